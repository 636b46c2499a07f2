import PyProof.Rows.All
import Wide.All
import OpenK.AllK
import Wide.FinOn
import PySem.Challenge.RW_modulewood_k23_groups_counted
import Lean
import PyProof.EqAt
import PyProof.EqKinds
import PyProof.TupleCall
import KE.KSortTup
import PyProof.Rows.SortWalk
import PyProof.WalkInts
import PyProof.Rows.CallKwBuiltin
import PyProof.Rows.SumAny
noncomputable section
set_option Elab.async false
set_option linter.all false
set_option maxRecDepth 100000
set_option maxHeartbeats 0
namespace L2
theorem ex5 {α β:Sort _}{p q r:α->β->Prop}{C:Prop} (h:∃ a b,p a b/\q a b/\r a b) (k:∀ a b,p a b->q a b->r a b->C):C:=h.elim fun a h=>h.elim fun b h=>k a b h.1 h.2.1 h.2.2
open PySem PySem.Spec PyProof.Rows
def TupN (h:Heap) (a:Addr) (items:Array Value):Prop := ∃ n,h.get? a=some { cls := .type "tuple",data := .seq items n }
theorem TupN.is {h:Heap}{a:Addr}{items:Array Value} (x:TupN h a items):IsTup h a items:=let ⟨n,e⟩:=x; ⟨_,e,rfl,n,rfl⟩
theorem TupN.new (h:Heap) (items:Array Value):TupN (h.push { cls := .type "tuple",data := .seq items }) h.objs.size items:=⟨_,Heap.get?_push_size _ rfl⟩
abbrev Key:=Sum Int Str
def keyIs:Key->Value->Bool
 | .inl k,v=>Value.isInt k v
 | .inr x,v=>Value.isStrOf x v
def keyH (w:World):Key->Int
 | .inl k=>hashInt k
 | .inr x=>hashStr w x
theorem keyIs_shape:∀ {k:Key}{v:Value},keyIs k v=true->(∃ i t,k=Sum.inl i/\v=Value.int i t) ∨ (∃ x t,k=Sum.inr x/\v=Value.str x t)
 | .inl i,v,h=>by
  obtain ⟨t,e⟩:=Value.isInt_shape (k:=i) (v:=v) h
  exact .inl ⟨i,t,rfl,e⟩
 | .inr x,v,h=>by
  obtain ⟨t,e⟩:=Value.isStrOf_shape (x:=x) (v:=v) h
  exact .inr ⟨x,t,rfl,e⟩
theorem keyIs_int (i:Int) (t:Tok):keyIs (.inl i) (.int i t)=true:=by simp [keyIs,Value.isInt]
theorem keyIs_str (x:Str) (t:Tok):keyIs (.inr x) (.str x t)=true:=by simp [keyIs,Value.isStrOf]
theorem key_ll (a b:Int):decide ((Sum.inl a:Key)=Sum.inl b)=(a == b):=by
 by_cases e:a=b
 ·subst e; simp
 ·have h:¬ (Sum.inl a:Key)=Sum.inl b:=fun q=>e (Sum.inl.inj q)
  rw [decide_eq_false h]
  exact (beq_eq_false_iff_ne.mpr e).symm
theorem key_rr (a b:Str):decide ((Sum.inr a:Key)=Sum.inr b)=decide (a=b):=by
 by_cases e:a=b
 ·subst e; simp
 ·have h:¬ (Sum.inr a:Key)=Sum.inr b:=fun q=>e (Sum.inr.inj q)
  rw [decide_eq_false h,decide_eq_false e]
theorem key_lr (a:Int) (b:Str):decide ((Sum.inl a:Key)=Sum.inr b)=false:=decide_eq_false (fun q=>nomatch q)
theorem key_rl (a:Str) (b:Int):decide ((Sum.inr a:Key)=Sum.inl b)=false:=decide_eq_false (fun q=>nomatch q)
def mixKind (prog:Program) (w:World):PySem.KeyKind prog w Key where
 is:=keyIs
 hash:=keyH w
 inj:=fun v a b ha hb=>by
  rcases keyIs_shape ha with ⟨i,t,rfl,rfl⟩ | ⟨x,t,rfl,rfl⟩
  ·rcases keyIs_shape hb with ⟨j,u,rfl,e⟩ | ⟨y,u,rfl,e⟩
   ·injection e with e1 _; rw [e1]
   ·exact nomatch e
  ·rcases keyIs_shape hb with ⟨j,u,rfl,e⟩ | ⟨y,u,rfl,e⟩
   ·exact nomatch e
   ·injection e with e1 _; rw [e1]
 byValue:=fun k v h=>by
  rcases keyIs_shape h with ⟨i,t,rfl,rfl⟩ | ⟨x,t,rfl,rfl⟩ <;> rfl
 pyHash:=fun hv h=>by
  rcases keyIs_shape hv with ⟨i,t,rfl,rfl⟩ | ⟨x,t,rfl,rfl⟩
  ·exact wpAny_pyHash_int h
  ·exact wpAny_pyHash_str h
 eqBool:=fun hu hv h=>by
  rcases keyIs_shape hu with ⟨i,t,rfl,rfl⟩ | ⟨x,t,rfl,rfl⟩
  ·rcases keyIs_shape hv with ⟨j,u,rfl,rfl⟩ | ⟨y,u,rfl,rfl⟩
   ·rw [key_ll] at h; exact wpAny_eqBool_int h
   ·rw [key_lr] at h; exact SeqAt.EqAt.int_str i t y u _ _ _ _ h
  ·rcases keyIs_shape hv with ⟨j,u,rfl,rfl⟩ | ⟨y,u,rfl,rfl⟩
   ·rw [key_rl] at h; exact SeqAt.EqAt.str_int x t j u _ _ _ _ h
   ·rw [key_rr] at h; exact wpAny_eqBool_str h
 «strs» := fun k x t v h=>by
  rcases keyIs_shape h with ⟨i,u,rfl,e⟩ | ⟨y,u,rfl,e⟩
  ·exact nomatch e
  ·injection e with e1 _
   subst e1
   cases v <;> rfl
theorem mixKind_int (prog:Program) (w:World) (i:Int) (t:Tok):(mixKind prog w).is (.inl i) (.int i t)=true:=keyIs_int i t
theorem mixKind_str (prog:Program) (w:World) (x:Str) (t:Tok):(mixKind prog w).is (.inr x) (.str x t)=true:=keyIs_str x t
inductive V where
 | non | bl (b:Bool) | int (i:Int) | str (x:Str) | byt (b:Array UInt8) | flt (b:UInt64) | ref (a:Addr) | ty (n:String)
 deriving DecidableEq
def RelV:V->Value->Prop
 | .non,u=>u=Value.none
 | .bl b,u=>u=Value.bool b
 | .int i,u=>∃ t,u=Value.int i t
 | .str x,u=>∃ t,u=Value.str x t
 | .byt b,u=>∃ t,u=Value.bytes b t
 | .flt b,u=>∃ t,u=Value.float b t
 | .ref a,u=>u=Value.ref a
 | .ty n,u=>u=Value.type n
abbrev Vals:List V->List Value->Prop:=Paired RelV
theorem Vals.length {xs:List V}{us:List Value} (r:Vals xs us):xs.length=us.length:=Paired.length r
theorem Vals.get:∀ {xs:List V}{us:List Value}{i:Nat}{x:V},Vals xs us->xs[i]?=some x->∃ u,us[i]?=some u/\RelV x u
 | _,_,_,_,.nil,e=>by simp at e
 | _,_,0,_,.cons r _,e=>by simp at e; subst e; exact ⟨_,rfl,r⟩
 | _,_,i + 1,x,.cons _ t,e=>by
  obtain ⟨u,h1,h2⟩:=Vals.get (i:=i) (x:=x) t (by simpa using e)
  exact ⟨u,by simpa using h1,h2⟩
theorem Vals.append:∀ {xs ys:List V}{us ws:List Value},Vals xs us->Vals ys ws->Vals (xs ++ ys) (us ++ ws)
 | _,_,_,_,.nil,s=>s
 | _,_,_,_,.cons r t,s=>.cons r (Vals.append t s)
theorem Vals.take:∀ {xs:List V}{us:List Value} (n:Nat),Vals xs us->Vals (xs.take n) (us.take n)
 | _,_,0,_=>.nil
 | _,_,_ + 1,.nil=>.nil
 | _,_,n + 1,.cons r t=>.cons r (Vals.take n t)
theorem Vals.drop:∀ {xs:List V}{us:List Value} (n:Nat),Vals xs us->Vals (xs.drop n) (us.drop n)
 | _,_,0,r=>r
 | _,_,_ + 1,.nil=>.nil
 | _,_,n + 1,.cons _ t=>Vals.drop n t
def RelO:Option V->Option Value->Prop
 | some v,some u=>RelV v u
 | none,none=>True
 | _,_=>False
def KV {κ:Type}:List (κ × V)->List (κ × Value)->Prop:=Paired fun (p:κ × V) (q:κ × Value)=>p.1=q.1/\RelV p.2 q.2
def kV:Key->V
 | .inl i=>.int i
 | .inr x=>.str x
inductive HO where
 | lst (xs:List V)
 | tup (xs:List V)
 | dK (kvs:List (Key × V)) | dT (kvs:List (List Key × V))
 | set (S:Int->Bool) (n:Nat)
 | ins (C dx:Addr) (fs:List (Str × V))
 | own (x:Addr)
 | xd (fs:List (Str × V))
 | met (f x:Addr)
 | rng (lo hi:Int)
 | frz (o:Obj) (u:HO)
 | tbl (ps:Array Value)
 | ext (φ:Heap->Prop)
abbrev Hp:=Addr->Option HO
def upd (H:Hp) (a:Addr) (o:HO):Hp:=fun b=>if b=a then some o else H b
theorem upd_same {H:Hp}{a:Addr}{o:HO}:upd H a o a=some o:=by unfold upd; rw [if_pos rfl]
theorem upd_ne {H:Hp}{a b:Addr}{o:HO} (h:b ≠ a):upd H a o b=H b:=by unfold upd; rw [if_neg h]
theorem ne_of {H:Hp}{a b:Addr}{o u:HO} (h:H a=some o) (h':H b=some u) (d:o ≠ u):a ≠ b:=by
 intro e; subst e; rw [h] at h'; exact d (Option.some.inj h')
theorem ne_of_none {H:Hp}{a b:Addr}{o:HO} (h:H a=some o) (h':H b=none):a ≠ b:=by
 intro e; subst e; rw [h] at h'; cases h'
section
variable (P:Program) (w:World)
def ObjOk (H:Hp) (h:Heap) (a:Addr):HO->Prop
 | .lst xs=>xs.length <= sizeLine/\∃ (its:List Value) (n:Nat),Vals xs its/\h.get? a=some { cls := .type "list",data := .seq its.toArray n }
 | .tup xs=>xs.length <= sizeLine/\∃ its:List Value,Vals xs its/\TupN h a its.toArray
 | .dK kvs=>kvs.length <= sizeLine/\(a == sysModules)=false/\∃ vs,KV kvs vs/\h.DictOf (mixKind P w) a vs
 | .dT kvs=>kvs.length <= sizeLine/\(a == sysModules)=false/\∃ xs:List (List Key × Addr × Value),
   Paired (fun (p:List Key × V) (q:List Key × Addr × Value)=>p.1=q.1/\H q.2.1=some (.tup (p.1.map kV))/\RelV p.2 q.2.2) kvs xs /\
   ∃ o es ep,h.get? a=some o/\o.ExactDict/\o.data=.dict es ep/\es.toList=xs.map (entryOfKey (tupleKind (mixKind P w)))/\(xs.map (·.1)).Nodup
 | .set S n=>h.SetOf (intKind P w) a S n
 | .ins C dx fs=>H dx=some (.own a)/\fs.length <= 1000/\dx ≠ a/\h.get? a=some (PySem.W.instObj C dx) /\
   ∃ mA,h.Ns1 dx mA/\(∀ f,RelO (fs.lookup f) (mA f))/\PySem.Within mA (fs.map (·.1))
 | .own _=>∃ o,h.get? a=some o
 | .xd fs=>∃ mA,h.Ns1 a mA/\∀ f,RelO (fs.lookup f) (mA f)
 | .rng lo hi=>∃ t u v,h.get? a=some { cls := .type "range",data := .fields #[.int lo t,.int hi u,.int 1 v] }
 | .frz o u=>h.get? a=some o/\ObjOk H h a u
 | .tbl ps=>h.get? a=some { cls := .none,data := .fields ps }
 | .met f x=>h.get? a=some (PySem.W.methodObj (.ref f) (.ref x))
 | .ext φ=>φ h/\(∃ o,h.get? a=some o)/\∀ h1 h2:Heap,φ h1->(∀ o,h1.get? a=some o->h2.get? a=some o)->φ h2
def HOk (H:Hp) (h:Heap):Prop := ∀ a o,H a=some o->ObjOk P w H h a o
end
section
variable {P:Program}{w:World}{H H':Hp}{h h':Heap}{a:Addr}{o:HO}
theorem ObjOk.lt (x:ObjOk P w H h a o):a < h.objs.size:=by
 cases o with
 | lst xs=>obtain ⟨_,_,_,_,e⟩:=x; exact Heap.lt_size e
 | tup xs=>obtain ⟨_,_,_,p⟩:=x; exact p.is.lt
 | dK kvs=>obtain ⟨_,_,_,_,o,_,_,e,_⟩:=x; exact Heap.lt_size e
 | dT kvs=>obtain ⟨_,_,_,_,o,_,_,e,_⟩:=x; exact Heap.lt_size e
 | set S n=>obtain ⟨o,_,_,_,e,_⟩:=x; exact Heap.lt_size e
 | ins C dx fs=>obtain ⟨_,_,_,e,_⟩:=x; exact Heap.lt_size e
 | own y=>obtain ⟨_,e⟩:=x; exact Heap.lt_size e
 | xd fs=>obtain ⟨_,⟨_,_,_,e,_⟩,_⟩:=x; exact Heap.lt_size e
 | rng lo hi=>obtain ⟨_,_,_,e⟩:=x; exact Heap.lt_size e
 | frz ob u=>obtain ⟨e,_⟩:=x; exact Heap.lt_size e
 | tbl ps=>exact Heap.lt_size (show h.get? a=some _ from x)
 | met f y=>exact Heap.lt_size (show h.get? a=some _ from x)
 | ext φ=>obtain ⟨_,⟨_,e⟩,_⟩:=x; exact Heap.lt_size e
theorem Paired.mapP {α β:Type}{F G:α->β->Prop}:∀ {l₁:List α}{l₂:List β},Paired F l₁ l₂->(∀ a b,F a b->G a b)->Paired G l₁ l₂
 | _,_,.nil,_=>.nil
 | _,_,.cons r t,f=>.cons (f _ _ r) (Paired.mapP t f)
theorem ObjOk.stay (x:ObjOk P w H h a o) (k:∀ b u,(b=a ∨ H b=some (.own a))->h.get? b=some u->h'.get? b=some u)
  (ho:∀ b,H b=some (.own a)->H' b=some (.own a)) (ht:∀ b xs,H b=some (.tup xs)->H' b=some (.tup xs)):ObjOk P w H' h' a o:=by
 induction o with
 | lst xs=>obtain ⟨z,its,n,r,e⟩:=x; exact ⟨z,its,n,r,k _ _ (.inl rfl) e⟩
 | tup xs=>obtain ⟨z,its,r,n,e⟩:=x; exact ⟨z,its,r,n,k _ _ (.inl rfl) e⟩
 | dK kvs=>obtain ⟨z,y,vs,r,ob,es,ep,e,c⟩:=x; exact ⟨z,y,vs,r,ob,es,ep,k _ _ (.inl rfl) e,c⟩
 | dT kvs =>
  obtain ⟨z,y,xs,r,ob,es,ep,e,c⟩:=x
  exact ⟨z,y,xs,Paired.mapP r fun p q z=>⟨z.1,ht _ _ z.2.1,z.2.2⟩,ob,es,ep,k _ _ (.inl rfl) e,c⟩
 | set S n=>obtain ⟨ob,es,ep,t,e,c⟩:=x; exact ⟨ob,es,ep,t,k _ _ (.inl rfl) e,c⟩
 | ins C dx fs =>
  obtain ⟨d,z,ne,e,mA,⟨od,es,ep,e2,c⟩,r⟩:=x
  exact ⟨ho _ d,z,ne,k _ _ (.inl rfl) e,mA,⟨od,es,ep,k _ _ (.inr d) e2,c⟩,r⟩
 | own y=>obtain ⟨ob,e⟩:=x; exact ⟨ob,k _ _ (.inl rfl) e⟩
 | xd fs=>obtain ⟨mA,⟨od,es,ep,e,c⟩,r⟩:=x; exact ⟨mA,⟨od,es,ep,k _ _ (.inl rfl) e,c⟩,r⟩
 | rng lo hi=>obtain ⟨t,u,v,e⟩:=x; exact ⟨t,u,v,k _ _ (.inl rfl) e⟩
 | frz ob u ih=>obtain ⟨e,q⟩:=x; exact ⟨k _ _ (.inl rfl) e,ih q⟩
 | tbl ps =>
  have e:h.get? a=some { cls := .none,data := .fields ps }:=x
  show h'.get? a=some { cls := .none,data := .fields ps }
  exact k a _ (.inl rfl) e
 | met f y =>
  have e:h.get? a=some (PySem.W.methodObj (.ref f) (.ref y)):=x
  show h'.get? a=some (PySem.W.methodObj (.ref f) (.ref y))
  exact k a _ (.inl rfl) e
 | ext φ=>obtain ⟨p,⟨o,e⟩,st⟩:=x; exact ⟨st _ _ p fun o q=>k _ _ (.inl rfl) q,⟨o,k _ _ (.inl rfl) e⟩,st⟩
theorem HOk.lt (x:HOk P w H h) (e:H a=some o):a < h.objs.size:=(x a o e).lt
theorem HOk.fresh (x:HOk P w H h) (e:h.objs.size <= a):H a=none:=by
 cases q:H a with
 | none=>rfl
 | some u=>exact absurd (Nat.lt_of_lt_of_le (x.lt q) e) (Nat.lt_irrefl _)
theorem HOk.kept (x:HOk P w H h) (k:∀ b u,h.get? b=some u->h'.get? b=some u):HOk P w H h' := fun a o e =>
 (x a o e).stay (fun b u _ q=>k b u q) (fun _ q=>q) fun _ _ q=>q
theorem HOk.laid (x:HOk P w H h) (k:∀ b u,h.get? b=some u->h'.get? b=some u) (hp:h.objs.size <= a) (new:ObjOk P w (upd H a o) h' a o):HOk P w (upd H a o) h' := fun b u e=>by
 have hn:=x.fresh hp
 by_cases hb:b=a
 ·subst hb; rw [upd_same] at e; cases e; exact new
 ·rw [upd_ne hb] at e
  exact (x b u e).stay (fun c v _ q=>k c v q) (fun c q=>by rw [upd_ne (ne_of_none q hn)]; exact q) fun c xs q=>by rw [upd_ne (ne_of_none q hn)]; exact q
end
def Rd (H:Hp) (a:Addr) (u:HO):Prop:=H a=some u ∨ ∃ o,H a=some (.frz o u)
theorem Rd.ok {P:Program}{w:World}{H:Hp}{h:Heap}{a:Addr}{u:HO} (r:Rd H a u) (x:HOk P w H h):ObjOk P w H h a u:=by
 rcases r with r | ⟨o,r⟩
 ·exact x a u r
 ·obtain ⟨_,q⟩:=x a _ r
  exact q
def Mut:Option HO->Prop
 | some (.lst _)=>True
 | some (.dK _)=>True
 | some (.dT _)=>True
 | some (.set _ _)=>True
 | some (.ins _ _ _)=>True
 | some (.ext _)=>True
 | _=>False
section
variable {P:Program}{w:World}{H:Hp}{h h':Heap}{x e:Addr}{o':HO}
theorem HOk.write (ok:HOk P w H h) (mu:Mut (H x)) (he:e=x ∨ H e=some (.own x)) (k:∀ b u,b ≠ e->h.get? b=some u->h'.get? b=some u) (heo:∃ u,h'.get? e=some u)
  (new:ObjOk P w (upd H x o') h' x o'):HOk P w (upd H x o') h' := fun b u q=>by
 have nown:∀ c y,H c=some (.own y)->c ≠ x:=fun c y r z=>by subst z; rw [r] at mu; exact mu
 have ntup:∀ c xs,H c=some (.tup xs)->c ≠ x:=fun c xs r z=>by subst z; rw [r] at mu; exact mu
 by_cases hb:b=x
 ·subst hb; rw [upd_same] at q; cases q; exact new
 ·rw [upd_ne hb] at q
  by_cases hbe:b=e
  ·have q':H b=some (.own x):=by
    rcases he with z | z
    ·exact absurd (hbe.trans z) hb
    ·rw [hbe]; exact z
   rw [q] at q'; cases q'
   obtain ⟨v,hv⟩:=heo
   exact ⟨v,by rw [hbe]; exact hv⟩
  ·refine (ok b u q).stay (fun c v hc r=>k c v ?_ r) (fun c r=>by rw [upd_ne (nown c b r)]; exact r) fun c xs r=>by rw [upd_ne (ntup c xs r)]; exact r
   rcases hc with rfl | hc
   ·exact hbe
   ·rintro rfl
    rcases he with z | z
    ·exact nown c b hc z
    ·rw [hc] at z; cases z; exact hb rfl
end
structure Un (fs ex:List Addr) (H H':Hp) (h h':Heap):Prop where
 keep:∀ b o,h.get? b=some o->H b=none->b ∉ fs->b ∉ ex->h'.get? b=some o
 slot:∀ b o,h.get? b=some o->H b=none->b ∈ fs->b ∉ ex->∃ sl,h'.get? b=some { o with slots:=sl }
 free:∀ b o,h.get? b=some o->H b=none->b ∉ ex->H' b=none
 there:∀ b o,h.get? b=some o->b ∉ ex->∃ o',h'.get? b=some o'
 tups:∀ b xs,H b=some (.tup xs)->H' b=some (.tup xs)
 frzs:∀ b o u,H b=some (.frz o u)->H' b=some (.frz o u)
 tbls:∀ b ps,H b=some (.tbl ps)->∃ more,H' b=some (.tbl (ps ++ more))
section
variable {fs fs' ex ex':List Addr}{H H1 H2:Hp}{h h1 h2 h':Heap}{a x e:Addr}{o:HO}
theorem Un.any (u:Un fs ex H H1 h h1) {b:Addr}{ob:Obj} (q:h.get? b=some ob) (n:H b=none) (hx:b ∉ ex):∃ sl,h1.get? b=some { ob with slots:=sl }:=by
 by_cases hb:b ∈ fs
 ·exact u.slot b ob q n hb hx
 ·exact ⟨ob.slots,u.keep b ob q n hb hx⟩
theorem Un.kept (k:∀ b u,h.get? b=some u->h'.get? b=some u):Un fs ex H H h h' :=
 ⟨fun b ob q _ _ _=>k b ob q,fun b ob q _ _ _=>⟨ob.slots,k b ob q⟩,fun _ _ _ n _=>n,fun b ob q _=>⟨ob,k b ob q⟩,fun _ _ q=>q,fun _ _ _ q=>q,fun _ ps q=>⟨#[],by rw [q]; simp⟩⟩
theorem Un.refl:Un fs ex H H h h:=Un.kept fun _ _ q=>q
theorem Un.laid (k:∀ b u,h.get? b=some u->h'.get? b=some u) (hp:h.objs.size <= a) (hn:H a=none):Un fs ex H (upd H a o) h h' where
 keep:=fun b u q _ _ _=>k b u q
 slot:=fun b u q _ _ _=>⟨u.slots,k b u q⟩
 free:=fun b u q n _=>by rw [upd_ne (Nat.ne_of_lt (Nat.lt_of_lt_of_le (Heap.lt_size q) hp))]; exact n
 there:=fun b u q _=>⟨u,k b u q⟩
 tups:=fun b xs q=>by rw [upd_ne (ne_of_none q hn)]; exact q
 frzs:=fun b u xs q=>by rw [upd_ne (ne_of_none q hn)]; exact q
 tbls:=fun b ps q=>⟨#[],by rw [upd_ne (ne_of_none q hn),q]; simp⟩
theorem Un.write (mu:Mut (H x)) (he:e=x ∨ H e=some (.own x)) (k:∀ b u,b ≠ e->h.get? b=some u->h'.get? b=some u) (heo:∃ u,h'.get? e=some u):Un fs ex H (upd H x o) h h' := by
 have hx:∀ b,H b=none->b ≠ x:=fun b n z=>by subst z; rw [n] at mu; exact mu
 have hb:∀ b,H b=none->b ≠ e:=fun b n z=>by
  subst z
  rcases he with r | r
  ·exact hx b n r
  ·rw [n] at r; cases r
 have hm:∀ b u,H b=some u->¬ Mut (some u)->b ≠ x:=fun b u q nm z=>by subst z; rw [q] at mu; exact nm mu
 refine ⟨fun b u q n _ _=>k b u (hb b n) q,fun b u q n _ _=>⟨u.slots,k b u (hb b n) q⟩,fun b u q n _=>by rw [upd_ne (hx b n)]; exact n,fun b u q _=>?_,
  fun b xs q=>by rw [upd_ne (hm b _ q fun z=>z)]; exact q,fun b u xs q=>by rw [upd_ne (hm b _ q fun z=>z)]; exact q,fun b ps q=>⟨#[],by rw [upd_ne (hm b _ q fun z=>z),q]; simp⟩⟩
 by_cases hbe:b=e
 ·subst hbe; exact heo
 ·exact ⟨u,k b u hbe q⟩
end
def trk (h:Heap) (H:Hp):List Addr:=(List.range h.objs.size).filter fun a=>(H a).isSome
def hidT (h:Heap) (H:Hp):Heap:=PySem.W.hideAll h (trk h H)
theorem hidT_size (h:Heap) (H:Hp):(hidT h H).objs.size=h.objs.size:=PySem.W.hideAll_size _ _
theorem hidT_get {h:Heap}{H:Hp}{b:Addr}{o:Obj} (e:h.get? b=some o) (n:H b=none):(hidT h H).get? b=some o :=
 PySem.W.hideAll_get _ e fun hm=>by
  have q:(H b).isSome=true:=(List.mem_filter.mp hm).2
  rw [n] at q; simp at q
theorem of_hidT {h:Heap}{H:Hp}{b:Addr}{o:Obj} (e:(hidT h H).get? b=some o):h.get? b=some o/\H b=none:=by
 have e':h.get? b=some o:=PySem.W.of_hideAll (trk h H) e
 refine ⟨e',?_⟩
 cases q:H b with
 | none=>rfl
 | some x =>
  have hm:b ∈ trk h H:=List.mem_filter.mpr ⟨List.mem_range.mpr (Heap.lt_size e'),by simp [q]⟩
  have z:(hidT h H).get? b=none:=PySem.W.hideAll_none (trk h H) hm
  rw [z] at e; cases e
structure Mod (K:PySem.W.Frag) (mg:Str->Option Value) (base:Heap):Prop where
 kin:K.In base
 glob:base.Ns mainGlobals mg
 blt:∃ mb,base.Ns builtinsNs mb/\∀ x:Str,x ≠ "__name__" -> mb x=bootBuiltins x
 nolimit:base.NoLimit
structure Cx where
 prog:Program
 w:World
 K:PySem.W.Frag
 mg:Str->Option Value
 base:Heap
 A:Around
 N:List Str
 s₀:Shared
 H₀:Hp
 env:Env
 outer:List Env
 stack:List Env
 ex:List Addr
 fn:Str->Bool
 calm:Bool
 pn:List (Addr × Obj)
 xe:Value->Shared->Prop
def frs (l:List Env):List Addr:=l.filterMap (·.frame)
abbrev Cx.fs (X:Cx):List Addr:=frs X.outer
def Vis (sc:Scope) (x:Str):Prop:=sc.names.lookup x=some .local ∨ sc.names.lookup x=some .cell ∨ sc.names.lookup x=some .free
def Loc (sc:Scope) (x:Str):Prop:=sc.names.lookup x=some .local ∨ sc.names.lookup x=some .cell
def Look (env:Env) (h:Heap) (m:Str->Option Value) (x:Str) (u:Value):Prop :=
 (env.kindOf x=some .local/\m x=some u) ∨ ((env.kindOf x=some .cell ∨ env.kindOf x=some .free)/\∃ c,env.cells.lookup x=some c/\h.IsCell c (some u))
structure Cx.Ok (X:Cx):Prop where
 mod:Mod X.K X.mg X.base
 kind:X.env.scope.kind=.function
 glob:X.env.globals=mainGlobals
 blt:X.env.builtins=builtinsNs
 above:X.s₀.heap.objs.size <= X.env.locals
 inj:∀ x y c,X.env.cells.lookup x=some c->X.env.cells.lookup y=some c->x=y
 has:∀ x,(X.env.kindOf x=some .cell ∨ X.env.kindOf x=some .free)->∃ c,X.env.cells.lookup x=some c
 cab:∀ x c,X.fn x=true->X.env.cells.lookup x=some c->X.s₀.heap.objs.size <= c
 hd:X.calm=true->X.A.handled=none
 frames:X.A.frames=some X.stack
 stk:X.stack=X.outer ∨ (X.stack=X.env :: X.outer/\X.env.frame=some X.env.locals)
 exf:∀ b ∈ X.ex,b ≠ X.env.locals/\∀ x c,X.env.cells.lookup x=some c->c ≠ b
 bs:∀ b o,X.base.get? b=some o->X.s₀.heap.get? b=some o/\X.H₀ b=none
 bsz:X.base.objs.size <= X.s₀.heap.objs.size
 noex:∀ b o,X.base.get? b=some o->b ∉ X.ex
 exfs:∀ b ∈ X.ex,b ∉ X.fs
 funs:X.s₀.heap.FunFrames X.base X.outer
 frf:∀ b ∈ X.fs,X.H₀ b=none
structure Inv (X:Cx) (pins:List (Addr × Obj)) (σ:List (Option V)) (H:Hp) (s:Shared):Prop where
 ok:X.Ok
 os:s.os=X.s₀.os
 bare:AllBare s.gens
 base:Un X.fs X.ex X.H₀ H X.s₀.heap s.heap
 loc:∃ m,s.heap.Ns X.env.locals m/\∀ (i:Nat) (x:Str) (v:V),X.N[i]?=some x->σ[i]?=some (some v)->Vis X.env.scope x->∃ u,RelV v u/\Look X.env s.heap m x u
 cell:∀ x c,X.env.cells.lookup x=some c->∃ v,s.heap.IsCell c v
 free:H X.env.locals=none
 freeC:∀ x c,X.env.cells.lookup x=some c->H c=none
 pin:∀ p ∈ X.pn ++ pins,s.heap.get? p.1=some p.2/\H p.1=none/\p.1 ≠ X.env.locals/\p.1 ∉ X.fs/\∀ v,p.2.data ≠ .cell v
 hok:HOk X.prog X.w H s.heap
 len:σ.length=X.N.length
section
variable {X:Cx}{pins:List (Addr × Obj)}{σ:List (Option V)}{H H':Hp}{s:Shared}{h':Heap}
theorem Cx.Ok.nofr (ok:X.Ok) {b:Addr}{o:Obj} (e:X.base.get? b=some o):b ∉ X.fs:=fun hb=>by
 have:=(ok.funs.mem hb).1
 rw [e] at this; cases this
theorem Inv.bs (I:Inv X pins σ H s):∀ b o,X.base.get? b=some o->s.heap.get? b=some o/\H b=none:=fun b o e =>
 ⟨I.base.keep b o (I.ok.bs b o e).1 (I.ok.bs b o e).2 (I.ok.nofr e) (I.ok.noex b o e),I.base.free b o (I.ok.bs b o e).1 (I.ok.bs b o e).2 (I.ok.noex b o e)⟩
theorem Inv.bk (I:Inv X pins σ H s):∀ b o,X.base.get? b=some o->s.heap.get? b=some o:=fun b o e=>(I.bs b o e).1
theorem Inv.mod (I:Inv X pins σ H s):Mod X.K X.mg X.base:=I.ok.mod
theorem Inv.kIn (I:Inv X pins σ H s):X.K.In s.heap:=I.ok.mod.kin.keeps I.bk
theorem Inv.lt (I:Inv X pins σ H s):X.env.locals < s.heap.objs.size:=let ⟨_,hn,_⟩:=I.loc; hn.lt
theorem Inv.sz (I:Inv X pins σ H s):X.s₀.heap.objs.size <= s.heap.objs.size:=Nat.le_trans I.ok.above (Nat.le_of_lt I.lt)
theorem Inv.nofs (I:Inv X pins σ H s) {a:Addr} (h:s.heap.objs.size <= a):a ∉ X.fs:=fun hb=>by
 obtain ⟨_,o,ho,_⟩:=I.ok.funs.mem hb
 exact absurd (Nat.lt_of_lt_of_le (Heap.lt_size ho) (Nat.le_trans I.sz h)) (Nat.lt_irrefl _)
theorem Inv.cne (I:Inv X pins σ H s):∀ x c,X.env.cells.lookup x=some c->c ≠ X.env.locals:=fun x c e z=>by
 obtain ⟨v,o,ho,hd⟩:=I.cell x c e
 obtain ⟨m,⟨o',es,ep,ho',hd',_⟩,_⟩:=I.loc
 rw [z,ho'] at ho; cases ho; rw [hd'] at hd; cases hd
theorem Inv.funs (I:Inv X pins σ H s):s.heap.FunFrames X.base X.outer:=by
 have all:∀ (l:List Env),(∀ b ∈ frs l,b ∈ X.fs)->X.s₀.heap.FunFrames X.base l->s.heap.FunFrames X.base l:=by
  intro l
  induction l with
  | nil=>intro _ _; trivial
  | cons env r ih =>
   intro hs hl
   obtain ⟨hk,⟨L,o,hf,hn,ho,hd⟩,hr⟩:=hl
   have hL:L ∈ X.fs:=hs L (by unfold frs; rw [List.filterMap_cons,hf]; exact List.mem_cons_self)
   obtain ⟨sl,e⟩:=I.base.slot L o ho (I.ok.frf L hL) hL fun z=>I.ok.exfs L z hL
   exact ⟨hk,⟨L,_,hf,hn,e,hd⟩,ih (fun b hb=>hs b (by unfold frs; rw [List.filterMap_cons,hf]; exact List.mem_cons_of_mem _ hb)) hr⟩
 exact all X.outer (fun _ hb=>hb) I.ok.funs
theorem Inv.stack (I:Inv X pins σ H s):s.heap.FunFrames X.base X.stack:=by
 rcases I.ok.stk with e | ⟨e,hf⟩
 ·rw [e]; exact I.funs
 ·rw [e]
  obtain ⟨m,hn,_⟩:=I.loc
  refine .cons (by rw [I.ok.kind]; decide) hf hn ?_ I.funs
  exact Heap.get?_none_of_le (Nat.le_trans I.ok.bsz I.ok.above)
theorem Inv.stkSub (I:Inv X pins σ H s):∀ b ∈ frs X.stack,b ∈ X.env.locals :: X.fs:=fun b hb=>by
 rcases I.ok.stk with e | ⟨e,hf⟩
 ·rw [e] at hb; exact List.mem_cons_of_mem _ hb
 ·rw [e] at hb
  unfold frs at hb
  rw [List.filterMap_cons,hf] at hb
  exact hb
theorem Inv.stkFree (I:Inv X pins σ H s):∀ b ∈ frs X.stack,H b=none:=fun b hb=>by
 rcases List.mem_cons.mp (I.stkSub b hb) with e | hb
 ·rw [e]; exact I.free
 ·obtain ⟨_,o,ho,_⟩:=I.ok.funs.mem hb
  exact I.base.free b o ho (I.ok.frf b hb) fun z=>I.ok.exfs b z hb
theorem Inv.step {g':Array GenState}{t':Nat}{d':Drawn}{ch:List Addr} (I:Inv X pins σ H s)
  (hch:∀ b ∈ ch,(b ∈ X.ex ∨ X.s₀.heap.objs.size <= b)/\b ≠ X.env.locals/\(∀ x c,X.env.cells.lookup x=some c->c ≠ b)/\∀ p ∈ X.pn ++ pins,p.1 ≠ b)
  (keep:∀ b o,b ≠ X.env.locals->b ∉ X.fs->b ∉ ch->s.heap.get? b=some o->H b=none->h'.get? b=some o)
  (slot:∀ b o,b ≠ X.env.locals->b ∈ X.fs->b ∉ ch->s.heap.get? b=some o->H b=none->∃ sl,h'.get? b=some { o with slots:=sl }) (free:∀ b o,b ∉ ch->s.heap.get? b=some o->H b=none->H' b=none)
  (there:∀ b o,b ∉ ch->s.heap.get? b=some o->∃ o',h'.get? b=some o')
  (tups:∀ b xs,H b=some (.tup xs)->H' b=some (.tup xs)) (frzs:∀ b o u,H b=some (.frz o u)->H' b=some (.frz o u)) (tbls:∀ b ps,H b=some (.tbl ps)->∃ more,H' b=some (.tbl (ps ++ more)))
  (ns:∀ m,s.heap.Ns X.env.locals m->h'.Ns X.env.locals m) (hok:HOk X.prog X.w H' h') (hg:AllBare g') :
  Inv X pins σ H' { s with heap:=h',gens:=g',drawn:=d',toks:=t' }:=by
 have neL:∀ b o,X.s₀.heap.get? b=some o->b ≠ X.env.locals:=fun b o e=>Nat.ne_of_lt (Nat.lt_of_lt_of_le (Heap.lt_size e) I.ok.above)
 have neC:∀ b o,X.s₀.heap.get? b=some o->b ∉ X.ex->b ∉ ch:=fun b o e hx hb=>by
  rcases (hch b hb).1 with z | z
  ·exact hx z
  ·exact absurd (Nat.lt_of_lt_of_le (Heap.lt_size e) z) (Nat.lt_irrefl _)
 have cellK:∀ x c,X.env.cells.lookup x=some c->∀ v,s.heap.IsCell c v->h'.IsCell c v:=fun x c e v ⟨o,ho,hd⟩=>by
  have nch:c ∉ ch:=fun z=>(hch c z).2.2.1 x c e rfl
  by_cases hc:c ∈ X.fs
  ·obtain ⟨sl,q⟩:=slot c o (I.cne x c e) hc nch ho (I.freeC x c e)
   exact ⟨_,q,hd⟩
  ·exact ⟨o,keep c o (I.cne x c e) hc nch ho (I.freeC x c e),hd⟩
 refine ⟨I.ok,I.os,hg,⟨fun b o e n hb hx=>?_,fun b o e n hb hx=>?_,fun b o e n hx=>?_,fun b o e hx=>?_,fun b xs e=>tups b xs (I.base.tups b xs e),fun b o xs e=>frzs b o xs (I.base.frzs b o xs e),fun b ps e=>?_⟩,?_,fun x c e=>?_,?_,fun x c e=>?_,fun p hp=>?_,hok,I.len⟩
 ·exact keep b o (neL b o e) hb (neC b o e hx) (I.base.keep b o e n hb hx) (I.base.free b o e n hx)
 ·obtain ⟨sl,e1⟩:=I.base.slot b o e n hb hx
  obtain ⟨sl',e2⟩:=slot b _ (neL b o e) hb (neC b o e hx) e1 (I.base.free b o e n hx)
  exact ⟨sl',e2⟩
 ·obtain ⟨o',e1⟩:=I.base.there b o e hx
  exact free b o' (neC b o e hx) e1 (I.base.free b o e n hx)
 ·obtain ⟨o',e1⟩:=I.base.there b o e hx
  exact there b o' (neC b o e hx) e1
 ·obtain ⟨m1,e1⟩:=I.base.tbls b ps e
  obtain ⟨m2,e2⟩:=tbls b _ e1
  exact ⟨m1 ++ m2,by rw [e2,Array.append_assoc]⟩
 ·obtain ⟨m,hn,hl⟩:=I.loc
  refine ⟨m,ns m hn,fun i x v e1 e2 e3=>?_⟩
  obtain ⟨u,r,l⟩:=hl i x v e1 e2 e3
  refine ⟨u,r,?_⟩
  rcases l with l | ⟨k,c,e,z⟩
  ·exact .inl l
  ·exact .inr ⟨k,c,e,cellK x c e _ z⟩
 ·obtain ⟨v,z⟩:=I.cell x c e
  exact ⟨v,cellK x c e v z⟩
 ·obtain ⟨m,⟨o,_,_,ho,_⟩,_⟩:=I.loc
  exact free _ o (fun z=>(hch _ z).2.1 rfl) ho I.free
 ·obtain ⟨v,o,ho,hd⟩:=I.cell x c e
  exact free c o (fun z=>(hch c z).2.2.1 x c e rfl) ho (I.freeC x c e)
 ·obtain ⟨e,n,ne,nf,d⟩:=I.pin p hp
  have nch:p.1 ∉ ch:=fun z=>(hch p.1 z).2.2.2 p hp rfl
  exact ⟨keep p.1 p.2 ne nf nch e n,free p.1 p.2 nch e n,ne,nf,d⟩
theorem Inv.un {t':Nat} (I:Inv X pins σ H s) (u:Un X.fs [] H H' s.heap h') (hok:HOk X.prog X.w H' h'):Inv X pins σ H' { s with heap:=h',toks:=t' }:=by
 obtain ⟨m,⟨o,es,ep,ho,r⟩,_⟩:=id I.loc
 obtain ⟨sl,hL⟩:=u.any ho I.free (by simp)
 exact I.step (g' := s.gens) (d' := s.drawn) (ch := []) (fun _ z=>nomatch z) (fun b o _ hb _ e n=>u.keep b o e n hb (by simp)) (fun b o _ hb _ e n=>u.slot b o e n hb (by simp)) (fun b o _ e n=>u.free b o e n (by simp)) (fun b o _ e=>u.there b o e (by simp)) u.tups u.frzs u.tbls (fun m' hm=>by
  obtain ⟨o',es',ep',ho',r'⟩:=hm
  rw [ho] at ho'; cases ho'
  exact ⟨_,es',ep',hL,r'⟩) hok I.bare
theorem Inv.call {g':Array GenState}{t':Nat}{d':Drawn}{ch:List Addr} (I:Inv X pins σ H s) (u:Un (frs X.stack) ch H H' s.heap h') (hok:HOk X.prog X.w H' h') (hg:AllBare g')
  (hch:∀ b ∈ ch,(b ∈ X.ex ∨ X.s₀.heap.objs.size <= b)/\b ≠ X.env.locals/\(∀ x c,X.env.cells.lookup x=some c->c ≠ b)/\∀ p ∈ X.pn ++ pins,p.1 ≠ b) :
  Inv X pins σ H' { s with heap:=h',gens:=g',drawn:=d',toks:=t' }:=by
 obtain ⟨m,⟨o,es,ep,ho,r⟩,_⟩:=id I.loc
 obtain ⟨sl,hL⟩:=u.any ho I.free fun z=>(hch _ z).2.1 rfl
 exact I.step (ch:=ch) hch (fun b o hL hb hc e n=>u.keep b o e n (fun z=>(List.mem_cons.mp (I.stkSub b z)).elim hL hb) hc) (fun b o _ _ hc e n=>u.any e n hc) (fun b o hc e n=>u.free b o e n hc) (fun b o hc e=>u.there b o e hc) u.tups u.frzs u.tbls (fun m' hm=>by
  obtain ⟨o',es',ep',ho',r'⟩:=hm
  rw [ho] at ho'; cases ho'
  exact ⟨_,es',ep',hL,r'⟩) hok hg
theorem Inv.turned {t':Nat}{it:Addr} (I:Inv X pins σ H s) (k:∀ b o,b ≠ it->s.heap.get? b=some o->h'.get? b=some o) (hn:H it=none) (hL:it ≠ X.env.locals)
  (h1:it ∈ X.ex ∨ X.s₀.heap.objs.size <= it) (h2:∀ x c,X.env.cells.lookup x=some c->c ≠ it) (h3:∀ p ∈ X.pn ++ pins,p.1 ≠ it):Inv X pins σ H { s with heap:=h',toks:=t' }:=by
 have nit:∀ b u,H b=some u->b ≠ it:=fun b u e z=>by rw [z,hn] at e; cases e
 refine I.step (g' := s.gens) (d' := s.drawn) (ch := [it]) (fun b hb=>?_) (fun b o _ _ hc e _=>k b o (fun z=>hc (by simp [z])) e) (fun b o _ _ hc e _=>⟨o.slots,k b o (fun z=>hc (by simp [z])) e⟩) (fun _ _ _ _ n=>n)
  (fun b o hc e=>⟨o,k b o (fun z=>hc (by simp [z])) e⟩) (fun _ _ e=>e) (fun _ _ _ e=>e) (fun b ps e=>⟨#[],by rw [e]; simp⟩) (fun m hm=>?_) (fun b u e=>?_) I.bare
 ·have e:b=it:=by simpa using hb
  subst e
  exact ⟨h1,hL,h2,h3⟩
 ·obtain ⟨o,es,ep,ho,r⟩:=hm
  exact ⟨o,es,ep,k _ o (Ne.symm hL) ho,r⟩
 ·refine (I.hok b u e).stay (fun c v hc q=>k c v ?_ q) (fun _ q=>q) fun _ _ q=>q
  rcases hc with z | z
  ·rw [z]; exact nit b u e
  ·exact nit c _ z
theorem Inv.tok (I:Inv X pins σ H s) (t:Nat):Inv X pins σ H { s with toks:=t }:=I.un (h' := s.heap) (t' := t) Un.refl I.hok
theorem Inv.kept {t':Nat} (I:Inv X pins σ H s) (k:∀ b u,s.heap.get? b=some u->h'.get? b=some u):Inv X pins σ H { s with heap:=h',toks:=t' }:=I.un (Un.kept k) (I.hok.kept k)
theorem Inv.laid {a:Addr}{o:HO}{t':Nat} (I:Inv X pins σ H s) (k:∀ b u,s.heap.get? b=some u->h'.get? b=some u) (hp:s.heap.objs.size <= a) (new:ObjOk X.prog X.w (upd H a o) h' a o) :
  Inv X pins σ (upd H a o) { s with heap:=h',toks:=t' }:=I.un (Un.laid k hp (I.hok.fresh hp)) (I.hok.laid k hp new)
theorem Inv.write {x e:Addr}{o:HO}{t':Nat} (I:Inv X pins σ H s) (mu:Mut (H x)) (he:e=x ∨ H e=some (.own x)) (k:∀ b u,b ≠ e->s.heap.get? b=some u->h'.get? b=some u) (heo:∃ u,h'.get? e=some u)
  (new:ObjOk X.prog X.w (upd H x o) h' x o):Inv X pins σ (upd H x o) { s with heap:=h',toks:=t' }:=I.un (Un.write mu he k heo) (I.hok.write mu he k heo new)
theorem Inv.pins_of {pins':List (Addr × Obj)} (I:Inv X pins σ H s) (h:∀ p ∈ pins',s.heap.get? p.1=some p.2/\H p.1=none/\p.1 ≠ X.env.locals/\p.1 ∉ X.fs/\∀ v,p.2.data ≠ .cell v):Inv X pins' σ H s :=
 ⟨I.ok,I.os,I.bare,I.base,I.loc,I.cell,I.free,I.freeC,fun p hp=>(List.mem_append.mp hp).elim (fun z=>I.pin p (List.mem_append_left _ z)) (h p),I.hok,I.len⟩
theorem nodup_ix {N:List Str} (hN:N.Nodup) {i j:Nat}{x:Str} (a:N[i]?=some x) (b:N[j]?=some x):i=j:=by
 obtain ⟨h1,e1⟩:=List.getElem?_eq_some_iff.mp a
 obtain ⟨h2,e2⟩:=List.getElem?_eq_some_iff.mp b
 exact (List.getElem_inj hN).mp (e1.trans e2.symm)
theorem store_ok2 {M:Model}{A:Around}{E:Value->Shared->Prop}{i:Nat}{x:Str}{v:V}{u:Value}{Q:Unit->Shared->Prop} (I:Inv X pins σ H s) (hN:X.N.Nodup) (hi:X.N[i]?=some x) (hx:Loc X.env.scope x) (r:RelV v u)
  (h:∀ s',Inv X pins (σ.set i (some v)) H s'->(∃ a,Heap.SameBut a s.heap s'.heap/\(a=X.env.locals ∨ X.env.cells.lookup x=some a))->Q () s') (hf:X.fn x=true ∨ X.env.scope.names.lookup x=some .local:=by first | exact .inl rfl | exact .inr rfl | assumption):wpAny M A (storeName X.env x u) Q E s:=by
 obtain ⟨m,hn,hl⟩:=id I.loc
 have hcls:(X.env.scope.kind == .class || (X.env.scope.kind == .module && X.env.locals != X.env.globals))=false:=by rw [I.ok.kind]; rfl
 have hiσ:i < σ.length:=by rw [I.len]; exact (List.getElem?_eq_some_iff.mp hi).1
 have cne:=I.cne
 have tracked:∀ {a:Addr}{h':Heap},(∃ o,s.heap.get? a=some o/\H a=none)->Heap.SameBut a s.heap h'->HOk X.prog X.w H h' := fun {a h'} ha hs b ob e=>by
  obtain ⟨_,_,hfree⟩:=ha
  refine (I.hok b ob e).stay (fun c w' hc q=>(hs.2 c ?_).trans q) (fun _ q=>q) fun _ _ q=>q
  rintro rfl
  rcases hc with rfl | hc
  ·rw [hfree] at e; cases e
  ·rw [hfree] at hc; cases hc
 rcases hx with hk | hk
 ·refine wpAny_storeName_local hk hn (fun h' hn' hs=>?_) hcls
  obtain ⟨oL,_,_,hoL,_⟩:=id hn
  refine h _ ⟨I.ok,I.os,I.bare,⟨fun b o e n hb hx=>?_,fun b o e n hb hx=>?_,I.base.free,fun b o e hx=>?_,I.base.tups,I.base.frzs,I.base.tbls⟩,⟨_,hn',fun j y v' e1 e2 e3=>?_⟩,fun y c e=>?_,I.free,I.freeC,fun p hp=>?_,tracked ⟨oL,hoL,I.free⟩ hs,by simpa using I.len⟩ ⟨_,hs,.inl rfl⟩
  ·exact (hs.2 b (Nat.ne_of_lt (Nat.lt_of_lt_of_le (Heap.lt_size e) I.ok.above))).trans (I.base.keep b o e n hb hx)
  ·obtain ⟨sl,e1⟩:=I.base.slot b o e n hb hx
   exact ⟨sl,(hs.2 b (Nat.ne_of_lt (Nat.lt_of_lt_of_le (Heap.lt_size e) I.ok.above))).trans e1⟩
  ·obtain ⟨o',e1⟩:=I.base.there b o e hx
   exact ⟨o',(hs.2 b (Nat.ne_of_lt (Nat.lt_of_lt_of_le (Heap.lt_size e) I.ok.above))).trans e1⟩
  ·by_cases hj:j=i
   ·subst hj
    rw [hi] at e1; cases e1
    rw [List.getElem?_set_self hiσ] at e2
    cases e2
    exact ⟨u,r,.inl ⟨hk,by simp⟩⟩
   ·rw [List.getElem?_set_ne (Ne.symm hj)] at e2
    obtain ⟨u',r',q⟩:=hl j y v' e1 e2 e3
    refine ⟨u',r',?_⟩
    rcases q with ⟨k,e⟩ | ⟨k,c,e,z⟩
    ·refine .inl ⟨k,?_⟩
     have:y ≠ x:=fun e=>hj (nodup_ix hN e1 (e ▸ hi))
     simp [this,e]
    ·exact .inr ⟨k,c,e,z.sameBut hs (cne y c e)⟩
  ·obtain ⟨w',z⟩:=I.cell y c e
   exact ⟨w',z.sameBut hs (cne y c e)⟩
  ·obtain ⟨e,n,ne,nf,d⟩:=I.pin p hp
   exact ⟨(hs.2 p.1 ne).trans e,n,ne,nf,d⟩
 ·have hfn:X.fn x=true:=by
   rcases hf with z | z
   ·exact z
   ·rw [z] at hk; cases hk
  obtain ⟨c,hc⟩:=I.ok.has x (.inl hk)
  obtain ⟨w',z⟩:=I.cell x c hc
  refine wpAny_storeName_cell I.ok.kind hk hc z (fun h' hc' hs=>?_)
  obtain ⟨oc,hoc,hocd⟩:=id z
  refine h { s with heap:=h' } ⟨I.ok,I.os,I.bare,⟨fun b o e n hb hx=>?_,fun b o e n hb hx=>?_,I.base.free,fun b o e hx=>?_,I.base.tups,I.base.frzs,I.base.tbls⟩,⟨m,hn.sameBut hs (Ne.symm (cne x c hc)),fun j y v' e1 e2 e3=>?_⟩,fun y c' e=>?_,I.free,I.freeC,fun p hp=>?_,tracked ⟨oc,hoc,I.freeC x c hc⟩ hs,by simpa using I.len⟩ ⟨c,hs,.inr hc⟩
  ·exact (hs.2 b (Nat.ne_of_lt (Nat.lt_of_lt_of_le (Heap.lt_size e) (I.ok.cab x c hfn hc)))).trans (I.base.keep b o e n hb hx)
  ·obtain ⟨sl,e1⟩:=I.base.slot b o e n hb hx
   exact ⟨sl,(hs.2 b (Nat.ne_of_lt (Nat.lt_of_lt_of_le (Heap.lt_size e) (I.ok.cab x c hfn hc)))).trans e1⟩
  ·obtain ⟨o',e1⟩:=I.base.there b o e hx
   exact ⟨o',(hs.2 b (Nat.ne_of_lt (Nat.lt_of_lt_of_le (Heap.lt_size e) (I.ok.cab x c hfn hc)))).trans e1⟩
  ·by_cases hj:j=i
   ·subst hj
    rw [hi] at e1; cases e1
    rw [List.getElem?_set_self hiσ] at e2
    cases e2
    exact ⟨u,r,.inr ⟨.inl hk,c,hc,hc'⟩⟩
   ·rw [List.getElem?_set_ne (Ne.symm hj)] at e2
    obtain ⟨u',r',q⟩:=hl j y v' e1 e2 e3
    refine ⟨u',r',?_⟩
    rcases q with q | ⟨k,c',e,z'⟩
    ·exact .inl q
    ·refine .inr ⟨k,c',e,z'.sameBut hs ?_⟩
     rintro rfl
     exact hj (nodup_ix hN e1 (I.ok.inj _ _ _ e hc ▸ hi))
  ·by_cases hcc:c'=c
   ·subst hcc; exact ⟨_,hc'⟩
   ·obtain ⟨w2,z2⟩:=I.cell y c' e
    exact ⟨w2,z2.sameBut hs hcc⟩
  ·obtain ⟨e,n,ne,nf,d⟩:=I.pin p hp
   refine ⟨(hs.2 p.1 ?_).trans e,n,ne,nf,d⟩
   intro q
   rw [q,hoc] at e
   have q':oc=p.2:=Option.some.inj e
   exact d w' (by rw [<- q']; exact hocd)
theorem store_ok {M:Model}{A:Around}{E:Value->Shared->Prop}{i:Nat}{x:Str}{v:V}{u:Value}{Q:Unit->Shared->Prop} (I:Inv X pins σ H s) (hN:X.N.Nodup) (hi:X.N[i]?=some x) (hx:Loc X.env.scope x) (r:RelV v u)
  (h:∀ s',Inv X pins (σ.set i (some v)) H s'->Q () s') (hf:X.fn x=true ∨ X.env.scope.names.lookup x=some .local:=by first | exact .inl rfl | exact .inr rfl | assumption):wpAny M A (storeName X.env x u) Q E s :=
 store_ok2 I hN hi hx r (fun s' I' _=>h s' I') hf
theorem Inv.call' {s':Shared}{ch:List Addr} (I:Inv X pins σ H s) (ho:s'.os=s.os) (u:Un (frs X.stack) ch H H' s.heap s'.heap) (hok:HOk X.prog X.w H' s'.heap) (hg:AllBare s'.gens)
  (hch:∀ b ∈ ch,(b ∈ X.ex ∨ X.s₀.heap.objs.size <= b)/\b ≠ X.env.locals/\(∀ x c,X.env.cells.lookup x=some c->c ≠ b)/\∀ p ∈ X.pn ++ pins,p.1 ≠ b):Inv X pins σ H' s' := by
 obtain ⟨h',g',d',t',o'⟩:=s'
 have e:o'=s.os:=ho
 subst e
 exact I.call (g' := g') (t' := t') (d' := d') u hok hg hch
end
abbrev XK:=Value->Option Addr->Hp->Prop
abbrev St:=List (Option V)
abbrev VK:=V->Hp->Prop
abbrev TE:=St->Hp->VK->Prop
abbrev TT:=St->Hp->(Bool->Hp->Prop)->Prop
abbrev TA:=St->Hp->(List V->Hp->Prop)->Prop
structure Ends where
 nx:St->Hp->Prop
 rt:VK
 bk:St->Hp->Prop:=fun _ _=>False
 ct:St->Hp->Prop:=fun _ _=>False
abbrev TS:=Ends->St->Hp->Prop
def EP (X:Cx) (pins:List (Addr × Obj)) (σ:St) (Q:VK) (u:Value) (s':Shared):Prop := ∃ v H',Inv X pins σ H' s'/\RelV v u/\Q v H'
def TP (X:Cx) (pins:List (Addr × Obj)) (σ:St) (Q:Bool->Hp->Prop) (b:Bool) (s':Shared):Prop := ∃ H',Inv X pins σ H' s'/\Q b H'
def AP (X:Cx) (pins:List (Addr × Obj)) (σ:St) (Q:List V->Hp->Prop) (us:List Value) (s':Shared):Prop := ∃ vs H',Inv X pins σ H' s'/\Vals vs us/\Q vs H'
def SP (X:Cx) (pins:List (Addr × Obj)) (D:Ends) (f:Flow) (s':Shared):Prop :=
 match f with
 | .next=>∃ σ' H',Inv X pins σ' H' s'/\D.nx σ' H'
 | .brk=>∃ σ' H',Inv X pins σ' H' s'/\D.bk σ' H'
 | .cont=>∃ σ' H',Inv X pins σ' H' s'/\D.ct σ' H'
 | .ret u=>∃ v σ' H',Inv X pins σ' H' s'/\RelV v u/\D.rt v H'
def PE (X:Cx) (e:Expr) (t:TE):Prop :=
 ∀ (pins:List (Addr × Obj)) (s:Shared) (σ:St) (H:Hp) (Q:VK),Inv X pins σ H s->t σ H Q->wpAny (model X.prog X.w) X.A (eval e X.env) (EP X pins σ Q) X.xe s
def PT (X:Cx) (e:Expr) (t:TT):Prop :=
 ∀ (pins:List (Addr × Obj)) (s:Shared) (σ:St) (H:Hp) (Q:Bool->Hp->Prop),Inv X pins σ H s->t σ H Q->wpAny (model X.prog X.w) X.A (isTrue e X.env (eval e X.env)) (TP X pins σ Q) X.xe s
def PW (X:Cx) (e:Expr) (t:TT):Prop :=
 ∀ (whole:Sem Value) (pins:List (Addr × Obj)) (s:Shared) (σ:St) (H:Hp) (Q:Bool->Hp->Prop),Inv X pins σ H s->t σ H Q->wpAny (model X.prog X.w) X.A (isTrue e X.env whole) (TP X pins σ Q) X.xe s
theorem PW.pt {X:Cx}{e:Expr}{t:TT} (h:PW X e t):PT X e t:=h _
def PA (X:Cx) (es:List Expr) (t:TA):Prop :=
 ∀ (pos:Pos) (pins:List (Addr × Obj)) (s:Shared) (σ:St) (H:Hp) (Q:List V->Hp->Prop),Inv X pins σ H s->t σ H Q->wpAny (model X.prog X.w) X.A (spliced (backTo pos (starEach es X.env))) (AP X pins σ Q) X.xe s
def PS (X:Cx) (st:Stmt) (t:TS):Prop :=
 ∀ (pins:List (Addr × Obj)) (s:Shared) (σ:St) (H:Hp) (D:Ends),Inv X pins σ H s->t D σ H->wpAny (model X.prog X.w) X.A (exec st X.env) (SP X pins D) X.xe s
def PSs (X:Cx) (st:List Stmt) (t:TS):Prop :=
 ∀ (pins:List (Addr × Obj)) (s:Shared) (σ:St) (H:Hp) (D:Ends),Inv X pins σ H s->t D σ H->wpAny (model X.prog X.w) X.A (execs st X.env) (SP X pins D) X.xe s
theorem thn {α:Type}{t:Sem α}{Q Q':α->Shared->Prop}{M:Model}{A:Around}{E:Value->Shared->Prop}{s:Shared} (h:wpAny M A t Q E s) (hQ:∀ a s,Q a s->Q' a s):wpAny M A t Q' E s:=wpAny_mono h hQ fun _ _ x=>x
section
variable {X:Cx}
def tVar (i:Nat):TE:=fun σ H Q=>∃ v,σ[i]?=some (some v)/\Q v H
def tC (v:V):TE:=fun _ H Q=>Q v H
theorem pe_var {i:Nat}{x:Str}{pos:Pos} (hN:X.N[i]?=some x) (hv:Vis X.env.scope x) (hd:(x == ("__debug__" : Str))=false:=by decide) (hcd:(x == ("__classdict__" : Str))=false:=by decide):PE X (.Name x pos) (tVar i):=by
 intro pins s σ H Q I h
 obtain ⟨v,e,h⟩:=h
 obtain ⟨m,hn,hl⟩:=I.loc
 obtain ⟨u,r,l⟩:=hl i x v hN e hv
 have fin:EP X pins σ Q u s:=⟨v,H,I,r,h⟩
 rcases l with ⟨hk,hm⟩ | ⟨hk,c,hc,hcell⟩
 ·exact wpAny_Name (wpAny_loadName_local I.ok.kind hk hn hm fin) hd
 ·rcases hk with hk | hk
  ·exact wpAny_Name (wpAny_loadName_cell I.ok.kind hk hc hcell fin) hd
  ·exact wpAny_Name (wpAny_loadName_free I.ok.kind hk hc hcell fin hcd) hd
theorem pe_int {i j pos}:PE X (.Constant (.int i) j pos) (tC (.int i)):=fun _ _ _ H _ I h=>wpAny_Constant_int ⟨.int i,H,I.tok _,⟨_,rfl⟩,h⟩
theorem pe_bl {b j pos}:PE X (.Constant (.bool b) j pos) (tC (.bl b)):=fun _ _ _ H _ I h=>Constant_bool ⟨.bl b,H,I,rfl,h⟩
theorem pe_str {x j pos}:PE X (.Constant (.str x) j pos) (tC (.str x)):=fun _ _ _ H _ I h=>Calls.Constant_str ⟨.str x,H,I.tok _,⟨_,rfl⟩,h⟩
def Gl (X:Cx) (x:Str):Prop:=X.env.kindOf x=some .globalImplicit
theorem ld_glob {E:Value->Shared->Prop}{pins:List (Addr × Obj)}{s:Shared}{σ:St}{H:Hp}{x:Str}{u:Value}{pos:Pos}{Q:Value->Shared->Prop} (I:Inv X pins σ H s) (hg:Gl X x) (hm:X.mg x=some u) (h:Q u s)
  (hd:(x == ("__debug__" : Str))=false:=by decide):wpAny (model X.prog X.w) X.A (eval (.Name x pos) X.env) Q E s :=
 Calls.Name_function_global I.ok.kind hg (Calls.loadGlobal_global (by rw [I.ok.glob]; exact I.mod.glob.keeps I.bk) hm h) hd
theorem ld_blt {E:Value->Shared->Prop}{pins:List (Addr × Obj)}{s:Shared}{σ:St}{H:Hp}{x:Str}{u:Value}{pos:Pos}{Q:Value->Shared->Prop} (I:Inv X pins σ H s) (hg:Gl X x) (hm:X.mg x=none) (hv:bootBuiltins x=some u) (h:Q u s)
  (hn:x ≠ "__name__" := by decide) (hd:(x == ("__debug__" : Str))=false:=by decide):wpAny (model X.prog X.w) X.A (eval (.Name x pos) X.env) Q E s:=by
 obtain ⟨mb,h1,h2⟩:=I.mod.blt
 exact Calls.Name_function_global I.ok.kind hg (Calls.loadGlobal_builtin (by rw [I.ok.glob]; exact I.mod.glob.keeps I.bk) hm (by rw [I.ok.blt]; exact h1.keeps I.bk) ((h2 x hn).trans hv) h) hd
theorem pe_glob {x:Str}{v:V}{u:Value}{pos:Pos} (hg:Gl X x) (hm:X.mg x=some u) (r:RelV v u) (hd:(x == ("__debug__" : Str))=false:=by decide):PE X (.Name x pos) (tC v) :=
 fun _ _ _ H _ I h=>ld_glob I hg hm ⟨v,H,I,r,h⟩ hd
theorem pe_bltn {x:Str}{v:V}{u:Value}{pos:Pos} (hg:Gl X x) (hm:X.mg x=none) (hv:bootBuiltins x=some u) (r:RelV v u) (hn:x ≠ "__name__" := by decide) (hd:(x == ("__debug__" : Str))=false:=by decide):PE X (.Name x pos) (tC v) :=
 fun _ _ _ H _ I h=>ld_blt I hg hm hv ⟨v,H,I,r,h⟩ hn hd
variable {a b:Expr}{ta tb:TE}{pos:Pos}
def tB (t:TE):TT:=fun σ H Q=>t σ H fun x H1=>∃ c,x=.bl c/\Q c H1
theorem pt_val {e:Expr}{t:TE} (h:PE X e t) (he:∀ whole,isTrue e X.env whole=(do let v <- whole; standAt e.pos; holding [v] (truthy v)):=by intro _; rfl):PT X e (tB t):=by
 intro pins s σ H Q I hw
 refine isTrue_plain (thn (h pins s σ H _ I hw) fun v s1 hq5=>L2.ex5 hq5 fun x H1 I1 r1 q1=>?_) (he _)
 obtain ⟨d,rfl,q⟩:=q1
 cases r1
 exact wpAny_truthy_bool ⟨H1,I1,q⟩
variable {tA tB':TT}{rest:List Expr}
def tAnd (t u:TT):TT:=fun σ H Q=>t σ H fun c H1=>if c=true then u σ H1 Q else Q false H1
def tNot (t:TT):TT:=fun σ H Q=>t σ H fun c H1=>Q (!c) H1
theorem pw_and1 (ha:PT X a tA):PW X (.BoolOp .And [a] pos) tA:=by
 intro wh pins s σ H Q I h
 refine isTrue_and (thn (ha pins s σ H Q I h) fun c s1 e=>?_)
 cases c with
 | true=>exact isTrue_and_nil e
 | false=>exact e
theorem pw_and (ha:PT X a tA) (hb:PW X (.BoolOp .And (b :: rest) pos) tB'):PW X (.BoolOp .And (a :: b :: rest) pos) (tAnd tA tB'):=by
 intro wh pins s σ H Q I h
 refine isTrue_and (thn (ha pins s σ H _ I h) fun c s1 ⟨H1,I1,q1⟩=>?_)
 cases c with
 | true=>exact hb wh pins s1 σ H1 Q I1 q1
 | false=>exact ⟨H1,I1,q1⟩
theorem pt_not (ha:PT X a tA):PT X (.UnaryOp .Not a pos) (tNot tA):=by
 intro pins s σ H Q I h
 exact isTrue_not (ha pins s σ H (fun c H1=>Q (!c) H1) I h)
def tAndV (ta tb:TE):TE:=fun σ H Q=>ta σ H fun x H1=>∃ c,x=.bl c/\if c=true then tb σ H1 Q else Q (.bl false) H1
def tNotV (ta:TE):TE:=fun σ H Q=>ta σ H fun x H1=>∃ c,x=.bl c/\Q (.bl (!c)) H1
theorem pe_one {op}{t:TE} (h:PE X a t):PE X (.BoolOp op [a] pos) t:=fun pins s σ H Q I hw=>BoolOp_one (h pins s σ H Q I hw)
theorem pe_and (ha:PE X a ta) (hb:PE X (.BoolOp .And (b :: rest) pos) tb):PE X (.BoolOp .And (a :: b :: rest) pos) (tAndV ta tb):=by
 intro pins s σ H Q I h
 refine BoolOp_and (thn (ha pins s σ H _ I h) fun v s1 hq5=>L2.ex5 hq5 fun x H1 I1 r1 q1=>?_)
 obtain ⟨c,rfl,q1⟩:=q1
 cases r1
 refine wpAny_truthy_bool ?_
 cases c with
 | true=>exact hb pins s1 σ H1 Q I1 q1
 | false=>exact ⟨.bl false,H1,I1,rfl,q1⟩
theorem pe_not (ha:PE X a ta):PE X (.UnaryOp .Not a pos) (tNotV ta):=by
 intro pins s σ H Q I h
 refine UnaryOp_ (thn (ha pins s σ H _ I h) fun v s1 hq5=>L2.ex5 hq5 fun x H1 I1 r1 q1=>?_)
 obtain ⟨c,rfl,q1⟩:=q1
 cases r1
 exact not_of (wpAny_truthy_bool ⟨.bl (!c),H1,I1,rfl,q1⟩)
def tIf (t:TT) (ta tb:TE):TE:=fun σ H Q=>t σ H fun c H1=>if c=true then ta σ H1 Q else tb σ H1 Q
theorem pe_ifExp {c:Expr} (hc:PT X c tA) (ha:PE X a ta) (hb:PE X b tb):PE X (.IfExp c a b pos) (tIf tA ta tb):=by
 intro pins s σ H Q I h
 refine wpAny_IfExp (thn (hc pins s σ H _ I h) fun d s1 ⟨H1,I1,q1⟩=>?_)
 cases d with
 | true=>exact ha pins s1 σ H1 Q I1 q1
 | false=>exact hb pins s1 σ H1 Q I1 q1
end
def SqL (K:PySem.W.Frag) (H:Hp) (a:Addr) (xs:List V):Prop :=
 Rd H a (.lst xs) ∨
  ∃ (o:Obj) (its:Array Value) (n:Nat),K.lookup a=some o/\o.cls=.type "list" /\ o.dict=none/\o.data=.seq its n/\its.size <= sizeLine/\Vals xs its.toList
def SqT (K:PySem.W.Frag) (H:Hp) (a:Addr) (xs:List V):Prop :=
 Rd H a (.tup xs) ∨
  ∃ (o:Obj) (its:Array Value) (n:Nat),K.lookup a=some o/\o.cls=.type "tuple" /\ o.data=.seq its n/\its.size <= sizeLine/\Vals xs its.toList
def absV:Value->Option V
 | .none=>some .non
 | .bool b=>some (.bl b)
 | .int i _=>some (.int i)
 | .str x _=>some (.str x)
 | .bytes b _=>some (.byt b)
 | .float b _=>some (.flt b)
 | .ref a=>some (.ref a)
 | .type n=>some (.ty n)
 | _=>none
theorem RelV.abs {x:V}{u:Value} (r:RelV x u):absV u=some x:=by
 cases x with
 | non=>cases r; rfl
 | bl _=>cases r; rfl
 | int _=>obtain ⟨t,rfl⟩:=r; rfl
 | str _=>obtain ⟨t,rfl⟩:=r; rfl
 | byt _=>obtain ⟨t,rfl⟩:=r; rfl
 | flt _=>obtain ⟨t,rfl⟩:=r; rfl
 | ref _=>cases r; rfl
 | ty _=>cases r; rfl
theorem RelV.inj {x y:V}{u:Value} (r:RelV x u) (q:RelV y u):x=y:=Option.some.inj (r.abs.symm.trans q.abs)
theorem Vals.inj:∀ {xs ys:List V}{us:List Value},Vals xs us->Vals ys us->xs=ys
 | _,_,_,.nil,.nil=>rfl
 | _,_,_,.cons r t,.cons r' t'=>by rw [r.inj r',Vals.inj t t']
section
variable {X:Cx}{pins:List (Addr × Obj)}{σ:St}{H:Hp}{s:Shared}{a:Addr}{xs ys:List V}
theorem SqL.of {K:PySem.W.Frag} (h:H a=some (.lst xs)):SqL K H a xs := .inl (.inl h)
theorem SqT.of {K:PySem.W.Frag} (h:H a=some (.tup xs)):SqT K H a xs := .inl (.inl h)
theorem Inv.list (I:Inv X pins σ H s) (h:SqL X.K H a xs):∃ its:List Value,Vals xs its/\PlainL s.heap a its.toArray/\xs.length <= sizeLine:=by
 rcases h with h | ⟨o,its,n,hk,hc,hd,hs,hz,r⟩
 ·obtain ⟨z,its,n,r,e⟩:=h.ok I.hok
  exact ⟨its,r,⟨_,n,e,rfl,rfl,rfl⟩,z⟩
 ·refine ⟨its.toList,r,⟨o,n,I.kIn a o hk,hc,hd,by simpa using hs⟩,?_⟩
  have e:=r.length
  simp only [Array.length_toList] at e
  omega
theorem Inv.tuple (I:Inv X pins σ H s) (h:SqT X.K H a xs):∃ its:List Value,Vals xs its/\IsTup s.heap a its.toArray/\xs.length <= sizeLine:=by
 rcases h with h | ⟨o,its,n,hk,hc,hs,hz,r⟩
 ·obtain ⟨z,its,r,p⟩:=h.ok I.hok
  exact ⟨its,r,p.is,z⟩
 ·refine ⟨its.toList,r,⟨o,I.kIn a o hk,hc,n,by simpa using hs⟩,?_⟩
  have e:=r.length
  simp only [Array.length_toList] at e
  omega
theorem Inv.list_inj (I:Inv X pins σ H s) (h:SqL X.K H a xs) (h':SqL X.K H a ys):xs=ys:=by
 obtain ⟨its,r,⟨o,n,e,_,_,d⟩,_⟩:=I.list h
 obtain ⟨its',r',⟨o',n',e',_,_,d'⟩,_⟩:=I.list h'
 rw [e] at e'; cases e'
 rw [d] at d'
 injection d' with d1 _
 have:its=its' := by simpa using congrArg Array.toList d1
 subst this
 exact r.inj r'
theorem Inv.tuple_inj (I:Inv X pins σ H s) (h:SqT X.K H a xs) (h':SqT X.K H a ys):xs=ys:=by
 obtain ⟨its,r,⟨o,e,_,n,d⟩,_⟩:=I.tuple h
 obtain ⟨its',r',⟨o',e',_,n',d'⟩,_⟩:=I.tuple h'
 rw [e] at e'; cases e'
 rw [d] at d'
 injection d' with d1 _
 have:its=its' := by simpa using congrArg Array.toList d1
 subst this
 exact r.inj r'
end
abbrev Cx.wish (X:Cx) (E:Value->Shared->Prop):Cx := { X with xe:=E }
abbrev Cx.nox (X:Cx):Cx:=X.wish fun _ _=>False
theorem Cx.Ok.wish {X:Cx} (ok:X.Ok) (E:Value->Shared->Prop):(X.wish E).Ok :=
 ⟨ok.mod,ok.kind,ok.glob,ok.blt,ok.above,ok.inj,ok.has,ok.cab,ok.hd,ok.frames,ok.stk,ok.exf,ok.bs,ok.bsz,ok.noex,ok.exfs,ok.funs,ok.frf⟩
theorem Cx.Ok.unwish {X:Cx}{E:Value->Shared->Prop} (ok:(X.wish E).Ok):X.Ok :=
 ⟨ok.mod,ok.kind,ok.glob,ok.blt,ok.above,ok.inj,ok.has,ok.cab,ok.hd,ok.frames,ok.stk,ok.exf,ok.bs,ok.bsz,ok.noex,ok.exfs,ok.funs,ok.frf⟩
section
variable {X:Cx}{pins:List (Addr × Obj)}{σ:St}{H:Hp}{s:Shared}{E:Value->Shared->Prop}
theorem Inv.wish (I:Inv X pins σ H s) (E:Value->Shared->Prop):Inv (X.wish E) pins σ H s:=⟨I.ok.wish E,I.os,I.bare,I.base,I.loc,I.cell,I.free,I.freeC,I.pin,I.hok,I.len⟩
theorem Inv.unwish (I:Inv (X.wish E) pins σ H s):Inv X pins σ H s:=⟨I.ok.unwish,I.os,I.bare,I.base,I.loc,I.cell,I.free,I.freeC,I.pin,I.hok,I.len⟩
theorem SP.unwish {D:Ends}{f:Flow}{s':Shared} (h:SP (X.wish E) pins D f s'):SP X pins D f s' := by
 cases f with
 | next=>obtain ⟨σ',H',I,q⟩:=h; exact ⟨σ',H',I.unwish,q⟩
 | brk=>obtain ⟨σ',H',I,q⟩:=h; exact ⟨σ',H',I.unwish,q⟩
 | cont=>obtain ⟨σ',H',I,q⟩:=h; exact ⟨σ',H',I.unwish,q⟩
 | ret u=>obtain ⟨v,σ',H',I,r,q⟩:=h; exact ⟨v,σ',H',I.unwish,r,q⟩
theorem PSs.nox {st:List Stmt}{t:TS} (h:PSs X.nox st t):PSs X st t:=fun pins s σ H D I hw =>
 wpAny_mono (h pins s σ H D (I.wish _) hw) (fun _ _ q=>q.unwish) fun _ _ z=>False.elim z
end
section
variable {X:Cx}{st:Stmt}{rest:List Stmt}{t u:TS}{e:Expr}{te:TE}{pos:Pos}
def tNext:TS:=fun D σ H=>D.nx σ H
def tSeq (t u:TS):TS:=fun D σ H=>t { D with nx:=u D } σ H
theorem pss_nil:PSs X [] tNext:=fun _ _ σ H _ I h=>wpAny_execs_nil ⟨σ,H,I,h⟩
theorem pss_cons (h1:PS X st t) (h2:PSs X rest u):PSs X (st :: rest) (tSeq t u):=by
 intro pins s σ H D I h
 refine wpAny_execs_cons (thn (h1 pins s σ H { D with nx:=u D } I h) fun f s1 q=>?_)
 cases f with
 | next =>
  obtain ⟨σ',H',I',q⟩:=q
  exact h2 pins s1 σ' H' D I' q
 | ret v=>exact q
 | brk=>exact q
 | cont=>exact q
theorem pss_one (h1:PS X st t):PSs X [st] t:=by
 intro pins s σ H D I h
 refine wpAny_execs_cons (thn (h1 pins s σ H D I h) fun f s1 q=>?_)
 cases f with
 | next=>exact wpAny_execs_nil q
 | ret v=>exact q
 | brk=>exact q
 | cont=>exact q
theorem Inv.quiet {pins:List (Addr × Obj)}{σ:St}{H:Hp}{s:Shared} (I:Inv X pins σ H s):interactive X.env=false:=by simp [interactive,I.ok.kind]
def tDrop (te:TE):TS:=fun D σ H=>te σ H fun _ H1=>D.nx σ H1
theorem ps_expr (he:PE X e te) (hs:swapsWith e none pos.line X.env=pure false:=by rfl):PS X (.Expr e pos) (tDrop te):=by
 intro pins s σ H D I h
 exact wpAny_Expr_any (thn (he pins s σ H _ I h) fun v s1 hq5=>L2.ex5 hq5 fun x H1 I1 r1 q1=>⟨σ,H1,I1,q1⟩) I.quiet hs
def tRet (te:TE):TS:=fun D σ H=>te σ H D.rt
theorem ps_ret (he:PE X e te):PS X (.Return (some e) pos) (tRet te):=by
 intro pins s σ H D I h
 exact wpAny_Return_some (thn (he pins s σ H _ I h) fun v s1 hq5=>L2.ex5 hq5 fun x H1 I1 r1 q1=>⟨x,σ,H1,I1,r1,q1⟩)
def tIfS (c:TT) (t u:TS):TS:=fun D σ H=>c σ H fun b H1=>if b=true then t D σ H1 else u D σ H1
theorem ps_if {c:Expr}{a b:List Stmt}{tc:TT} (hc:PT X c tc) (ha:PSs X a t) (hb:PSs X b u):PS X (.If c a b pos) (tIfS tc t u):=by
 intro pins s σ H D I h
 refine wpAny_If (thn (hc pins s σ H _ I h) fun d s1 ⟨H1,I1,q1⟩=>?_)
 cases d with
 | true=>exact ha pins s1 σ H1 D I1 q1
 | false=>exact hb pins s1 σ H1 D I1 q1
end
abbrev TG:=V->St->Hp->(St->Hp->Prop)->Prop
abbrev TGs:=List V->St->Hp->(St->Hp->Prop)->Prop
def PG (X:Cx) (target:Expr) (t:TG):Prop :=
 ∀ (pins:List (Addr × Obj)) (s:Shared) (σ:St) (H:Hp) (v:V) (u:Value) (Q:St->Hp->Prop),Inv X pins σ H s->RelV v u->t v σ H Q ->
  wpAny (model X.prog X.w) X.A (assign target X.env u) (fun _ s'=>∃ σ' H',Inv X pins σ' H' s'/\Q σ' H') X.xe s
def PGs (X:Cx) (ts:List Expr) (t:TGs):Prop :=
 ∀ (pins:List (Addr × Obj)) (s:Shared) (σ:St) (H:Hp) (vs:List V) (us:List Value) (Q:St->Hp->Prop),Inv X pins σ H s->Vals vs us->t vs σ H Q ->
  wpAny (model X.prog X.w) X.A (assignInOrder ((assignEach ts X.env).map (·.2)) us) (fun _ s'=>∃ σ' H',Inv X pins σ' H' s'/\Q σ' H') X.xe s
section
variable {X:Cx}{pos:Pos}
def gName (i:Nat):TG:=fun v σ H Q=>Q (σ.set i (some v)) H
theorem pg_name {i:Nat}{x:Str} (hN:X.N.Nodup) (hi:X.N[i]?=some x) (hx:Loc X.env.scope x) (hf:X.fn x=true ∨ X.env.scope.names.lookup x=some .local:=by first | exact .inl rfl | exact .inr rfl | assumption):PG X (.Name x pos) (gName i):=by
 intro pins s σ H v u Q I r h
 exact wpAny_assign_Name (store_ok I hN hi hx r (fun s' I'=>⟨_,H,I',h⟩) hf)
def gNil:TGs:=fun vs σ H Q=>vs=[]/\Q σ H
def gCons (t:TG) (u:TGs):TGs:=fun vs σ H Q=>∃ v r,vs=v :: r/\t v σ H fun σ' H'=>u r σ' H' Q
theorem pgs_nil:PGs X [] gNil:=by
 intro pins s σ H vs us Q I r h
 obtain ⟨e,h⟩:=h
 subst e
 cases r
 exact assignInOrder_nil ⟨σ,H,I,h⟩
theorem pgs_cons {e:Expr}{es:List Expr}{t:TG}{u:TGs} (h1:PG X e t) (h2:PGs X es u)
  (hs:(assignEach (e :: es) X.env).map (·.2)=assign e X.env :: (assignEach es X.env).map (·.2):=by rfl):PGs X (e :: es) (gCons t u):=by
 intro pins s σ H vs us Q I r h
 obtain ⟨v,vr,e1,h⟩:=h
 subst e1
 cases r with
 | cons r rr =>
  rw [hs]
  refine assignInOrder_cons (thn (h1 pins s σ H _ _ _ I r h) fun _ s1 ⟨σ1,H1,I1,q1⟩=>?_)
  exact h2 pins s1 σ1 H1 _ _ Q I1 rr q1
def gTup (K:PySem.W.Frag) (n:Nat) (t:TGs):TG:=fun v σ H Q=>∃ a xs,v=.ref a/\SqT K H a xs/\xs.length=n/\t xs σ H Q
theorem pg_tup {es:List Expr}{k:Nat}{t:TGs}{n:Nat} (hc:X.calm=true) (h:PGs X es t)
  (hn:(assignEach es X.env).length=n:=by rfl) (hst:(assignEach es X.env).findIdx? (·.1)=none:=by rfl):PG X (.Tuple es k pos) (gTup X.K n t):=by
 intro pins s σ H v u Q I r hw
 obtain ⟨a,xs,e1,hq,hl,hw⟩:=hw
 subst e1
 cases r
 obtain ⟨its,rv,ht,hz⟩:=I.tuple hq
 refine assign_Tuple_tuple (I.ok.hd hc) ht (by simp [hn,<- hl,rv.length]) hst fun h' hx=>?_
 have I1:Inv X pins σ H { s with heap:=h' }:=I.kept (t' := s.toks) fun b o e=>hx b o (Nat.ne_of_lt (Heap.lt_size e)) e
 exact h pins _ σ H xs _ Q I1 (by simpa using rv) hw
def tAsg (te:TE) (g:TG):TS:=fun D σ H=>te σ H fun x H1=>g x σ H1 D.nx
theorem ps_set {i:Nat}{x:Str}{e:Expr}{te:TE}{pos':Pos} (hN:X.N.Nodup) (hi:X.N[i]?=some x) (hx:Loc X.env.scope x) (he:PE X e te) (hs:swapsWith e (some (.Name x pos')) pos.line X.env=pure false:=by rfl) (hf:X.fn x=true ∨ X.env.scope.names.lookup x=some .local:=by first | exact .inl rfl | exact .inr rfl | assumption) :
  PS X (.Assign [.Name x pos'] e pos) (tAsg te (gName i)):=by
 intro pins s σ H D I h
 refine wpAny_Assign_Name (thn (he pins s σ H _ I h) fun v s1 hq5=>L2.ex5 hq5 fun y H1 I1 r1 q1=>?_) hs
 exact store_ok I1 hN hi hx r1 (fun s2 I2=>⟨_,H1,I2,q1⟩) hf
end
section
variable {X:Cx}{pos:Pos}
def tWhile (c:TT) (tb:TS):TS:=fun D σ H=>∃ W:Nat->St->Hp->Prop,(∃ m,W m σ H)/\∀ m σ H,W m σ H ->
 c σ H fun b H1=>if b=true then ∃ N:St->Hp->Prop,(∀ σ' H',N σ' H'->∃ m',m' < m/\W m' σ' H')/\tb { D with nx:=N,ct:=N,bk:=D.nx } σ H1 else D.nx σ H1
theorem ps_while {c:Expr}{body:List Stmt}{tc:TT}{tb:TS} (hp:PassesOwn (model X.prog X.w) X.A X.env X.xe) (hc:PT X c tc) (hb:PSs X body tb):PS X (.While c body [] pos) (tWhile tc tb):=by
 intro pins s σ H D I h
 obtain ⟨W,⟨m0,w0⟩,turn⟩:=h
 refine wpAny_While (codeAny_whileLoop (fun n s'=>∃ σ' H',Inv X pins σ' H' s'/\W n σ' H') ?_ m0 ⟨σ,H,I,w0⟩)
 rintro n s1 ⟨σ1,H1,I1,w1⟩
 refine wpAny_passesOwn hp (thn (hc pins s1 σ1 H1 _ I1 (turn n σ1 H1 w1)) fun b s2 ⟨H2,I2,q2⟩=>?_)
 cases b with
 | true =>
  obtain ⟨N,hN,q2⟩:=q2
  rw [if_pos rfl]
  refine wpAny_passesOwn hp (thn (hb pins s2 σ1 H2 _ I2 q2) fun f s3 q3=>?_)
  cases f with
  | next =>
   obtain ⟨σ3,H3,I3,n3⟩:=q3
   obtain ⟨m',hm,w3⟩:=hN σ3 H3 n3
   exact ⟨m',hm,σ3,H3,I3,w3⟩
  | cont =>
   obtain ⟨σ3,H3,I3,n3⟩:=q3
   obtain ⟨m',hm,w3⟩:=hN σ3 H3 n3
   exact ⟨m',hm,σ3,H3,I3,w3⟩
  | brk=>exact q3
  | ret v=>exact q3
 | false =>
  rw [if_neg Bool.false_ne_true]
  exact wpAny_execs_nil ⟨σ1,H2,I2,q2⟩
end
structure It where
 go:Nat->Hp->Prop
 yld:Nat->Hp->V->Hp->Prop
 stop:Nat->Hp->Prop
def FpOk (X:Cx) (pins:List (Addr × Obj)) (H:Hp) (b:Addr):Prop :=
 H b=none/\b ≠ X.env.locals/\b ∉ X.fs/\(b ∈ X.ex ∨ X.s₀.heap.objs.size <= b)/\(∀ x c,X.env.cells.lookup x=some c->c ≠ b)/\∀ p ∈ X.pn ++ pins,p.1 ≠ b
theorem Inv.fpOk {X:Cx}{pins:List (Addr × Obj)}{σ:St}{H H':Hp}{s:Shared}{b:Addr} (I:Inv X pins σ H s) (hb:s.heap.objs.size <= b) (hn:H' b=none):FpOk X pins H' b:=by
 refine ⟨hn,Nat.ne_of_gt (Nat.lt_of_lt_of_le I.lt hb),I.nofs hb,.inr (Nat.le_trans I.sz hb),fun x c e z=>?_,fun p hp z=>?_⟩
 ·obtain ⟨v,q⟩:=I.cell x c e
  exact absurd (Nat.lt_of_lt_of_le q.lt (by rw [z]; exact hb)) (Nat.lt_irrefl _)
 ·exact absurd (Nat.lt_of_lt_of_le (Heap.lt_size (I.pin p hp).1) (by rw [z]; exact hb)) (Nat.lt_irrefl _)
structure TurnC (cm:Cx->Prop) (P:Program) (w:World) (K:PySem.W.Frag) (tg:Expr) (J:It) (fp:List Addr) (it:Addr) (tn:Nat->Heap->Prop):Prop where
 mem:it ∈ fp
 obj:∀ i h,tn i h->∀ b ∈ fp,∃ o,h.get? b=some o/\∀ v,o.data ≠ .cell v
 keep:∀ i h h',tn i h->(∀ b ∈ fp,∀ o,h.get? b=some o->h'.get? b=some o)->tn i h'
 item:∀ (X:Cx),X.prog=P->X.w=w->X.K=K->cm X->∀ (i:Nat) (pins:List (Addr × Obj)) (s:Shared) (σ:St) (H:Hp) (E:Value->Shared->Prop),Inv X pins σ H s->(∀ b ∈ fp,FpOk X pins H b)->tn i s.heap->J.go i H ->
  wpAny (model P w) X.A (pyNext (.ref it)) (fun r s1=>∃ u,r=some u /\
   wpAny (model P w) X.A (letOwnedTupleGo tg (.ref it) u) (fun _ s2=>∃ x H',Inv X pins σ H' s2/\RelV x u/\J.yld i H x H'/\tn (i + 1) s2.heap/\∀ b ∈ fp,H' b=none) E s1) E s
 done:∀ (X:Cx),X.prog=P->X.w=w->X.K=K->cm X->∀ (i:Nat) (pins:List (Addr × Obj)) (s:Shared) (σ:St) (H:Hp) (E:Value->Shared->Prop),Inv X pins σ H s->(∀ b ∈ fp,FpOk X pins H b)->tn i s.heap->J.stop i H ->
  wpAny (model P w) X.A (pyNext (.ref it)) (fun r s1=>r=none/\Inv X pins σ H s1) E s
 self:∀ (A:Around) (i:Nat) (s:Shared) (Q:Value->Shared->Prop) (E:Value->Shared->Prop),tn i s.heap->Q (.ref it) s->wpAny (model P w) A (pyIter (.ref it)) Q E s
abbrev Turn:=TurnC fun X=>X.calm=true
abbrev TI:=St->Hp->(It->Hp->Prop)->Prop
def PIE (X:Cx) (pins:List (Addr × Obj)) (σ:St) (tg:Expr) (R:It->Hp->Prop) (itv:Value) (s2:Shared):Prop :=
 ∃ (it:Addr) (fp:List Addr) (tn:Nat->Heap->Prop) (J:It) (H':Hp),itv=.ref it/\Inv X pins σ H' s2/\Turn X.prog X.w X.K tg J fp it tn/\tn 0 s2.heap/\(∀ b ∈ fp,FpOk X pins H' b)/\R J H'
def PI (X:Cx) (tg iter:Expr) (wi:TI):Prop :=
 ∀ (pins:List (Addr × Obj)) (s:Shared) (σ:St) (H:Hp) (R:It->Hp->Prop),Inv X pins σ H s->wi σ H R ->
  wpAny (model X.prog X.w) X.A (eval iter X.env) (fun v s1=>wpAny (model X.prog X.w) X.A (pyIter v) (PIE X pins σ tg R) X.xe s1) X.xe s
theorem go_of {M : Model} {A : Around} {E : Value -> Shared -> Prop} {s : Shared} {tg : Expr} {it : Addr} {u : Value} {o : Obj} {n : String} {vs : Array Value} {Q : Unit -> Shared -> Prop} (ho : s.heap.get? it = some o) (hc : o.cls = .type n) (hd : o.data = .fields vs)
    (hn : ["enumerate", "zip", "dict_itemiterator", "dict_reverseitemiterator", "odict_iterator", "itertools.zip_longest", "itertools.pairwise"].contains n = false) (hQ : Q () s) : wpAny M A (letOwnedTupleGo tg (.ref it) u) Q E s:=by
  unfold letOwnedTupleGo
  cases tg <;> first
    | exact wpAny_pure hQ
    | (cases u <;> first
        | exact wpAny_pure hQ
        | (refine wpAny_bind (wpAny_load ho ?_)
           rw [hc, hd]
           show wpAny M A (if (["enumerate", "zip", "dict_itemiterator", "dict_reverseitemiterator", "odict_iterator", "itertools.zip_longest", "itertools.pairwise"].contains n && vs[0]? == some (rawInt _)) = true then _ else _) Q E s
           rw [if_neg (by intro h; rw [hn, Bool.false_and] at h; cases h)]
           exact wpAny_pure hQ))
def Itl (K:PySem.W.Frag) (a:Addr):It :=
 ⟨fun i H=>∃ xs x,SqL K H a xs/\xs[i]?=some x,fun i H x H'=>H'=H/\∀ xs,SqL K H a xs->xs[i]?=some x,fun i H=>∃ xs,SqL K H a xs/\xs.length <= i⟩
def Itt (K:PySem.W.Frag) (a:Addr):It :=
 ⟨fun i H=>∃ xs x,SqT K H a xs/\xs[i]?=some x,fun i H x H'=>H'=H/\∀ xs,SqT K H a xs->xs[i]?=some x,fun i H=>∃ xs,SqT K H a xs/\xs.length <= i⟩
def Itr (lo:Int) (n:Nat):It:=⟨fun i _=>i < n,fun i H x H'=>H'=H/\x=.int (lo + i),fun i _=>n <= i⟩
theorem turn_list {P:Program}{w:World}{K:PySem.W.Frag}{tg:Expr} (a it:Addr):Turn P w K tg (Itl K a) [it] it (fun i h=>h.IsListIter it a i) where
 mem:=by simp
 obj:=fun i h st b hb=>by
  have e:b=it:=by simpa using hb
  subst e
  obtain ⟨o,e,c,d⟩:=st
  exact ⟨o,e,fun v z=>by rw [d] at z; cases z⟩
 keep:=fun i h h' st k=>st.at fun o e=>k it (by simp) o e
 item:=by
  intro X hP hw hK hc i pins s σ H E I hf st hg
  subst hP hw hK
  obtain ⟨xs,x,hq,hx⟩:=hg
  obtain ⟨its,rv,p,hz⟩:=I.list hq
  obtain ⟨u,hu,ru⟩:=rv.get hx
  obtain ⟨f0,f1,f2,f3,f4,f5⟩:=hf it (by simp)
  refine wpAny_pyNext_list_item st p.isList (x:=u) (by simpa using hu) fun h' st' sb=>?_
  have I1:Inv X pins σ H { s with heap:=h' }:=I.turned (t' := s.toks) (fun b o hb e=>(sb.2 b hb).trans e) f0 f1 f3 f4 f5
  obtain ⟨o,e,c,d⟩:=id st'
  exact ⟨u,rfl,go_of (s := { s with heap:=h' }) e c d (by decide) ⟨x,H,I1,ru,⟨rfl,fun ys hy=>by rw [I.list_inj hy hq]; exact hx⟩,st',fun b hb=>(hf b hb).1⟩⟩
 done:=by
  intro X hP hw hK hc i pins s σ H E I hf st hg
  subst hP hw hK
  obtain ⟨xs,hq,hx⟩:=hg
  obtain ⟨its,rv,p,hz⟩:=I.list hq
  obtain ⟨f0,f1,f2,f3,f4,f5⟩:=hf it (by simp)
  have hl:=rv.length
  exact wpAny_pyNext_list_end (I.ok.hd hc) st p.isList (by simp; omega) fun h' eb=>⟨rfl,I.turned (t' := s.toks) (fun b o hb e=>eb b o hb e) f0 f1 f3 f4 f5⟩
 self:=fun _ _ _ _ _ st h=>wpAny_pyIter_listiter st h
theorem turn_tuple {P:Program}{w:World}{K:PySem.W.Frag}{tg:Expr} (a it:Addr):Turn P w K tg (Itt K a) [it] it (fun i h=>h.IsTupleIter it a i) where
 mem:=by simp
 obj:=fun i h st b hb=>by
  have e:b=it:=by simpa using hb
  subst e
  obtain ⟨o,e,c,d⟩:=st
  exact ⟨o,e,fun v z=>by rw [d] at z; cases z⟩
 keep:=fun i h h' st k=>st.at fun o e=>k it (by simp) o e
 item:=by
  intro X hP hw hK hc i pins s σ H E I hf st hg
  subst hP hw hK
  obtain ⟨xs,x,hq,hx⟩:=hg
  obtain ⟨its,rv,p,hz⟩:=I.tuple hq
  obtain ⟨u,hu,ru⟩:=rv.get hx
  obtain ⟨f0,f1,f2,f3,f4,f5⟩:=hf it (by simp)
  refine wpAny_pyNext_tuple_item st (show s.heap.IsTuple a its.toArray from p) (x:=u) (by simpa using hu) fun h' st' sb=>?_
  have I1:Inv X pins σ H { s with heap:=h' }:=I.turned (t' := s.toks) (fun b o hb e=>(sb.2 b hb).trans e) f0 f1 f3 f4 f5
  obtain ⟨o,e,c,d⟩:=id st'
  exact ⟨u,rfl,go_of (s := { s with heap:=h' }) e c d (by decide) ⟨x,H,I1,ru,⟨rfl,fun ys hy=>by rw [I.tuple_inj hy hq]; exact hx⟩,st',fun b hb=>(hf b hb).1⟩⟩
 done:=by
  intro X hP hw hK hc i pins s σ H E I hf st hg
  subst hP hw hK
  obtain ⟨xs,hq,hx⟩:=hg
  obtain ⟨its,rv,p,hz⟩:=I.tuple hq
  obtain ⟨f0,f1,f2,f3,f4,f5⟩:=hf it (by simp)
  have hl:=rv.length
  exact wpAny_pyNext_tuple_end (I.ok.hd hc) st (show s.heap.IsTuple a its.toArray from p) (by simp; omega) fun h' eb=>⟨rfl,I.turned (t' := s.toks) (fun b o hb e=>eb b o hb e) f0 f1 f3 f4 f5⟩
 self:=fun _ _ _ _ _ st h=>wpAny_pyIter_tupleiter st h
theorem turn_range {P:Program}{w:World}{K:PySem.W.Frag}{tg:Expr} (it:Addr) (lo:Int) (n:Nat):Turn P w K tg (Itr lo n) [it] it (fun i h=>IsRangeIter h it (lo + (i:Nat) * 1) ((n:Int) - (i:Nat)) 1) where
 mem:=by simp
 obj:=fun i h st b hb=>by
  have e:b=it:=by simpa using hb
  subst e
  exact ⟨_,st,fun v z=>by
   have z':Data.fields _=Data.cell v:=z
   cases z'⟩
 keep:=fun i h h' st k=>k it (by simp) _ st
 item:=by
  intro X hP hw hK hc i pins s σ H E I hf st hg
  subst hP hw hK
  obtain ⟨f0,f1,f2,f3,f4,f5⟩:=hf it (by simp)
  have W:=Walks.range (prog:=X.prog) (w:=X.w) (I.ok.hd hc) it lo 1 n
  refine W.item i s _ _ hg st fun v h' tk hv st' kk=>?_
  obtain ⟨t,rfl⟩:=hv
  have I1:Inv X pins σ H { s with heap:=h',toks:=tk }:=I.turned (fun b o hb e=>kk b o (by simpa using hb) e) f0 f1 f3 f4 f5
  refine ⟨_,rfl,go_of (s := { s with heap:=h',toks:=tk }) (n := "range_iterator") st' rfl rfl (by decide) ⟨.int (lo + i),H,I1,⟨t,?_⟩,⟨rfl,rfl⟩,st',fun b hb=>(hf b hb).1⟩⟩
  rw [Int.mul_one]
 done:=by
  intro X hP hw hK hc i pins s σ H E I hf st hg
  subst hP hw hK
  obtain ⟨f0,f1,f2,f3,f4,f5⟩:=hf it (by simp)
  exact wpAny_pyNext_range_end (I.ok.hd hc) st (by have:n <= i:=hg; omega) fun h' eb=>⟨rfl,I.turned (t' := s.toks) (fun b o hb e=>eb b o hb e) f0 f1 f3 f4 f5⟩
 self:=fun _ _ _ _ _ st h=>wpAny_pyIter_rangeiter st h
section
variable {X:Cx}{tg:Expr}
theorem range_it {pins:List (Addr × Obj)}{σ:St}{H:Hp}{s:Shared}{R:It->Hp->Prop}{E:Value->Shared->Prop}{lo hi:Int}{t u v:Tok}{tk:Nat} (I:Inv X pins σ H s) (h1 : -(2 ^ 62) <= lo) (h2:lo < 2 ^ 62) (h3 : -(2 ^ 62) <= hi) (h4:hi < 2 ^ 62)
  (q:R (Itr lo (hi - lo).toNat) H):wpAny (model X.prog X.w) X.A (pyIter (.ref s.heap.objs.size)) (PIE X pins σ tg R) E { s with heap:=s.heap.push { cls := .type "range",data := .fields #[.int lo t,.int hi u,.int 1 v] },toks:=tk }:=by
 refine wpAny_pyIter_range (IsRange.new ..) (small_one h1 h2 h3 h4) ?_
 have I1:Inv X pins σ H { s with heap:=s.heap.push { cls := .type "range",data := .fields #[.int lo t,.int hi u,.int 1 v] },toks:=tk }:=I.kept fun b o e=>Heap.get?_push_of_some _ e
 refine ⟨(s.heap.push { cls := .type "range",data := .fields #[.int lo t,.int hi u,.int 1 v] }).objs.size,[(s.heap.push { cls := .type "range",data := .fields #[.int lo t,.int hi u,.int 1 v] }).objs.size],_,_,H,rfl,
  I1.kept (t' := tk) fun b o e=>Heap.get?_push_of_some _ e,turn_range _ lo (hi - lo).toNat,?_,fun b hb=>?_,q⟩
 ·have e1:lo + ((0:Nat):Int) * 1=lo:=by simp
  have e2:(((hi - lo).toNat:Nat):Int) - ((0:Nat):Int)=Builtin.Range.rangeSize lo hi 1:=by rw [rangeSize_one]; split <;> omega
  show IsRangeIter _ _ (lo + ((0:Nat):Int) * 1) ((((hi - lo).toNat:Nat):Int) - ((0:Nat):Int)) 1
  rw [e1,e2]
  exact Heap.get?_push_size _ rfl
 ·have e:b=(s.heap.push { cls := .type "range",data := .fields #[.int lo t,.int hi u,.int 1 v] }).objs.size:=by simpa using hb
  subst e
  exact I1.fpOk (Nat.le_refl _) (I1.hok.fresh (Nat.le_refl _))
def iRng1 (ta:TA):TI:=fun σ H R=>ta σ H fun vs H1=>∃ j:Int,vs=[.int j] /\ -(2 ^ 62) <= j/\j < 2 ^ 62/\R (Itr 0 j.toNat) H1
def iRng2 (ta:TA):TI:=fun σ H R=>ta σ H fun vs H1=>∃ i j:Int,vs=[.int i,.int j]/\(-(2 ^ 62) <= i/\i < 2 ^ 62 /\ -(2 ^ 62) <= j/\j < 2 ^ 62)/\R (Itr i (j - i).toNat) H1
theorem pi_range1 {a:Expr}{ta:TA}{p pos:Pos} (hg:Gl X "range") (hm:X.mg "range" = none) (ha:PA X [a] ta) (hs:starEach [a] X.env=[(false,eval a X.env)]:=by rfl):PI X tg (.Call (.Name "range" p) [a] [] pos) (iRng1 ta):=by
 intro pins s σ H R I h
 refine Call_ (ld_blt I hg hm boot_range (PyProof.Rows.callWith_type1 (thn (ha pos pins s σ H _ I h) fun us s1 hq5=>L2.ex5 hq5 fun vs H1 I1 r1 q1=>?_) hs rfl))
 obtain ⟨j,e,q1,q2,q⟩:=q1
 subst e
 cases r1 with
 | cons r rr =>
  cases rr
  obtain ⟨t,rfl⟩:=r
  exact call_range_1 (range_it I1 (by omega) (by omega) q1 q2 (by simpa using q))
theorem pi_range2 {a b:Expr}{ta:TA}{p pos:Pos} (hg:Gl X "range") (hm:X.mg "range" = none) (ha:PA X [a,b] ta) (hs:starEach [a,b] X.env=[(false,eval a X.env),(false,eval b X.env)]:=by rfl) (hs2:starEach [b] X.env=[(false,eval b X.env)]:=by rfl) :
  PI X tg (.Call (.Name "range" p) [a,b] [] pos) (iRng2 ta):=by
 intro pins s σ H R I h
 refine Call_ (ld_blt I hg hm boot_range (PyProof.Rows.callWith_type1 (thn (ha pos pins s σ H _ I h) fun us s1 hq5=>L2.ex5 hq5 fun vs H1 I1 r1 q1=>?_) (by rw [hs,hs2]) (by rw [hs2]; rfl)))
 obtain ⟨i,j,e,⟨q1,q2,q3,q4⟩,q⟩:=q1
 subst e
 cases r1 with
 | cons r rr =>
  cases rr with
  | cons r' rr =>
   cases rr
   obtain ⟨t,rfl⟩:=r
   obtain ⟨t',rfl⟩:=r'
   exact call_range_2 (range_it I1 q1 q2 q3 q4 q)
def tFor (wi:TI) (g:TG) (tb:TS):TS:=fun D σ H=>wi σ H fun J H1=>∃ W:Nat->Nat->St->Hp->Prop,(∃ m,W 0 m σ H1)/\∀ i m σ H,W i m σ H ->
 (J.stop i H/\D.nx σ H) ∨ (J.go i H/\∃ N:St->Hp->Prop,(∀ σ' H',N σ' H'->∃ m',m' < m/\W (i + 1) m' σ' H')/\∀ x H',J.yld i H x H'->g x σ H' fun σ2 H2=>tb { D with nx:=N,ct:=N,bk:=D.nx } σ2 H2)
def pinsAt (fp:List Addr) (h:Heap):List (Addr × Obj):=fp.filterMap fun b=>(h.get? b).map fun o=>(b,o)
theorem mem_pinsAt {fp:List Addr}{h:Heap}{b:Addr}{o:Obj} (hb:b ∈ fp) (e:h.get? b=some o):(b,o) ∈ pinsAt fp h:=List.mem_filterMap.mpr ⟨b,hb,by rw [e]; rfl⟩
theorem of_pinsAt {fp:List Addr}{h:Heap}{p:Addr × Obj} (hp:p ∈ pinsAt fp h):p.1 ∈ fp/\h.get? p.1=some p.2:=by
 obtain ⟨b,hb,e⟩:=List.mem_filterMap.mp hp
 cases q:h.get? b with
 | none=>rw [q] at e; cases e
 | some o =>
  rw [q] at e
  have e':(b,o)=p:=Option.some.inj e
  subst e'
  exact ⟨hb,q⟩
theorem Inv.pinned {pins:List (Addr × Obj)}{σ:St}{H:Hp}{s:Shared}{fp:List Addr} (I:Inv X pins σ H s) (hf:∀ b ∈ fp,FpOk X pins H b) (ho:∀ b ∈ fp,∃ o,s.heap.get? b=some o/\∀ v,o.data ≠ .cell v):Inv X (pins ++ pinsAt fp s.heap) σ H s :=
 I.pins_of fun p hp=>(List.mem_append.mp hp).elim (fun z=>I.pin p (List.mem_append_right _ z)) fun z=>by
  obtain ⟨hb,e⟩:=of_pinsAt z
  obtain ⟨f0,f1,f2,_⟩:=hf p.1 hb
  obtain ⟨o,e',d⟩:=ho p.1 hb
  rw [e] at e'; cases e'
  exact ⟨e,f0,f1,f2,d⟩
theorem Inv.unpinned {pins pl:List (Addr × Obj)}{σ:St}{H:Hp}{s:Shared} (I:Inv X (pins ++ pl) σ H s):Inv X pins σ H s:=I.pins_of fun p hp=>I.pin p (List.mem_append_right _ (List.mem_append_left _ hp))
theorem ps_for {iter:Expr}{body:List Stmt}{wi:TI}{g:TG}{tb:TS}{pos:Pos} (hp:PassesOwn (model X.prog X.w) X.A X.env X.xe) (hc:X.calm=true) (hi:PI X tg iter wi) (hg:PG X tg g) (hb:PSs X body tb)
  (hs:∀ x,foldedSetIterable iter X.env x=pure x:=by intro _; rfl):PS X (.For tg iter body [] pos) (tFor wi g tb):=by
 intro pins s σ H D I h
 refine wpAny_For (thn (hi pins s σ H _ I h) fun v s1 h1=>thn h1 fun itv s2 h2=>?_) hs
 obtain ⟨it,fp,tn,J,H2,e,I2,T,st2,f2,W,⟨m0,w0⟩,turn⟩:=h2
 subst e
 have stat:∀ {H':Hp},(∀ b ∈ fp,H' b=none)->∀ b ∈ fp,FpOk X pins H' b:=fun hn b hb=>⟨hn b hb,(f2 b hb).2⟩
 refine codeAny_forLoop_any (fun n s'=>∃ i σ' H',Inv X pins σ' H' s'/\tn i s'.heap/\(∀ b ∈ fp,H' b=none)/\W i n σ' H') ?_ m0 ⟨0,σ,H2,I2,st2,fun b hb=>(f2 b hb).1,w0⟩
 rintro n s3 ⟨i,σ3,H3,I3,st3,fr3,w3⟩
 rcases turn i n σ3 H3 w3 with ⟨stop,qn⟩ | ⟨go,N,hN,step⟩
 ·refine wpAny_passesOwn hp (thn (T.done X rfl rfl rfl hc i pins s3 σ3 H3 X.xe I3 (stat fr3) st3 stop) fun r s4 ⟨hr,I4⟩=>?_)
  subst hr
  exact wpAny_execs_nil ⟨σ3,H3,I4,qn⟩
 ·refine wpAny_passesOwn hp (thn (T.item X rfl rfl rfl hc i pins s3 σ3 H3 X.xe I3 (stat fr3) st3 go) fun r s4 ⟨u,hr,h4⟩=>?_)
  subst hr
  refine wpAny_passesOwn hp (thn h4 fun _ s5 ⟨x,H5,I5,r5,y5,st5,fr5⟩=>?_)
  have I5' := I5.pinned (stat fr5) (T.obj _ _ st5)
  refine wpAny_passesOwn hp (thn (hg _ s5 σ3 H5 x u _ I5' r5 (step x H5 y5)) fun _ s6 ⟨σ6,H6,I6,q6⟩=>?_)
  refine wpAny_passesOwn hp (thn (hb _ s6 σ6 H6 _ I6 q6) fun f s7 q7=>?_)
  have again:∀ {σ7:St}{H7:Hp},Inv X (pins ++ pinsAt fp s5.heap) σ7 H7 s7->N σ7 H7->∃ m,m < n/\∃ i σ' H',Inv X pins σ' H' s7/\tn i s7.heap/\(∀ b ∈ fp,H' b=none)/\W i m σ' H' := fun {σ7 H7} I7 n7=>by
   obtain ⟨m',hm,w7⟩:=hN σ7 H7 n7
   refine ⟨m',hm,i + 1,σ7,H7,I7.unpinned,T.keep _ _ _ st5 fun b hb o e=>(I7.pin (b,o) (List.mem_append_right _ (List.mem_append_right _ (mem_pinsAt hb e)))).1,fun b hb=>?_,w7⟩
   obtain ⟨o,e,d⟩:=T.obj _ _ st5 b hb
   exact (I7.pin (b,o) (List.mem_append_right _ (List.mem_append_right _ (mem_pinsAt hb e)))).2.1
  cases f with
  | next=>obtain ⟨σ7,H7,I7,n7⟩:=q7; exact again I7 n7
  | cont=>obtain ⟨σ7,H7,I7,n7⟩:=q7; exact again I7 n7
  | brk=>obtain ⟨σ7,H7,I7,q7⟩:=q7; exact ⟨σ7,H7,I7.unpinned,q7⟩
  | ret v=>obtain ⟨x7,σ7,H7,I7,r7,q7⟩:=q7; exact ⟨x7,σ7,H7,I7.unpinned,r7,q7⟩
end
abbrev R2:=V->V->Hp->VK->Prop
def OpR (X:Cx) (f:Value->Value->Sem Value) (r:R2):Prop :=
 ∀ (pins:List (Addr × Obj)) (s:Shared) (σ:St) (H:Hp) (x y:V) (v u:Value) (Q:VK),Inv X pins σ H s->RelV x v->RelV y u->r x y H Q ->
  wpAny (model X.prog X.w) X.A (f v u) (EP X pins σ Q) X.xe s
def UnR (X:Cx) (f:Value->Sem Value) (r:V->Hp->VK->Prop):Prop :=
 ∀ (pins:List (Addr × Obj)) (s:Shared) (σ:St) (H:Hp) (x:V) (v:Value) (Q:VK),Inv X pins σ H s->RelV x v->r x H Q ->
  wpAny (model X.prog X.w) X.A (f v) (EP X pins σ Q) X.xe s
def CallR (X:Cx) (f:Value) (r:List V->Hp->VK->Prop):Prop :=
 ∀ (pins:List (Addr × Obj)) (s:Shared) (σ:St) (H:Hp) (xs:List V) (us:List Value) (Q:VK),Inv X pins σ H s->Vals xs us->r xs H Q ->
  wpAny (model X.prog X.w) X.A (call f us) (EP X pins σ Q) X.xe s
def TruR (X:Cx) (r:V->Hp->(Bool->Hp->Prop)->Prop):Prop :=
 ∀ (pins:List (Addr × Obj)) (s:Shared) (σ:St) (H:Hp) (x:V) (v:Value) (Q:Bool->Hp->Prop),Inv X pins σ H s->RelV x v->r x H Q ->
  wpAny (model X.prog X.w) X.A (truthy v) (TP X pins σ Q) X.xe s
def tOp (r:R2) (ta tb:TE):TE:=fun σ H Q=>ta σ H fun x H1=>tb σ H1 fun y H2=>r x y H2 Q
def tUn (r:V->Hp->VK->Prop) (ta:TE):TE:=fun σ H Q=>ta σ H fun x H1=>r x H1 Q
def rI (C:Int->Int->Prop) (g:Int->Int->V):R2:=fun x y H Q=>∃ i j,x=.int i/\y=.int j/\C i j/\Q (g i j) H
def rI0 (g:Int->Int->V):R2:=fun x y H Q=>∃ i j,x=.int i/\y=.int j/\Q (g i j) H
def rU (g:Int->V):V->Hp->VK->Prop:=fun x H Q=>∃ i,x=.int i/\Q (g i) H
section
variable {X:Cx}{a b c:Expr}{ta tb tc:TE}{pos:Pos}
theorem binT (ha:PE X a ta) (hb:PE X b tb) {pins:List (Addr × Obj)}{s:Shared}{σ:St}{H:Hp}{R:V->V->Hp->Prop} (I:Inv X pins σ H s)
  (h:ta σ H fun x H1=>tb σ H1 fun y H2=>R x y H2) {Q:Value->Shared->Prop}{f:Value->Value->Sem Value}
  (hf:∀ v u s2 x y H2,Inv X pins σ H2 s2->RelV x v->RelV y u->R x y H2->wpAny (model X.prog X.w) X.A (f v u) Q X.xe s2) :
  wpAny (model X.prog X.w) X.A (eval a X.env) (fun v s₁=>wpAny (model X.prog X.w) X.A (eval b X.env) (fun u s₂=>wpAny (model X.prog X.w) X.A (f v u) Q X.xe s₂) X.xe s₁) X.xe s:=by
 refine thn (ha pins s σ H _ I h) fun v s1 hq5=>L2.ex5 hq5 fun x H1 I1 r1 q1=>?_
 refine thn (hb pins s1 σ H1 _ I1 q1) fun u s2 hq5=>L2.ex5 hq5 fun y H2 I2 r2 q2=>?_
 exact hf v u s2 x y H2 I2 r1 r2 q2
theorem pe_op {op:Operator}{r:R2} (ho:OpR X (binaryOp op) r) (ha:PE X a ta) (hb:PE X b tb):PE X (.BinOp a op b pos) (tOp r ta tb):=by
 intro pins s σ H Q I h
 exact wpAny_BinOp (binT ha hb I h fun v u s2 x y H2 I2 rx ry q=>ho pins s2 σ H2 x y v u Q I2 rx ry q)
theorem pe_un {op:UnaryOp}{r:V->Hp->VK->Prop} (ho:UnR X (unaryOp op) r) (ha:PE X a ta):PE X (.UnaryOp op a pos) (tUn r ta):=by
 intro pins s σ H Q I h
 exact UnaryOp_ (thn (ha pins s σ H _ I h) fun v s1 hq5=>L2.ex5 hq5 fun x H1 I1 r1 q1=>ho pins s1 σ H1 x v Q I1 r1 q1)
theorem opI {f:Value->Value->Sem Value}{C:Int->Int->Prop}{g:Int->Int->Int}
  (rule:∀ (i j:Int) (t u:Tok) (s:Shared) (Q:Value->Shared->Prop) (E:Value->Shared->Prop),C i j->Q (.int (g i j) s.toks) { s with toks:=s.toks + 1 }->wpAny (model X.prog X.w) X.A (f (.int i t) (.int j u)) Q E s) :
  OpR X f (rI C fun i j=>.int (g i j)):=by
 intro pins s σ H x y v u Q I rx ry h
 obtain ⟨i,j,rfl,rfl,hc,q⟩:=h
 obtain ⟨t,rfl⟩:=rx
 obtain ⟨t',rfl⟩:=ry
 exact rule i j t t' s _ _ hc ⟨.int (g i j),H,I.tok _,⟨_,rfl⟩,q⟩
theorem opI0 {f:Value->Value->Sem Value}{g:Int->Int->Int}
  (rule:∀ (i j:Int) (t u:Tok) (s:Shared) (Q:Value->Shared->Prop) (E:Value->Shared->Prop),Q (.int (g i j) s.toks) { s with toks:=s.toks + 1 }->wpAny (model X.prog X.w) X.A (f (.int i t) (.int j u)) Q E s) :
  OpR X f (rI0 fun i j=>.int (g i j)):=by
 intro pins s σ H x y v u Q I rx ry h
 obtain ⟨i,j,rfl,rfl,q⟩:=h
 obtain ⟨t,rfl⟩:=rx
 obtain ⟨t',rfl⟩:=ry
 exact rule i j t t' s _ _ ⟨.int (g i j),H,I.tok _,⟨_,rfl⟩,q⟩
theorem opB0 {f:Value->Value->Sem Value}{g:Int->Int->Bool}
  (rule:∀ (i j:Int) (t u:Tok) (s:Shared) (Q:Value->Shared->Prop) (E:Value->Shared->Prop),Q (.bool (g i j)) s->wpAny (model X.prog X.w) X.A (f (.int i t) (.int j u)) Q E s) :
  OpR X f (rI0 fun i j=>.bl (g i j)):=by
 intro pins s σ H x y v u Q I rx ry h
 obtain ⟨i,j,rfl,rfl,q⟩:=h
 obtain ⟨t,rfl⟩:=rx
 obtain ⟨t',rfl⟩:=ry
 exact rule i j t t' s _ _ ⟨.bl (g i j),H,I,rfl,q⟩
def CDiv (i j:Int):Prop:=0 < j/\j < 1073741824
def CPow (i j:Int):Prop:=0 <= j/\j <= 1000000/\i.natAbs < 2 ^ 64
def CMul (i j:Int):Prop:=(-(2 ^ 64) < i/\i < 2 ^ 64) ∨ (-(2 ^ 64) < j/\j < 2 ^ 64)
theorem CMul.ok {i j:Int} (h:CMul i j):IntMulOk i j:=by
 rcases h with ⟨h1,h2⟩ | ⟨h1,h2⟩
 ·exact .of_left (intBits_le_64 h1 h2)
 ·exact .of_right (intBits_le_64 h1 h2)
theorem two_pow_nn (k:Nat):(0:Int) <= 2 ^ k:=by
 rw [two_pow_cast]
 exact Int.natCast_nonneg _
theorem op_add:OpR X (binaryOp .Add) (rI0 fun i j=>.int (i + j)):=opI0 fun _ _ _ _ _ _ _ q=>add_int q
theorem op_sub:OpR X (binaryOp .Sub) (rI0 fun i j=>.int (i - j)):=opI0 fun _ _ _ _ _ _ _ q=>sub_int q
theorem op_fdiv:OpR X (binaryOp .FloorDiv) (rI CDiv fun i j=>.int (i / j)):=opI fun i j _ _ _ _ _ hc q=>by
 have h1:(0:Int) < j:=hc.1
 have h2:j < 1073741824:=hc.2
 exact floordiv_int (by omega) (by rw [Int.fdiv_eq_ediv_of_nonneg i (by omega)]; exact q) (.inl (PyProof.noPylong_small (by omega)))
theorem op_mod:OpR X (binaryOp .Mod) (rI (fun _ j=>0 < j) fun i j=>.int (i % j)):=opI fun i j _ _ _ _ _ hc q=>by
 have h1:(0:Int) < j:=hc
 exact mod_int' (by omega) (by rw [Int.fmod_eq_emod_of_nonneg i (by omega)]; exact q)
theorem op_pow:OpR X (binaryOp .Pow) (rI CPow fun i j=>.int (i ^ j.toNat)):=opI fun _ _ _ _ _ _ _ hc q=>pow_int_small hc.1 hc.2.1 hc.2.2 q
theorem op_shl:OpR X (binaryOp .LShift) (rI CPow fun i j=>.int (i * 2 ^ j.toNat)):=opI fun _ _ _ _ _ _ _ hc q=>lshift_int_small hc.1 hc.2.1 hc.2.2 q
theorem op_shr:OpR X (binaryOp .RShift) (rI (fun _ j=>0 <= j) fun i j=>.int (i / 2 ^ j.toNat)):=opI fun i j _ _ _ _ _ hc q =>
 rshift_int hc (by rw [Int.fdiv_eq_ediv_of_nonneg i (two_pow_nn _)]; exact q)
theorem op_and:OpR X (binaryOp .BitAnd) (rI0 fun i j=>.int (Builtin.bitAnd i j)):=opI0 fun _ _ _ _ _ _ _ q=>and_int q
theorem unI {f:Value->Sem Value}{g:Int->Int}
  (rule:∀ (i:Int) (t:Tok) (s:Shared) (Q:Value->Shared->Prop) (E:Value->Shared->Prop),Q (.int (g i) s.toks) { s with toks:=s.toks + 1 }->wpAny (model X.prog X.w) X.A (f (.int i t)) Q E s) :
  UnR X f (rU fun i=>.int (g i)):=by
 intro pins s σ H x v Q I rx h
 obtain ⟨i,rfl,q⟩:=h
 obtain ⟨t,rfl⟩:=rx
 exact rule i t s _ _ ⟨.int (g i),H,I.tok _,⟨_,rfl⟩,q⟩
theorem un_neg:UnR X (unaryOp .USub) (rU fun i=>.int (-i)):=unI fun _ _ _ _ _ q=>neg_int q
end
def scal:V->V->Bool
 | .non,.non=>true | .non,.int _=>true | .int _,.non=>true | .non,.bl _=>true | .bl _,.non=>true | .non,.str _=>true | .str _,.non=>true
 | .int _,.int _=>true | .bl _,.bl _=>true | .str _,.str _=>true | .byt _,.byt _=>true
 | .int _,.str _=>true | .str _,.int _=>true | .bl _,.str _=>true | .str _,.bl _=>true
 | _,_=>false
def rEq:R2:=fun x y H Q=>scal x y=true/\Q (.bl (decide (x=y))) H
def rNe:R2:=fun x y H Q=>scal x y=true/\Q (.bl (!decide (x=y))) H
theorem dec_int {i j:Int}:decide (V.int i=V.int j)=(i == j):=by
 rw [Bool.eq_iff_iff]
 simp
theorem dec_bl {i j:Bool}:decide (V.bl i=V.bl j)=(i == j):=by
 rw [Bool.eq_iff_iff]
 simp
theorem dec_str {i j:Str}:decide (V.str i=V.str j)=(i == j):=by
 rw [Bool.eq_iff_iff]
 simp
theorem dec_byt {i j:Array UInt8}:decide (V.byt i=V.byt j)=(i.toList == j.toList):=by
 rw [Bool.eq_iff_iff]
 cases i
 cases j
 simp
section
variable {X:Cx}{a b c:Expr}{ta tb tc:TE}{pos:Pos}
theorem fin_bl {pins:List (Addr × Obj)}{σ:St}{H:Hp}{s:Shared}{Q:VK}{k k':Bool} (I:Inv X pins σ H s) (q:Q (.bl k) H) (e:k=k'):EP X pins σ Q (.bool k') s:=by
 subst e
 exact ⟨.bl k,H,I,rfl,q⟩
theorem op_eq:OpR X (compareOp .Eq) rEq:=by
 intro pins s σ H x y v u Q I rx ry h
 obtain ⟨hs,q⟩:=h
 cases x with
 | non =>
  cases rx
  cases y with
  | non=>cases ry; exact PySem.EqNone.eq_none_none (fin_bl I q (by simp))
  | bl j=>cases ry; exact PySem.EqNone.eq_none_bool (fin_bl I q (by simp))
  | int j=>obtain ⟨t',rfl⟩:=ry; exact PySem.EqNone.eq_none_int (fin_bl I q (by simp))
  | str j=>obtain ⟨t',rfl⟩:=ry; exact PySem.EqNone.eq_none_str (fin_bl I q (by simp))
  | _=>exact absurd (show false=true from hs) Bool.false_ne_true
 | bl i =>
  cases rx
  cases y with
  | non=>cases ry; exact PySem.EqNone.eq_bool_none (fin_bl I q (by simp))
  | bl j=>cases ry; exact eq_bool (fin_bl I q dec_bl)
  | str j=>obtain ⟨t',rfl⟩:=ry; exact PySem.EqMixed.eq_bool_str (fin_bl I q (by simp))
  | _=>exact absurd (show false=true from hs) Bool.false_ne_true
 | int i =>
  obtain ⟨t,rfl⟩:=rx
  cases y with
  | non=>cases ry; exact PySem.EqNone.eq_int_none (fin_bl I q (by simp))
  | int j=>obtain ⟨t',rfl⟩:=ry; exact eq_int (fin_bl I q dec_int)
  | str j=>obtain ⟨t',rfl⟩:=ry; exact PySem.EqMixed.eq_int_str (fin_bl I q (by simp))
  | _=>exact absurd (show false=true from hs) Bool.false_ne_true
 | str i =>
  obtain ⟨t,rfl⟩:=rx
  cases y with
  | non=>cases ry; exact PySem.EqNone.eq_str_none (fin_bl I q (by simp))
  | bl j=>cases ry; exact PySem.EqMixed.eq_str_bool (fin_bl I q (by simp))
  | int j=>obtain ⟨t',rfl⟩:=ry; exact PySem.EqMixed.eq_str_int (fin_bl I q (by simp))
  | str j=>obtain ⟨t',rfl⟩:=ry; exact eq_str (fin_bl I q dec_str)
  | _=>exact absurd (show false=true from hs) Bool.false_ne_true
 | byt i =>
  obtain ⟨t,rfl⟩:=rx
  cases y with
  | byt j=>obtain ⟨t',rfl⟩:=ry; exact PySem.W.eq_bytes (fin_bl I q dec_byt)
  | _=>exact absurd (show false=true from hs) Bool.false_ne_true
 | _=>cases y <;> exact absurd (show false=true from hs) Bool.false_ne_true
theorem op_ne:OpR X (compareOp .NotEq) rNe:=by
 intro pins s σ H x y v u Q I rx ry h
 obtain ⟨hs,q⟩:=h
 cases x with
 | non =>
  cases rx
  cases y with
  | non=>cases ry; exact PySem.EqNone.ne_none_none (fin_bl I q (by simp))
  | bl j=>cases ry; exact PySem.EqNone.ne_none_bool (fin_bl I q (by simp))
  | int j=>obtain ⟨t',rfl⟩:=ry; exact PySem.EqNone.ne_none_int (fin_bl I q (by simp))
  | str j=>obtain ⟨t',rfl⟩:=ry; exact PySem.EqNone.ne_none_str (fin_bl I q (by simp))
  | _=>exact absurd (show false=true from hs) Bool.false_ne_true
 | bl i =>
  cases rx
  cases y with
  | non=>cases ry; exact PySem.EqNone.ne_bool_none (fin_bl I q (by simp))
  | bl j=>cases ry; exact ne_bool (fin_bl I q (congrArg not dec_bl))
  | str j=>obtain ⟨t',rfl⟩:=ry; exact PySem.EqMixed.ne_bool_str (fin_bl I q (by simp))
  | _=>exact absurd (show false=true from hs) Bool.false_ne_true
 | int i =>
  obtain ⟨t,rfl⟩:=rx
  cases y with
  | non=>cases ry; exact PySem.EqNone.ne_int_none (fin_bl I q (by simp))
  | int j=>obtain ⟨t',rfl⟩:=ry; exact ne_int (fin_bl I q (congrArg not dec_int))
  | str j=>obtain ⟨t',rfl⟩:=ry; exact PySem.EqMixed.ne_int_str (fin_bl I q (by simp))
  | _=>exact absurd (show false=true from hs) Bool.false_ne_true
 | str i =>
  obtain ⟨t,rfl⟩:=rx
  cases y with
  | non=>cases ry; exact PySem.EqNone.ne_str_none (fin_bl I q (by simp))
  | bl j=>cases ry; exact PySem.EqMixed.ne_str_bool (fin_bl I q (by simp))
  | int j=>obtain ⟨t',rfl⟩:=ry; exact PySem.EqMixed.ne_str_int (fin_bl I q (by simp))
  | str j=>obtain ⟨t',rfl⟩:=ry; exact ne_str (fin_bl I q (congrArg not dec_str))
  | _=>exact absurd (show false=true from hs) Bool.false_ne_true
 | byt i =>
  obtain ⟨t,rfl⟩:=rx
  cases y with
  | byt j=>obtain ⟨t',rfl⟩:=ry; exact PySem.W.ne_bytes (fin_bl I q (congrArg not dec_byt))
  | _=>exact absurd (show false=true from hs) Bool.false_ne_true
 | _=>cases y <;> exact absurd (show false=true from hs) Bool.false_ne_true
theorem op_lt:OpR X (compareOp .Lt) (rI0 fun i j=>.bl (decide (i < j))):=opB0 fun _ _ _ _ _ _ _ q=>lt_int q
theorem op_gt:OpR X (compareOp .Gt) (rI0 fun i j=>.bl (decide (j < i))):=opB0 fun _ _ _ _ _ _ _ q=>gt_int q
theorem nomark (b:Expr) {op:CmpOp} (h:op ≠ .In:=by decide) (h2:op ≠ .NotIn:=by decide):behindInMarks op b=false:=by
 have e1:(op == CmpOp.In)=false:=by cases op <;> first | rfl | exact absurd rfl h
 have e2:(op == CmpOp.NotIn)=false:=by cases op <;> first | rfl | exact absurd rfl h2
 cases b <;> simp [behindInMarks,e1,e2]
theorem pe_cmpR {op:CmpOp}{r:R2} (ho:OpR X (compareOp op) r) (ha:PE X a ta) (hb:PE X b tb) (hm:behindInMarks op b=false):PE X (.Compare a [op] [b] pos) (tOp r ta tb):=by
 intro pins s σ H Q I h
 exact wpAny_Compare1 (binT ha hb I h fun v u s2 x y H2 I2 rx ry q=>ho pins s2 σ H2 x y v u Q I2 rx ry q) hm
def tTest (t:TE):TT:=fun σ H Q=>t σ H fun x H'=>∃ k,x=.bl k/\Q k H'
theorem pt_cmpR {op:CmpOp}{r:R2} (ho:OpR X (compareOp op) r) (ha:PE X a ta) (hb:PE X b tb) (hm:behindInMarks op b=false):PT X (.Compare a [op] [b] pos) (tTest (tOp r ta tb)):=by
 intro pins s σ H Q I h
 refine wpAny_isTrue_Compare1 (thn (ha pins s σ H _ I h) fun v s1 hq5=>L2.ex5 hq5 fun x H1 I1 r1 q1=>thn (hb pins s1 σ H1 _ I1 q1) fun u s2 hq5=>L2.ex5 hq5 fun y H2 I2 r2 q2 =>
  thn (ho pins s2 σ H2 x y v u _ I2 r1 r2 q2) fun c s3 ⟨z,H3,I3,r3,k,e,q3⟩=>?_) hm
 subst e
 cases r3
 exact wpAny_truthy_bool ⟨H3,I3,q3⟩
def tChain (r r':R2) (ta tb tc:TE):TE:=fun σ H Q=>ta σ H fun x H1=>tb σ H1 fun y H2=>r x y H2 fun z H3=>∃ k,z=.bl k /\
 (if k=true then tc σ H3 fun w' H4=>r' y w' H4 Q else Q (.bl false) H3)
theorem pt_chain {op op':CmpOp}{r r':R2} (ho:OpR X (compareOp op) r) (ho':OpR X (compareOp op') r') (ha:PE X a ta) (hb:PE X b tb) (hc:PE X c tc)
  (hm:lastMarks [op,op'] [b,c]=false:=by with_unfolding_all rfl):PT X (.Compare a [op,op'] [b,c] pos) (tTest (tChain r r' ta tb tc)):=by
 intro pins s σ H Q I h
 refine isTrue_chain (thn (ha pins s σ H _ I h) fun v s1 hq5=>L2.ex5 hq5 fun x H1 I1 r1 q1=>test_link (thn (hb pins s1 σ H1 _ I1 q1) fun u s2 hq5=>L2.ex5 hq5 fun y H2 I2 r2 q2 =>
  thn (ho pins s2 σ H2 x y v u _ I2 r1 r2 q2) fun d s3 ⟨z,H3,I3,r3,k,e,q3⟩=>?_)) hm
 subst e
 cases r3
 refine wpAny_truthy_bool ?_
 cases k with
 | false =>
  obtain ⟨k',e',q'⟩:=q3
  cases e'
  exact ite_ff ⟨H3,I3,q'⟩
 | true =>
  refine ite_tt (test_last (thn (hc pins s3 σ H3 _ I3 q3) fun w' s4 hq5=>L2.ex5 hq5 fun z' H4 I4 r4 q4=>thn (ho' pins s4 σ H4 y z' u w' _ I4 r2 r4 q4) fun d' s5 ⟨z2,H5,I5,r5,k2,e2,q5⟩=>?_))
  subst e2
  cases r5
  exact wpAny_truthy_bool ⟨H5,I5,q5⟩
def TruV (K:PySem.W.Frag) (x:V) (H:Hp) (k:Bool):Prop :=
 match x with
 | .non=>k=false
 | .bl b=>k=b
 | .int i=>k=(i != 0)
 | .str y=>y.length <= sizeLine/\k=((y.length:Int) != 0)
 | .byt y=>y.size <= sizeLine/\k=((y.size:Int) != 0)
 | .ref p=>(∃ xs,SqL K H p xs/\k = !xs.isEmpty) ∨ (∃ xs,SqT K H p xs/\k = !xs.isEmpty) ∨ ∃ kvs,H p=some (.dK kvs)/\k = !kvs.isEmpty
 | _=>False
theorem isEmpty_kv {κ:Type}{kvs:List (κ × V)}{vs:List (κ × Value)} (r:KV kvs vs):(!vs.isEmpty) = !kvs.isEmpty:=by
 cases r <;> rfl
theorem isEmpty_of {xs:List V}{its:List Value} (r:Vals xs its):(!its.toArray.isEmpty) = !xs.isEmpty:=by
 cases r <;> simp
theorem line63:(sizeLine:Nat) < 2 ^ 63:=by rw [sizeLine_eq]; decide
theorem tru_ok:TruR X (fun x H Q=>∃ k,TruV X.K x H k/\Q k H):=by
 intro pins s σ H x v Q I rx h
 obtain ⟨k,e,q⟩:=h
 have hl:=line63
 have hs:sizeLine=16777216:=sizeLine_eq
 cases x with
 | non =>
  cases rx
  have e':k=false:=e
  subst e'
  exact truthy_none ⟨H,I,q⟩
 | bl b =>
  cases rx
  have e':k=b:=e
  subst e'
  exact wpAny_truthy_bool ⟨H,I,q⟩
 | int i =>
  obtain ⟨t,rfl⟩:=rx
  have e':k=(i != 0):=e
  subst e'
  exact PySem.P.truthy_int ⟨H,I,q⟩
 | str y =>
  obtain ⟨t,rfl⟩:=rx
  obtain ⟨hy,e'⟩:y.length <= sizeLine/\k=((y.length:Int) != 0):=e
  subst e'
  exact PySem.P.truthy_str (by omega) ⟨H,I.tok _,q⟩
 | byt y =>
  obtain ⟨t,rfl⟩:=rx
  obtain ⟨hy,e'⟩:y.size <= sizeLine/\k=((y.size:Int) != 0):=e
  subst e'
  exact PySem.W.truthy_bytes (by omega) ⟨H,I.tok _,q⟩
 | ref p =>
  cases rx
  have e':(∃ xs,SqL X.K H p xs/\k = !xs.isEmpty) ∨ (∃ xs,SqT X.K H p xs/\k = !xs.isEmpty) ∨ ∃ kvs,H p=some (.dK kvs)/\k = !kvs.isEmpty:=e
  rcases e' with ⟨xs,hx,e'⟩ | ⟨xs,hx,e'⟩ | ⟨kvs,hx,e'⟩
  ·subst e'
   obtain ⟨its,r,pl,hz⟩:=I.list hx
   have hlen:=r.length
   exact wpAny_truthy_list pl.isList (by simp only [List.size_toArray]; omega) ⟨H,I.tok _,by rw [isEmpty_of r]; exact q⟩
  ·subst e'
   obtain ⟨its,r,pl,hz⟩:=I.tuple hx
   have hlen:=r.length
   exact truthy_tuple pl (by simp only [List.size_toArray]; omega) ⟨H,I.tok _,by rw [isEmpty_of r]; exact q⟩
  ·subst e'
   obtain ⟨hz,hS,vs,r,m⟩:kvs.length <= sizeLine/\(p == sysModules)=false/\∃ vs,KV kvs vs/\s.heap.DictOf (mixKind X.prog X.w) p vs:=I.hok p _ hx
   have hlen:kvs.length=vs.length:=Paired.length r
   exact wpAny_truthy_dict hS m (by omega) ⟨H,I.tok _,by rw [isEmpty_kv r]; exact q⟩
 | _=>exact (show False from e).elim
theorem pt_truth (ha:PE X a ta) (he:∀ whole,isTrue a X.env whole=(do let v <- whole; standAt a.pos; holding [v] (truthy v))) :
  PT X a (fun σ H Q=>ta σ H fun x H'=>∃ k,TruV X.K x H' k/\Q k H'):=by
 intro pins s σ H Q I h
 exact isTrue_plain (thn (ha pins s σ H _ I h) fun v s1 hq5=>L2.ex5 hq5 fun x H1 I1 r1 q1=>tru_ok pins s1 σ H1 x v Q I1 r1 q1) (he _)
theorem op_add_str:OpR X (binaryOp .Add) (fun x y H Q=>∃ i j,x=.str i/\y=.str j/\i.length + j.length <= sizeLine/\Q (.str (i ++ j)) H):=by
 intro pins s σ H x y v u Q I rx ry h
 obtain ⟨i,j,rfl,rfl,hz,q⟩:=h
 obtain ⟨t,rfl⟩:=rx
 obtain ⟨t',rfl⟩:=ry
 exact add_str (fun t' tk=>⟨.str (i ++ j),H,I.tok _,⟨_,rfl⟩,q⟩) hz
theorem vals1 {x:V}{us:List Value} (r:Vals [x] us):∃ u,us=[u]/\RelV x u:=by
 cases r with
 | cons r1 r2=>cases r2; exact ⟨_,rfl,r1⟩
theorem vals2 {x y:V}{us:List Value} (r:Vals [x,y] us):∃ u w',us=[u,w']/\RelV x u/\RelV y w' := by
 cases r with
 | cons r1 r2 =>
  cases r2 with
  | cons r3 r4=>cases r4; exact ⟨_,_,rfl,r1,r3⟩
theorem call_max2 (hc:X.calm=true):CallR X (.builtin "max") (fun xs H Q=>∃ i j,xs=[.int i,.int j]/\Q (.int (if j > i then j else i)) H):=by
 intro pins s σ H xs us Q I r h
 obtain ⟨i,j,rfl,q⟩:=h
 obtain ⟨u,w',rfl,⟨t,rfl⟩,⟨t',rfl⟩⟩:=vals2 r
 refine max_two_ints (I.ok.hd hc) fun h' tk k=>⟨_,H,I.kept k,?_,q⟩
 by_cases hj:j > i
 ·rw [if_pos hj,if_pos hj]; exact ⟨_,rfl⟩
 ·rw [if_neg hj,if_neg hj]; exact ⟨_,rfl⟩
theorem call_min2 (hc:X.calm=true):CallR X (.builtin "min") (fun xs H Q=>∃ i j,xs=[.int i,.int j]/\Q (.int (if j < i then j else i)) H):=by
 intro pins s σ H xs us Q I r h
 obtain ⟨i,j,rfl,q⟩:=h
 obtain ⟨u,w',rfl,⟨t,rfl⟩,⟨t',rfl⟩⟩:=vals2 r
 refine min_two_ints (I.ok.hd hc) fun h' tk k=>⟨_,H,I.kept k,?_,q⟩
 by_cases hj:j < i
 ·rw [if_pos hj,if_pos hj]; exact ⟨_,rfl⟩
 ·rw [if_neg hj,if_neg hj]; exact ⟨_,rfl⟩
theorem call_int1:CallR X (.type "int") (fun xs H Q=>(∃ i,xs=[.int i]/\Q (.int i) H) ∨ ∃ k,xs=[.bl k]/\Q (.int (if k then 1 else 0)) H):=by
 intro pins s σ H xs us Q I r h
 rcases h with ⟨i,rfl,q⟩ | ⟨k,rfl,q⟩
 ·obtain ⟨u,rfl,t,rfl⟩:=vals1 r
  exact call_int_int ⟨.int i,H,I,⟨_,rfl⟩,q⟩
 ·obtain ⟨u,rfl,r1⟩:=vals1 r
  cases r1
  exact call_int_bool ⟨.int (if k then 1 else 0),H,I.tok _,⟨_,rfl⟩,q⟩
end
structure ObjM (h:Heap) (x dx C:Addr) (mA:Str->Option Value):Prop where
 obj:h.get? x=some (PySem.W.instObj C dx)
 ns:h.Ns1 dx mA
 ne:dx ≠ x
theorem lookIn_ns {h:Heap}{dx:Addr}{mA:Str->Option Value} (n:h.Ns1 dx mA):∃ od,h.get? dx=some od/\∀ name,PySem.W.lookIn name od=some (mA name):=by
 obtain ⟨o,es,ep,ho,hd,hk,_,hm⟩:=n
 refine ⟨o,ho,fun name=>?_⟩
 have e:=hm name
 unfold nsFind findBy at e
 rw [<- Array.find?_toList] at e
 unfold PySem.W.lookIn
 rw [hd]
 dsimp only
 split
 ·rename_i y q
  rw [q] at e
  exact congrArg some e
 ·rename_i q
  rw [q] at e
  have a:es.toList.any (·.refKey)=false:=by
   rw [List.any_eq_false]
   intro y hy
   obtain ⟨z,t,hkey⟩:=hk y (Array.mem_toList_iff.mp hy)
   simp [DictEntry.refKey,hkey]
  have a':¬ es.toList.any (·.refKey)=true:=by rw [a]; exact Bool.false_ne_true
  rw [if_neg a']
  exact congrArg some e
theorem ObjM.look {h:Heap}{x dx C:Addr}{mA:Str->Option Value} (I:ObjM h x dx C mA):∃ od,PySem.W.InstAt h x (PySem.W.instObj C dx) C (some od)/\∀ name,PySem.W.lookIn name od=some (mA name) :=
 let ⟨od,ho,hl⟩:=lookIn_ns I.ns
 ⟨od,⟨I.obj,rfl,rfl,ho⟩,hl⟩
section
variable {prog:Program}{w:World}{A:Around}{E:Value->Shared->Prop}{s:Shared}{K:PySem.W.Frag}{x dx C f:Addr}{mA:Str->Option Value}{name:Str}{v:Value}
end
theorem RelO.some_of {v:V}{o:Option Value} (r:RelO (some v) o):∃ u,o=some u/\RelV v u:=by
 cases o with
 | none=>exact (show False from r).elim
 | some u=>exact ⟨u,rfl,r⟩
section
variable {P:Program}{w:World}{H H':Hp}{h h':Heap}{a C dx:Addr}{fs fs':List (Str × V)}
theorem ins_get (hok:HOk P w H h) (e:H a=some (.ins C dx fs)):∃ mA,ObjM h a dx C mA/\(∀ f,RelO (fs.lookup f) (mA f))/\PySem.Within mA (fs.map (·.1))/\fs.length <= 1000/\H dx=some (.own a):=by
 obtain ⟨d,z,ne,ob,mA,n,r,q⟩:=(show ObjOk P w H h a (.ins C dx fs) from hok a _ e)
 exact ⟨mA,⟨ob,n,ne⟩,r,q,z,d⟩
end
structure Cls (K:PySem.W.Frag) (C:Addr):Prop where
 pg:PySem.W.plainGet K C Str.empty=true
 hd:PySem.W.hasDictIn K C=true
 po:PySem.W.plainOver K C=true
 sa:PySem.W.findIn K (.ref C) "__setattr__" = some (some (.builtin "object.__setattr__"))
theorem Cls.get {K:PySem.W.Frag}{C:Addr} (c:Cls K C) (f:Str):PySem.W.plainGet K C f=true:=c.pg
section
variable {X:Cx}{pins:List (Addr × Obj)}{σ:St}{H:Hp}{s:Shared}{a C dx:Addr}{fs:List (Str × V)}{f:Str}{v:V}{A:Around}{E:Value->Shared->Prop}
end
section
variable {X:Cx}{o e value:Expr}{f:Str}{pos pos' tpos:Pos}{ta tv:TE}
end
section
variable {X:Cx}{pins:List (Addr × Obj)}{σ:St}{H:Hp}{s:Shared}{A:Around}{E:Value->Shared->Prop}{Q:Value->Shared->Prop}{c:Value}{b:Bool}
inductive TyOf (K:PySem.W.Frag) (H:Hp):V->Value->Prop where
 | non:TyOf K H .non (.type "NoneType")
 | bl (x:Bool):TyOf K H (.bl x) (.type "bool")
 | int (i:Int):TyOf K H (.int i) (.type "int")
 | str (x:Str):TyOf K H (.str x) (.type "str")
 | flt (x:UInt64):TyOf K H (.flt x) (.type "float")
 | lst {a:Addr}{xs:List V} (e:H a=some (.lst xs)):TyOf K H (.ref a) (.type "list")
 | frz {a:Addr}{o:Obj}{xs:List V} (e:H a=some (.frz o (.lst xs))):TyOf K H (.ref a) (.type "list")
 | tup {a:Addr}{xs:List V} (e:H a=some (.tup xs)):TyOf K H (.ref a) (.type "tuple")
 | dK {a:Addr}{kvs:List (Key × V)} (e:H a=some (.dK kvs)):TyOf K H (.ref a) (.type "dict")
 | dT {a:Addr}{kvs:List (List Key × V)} (e:H a=some (.dT kvs)):TyOf K H (.ref a) (.type "dict")
 | ins {a C dx:Addr}{fs:List (Str × V)} (e:H a=some (.ins C dx fs)) (cl:Cls K C) (ha:PySem.W.findIn K (.ref C) "__class__" = some (some (.builtin "object.__class__")))
   (hn:PySem.W.specialIn K (.builtin "object.__class__") "__get__" = some (some (.builtin "getset_descriptor.__get__"))) (htk:PySem.W.takesIn K (.builtin "object.__class__")=some true)
   (hm:PySem.W.mroIn K C (.type "object")=some true):TyOf K H (.ref a) (.ref C)
theorem isinst_ok {x:V}{u t:Value} (I:Inv X pins σ H s) (rx:RelV x u) (ty:TyOf X.K H x t) (e:PySem.W.kitOne X.K t c=some b) (h:∀ tk,Q (.bool b) { s with toks:=tk }) :
  wpAny (model X.prog X.w) A (call (.builtin "isinstance") [u,c]) Q E s:=by
 cases ty with
 | non=>cases (show u=Value.none from rx); exact PySem.W.kia_one PySem.W.kitx_none I.kIn True.intro e (fun z=>nomatch z) h
 | bl y=>cases (show u=Value.bool y from rx); exact PySem.W.kia_one PySem.W.kitx_bool I.kIn True.intro e (fun z=>nomatch z) h
 | int i=>obtain ⟨t,q⟩:=(show ∃ t,u=Value.int i t from rx); cases q; exact PySem.W.kia_one PySem.W.kitx_int I.kIn True.intro e (fun z=>nomatch z) h
 | str y=>obtain ⟨t,q⟩:=(show ∃ t,u=Value.str y t from rx); cases q; exact PySem.W.kia_one PySem.W.kitx_str I.kIn True.intro e (fun z=>nomatch z) h
 | flt y=>obtain ⟨t,q⟩:=(show ∃ t,u=Value.float y t from rx); cases q; exact PySem.W.kia_one PySem.W.kitx_float I.kIn True.intro e (fun z=>nomatch z) h
 | @lst a xs ea =>
  cases (show u=Value.ref a from rx)
  obtain ⟨_,_,n,_,h1⟩:=(show ObjOk X.prog X.w H s.heap a (.lst xs) from I.hok a _ ea)
  exact PySem.W.kia_one PySem.W.kitx_list I.kIn ⟨_,h1,rfl⟩ e (fun z=>nomatch z) h
 | @frz a ob xs ea =>
  cases (show u=Value.ref a from rx)
  obtain ⟨_,_,_,n,_,h1⟩:=(show ObjOk X.prog X.w H s.heap a (.frz ob (.lst xs)) from I.hok a _ ea)
  exact PySem.W.kia_one PySem.W.kitx_list I.kIn ⟨_,h1,rfl⟩ e (fun z=>nomatch z) h
 | @tup a xs ea =>
  cases (show u=Value.ref a from rx)
  obtain ⟨_,_,_,p⟩:=(show ObjOk X.prog X.w H s.heap a (.tup xs) from I.hok a _ ea)
  obtain ⟨o,h1,h2,_⟩:=p.is
  exact PySem.W.kia_one PySem.W.kitx_tuple I.kIn ⟨o,h1,h2⟩ e (fun z=>nomatch z) h
 | @dK a kvs ea =>
  cases (show u=Value.ref a from rx)
  obtain ⟨_,_,vs,_,p⟩:=(show ObjOk X.prog X.w H s.heap a (.dK kvs) from I.hok a _ ea)
  obtain ⟨o,es,ep,h1,h2,_⟩:=p
  exact PySem.W.kia_one PySem.W.kitx_dict I.kIn ⟨o,h1,h2.1⟩ e (fun z=>nomatch z) h
 | @dT a kvs ea =>
  cases (show u=Value.ref a from rx)
  obtain ⟨_,_,xs,_,o,es,ep,h1,h2,_⟩:=(show ObjOk X.prog X.w H s.heap a (.dT kvs) from I.hok a _ ea)
  exact PySem.W.kia_one PySem.W.kitx_dict I.kIn ⟨o,h1,h2.1⟩ e (fun z=>nomatch z) h
 | @ins a C dx fs ea cl ha hn htk hm =>
  cases (show u=Value.ref a from rx)
  obtain ⟨mA,O,_⟩:=ins_get I.hok ea
  obtain ⟨od,J,_⟩:=O.look
  exact PySem.W.kia_one (PySem.W.kitx_own (cl.get _) cl.hd ha hn htk hm) I.kIn J e (fun z=>nomatch z) h
end
structure Room (k:Nat) (A:Around):Prop where
 hd:A.handled=none
 dp:A.depth + 3 * k + 5 < recursionLimit
 un:A.units + 16 * k + 200 < cLine
theorem Room.mono {j k:Nat}{A:Around} (r:Room k A) (h:j <= k):Room j A:=⟨r.hd,by have:=r.dp; omega,by have:=r.un; omega⟩
theorem Room.deeper {k:Nat}{A:Around} (r:Room (k + 1) A) (env:Env):Room k (A.deeper env) :=
 ⟨r.hd,by have:=r.dp; show A.depth + 1 + 3 * k + 5 < _; omega,by have:=r.un; show A.units + 3 + 16 * k + 200 < _; omega⟩
theorem Room.in1 {k:Nat}{A:Around} (r:Room (k + 1) A):Room k A.in1 :=
 ⟨r.hd,by have:=r.dp; show A.depth + 3 * k + 5 < _; omega,by have:=r.un; show A.units + 1 + 16 * k + 200 < _; omega⟩
theorem Room.depth {k:Nat}{A:Around} (r:Room k A):A.depth < recursionLimit:=by have:=r.dp; omega
theorem Room.units {k:Nat}{A:Around} (r:Room k A):A.units + 64 < cLine:=by have:=r.un; omega
def tNil:TA:=fun _ H Q=>Q [] H
def tCons (ta:TE) (tr:TA):TA:=fun σ H Q=>ta σ H fun x H1=>tr σ H1 fun xs H2=>Q (x :: xs) H2
section
variable {X:Cx}{e:Expr}{es:List Expr}{te:TE}{t:TA}{pos:Pos}
theorem pa_nil:PA X [] tNil:=fun _ _ _ _ H Q I h=>Calls.spliced_nil ⟨[],H,I,.nil,h⟩
theorem pa_cons (ha:PE X e te) (hr:PA X es t) (hs:starEach (e :: es) X.env=(false,eval e X.env) :: starEach es X.env:=by rfl):PA X (e :: es) (tCons te t):=by
 intro pos pins s σ H Q I h
 rw [hs]
 show wpAny _ _ (spliced ((false,eval e X.env) :: backTo pos (starEach es X.env))) _ _ s
 refine Calls.spliced_cons (thn (ha pins s σ H _ I h) fun u s1 hq5=>L2.ex5 hq5 fun x H1 I1 r1 q1=>?_)
 exact thn (hr pos pins s1 σ H1 _ I1 q1) fun us s2 hq5=>L2.ex5 hq5 fun xs H2 I2 r2 q2=>⟨x :: xs,H2,I2,.cons r1 r2,q2⟩
def tTup (t:TA):TE:=fun σ H Q=>t σ H fun xs H1=>xs.length <= sizeLine/\∀ p,H1 p=none->Q (.ref p) (upd H1 p (.tup xs))
def tLst (t:TA):TE:=fun σ H Q=>t σ H fun xs H1=>xs.length <= sizeLine/\∀ p,H1 p=none->Q (.ref p) (upd H1 p (.lst xs))
theorem pe_tup {x1} (h:PA X es t):PE X (.Tuple es x1 pos) (tTup t):=by
 intro pins s σ H Q I hq
 refine wpAny_Tuple_spliced (thn (h pos pins s σ H _ I hq) fun us s1 ⟨xs,H1,I1,r,z,q⟩=>⟨by rw [<- r.length]; exact z,?_⟩)
 have hf:H1 s1.heap.objs.size=none:=I1.hok.fresh (Nat.le_refl _)
 refine ⟨.ref s1.heap.objs.size,upd H1 s1.heap.objs.size (.tup xs),I1.laid (t' := s1.toks) (fun b u e=>Heap.get?_push_of_some _ e) (Nat.le_refl _) ?_,rfl,q _ hf⟩
 exact ⟨z,us,r,⟨_,Heap.get?_push_size _ rfl⟩⟩
theorem pe_lst (h:PA X es t):PE X (.List es pos) (tLst t):=by
 intro pins s σ H Q I hq
 refine wpAny_List_spliced (thn (h pos pins s σ H _ I hq) fun us s1 ⟨xs,H1,I1,r,z,q⟩=>⟨by rw [<- r.length]; exact z,?_⟩)
 have hf:H1 s1.heap.objs.size=none:=I1.hok.fresh (Nat.le_refl _)
 refine ⟨.ref s1.heap.objs.size,upd H1 s1.heap.objs.size (.lst xs),I1.laid (t' := s1.toks) (fun b u e=>Heap.get?_push_of_some _ e) (Nat.le_refl _) ?_,rfl,q _ hf⟩
 exact ⟨z,us,0,r,Heap.get?_push_size _ rfl⟩
end
abbrev Sp:=List V->Hp->VK->XK->Prop
abbrev CXT:=List Env->Hp->Shared->XK->Value->Shared->Prop
structure Env0 (P:Program) (w:World) (K:PySem.W.Frag) (mg:Str->Option Value) (base:Heap) (A:Around) (outer:List Env) (s:Shared) (H:Hp):Prop where
 frames:A.frames=some outer
 mod:Mod K mg base
 bs:∀ b o,base.get? b=some o->s.heap.get? b=some o/\H b=none
 bsz:base.objs.size <= s.heap.objs.size
 funs:s.heap.FunFrames base outer
 frf:∀ b ∈ frs outer,H b=none
 hok:HOk P w H s.heap
 bare:AllBare s.gens
def CE (outer:List Env) (P:Program) (w:World) (H:Hp) (s:Shared) (Q:VK) (u:Value) (s':Shared):Prop :=
 ∃ v H',s'.os=s.os/\AllBare s'.gens/\Un (frs outer) [] H H' s.heap s'.heap/\HOk P w H' s'.heap/\RelV v u/\Q v H'
def CR (CX:CXT) (outer:List Env) (P:Program) (w:World) (H:Hp) (s:Shared) (Q:VK) (E:XK) (r:Result) (s':Shared):Prop :=
 match r with
 | .ok (.ret u)=>CE outer P w H s Q u s'
 | .ok _=>False
 | .error e=>CX outer H s E e s'
structure FnOk (P:Program) (w:World) (K:PySem.W.Frag) (mg:Str->Option Value) (base:Heap) (CX:CXT) (k:Nat) (f:Addr) (fd:FuncData) (ps:List Str) (sp:Sp):Prop where
 len:∀ vs H Q E,sp vs H Q E->vs.length=ps.length
 run:∀ (A:Around) (outer:List Env) (s:Shared) (H:Hp) (args:Args) (us:List Value) (vs:List V) (Q:VK) (E:XK),Room k A->Env0 P w K mg base A outer s H->BindsTo s fd args (ps.zip us)->Vals vs us->sp vs H Q E ->
  codeAny (model P w) A (.call (.ref f) args) (CR CX outer P w H s Q E) s
theorem Env0.in1 {P:Program}{w:World}{K:PySem.W.Frag}{mg:Str->Option Value}{base:Heap}{A:Around}{outer:List Env}{s:Shared}{H:Hp} (e:Env0 P w K mg base A outer s H) :
  Env0 P w K mg base A.in1 outer s H:=⟨e.frames,e.mod,e.bs,e.bsz,e.funs,e.frf,e.hok,e.bare⟩
section
variable {X:Cx}{pins:List (Addr × Obj)}{σ:St}{H:Hp}{s s':Shared}
theorem Inv.env0 (I:Inv X pins σ H s):Env0 X.prog X.w X.K X.mg X.base X.A X.stack s H :=
 ⟨I.ok.frames,I.ok.mod,I.bs,Nat.le_trans I.ok.bsz I.sz,I.stack,I.stkFree,I.hok,I.bare⟩
theorem Inv.after {Q:VK}{u:Value} (I:Inv X pins σ H s) (h:CE X.stack X.prog X.w H s Q u s'):EP X pins σ Q u s' := by
 obtain ⟨v,H',os,bare,un,hok,r,q⟩:=h
 obtain ⟨hh,g,d,t,os'⟩:=s'
 obtain rfl:os'=s.os:=os
 exact ⟨v,H',I.call (h' := hh) (g' := g) (d' := d) (t' := t) (ch := []) un hok bare (fun b z=>absurd z (by simp)),r,q⟩
end
def tCall (sp:Sp) (dvs:List V) (E:XK) (t:TA):TE:=fun σ H Q=>t σ H fun vs H1=>sp (vs ++ dvs) H1 Q E
def Binds (K:PySem.W.Frag) (fd:FuncData) (ps:List Str) (ds:List Value):Prop :=
 ∀ (s:Shared) (us:List Value),K.In s.heap->(us ++ ds).length=ps.length->BindsTo s fd ⟨us,[]⟩ (ps.zip (us ++ ds))
theorem Binds.all {K:PySem.W.Frag}{fd:FuncData}{ps:List Str} (h:∀ us:List Value,us.length=ps.length->bindArgs fd ⟨us,[]⟩=pure (ps.zip us)):Binds K fd ps []:=fun s us _ hl=>by
 rw [List.append_nil] at hl ⊢
 exact .of_eq (h us hl)
def Passes (CX:CXT) (X:Cx) (E:XK):Prop := ∀ (pins:List (Addr × Obj)) (σ:St) (H:Hp) (s:Shared) (e:Value) (s':Shared),Inv X pins σ H s->CX X.stack H s E e s'->X.xe e s'
section
variable {X:Cx}{CX:CXT}{k:Nat}{f C:Addr}{fd:FuncData}{ps:List Str}{sp:Sp}{dvs:List V}{ds:List Value}{E:XK}{x m:Str}{p pos apos:Pos}{e o:Expr}{es:List Expr}{ta:TE}{t:TA}
theorem run_fn {pins:List (Addr × Obj)}{σ:St}{H:Hp}{s:Shared}{Q:VK}{us:List Value}{vs:List V} (F:FnOk X.prog X.w X.K X.mg X.base CX k f fd ps sp) (hr:Room k X.A) (hb:Binds X.K fd ps ds) (hd:Vals dvs ds) (hx:Passes CX X E)
  (I:Inv X pins σ H s) (r:Vals vs us) (h:sp (vs ++ dvs) H Q E):wpAny (model X.prog X.w) X.A (call (.ref f) us) (EP X pins σ Q) X.xe s:=by
 have r2:Vals (vs ++ dvs) (us ++ ds):=r.append hd
 have hl:(us ++ ds).length=ps.length:=by rw [<- r2.length]; exact F.len _ _ _ _ h
 refine wpAny_call (codeAny_mono (F.run X.A X.stack s H ⟨us,[]⟩ (us ++ ds) (vs ++ dvs) Q E hr I.env0 (hb s us I.kIn hl) r2 h) fun r s' hq=>?_)
 cases r with
 | error e=>exact hx pins σ H s e s' I hq
 | ok fl =>
  cases fl with
  | ret u=>exact I.after hq
  | next=>exact False.elim hq
  | brk=>exact False.elim hq
  | cont=>exact False.elim hq
theorem pe_call (F:FnOk X.prog X.w X.K X.mg X.base CX k f fd ps sp) (hr:Room k X.A) (hg:Gl X x) (hm:X.mg x=some (.ref f)) (hk:PySem.W.keepIn X.K (.ref f)=true) (hb:Binds X.K fd ps ds) (hd:Vals dvs ds) (hx:Passes CX X E)
  (ha:PA X (e :: es) t) (hdb:(x == ("__debug__" : Str))=false:=by decide) (he:starEach (e :: es) X.env=(false,eval e X.env) :: starEach es X.env:=by rfl) (hpl:(backTo pos (starEach es X.env)).any (·.1)=false:=by rfl) :
  PE X (.Call (.Name x p) (e :: es) [] pos) (tCall sp dvs E t):=by
 intro pins s σ H Q I h
 refine wpAny_Call_Name_kw (ld_glob I hg hm ?_ hdb)
 refine PySem.W.callWith_K (h₀:=X.base) I.ok.mod.kin hk (thn (ha pos pins s σ H _ I h) fun us s1 hq5=>L2.ex5 hq5 fun vs H1 I1 r q=>⟨I1.kIn,?_⟩) he hpl
 exact run_fn F hr hb hd hx I1 r q
end
def PK (X:Cx) (kws:List Keyword) (t:TA):Prop :=
 ∀ (pos:Pos) (pins:List (Addr × Obj)) (s:Shared) (σ:St) (H:Hp) (Q:List V->Hp->Prop),Inv X pins σ H s->t σ H Q->wpAny (model X.prog X.w) X.A (evalAll ((backToKw pos (keywordEach kws X.env)).map (·.2))) (AP X pins σ Q) X.xe s
section
variable {X:Cx}{CX:CXT}{k:Nat}{f C:Addr}{fd:FuncData}{ps ks:List Str}{sp:Sp}{E:XK}{x m:Str}{p pos apos kpos:Pos}{e o:Expr}{es:List Expr}{kws:List Keyword}{te ta:TE}{t tk:TA}{nm:Option Str}
theorem pk_nil:PK X [] tNil:=fun _ _ _ _ H Q I h=>wpAny_evalAll_nil ⟨[],H,I,.nil,h⟩
theorem pk_cons (ha:PE X e te) (hr:PK X kws t):PK X (⟨nm,e,kpos⟩ :: kws) (tCons te t):=by
 intro pos pins s σ H Q I h
 show wpAny _ _ (evalAll ((do let v <- eval e X.env; standAt pos; pure v) :: (backToKw pos (keywordEach kws X.env)).map (·.2))) _ _ s
 refine wpAny_evalAll_cons (wpAny_bind (thn (ha pins s σ H _ I h) fun u s1 hq5=>L2.ex5 hq5 fun x H1 I1 r1 q1=>wpAny_bind (wpAny_standAt (wpAny_pure ?_))))
 exact thn (hr pos pins s1 σ H1 _ I1 q1) fun us s2 hq5=>L2.ex5 hq5 fun xs H2 I2 r2 q2=>⟨x :: xs,H2,I2,.cons r1 r2,q2⟩
variable {g:List Value->List Value->List Value}{gV:List V->List V->List V}
end
structure FnScope (N P:List Str) (sc:Scope):Prop where
 kind:sc.kind=.function
 co:sc.isCoroutine=false
 gen:sc.isGenerator=false
 nd:N.Nodup
 pre:N.take P.length=P
 par:∀ x ∈ P,sc.names.lookup x=some .local ∨ sc.names.lookup x=some .cell
 nofree:∀ y ∈ sc.names,y.2 ≠ .free
theorem bindL_out {kindOf:Str->Option NameKind}{x:Str}:∀ {binds:List (Str × Value)}{m:Str->Option Value},(∀ v,(x,v) ∉ binds)->bindL kindOf binds m x=m x
 | [],_,_=>rfl
 | (n,v) :: r,m,h=>by
  unfold bindL
  rw [bindL_out fun w hw=>h w (List.mem_cons_of_mem _ hw)]
  split
  ·have:x ≠ n:=by rintro rfl; exact h v List.mem_cons_self
   simp [this]
  ·rfl
theorem bindC_out {kindOf:Str->Option NameKind}{x:Str}:∀ {binds:List (Str × Value)}{m:Str->Option Value},(∀ v,(x,v) ∉ binds)->bindC kindOf binds m x=m x
 | [],_,_=>rfl
 | (n,v) :: r,m,h=>by
  unfold bindC
  rw [bindC_out fun w hw=>h w (List.mem_cons_of_mem _ hw)]
  split
  ·rfl
  ·have:x ≠ n:=by rintro rfl; exact h v List.mem_cons_self
   simp [this]
theorem bindL_get {kindOf:Str->Option NameKind}{x:Str}{v:Value}:∀ {P:List Str}{vs:List Value}{i:Nat}{m:Str->Option Value},P.Nodup->P[i]?=some x->vs[i]?=some v->kindOf x=some .local ->
  bindL kindOf (P.zip vs) m x=some v
 | [],_,_,_,_,h,_,_=>by simp at h
 | _ :: _,[],_,_,_,_,h,_=>by simp at h
 | p :: P,w :: vs,0,m,nd,h1,h2,hk=>by
  simp at h1 h2; subst h1; subst h2
  show bindL kindOf ((p,w) :: P.zip vs) m p=_
  unfold bindL
  rw [bindL_out fun v hv=>(List.nodup_cons.mp nd).1 (List.of_mem_zip hv).1,if_pos hk]
  simp
 | p :: P,w :: vs,i + 1,m,nd,h1,h2,hk=>by
  show bindL kindOf ((p,w) :: P.zip vs) m x=_
  unfold bindL
  exact bindL_get (i:=i) (List.nodup_cons.mp nd).2 (by simpa using h1) (by simpa using h2) hk
theorem bindC_get {kindOf:Str->Option NameKind}{x:Str}{v:Value}:∀ {P:List Str}{vs:List Value}{i:Nat}{m:Str->Option Value},P.Nodup->P[i]?=some x->vs[i]?=some v->kindOf x ≠ some .local ->
  bindC kindOf (P.zip vs) m x=some v
 | [],_,_,_,_,h,_,_=>by simp at h
 | _ :: _,[],_,_,_,_,h,_=>by simp at h
 | p :: P,w :: vs,0,m,nd,h1,h2,hk=>by
  simp at h1 h2; subst h1; subst h2
  show bindC kindOf ((p,w) :: P.zip vs) m p=_
  unfold bindC
  rw [bindC_out fun v hv=>(List.nodup_cons.mp nd).1 (List.of_mem_zip hv).1,if_neg hk]
  simp
 | p :: P,w :: vs,i + 1,m,nd,h1,h2,hk=>by
  show bindC kindOf ((p,w) :: P.zip vs) m x=_
  unfold bindC
  exact bindC_get (i:=i) (List.nodup_cons.mp nd).2 (by simpa using h1) (by simpa using h2) hk
def start (N:List Str) (vs:List V):St:=vs.map some ++ List.replicate (N.length - vs.length) none
def cxOf (CX:CXT) (P:Program) (w:World) (K:PySem.W.Frag) (mg:Str->Option Value) (base:Heap) (N:List Str) (qual:Str) (scope:Scope) (f:Addr) (cd:Value) (A:Around) (outer:List Env) (s:Shared) (H:Hp) (E:XK):Cx where
 prog:=P
 w:=w
 K:=K
 mg:=mg
 base:=base
 A:=A.deeper (envOfC qual scope s.heap.objs.size f cd)
 N:=N
 s₀:=s
 H₀:=H
 env:=envOfC qual scope s.heap.objs.size f cd
 outer:=outer
 stack:=envOfC qual scope s.heap.objs.size f cd :: outer
 ex := []
 calm:=true
 fn:=fun _=>true
 pn := []
 xe:=fun e s'=>wpAny (model P w) (A.deeper (envOfC qual scope s.heap.objs.size f cd)) (leaving (envOfC qual scope s.heap.objs.size f cd) e) (fun _ s''=>CX outer H s E e s'') (fun e' s''=>CX outer H s E e' s'') s'
theorem cell_has {sc:Scope}{n:Nat}{x:Str} (h:sc.names.lookup x=some .cell):∃ c,(cellsFrom n sc.names []).lookup x=some c:=by
 have q:=PySem.W.cellsFrom_some sc.names n [] (.inl h)
 exact Option.isSome_iff_exists.mp q
theorem inv_start {CX:CXT}{P:Program}{w:World}{K:PySem.W.Frag}{mg:Str->Option Value}{base:Heap}{N ps:List Str}{qual:Str}{scope:Scope}{f:Addr}{cd:Value}{A:Around}{outer:List Env}{s s1:Shared}{H:Hp}{E:XK}{us:List Value}{vs:List V}
  (S:FnScope N ps scope) (hd:A.handled=none) (e0:Env0 P w K mg base A outer s H) (hl:vs.length=ps.length) (r:Vals vs us)
  (x:InCallC s s.heap.objs.size (bindL (envOfC qual scope s.heap.objs.size f cd).kindOf (ps.zip us) fun _=>none) (cellsFrom (s.heap.objs.size + 1) scope.names []) (bindC (envOfC qual scope s.heap.objs.size f cd).kindOf (ps.zip us) fun _=>none) s1) :
  Inv (cxOf CX P w K mg base N qual scope f cd A outer s H E) [] (start N vs) H s1:=by
 have hpl:ps.length <= N.length:=by have:=congrArg List.length S.pre; rw [List.length_take] at this; omega
 obtain ⟨h1,tk,rfl,hk⟩:=x.done
 have noA:∀ b:Addr,b ∉ (cxOf CX P w K mg base N qual scope f cd A outer s H E).ex:=fun b z=>absurd (show b ∈ ([]:List Addr) from z) (by simp)
 refine ⟨⟨e0.mod,S.kind,rfl,rfl,Nat.le_refl _,fun y z c h1 h2=>?_,fun y hy=>?_,fun y c _ h=>?_,fun _=>hd,Around.frames_deeper e0.frames,.inr ⟨rfl,rfl⟩,fun b z=>absurd z (noA b),e0.bs,e0.bsz,fun b _ _=>noA b,fun b z=>absurd z (noA b),e0.funs,e0.frf⟩,
  rfl,e0.bare,Un.kept hk,⟨_,x.toInCall.ns,fun i y v h1 h2 h3=>?_⟩,fun y c h=>⟨_,x.cell y c h⟩,e0.hok.fresh (Nat.le_refl _),fun y c h=>?_,fun p hp=>absurd (show p ∈ ([]:List (Addr × Obj)) from hp) (by simp),e0.hok.kept hk,?_⟩
 ·exact name_of_addr x.apart (PySem.mem_of_lookup h1) (PySem.mem_of_lookup h2)
 ·have hy:scope.names.lookup y=some .cell ∨ scope.names.lookup y=some .free:=hy
  rcases hy with hy | hy
  ·exact cell_has hy
  ·exact absurd rfl (S.nofree _ (PySem.mem_of_lookup hy))
 ·exact Nat.le_of_lt (x.above y c (PySem.mem_of_lookup h))
 ·have hi:i < vs.length:=by
   unfold start at h2
   by_cases hi:i < vs.length
   ·exact hi
   ·rw [List.getElem?_append_right (by simpa using hi)] at h2
    rw [List.getElem?_replicate] at h2
    split at h2 <;> cases h2
  have ha:vs[i]?=some v:=by
   unfold start at h2
   rw [List.getElem?_append_left (by simpa using hi),List.getElem?_map] at h2
   cases e:vs[i]? with
   | none=>rw [e] at h2; cases h2
   | some a=>rw [e] at h2; cases h2; rfl
  obtain ⟨u,hu,rv⟩:=r.get ha
  have hp:ps[i]?=some y:=by
   rw [<- S.pre,List.getElem?_take_of_lt (by omega)]; exact h1
  have ndP:ps.Nodup:=by rw [<- S.pre]; exact S.nd.sublist (List.take_sublist _ _)
  refine ⟨u,rv,?_⟩
  rcases S.par y (List.mem_of_getElem? hp) with k | k
  ·exact .inl ⟨k,bindL_get ndP hp hu k⟩
  ·obtain ⟨c,e⟩:=cell_has (n:=s.heap.objs.size + 1) k
   refine .inr ⟨.inl k,c,e,?_⟩
   have q:=x.cell y c e
   rw [bindC_get ndP hp hu (by show scope.names.lookup y ≠ _; rw [k]; decide)] at q
   exact q
 ·exact e0.hok.fresh (Nat.le_of_lt (x.above y c (PySem.mem_of_lookup h)))
 ·unfold start
  show _=N.length
  rw [List.length_append,List.length_map,List.length_replicate]
  omega
theorem fn_of {CX:CXT}{P:Program}{w:World}{K:PySem.W.Frag}{mg:Str->Option Value}{base:Heap}{k:Nat}{f:Addr}{name qual:Str}{params:Arguments}{body:List Stmt}{scope:Scope}{dV kV doc pm cdv ct oc:Value}{an od:Option Addr}
  {osl:Array (Option Value)}{N ps:List Str}{sp:Sp} (lk:K.lookup f=some ⟨oc,od,.func (PySem.W.fnOf name qual params body scope dV kV doc pm an cdv ct),osl⟩) (hcd:PySem.W.codeIn K cdv qual=true) (S:FnScope N ps scope)
  (len:∀ vs H Q E,sp vs H Q E->vs.length=ps.length)
  (hbody:∀ (A:Around) (outer:List Env) (s:Shared) (H:Hp) (vs:List V) (Q:VK) (E:XK),Room k (A.deeper (envOfC qual scope s.heap.objs.size f cdv))->sp vs H Q E ->
   ∃ t,PSs (cxOf CX P w K mg base N qual scope f cdv A outer s H E) body t/\t { nx:=fun _ H'=>Q .non H',rt:=Q } (start N vs) H) :
  FnOk P w K mg base CX (k + 1) f (PySem.W.fnOf name qual params body scope dV kV doc pm an cdv ct) ps sp:=by
 refine ⟨len,fun A outer s H args us vs Q E hr e0 hb r hsp=>?_⟩
 have hl:=len _ _ _ _ hsp
 have KX:K.In s.heap:=e0.mod.kin.keeps fun b o e=>(e0.bs b o e).1
 have lim:s.heap.NoLimit:=e0.mod.nolimit.keeps fun b o e=>(e0.bs b o e).1
 have hkind:∀ y ∈ ps.zip us,scope.names.lookup y.1=some .local ∨ (scope.names.lookup y.1=some .cell/\((cellsFrom (s.heap.objs.size + 1) scope.names []).lookup y.1).isSome=true):=fun ⟨n,v⟩ hy=>by
  rcases S.par n (List.of_mem_zip hy).1 with q | q
  ·exact .inl q
  ·exact .inr ⟨q,PySem.W.cellsFrom_some _ _ _ (.inl q)⟩
 refine codeAny_call_function hr.depth (KX _ _ lk) rfl S.co S.gen rfl (PySem.W.codeRec_of KX hcd) (hb _ _ _ _ ?_)
 refine wpAny_newFunctionEnv_cells S.kind hkind fun env he s1 x=>?_
 subst he
 refine ⟨lim.keeps x.toInCall.keep,codeAny_func ?_⟩
 obtain ⟨t,ht,hq⟩:=hbody A outer s H vs Q E (hr.deeper _) hsp
 have I:Inv (cxOf CX P w K mg base N qual scope f cdv A outer s H E) [] (start N vs) H s1:=inv_start S hr.hd e0 hl r x
 refine wpAny_mono (ht [] s1 (start N vs) H _ I hq) (fun fl s' hs=>?_) fun e s' hs=>hs
 have fin:∀ {σ':St}{H':Hp}{v:V}{u:Value},Inv (cxOf CX P w K mg base N qual scope f cdv A outer s H E) [] σ' H' s'->RelV v u->Q v H'->CE outer P w H s Q u s' :=
  fun {σ' H' v u} J rv q=>⟨v,H',J.os,J.bare,J.base,J.hok,rv,q⟩
 cases fl with
 | ret u =>
  obtain ⟨v,σ',H',J,rv,q⟩:=hs
  exact fin J rv q
 | next =>
  obtain ⟨σ',H',J,q⟩:=hs
  exact fin (v:=V.non) (u:=Value.none) J rfl q
 | brk =>
  obtain ⟨_,_,_,q⟩:=hs
  exact False.elim q
 | cont =>
  obtain ⟨_,_,_,q⟩:=hs
  exact False.elim q
section
variable {X:Cx}{x:Str}{p pos:Pos}{e:Expr}{es:List Expr}{t:TA}{id T:String}{r:List V->Hp->VK->Prop}
def tCB (r:List V->Hp->VK->Prop) (t:TA):TE:=fun σ H Q=>t σ H fun vs H1=>r vs H1 Q
theorem pe_callB (hc:CallR X (.builtin id) r) (hg:Gl X x) (hm:X.mg x=none) (hv:bootBuiltins x=some (.builtin id)) (ha:PA X (e :: es) t) (hn:x ≠ "__name__" := by decide) (hdb:(x == ("__debug__" : Str))=false:=by decide)
  (he:starEach (e :: es) X.env=(false,eval e X.env) :: starEach es X.env:=by rfl) (hpl:(backTo pos (starEach es X.env)).any (·.1)=false:=by rfl):PE X (.Call (.Name x p) (e :: es) [] pos) (tCB r t):=by
 intro pins s σ H Q I h
 refine wpAny_Call_Name_kw (ld_blt I hg hm hv ?_ hn hdb)
 exact PyProof.Rows.callWith_builtin1 (thn (ha pos pins s σ H _ I h) fun us s1 hq5=>L2.ex5 hq5 fun vs H1 I1 r1 q1=>hc pins s1 σ H1 vs us Q I1 r1 q1) he hpl
theorem pe_callTy (hc:CallR X (.type T) r) (hg:Gl X x) (hm:X.mg x=none) (hv:bootBuiltins x=some (.type T)) (ha:PA X (e :: es) t) (hn:x ≠ "__name__" := by decide) (hdb:(x == ("__debug__" : Str))=false:=by decide)
  (he:starEach (e :: es) X.env=(false,eval e X.env) :: starEach es X.env:=by rfl) (hpl:(backTo pos (starEach es X.env)).any (·.1)=false:=by rfl):PE X (.Call (.Name x p) (e :: es) [] pos) (tCB r t):=by
 intro pins s σ H Q I h
 refine wpAny_Call_Name_kw (ld_blt I hg hm hv ?_ hn hdb)
 exact PyProof.Rows.callWith_type1 (thn (ha pos pins s σ H _ I h) fun us s1 hq5=>L2.ex5 hq5 fun vs H1 I1 r1 q1=>hc pins s1 σ H1 vs us Q I1 r1 q1) he hpl
end
end L2
namespace HT
open PySem PyProof.Rows
section
open PySem.SeqAt
open PySem.AutoSeq1 (wpAny_loadPart')
open PySem.MeetsSeq PySem.MeetsSeq2 PySem.MeetsSeq3
end
section
variable {prog:Program}{w:World}{A:Around}{E:Value->Shared->Prop}{s:Shared}
theorem cat_tup {t b:Addr}{vs ws:List Value}{Q:Value->Shared->Prop} (ht:IsTup s.heap t vs.toArray) (hb:IsTup s.heap b ws.toArray) (hv:vs ≠ [])
  (h1:ws=[]->Q (.ref t) s) (h2:ws ≠ []->Q (.ref s.heap.objs.size) { s with heap:=s.heap.push { cls := .type "tuple",data := .seq (vs ++ ws).toArray } })
  (hsz:vs.length + ws.length <= sizeLine):wpAny (model prog w) A (binaryOp .Add (.ref t) (.ref b)) Q E s:=by
 obtain ⟨⟨cls,dd,data,sl⟩,ho,hc,n,hd⟩:=id ht
 obtain ⟨⟨cls2,dd2,data2,sl2⟩,ho2,hc2,n2,hd2⟩:=id hb
 simp only at hc hd hc2 hd2
 subst hc hd hc2 hd2
 have e:vs.toArray ++ ws.toArray=(vs ++ ws).toArray:=by simp
 by_cases hw:ws=[]
 ·exact concat_meets ⟨_,ho,rfl⟩ ⟨_,ho2,rfl⟩ noFill_tuple_add seq_tuple_add PySem.F.slot_tuple_add PySem.F.entry_tuple_add (PySem.F.args_tuple_add_2 _ _)
   (tuple_addW1 t b vs.toArray ws.toArray n n2 dd dd2 sl sl2 (by simpa using hv) (by simp [hw])) ⟨ho,ho2,h1 hw⟩
 ·refine concat_meets ⟨_,ho,rfl⟩ ⟨_,ho2,rfl⟩ noFill_tuple_add seq_tuple_add PySem.F.slot_tuple_add PySem.F.entry_tuple_add (PySem.F.args_tuple_add_2 _ _)
   (tuple_addW2 t b vs.toArray ws.toArray n n2 dd dd2 sl sl2 (by simpa using hv) (by simpa using hw) (by rw [List.size_toArray,List.size_toArray]; exact hsz)) ⟨ho,ho2,?_⟩
  rw [e]
  exact h2 hw
def sIx (n d:Nat):Option Int->Nat
 | none=>d
 | some v=>if v < 0 then (v + (n:Int)).toNat else min v.toNat n
theorem sIx_le (n d:Nat) (hd:d <= n) (o:Option Int):sIx n d o <= n:=by
 cases o with
 | none=>exact hd
 | some v =>
  show (if v < 0 then (v + (n:Int)).toNat else min v.toNat n) <= n
  by_cases hv:v < 0
  ·rw [if_pos hv]; omega
  ·rw [if_neg hv]; exact Nat.min_le_right _ _
theorem clip_eq (v:Int) (n d:Nat):(if v < 0 then max (v + (n:Int)) 0 else min v (n:Int))=((sIx n d (some v):Nat):Int):=by
 show (if v < 0 then max (v + (n:Int)) 0 else min v (n:Int))=(((if v < 0 then (v + (n:Int)).toNat else min v.toNat n):Nat):Int)
 by_cases hv:v < 0
 ·simp only [if_pos hv]; omega
 ·simp only [if_neg hv]; omega
theorem adjust_gen (lo hi:Option Int) (n:Nat):Builtin.Slice.sliceAdjust lo hi 1 (n:Int)=(((sIx n 0 lo:Nat):Int),((sIx n n hi:Nat):Int)):=by
 have h1:¬ ((1:Int) < 0):=by omega
 unfold Builtin.Slice.sliceAdjust
 simp only [h1,if_false]
 refine Prod.ext ?_ ?_
 ·cases lo with
  | none=>rfl
  | some v=>exact clip_eq v n 0
 ·cases hi with
  | none=>rfl
  | some v=>exact clip_eq v n n
theorem places_gen (i j:Nat):Builtin.Slice.slicePlaces (i:Int) (j:Int) 1=j - i:=by
 unfold Builtin.Slice.slicePlaces
 have h1:(1:Int) > 0:=by omega
 simp only [h1,if_true,Int.ediv_one]
 split <;> omega
theorem slicePart_ {v:Value}{o:Option Int}{Q:Option Int->Shared->Prop} (p:IsPart v o) (h:Q o s):wpAny (model prog w) A (Builtin.Slice.slicePartIndex v) Q E s:=by
 cases p with
 | none=>exact slicePart_none h
 | int i t=>exact slicePart_int h
theorem sliceApplied_gen {sl:Addr}{vl vu:Value}{lo hi:Option Int}{n:Nat}{Q:Int × Int × Nat->Shared->Prop} (hs:s.heap.IsSliceOf sl vl vu .none) (pl:IsPart vl lo) (pu:IsPart vu hi)
  (h:Q (((sIx n 0 lo:Nat):Int),1,sIx n n hi - sIx n 0 lo) s):wpAny (model prog w) A (Builtin.Slice.sliceApplied (.ref sl) (pure (n:Int))) Q E s:=by
 obtain ⟨os,hos,hcs,hds⟩:=id hs
 unfold Builtin.Slice.sliceApplied Builtin.Slice.sliceFields
 refine wpAny_bind (wpAny_bind (wpAny_field hos hds (x:=vl) rfl (wpAny_bind (wpAny_field hos hds (x:=vu) rfl (wpAny_bind (wpAny_field hos hds (x := .none) rfl (wpAny_pure ?_)))))))
 refine wpAny_bind (slicePart_none ?_)
 show wpAny _ _ (if ((1:Int) == 0)=true then _ else _) _ _ s
 rw [if_neg (by decide)]
 refine wpAny_bind (slicePart_ pl (wpAny_bind (slicePart_ pu (wpAny_bind (wpAny_pure ?_)))))
 show wpAny _ _ (match Builtin.Slice.sliceAdjust lo hi 1 (n:Int) with | (lo,hi)=>pure (lo,(1:Int),Builtin.Slice.slicePlaces lo hi 1)) _ _ s
 rw [adjust_gen lo hi n]
 show wpAny _ _ (pure (((sIx n 0 lo:Nat):Int),(1:Int),Builtin.Slice.slicePlaces ((sIx n 0 lo:Nat):Int) ((sIx n n hi:Nat):Int) 1)) _ _ s
 rw [places_gen]
 exact wpAny_pure h
theorem pick_gen (xs:Array Value) (i k:Nat):((List.range k).filterMap fun (m:Nat)=>xs[((i:Int) + (m:Int) * 1).toNat]?).toArray=((xs.toList.drop i).take k).toArray:=by
 have e:(fun (m:Nat)=>xs[((i:Int) + (m:Int) * 1).toNat]?)=fun m=>xs[i + m]? := by
  funext m
  have:((i:Int) + (m:Int) * 1).toNat=i + m:=by omega
  rw [this]
 rw [e]
 have:=pick_run xs i k
 rw [List.filterMap_map] at this
 have e2:((fun x=>xs[x]?) ∘ fun x=>i + x)=fun m=>xs[i + m]? := rfl
 rw [e2] at this
 rw [this]
theorem getItem_tuple_cut {t sl:Addr}{items:Array Value}{vl vu:Value}{lo hi:Option Int}{Q:Value->Shared->Prop} (ht:IsTup s.heap t items) (hs:s.heap.IsSliceOf sl vl vu .none) (pl:IsPart vl lo) (pu:IsPart vu hi)
  (hw:¬ (sIx items.size 0 lo=0/\sIx items.size items.size hi=items.size))
  (h:Q (.ref s.heap.objs.size) { s with heap:=s.heap.push { cls := .type "tuple",data := .seq ((items.toList.drop (sIx items.size 0 lo)).take (sIx items.size items.size hi - sIx items.size 0 lo)).toArray } })
  (hsz:items.size <= sizeLine):wpAny (model prog w) A (getItem (.ref t) (.ref sl)) Q E s:=by
 have htake:sizeOk (.seq ((items.toList.drop (sIx items.size 0 lo)).take (sIx items.size items.size hi - sIx items.size 0 lo)).toArray):=by
  show ((items.toList.drop (sIx items.size 0 lo)).take (sIx items.size items.size hi - sIx items.size 0 lo)).toArray.size <= sizeLine
  rw [List.size_toArray,List.length_take,List.length_drop,Array.length_toList]
  omega
 have hj:sIx items.size items.size hi <= items.size:=sIx_le _ _ (Nat.le_refl _) hi
 obtain ⟨os,hos,hcs,hds⟩:=id hs
 have hTs:s.TypeIs (.ref sl) "slice" := ⟨os,hos,hcs⟩
 unfold getItem
 try with_reducible refine wpAny_holding ?_
 first | refine wpAny_bind (wpAny_pure ?_) | skip
 refine wpAny_bind (wpAny_sequenceKey ht.typeIs (by decide) ?_)
 refine wpAny_bind (wpAny_callSpecial?_slot (name:=Str.ofString "__getitem__") ht.typeIs PyProof.Rows.slot_tuple_getitem
  (wpAny_call_entry PyProof.Rows.slot_tuple_getitem ht.typeIs entry_tuple_getitem ?_ (args_tuple_getitem _ _)))
 show wpAny _ _ (Builtin.Tuple.tupleItemsOf (.ref t) >>= _) _ _ s
 refine wpAny_bind (tupleItemsOf_ ht ?_)
 refine wpAny_bind (wpAny_typeOf hTs ?_)
 rw [if_pos (by decide)]
 refine wpAny_bind (sliceApplied_gen hs pl pu ?_)
 have hno:¬ ((((sIx items.size 0 lo:Nat):Int) == 0 && (1:Int) == 1 && (sIx items.size items.size hi - sIx items.size 0 lo) == items.size)=true):=by
  intro q
  rw [Bool.and_eq_true,Bool.and_eq_true] at q
  have q1:((sIx items.size 0 lo:Nat):Int)=0:=eq_of_beq q.1.1
  have q2:sIx items.size items.size hi - sIx items.size 0 lo=items.size:=eq_of_beq q.2
  exact hw ⟨by omega,by omega⟩
 show wpAny _ _ (if (((sIx items.size 0 lo:Nat):Int) == 0 && (1:Int) == 1 && (sIx items.size items.size hi - sIx items.size 0 lo) == items.size)=true then _ else _) _ _ s
 rw [if_neg hno,pick_gen]
 first
  | exact wpAny_bind (m:=Builtin.Tuple.tupleExact _) (wpAny_newObj_type (wpAny_pure ⟨_,rfl,wpAny_pure h⟩) htake)
  | exact wpAny_bind (m:=Builtin.Tuple.tupleExact _) (wpAny_newObj_type (wpAny_bind (wpAny_pure (wpAny_pure ⟨_,rfl,wpAny_pure h⟩))) htake)
  | exact wpAny_bind (wpAny_bind (m:=Builtin.Tuple.tupleExact _) (wpAny_newObj_type (wpAny_pure (wpAny_pure ⟨_,rfl,wpAny_pure h⟩)) htake))
  | exact wpAny_bind (wpAny_bind (m:=Builtin.Tuple.tupleExact _) (wpAny_newObj_type (wpAny_pure ⟨_,rfl,wpAny_pure h⟩) htake))
end
end HT
namespace L2
open PySem PySem.Spec PyProof.Rows
abbrev TO:=St->Hp->(Option Int->Hp->Prop)->Prop
def PO (X:Cx) (e:Option Expr) (t:TO):Prop :=
 ∀ (pins:List (Addr × Obj)) (s:Shared) (σ:St) (H:Hp) (Q:Option Int->Hp->Prop),Inv X pins σ H s->t σ H Q ->
  wpAny (model X.prog X.w) X.A (evalPart e X.env) (fun u s'=>∃ o H',Inv X pins σ H' s'/\IsPart u o/\Q o H') X.xe s
def tNoPart:TO:=fun _ H Q=>Q none H
def tPart (t:TE):TO:=fun σ H Q=>t σ H fun x H1=>∃ i,x=.int i/\Q (some i) H1
theorem intsAre_of {ns:List Int}:∀ {us:List Value},Vals (ns.map V.int) us->IntsAre us ns:=by
 induction ns with
 | nil=>intro us r; rw [List.map_nil] at r; cases r; exact .nil
 | cons n ns ih =>
  intro us r
  rw [List.map_cons] at r
  cases r with
  | cons r1 r2 =>
   obtain ⟨t,e⟩:=r1
   subst e
   exact .cons n t (ih r2)
section
variable {X:Cx}{e:Expr}{te:TE}{lo hi:Option Expr}{tl th:TO}{pos p2:Pos}
theorem po_none:PO X none tNoPart:=by
 intro pins s σ H Q I h
 rw [evalPart_none]
 exact wpAny_pure ⟨none,H,I,.none,h⟩
theorem po_some (h:PE X e te):PO X (some e) (tPart te):=by
 intro pins s σ H Q I hw
 rw [evalPart_some]
 refine thn (h pins s σ H _ I hw) fun u s1 hq5=>L2.ex5 hq5 fun x H1 I1 r1 q1=>?_
 obtain ⟨i,rfl,q⟩:=q1
 obtain ⟨t,rfl⟩:=r1
 exact ⟨some i,H1,I1,.int i t,q⟩
def SlR (X:Cx) (r:V->Option Int->Option Int->Hp->VK->Prop):Prop :=
 ∀ (pins:List (Addr × Obj)) (s:Shared) (σ:St) (H:Hp) (x:V) (v vl vu:Value) (lo hi:Option Int) (sl:Addr) (Q:VK),Inv X pins σ H s->RelV x v->s.heap.IsSliceOf sl vl vu .none->IsPart vl lo->IsPart vu hi->r x lo hi H Q ->
  ∃ T id,typeLookup (.type T) "__getitem__" = pure (some (.builtin id))/\s.TypeIs v T/\wpAny (model X.prog X.w) X.A (getItem v (.ref sl)) (EP X pins σ Q) X.xe s
theorem SlR.or {r r':V->Option Int->Option Int->Hp->VK->Prop} (h:SlR X r) (h':SlR X r'):SlR X (fun x lo hi H Q=>r x lo hi H Q ∨ r' x lo hi H Q):=by
 intro pins s σ H x v vl vu lo hi sl Q I rx hs pl pu q
 rcases q with q | q
 ·exact h pins s σ H x v vl vu lo hi sl Q I rx hs pl pu q
 ·exact h' pins s σ H x v vl vu lo hi sl Q I rx hs pl pu q
def tSl (r:V->Option Int->Option Int->Hp->VK->Prop) (te:TE) (tl th:TO):TE:=fun σ H Q=>te σ H fun x H1=>tl σ H1 fun l H2=>th σ H2 fun u H3=>r x l u H3 Q
theorem pe_slice {r:V->Option Int->Option Int->Hp->VK->Prop} (hr:SlR X r) (he:PE X e te) (hl:PO X lo tl) (hu:PO X hi th):PE X (.Subscript e (.Slice lo hi none p2) pos) (tSl r te tl th):=by
 intro pins s σ H Q I h
 refine Subscript_ (thn (he pins s σ H _ I h) fun v s1 hq5=>L2.ex5 hq5 fun x H1 I1 r1 q1=>?_)
 refine wpAny_Slice (thn (hl pins s1 σ H1 _ I1 q1) fun vl s2 hq5=>L2.ex5 hq5 fun l H2 I2 pl q2=>thn (hu pins s2 σ H2 _ I2 q2) fun vu s3 hq5=>L2.ex5 hq5 fun u H3 I3 pu q3=>?_)
 rw [evalPart_none]
 refine wpAny_pure ?_
 have I4:Inv X pins σ H3 { s3 with heap:=s3.heap.push { cls := .type "slice",data := .fields #[vl,vu,.none] } }:=I3.kept (t' := s3.toks) fun b ob q=>Heap.get?_push_of_some _ q
 obtain ⟨T,id,hT,ht,hg⟩:=hr pins { s3 with heap:=s3.heap.push { cls := .type "slice",data := .fields #[vl,vu,.none] } } σ H3 x v vl vu l u s3.heap.objs.size Q I4 r1 (Heap.IsSliceOf.new ..) pl pu q3
 show wpAny (model X.prog X.w) X.A (subscriptTail e (.Slice lo hi none p2) v (.ref s3.heap.objs.size)) (EP X pins σ Q) X.xe { s3 with heap:=s3.heap.push { cls := .type "slice",data := .fields #[vl,vu,.none] } }
 exact tail_any (ops := [.ref s3.heap.objs.size,v]) ht hT hg (by with_unfolding_all rfl)
def cutV (xs:List V) (lo hi:Option Int):List V:=(xs.drop (HT.sIx xs.length 0 lo)).take (HT.sIx xs.length xs.length hi - HT.sIx xs.length 0 lo)
theorem cutV_length (xs:List V) (lo hi:Option Int):(cutV xs lo hi).length <= xs.length:=by
 unfold cutV
 rw [List.length_take,List.length_drop]
 omega
def rSlT (K:PySem.W.Frag):V->Option Int->Option Int->Hp->VK->Prop:=fun x lo hi H Q=>∃ a xs,x=.ref a/\SqT K H a xs /\
 ¬ (HT.sIx xs.length 0 lo=0/\HT.sIx xs.length xs.length hi=xs.length)/\∀ p,H p=none->Q (.ref p) (upd H p (.tup (cutV xs lo hi)))
theorem sl_tup:SlR X (rSlT X.K):=by
 intro pins s σ H x v vl vu lo hi sl Q I rx hs pl pu h
 obtain ⟨a,xs,rfl,hx,hw,q⟩:=h
 cases rx
 obtain ⟨its,r,ht,hz⟩:=I.tuple hx
 have hlen:its.toArray.size=xs.length:=by rw [List.size_toArray]; exact r.length.symm
 refine ⟨"tuple",_,PyProof.Rows.slot_tuple_getitem.lookup,ht.typeIs,?_⟩
 refine HT.getItem_tuple_cut ht hs pl pu (by rw [hlen]; exact hw) ?_ (by rw [hlen]; exact hz)
 rw [hlen]
 refine ⟨.ref s.heap.objs.size,_,I.laid (t' := s.toks) (o := .tup (cutV xs lo hi)) (fun b ob q=>Heap.get?_push_of_some _ q) (Nat.le_refl _) ?_,rfl,q _ (I.hok.fresh (Nat.le_refl _))⟩
 exact ⟨Nat.le_trans (cutV_length xs lo hi) hz,_,(r.drop (HT.sIx xs.length 0 lo)).take (HT.sIx xs.length xs.length hi - HT.sIx xs.length 0 lo),TupN.new _ _⟩
def rCatT (K:PySem.W.Frag):R2:=fun x y H Q=>∃ a b xs ys,x=.ref a/\y=.ref b/\SqT K H a xs/\SqT K H b ys/\xs ≠ []/\xs.length + ys.length <= sizeLine /\
 (ys=[]->Q (.ref a) H)/\(ys ≠ []->∀ p,H p=none->Q (.ref p) (upd H p (.tup (xs ++ ys))))
theorem Vals.nil_iff {xs:List V}{us:List Value} (r:Vals xs us):us=[] ↔ xs=[]:=by
 cases r with
 | nil=>simp
 | cons _ _=>simp
theorem op_catT:OpR X (binaryOp .Add) (rCatT X.K):=by
 intro pins s σ H x y v u Q I rx ry h
 obtain ⟨a,b,xs,ys,rfl,rfl,ha,hb,hx,hz,q1,q2⟩:=h
 cases rx
 cases ry
 obtain ⟨its,r1,p1,_⟩:=I.tuple ha
 obtain ⟨its2,r2,p2,_⟩:=I.tuple hb
 refine HT.cat_tup p1 p2 (fun z=>hx (r1.nil_iff.mp z)) (fun z=>⟨.ref a,H,I,rfl,q1 (r2.nil_iff.mp z)⟩) (fun z=>?_) (by rw [<- r1.length,<- r2.length]; exact hz)
 refine ⟨.ref s.heap.objs.size,_,I.laid (t' := s.toks) (o := .tup (xs ++ ys)) (fun b ob q=>Heap.get?_push_of_some _ q) (Nat.le_refl _) ?_,rfl,q2 (fun w=>z (r2.nil_iff.mpr w)) _ (I.hok.fresh (Nat.le_refl _))⟩
 exact ⟨by rw [List.length_append]; exact hz,_,r1.append r2,TupN.new _ _⟩
end
def ixN (n:Nat) (i:Int):Option Nat:=if 0 <= i then (if i < n then some i.toNat else none) else if -(n:Int) <= i then some (i + n).toNat else none
def atI {α:Type} (xs:List α) (i:Int):Option α:=(ixN xs.length i).bind fun j=>xs[j]?
theorem ixN_seq {n:Nat}{i:Int}{j:Nat} (h:ixN n i=some j):seqIndex? i n=some j/\j < n /\ -(n:Int) <= i/\i < n:=by
 unfold ixN at h
 by_cases h0:0 <= i
 ·rw [if_pos h0] at h
  by_cases h1:i < n
  ·rw [if_pos h1] at h
   have e:i.toNat=j:=Option.some.inj h
   exact ⟨by rw [seqIndex_of h0 h1,e],by omega,by omega,h1⟩
  ·rw [if_neg h1] at h; cases h
 ·rw [if_neg h0] at h
  by_cases h1 : -(n:Int) <= i
  ·rw [if_pos h1] at h
   have e:(i + n).toNat=j:=Option.some.inj h
   exact ⟨by rw [seqIndex_neg (by omega) h1,e],by omega,h1,by omega⟩
  ·rw [if_neg h1] at h; cases h
theorem atI_get {α:Type}{xs:List α}{i:Int}{v:α} (h:atI xs i=some v):∃ j,seqIndex? i xs.length=some j/\xs[j]?=some v/\j < xs.length /\ -(xs.length:Int) <= i/\i < xs.length:=by
 unfold atI at h
 cases e:ixN xs.length i with
 | none=>rw [e] at h; cases h
 | some j =>
  rw [e] at h
  obtain ⟨h1,h2,h3,h4⟩:=ixN_seq e
  exact ⟨j,h1,h,h2,h3,h4⟩
theorem atI_nat {α:Type}{xs:List α}{j:Nat}{v:α} (h:xs[j]?=some v):atI xs (j:Int)=some v:=by
 have hj:j < xs.length:=(List.getElem?_eq_some_iff.mp h).1
 have e:ixN xs.length (j:Int)=some j:=by
  unfold ixN
  rw [if_pos (by omega),if_pos (by omega)]; simp
 unfold atI; rw [e]; exact h
def PlainIx (b:Expr):Prop := ∀ o i,subscripted b false o i=operate [o,i] (getItem o i)
def IxR (X:Cx) (r:R2):Prop :=
 ∀ (value slice:Expr) (pins:List (Addr × Obj)) (s:Shared) (σ:St) (H:Hp) (x y:V) (v u:Value) (Q:VK),Inv X pins σ H s->RelV x v->RelV y u->r x y H Q ->
  subscripted slice false v u=operate [v,u] (getItem v u)->wpAny (model X.prog X.w) X.A (subscriptTail value slice v u) (EP X pins σ Q) X.xe s
def MtR (X:Cx) (id:String) (r:V->List V->Hp->VK->Prop):Prop :=
 ∀ (pins:List (Addr × Obj)) (s:Shared) (σ:St) (H:Hp) (x:V) (xs:List V) (v:Value) (us:List Value) (Q:VK),Inv X pins σ H s->RelV x v->Vals xs us->r x xs H Q ->
  wpAny (model X.prog X.w) X.A (call (.builtin id) (v :: us)) (EP X pins σ Q) X.xe s
section
variable {X:Cx}{a b:Expr}{ta tb:TE}{pos:Pos}
theorem IxR.or {r r':R2} (h:IxR X r) (h':IxR X r'):IxR X (fun x y H Q=>r x y H Q ∨ r' x y H Q):=by
 intro value slice pins s σ H x y v u Q I rx ry q hs
 rcases q with q | q
 ·exact h value slice pins s σ H x y v u Q I rx ry q hs
 ·exact h' value slice pins s σ H x y v u Q I rx ry q hs
theorem pe_ix {r:R2} (hr:IxR X r) (ha:PE X a ta) (hb:PE X b tb) (hs:PlainIx b):PE X (.Subscript a b pos) (tOp r ta tb):=by
 intro pins s σ H Q I h
 exact Subscript_ (binT ha hb I h fun v u s2 x y H2 I2 rx ry q=>hr a b pins s2 σ H2 x y v u Q I2 rx ry q (hs _ _))
def rIxL (K:PySem.W.Frag):R2:=fun x y H Q=>∃ p xs i v,x=.ref p/\y=.int i/\SqL K H p xs/\atI xs i=some v/\Q v H
def rIxT (K:PySem.W.Frag):R2:=fun x y H Q=>∃ p xs i v,x=.ref p/\y=.int i/\SqT K H p xs/\atI xs i=some v/\Q v H
def rIxS:R2:=fun x y H Q=>∃ z i c,x=.str z/\y=.int i/\z.length <= sizeLine/\atI z.cps.toList i=some c/\Q (.str ⟨#[c]⟩) H
theorem ix_list:IxR X (rIxL X.K):=by
 intro value slice pins s σ H x y v u Q I rx ry h hs
 obtain ⟨p,xs,i,z,rfl,rfl,hq,he,q⟩:=h
 cases rx
 obtain ⟨t,rfl⟩:=ry
 obtain ⟨its,r,pl,hz⟩:=I.list hq
 obtain ⟨j,h1,h2,h3,h4,h5⟩:=atI_get he
 obtain ⟨w,ew,rw'⟩:=r.get h2
 have hl:=r.length
 have hn:=line63
 have fin:EP X pins σ Q w s:=⟨z,H,I,rw',q⟩
 by_cases h0:0 <= i
 ·have hj:i.toNat=j:=by
   rw [seqIndex_of h0 h5] at h1
   exact Option.some.inj h1
  exact item_listR pl.isList h0 (by omega) (by rw [hj]; simpa using ew) fin hs
 ·have hj:(i + (its.toArray.size:Int)).toNat=j:=by
   rw [seqIndex_neg (by omega) h4] at h1
   rw [List.size_toArray,<- hl]
   exact Option.some.inj h1
  exact subscriptTail_builtinR (x:=w) pl.isList.typeIs slot_list_getitem.lookup
   (wpAny_getItem_list_neg (Q:=fun r s'=>r=w/\EP X pins σ Q r s') pl.isList (by omega) (by rw [List.size_toArray] <;> omega) (by omega) (by rw [hj]; simpa using ew) ⟨rfl,fin⟩) hs
theorem ix_tup:IxR X (rIxT X.K):=by
 intro value slice pins s σ H x y v u Q I rx ry h hs
 obtain ⟨p,xs,i,z,rfl,rfl,hq,he,q⟩:=h
 cases rx
 obtain ⟨t,rfl⟩:=ry
 obtain ⟨its,r,pl,hz⟩:=I.tuple hq
 obtain ⟨j,h1,h2,h3,h4,h5⟩:=atI_get he
 obtain ⟨w,ew,rw'⟩:=r.get h2
 have hl:=r.length
 have hn:=line63
 have fin:EP X pins σ Q w s:=⟨z,H,I,rw',q⟩
 exact subscriptTail_builtinR (x:=w) pl.typeIs slot_tuple_getitem.lookup
  (getItem_tuple (j:=j) (Q:=fun r s'=>r=w/\EP X pins σ Q r s') pl (by omega) (by omega) (by rw [List.size_toArray,<- hl]; exact h1) (by simpa using ew) ⟨rfl,fin⟩) hs
theorem ix_str:IxR X rIxS:=by
 intro value slice pins s σ H x y v u Q I rx ry h hs
 obtain ⟨z,i,c,rfl,rfl,hz,he,q⟩:=h
 obtain ⟨t,rfl⟩:=rx
 obtain ⟨t',rfl⟩:=ry
 obtain ⟨j,h1,h2,h3,h4,h5⟩:=atI_get he
 have hl:z.cps.toList.length=z.length:=by simp [Str.length]
 rw [hl] at h1 h4 h5
 have hn:=line63
 exact tail_any (typeIs_str s z t) slot_str_getitem.lookup (getItem_str (c:=c) (by
  have e1:decide (i < -(2 ^ 63:Int))=false:=decide_eq_false (by omega)
  have e2:decide (i ≥ 2 ^ 63)=false:=decide_eq_false (by omega)
  rw [e1,e2,Bool.or_false]) (by rw [h1]; simpa using h2) ⟨.str ⟨#[c]⟩,H,I.tok _,⟨_,rfl⟩,q⟩) hs
def rIx (K:PySem.W.Frag):R2:=fun x y H Q=>rIxL K x y H Q ∨ rIxT K x y H Q ∨ rIxS x y H Q
theorem ix_seq:IxR X (rIx X.K):=ix_list.or (ix_tup.or ix_str)
theorem slice_bounds (lo hi:Option Int) (n:Nat):(sliceBounds lo hi none n).1=((HT.sIx n 0 lo:Nat):Int)/\(sliceBounds lo hi none n).2.1=((HT.sIx n n hi:Nat):Int)/\(sliceBounds lo hi none n).2.2=1:=by
 refine ⟨?_,?_,rfl⟩
 ·cases lo with
  | none=>simp [sliceBounds,HT.sIx]
  | some i =>
   simp only [sliceBounds,HT.sIx,Option.getD_none,show (1:Int) > 0 by decide,if_true]
   by_cases h:i < 0
   ·simp only [h,if_true] <;> omega
   ·simp only [h,if_false] <;> omega
 ·cases hi with
  | none=>simp [sliceBounds,HT.sIx]
  | some i =>
   simp only [sliceBounds,HT.sIx,Option.getD_none,show (1:Int) > 0 by decide,if_true]
   by_cases h:i < 0
   ·simp only [h,if_true] <;> omega
   ·simp only [h,if_false] <;> omega
theorem slicePick_cut (its:List Value) (lo hi:Option Int):slicePick its.toArray lo hi none=((its.drop (HT.sIx its.length 0 lo)).take (HT.sIx its.length its.length hi - HT.sIx its.length 0 lo)).toArray:=by
 obtain ⟨h1,h2,h3⟩:=slice_bounds lo hi its.toArray.size
 unfold slicePick
 rw [h1,h2,h3]
 simp only [sliceRange_one,pick_run,List.size_toArray] <;> rfl
def rSlL (K:PySem.W.Frag):V->Option Int->Option Int->Hp->VK->Prop:=fun x lo hi H Q=>∃ a xs,x=.ref a/\SqL K H a xs/\∀ p,H p=none->Q (.ref p) (upd H p (.lst (cutV xs lo hi)))
theorem sl_list:SlR X (rSlL X.K):=by
 intro pins s σ H x v vl vu lo hi sl Q I rx hs pl pu h
 obtain ⟨a,xs,rfl,hx,q⟩:=h
 cases rx
 obtain ⟨its,r,ht,hz⟩:=I.list hx
 have hlen:=r.length
 refine ⟨"list",_,slot_list_getitem.lookup,ht.isList.typeIs,?_⟩
 refine wpAny_getItem_list_slice ht.isList hs pl pu .none (by simp) ?_ (by rw [List.size_toArray] <;> omega)
 rw [slicePick_cut,<- hlen]
 refine ⟨.ref s.heap.objs.size,_,I.laid (t' := s.toks) (o := .lst (cutV xs lo hi)) (fun b ob q=>Heap.get?_push_of_some _ q) (Nat.le_refl _) ?_,rfl,q _ (I.hok.fresh (Nat.le_refl _))⟩
 exact ⟨Nat.le_trans (cutV_length xs lo hi) hz,_,0,(r.drop (HT.sIx xs.length 0 lo)).take (HT.sIx xs.length xs.length hi - HT.sIx xs.length 0 lo),Heap.get?_push_size _ rfl⟩
def flatV:V->Bool
 | .non=>true
 | .bl _=>true
 | .int _=>true
 | .str _=>true
 | _=>false
def eqV:V->V->Bool
 | .non,.non=>true
 | .bl a,.bl b=>a == b
 | .bl a,.int b=>(if a then 1 else 0) == b
 | .int a,.bl b=>a == (if b then 1 else 0)
 | .int a,.int b=>a == b
 | .str a,.str b=>a == b
 | _,_=>false
theorem eqAt_V {A:Around}{s:Shared}{y x:V}{u v:Value} (ry:RelV y u) (rx:RelV x v) (fy:flatV y=true) (fx:flatV x=true):SeqAt.EqAt A s u v (eqV y x):=by
 cases y with
 | non =>
  cases ry
  cases x with
  | non=>cases rx; exact SeqAt.EqAt.same _
  | bl b=>cases rx; exact SeqAt.EqAt.none_bool b
  | int b=>obtain ⟨t,rfl⟩:=rx; exact SeqAt.EqAt.none_int b t
  | str b=>obtain ⟨t,rfl⟩:=rx; exact SeqAt.EqAt.none_str b t
  | _=>exact absurd (show false=true from fx) Bool.false_ne_true
 | bl a =>
  cases ry
  cases x with
  | non=>cases rx; exact SeqAt.EqAt.bool_none a
  | bl b=>cases rx; exact SeqAt.EqAt.bool_bool a b
  | int b=>obtain ⟨t,rfl⟩:=rx; exact SeqAt.EqAt.bool_int a b t
  | str b=>obtain ⟨t,rfl⟩:=rx; exact SeqAt.EqAt.bool_str a b t
  | _=>exact absurd (show false=true from fx) Bool.false_ne_true
 | int a =>
  obtain ⟨t',rfl⟩:=ry
  cases x with
  | non=>cases rx; exact SeqAt.EqAt.int_none a t'
  | bl b=>cases rx; exact SeqAt.EqAt.int_bool a t' b
  | int b=>obtain ⟨t,rfl⟩:=rx; exact SeqAt.EqAt.int_int a t' b t
  | str b=>obtain ⟨t,rfl⟩:=rx; exact SeqAt.EqAt.int_str a t' b t
  | _=>exact absurd (show false=true from fx) Bool.false_ne_true
 | str a =>
  obtain ⟨t',rfl⟩:=ry
  cases x with
  | non=>cases rx; exact SeqAt.EqAt.str_none a t'
  | bl b=>cases rx; exact SeqAt.EqAt.str_bool a t' b
  | int b=>obtain ⟨t,rfl⟩:=rx; exact SeqAt.EqAt.str_int a t' b t
  | str b=>obtain ⟨t,rfl⟩:=rx; exact SeqAt.EqAt.str_str a t' b t
  | _=>exact absurd (show false=true from fx) Bool.false_ne_true
 | _=>exact absurd (show false=true from fy) Bool.false_ne_true
def eqU (x:V) (u:Value):Bool:=match u with
 | .none=>eqV .non x
 | .bool b=>eqV (.bl b) x
 | .int i _=>eqV (.int i) x
 | .str z _=>eqV (.str z) x
 | _=>false
theorem eqU_of {x y:V}{u:Value} (r:RelV y u) (f:flatV y=true):eqU x u=eqV y x:=by
 cases y with
 | non=>cases r; rfl
 | bl b=>cases r; rfl
 | int i=>obtain ⟨t,rfl⟩:=r; rfl
 | str z=>obtain ⟨t,rfl⟩:=r; rfl
 | _=>exact absurd (show false=true from f) Bool.false_ne_true
theorem any_eqU {x:V}:∀ {xs:List V}{us:List Value},Vals xs us->xs.all flatV=true->us.any (eqU x)=xs.any fun y=>eqV y x
 | _,_,.nil,_=>rfl
 | y :: xs,u :: us,.cons r t,f=>by
  rw [List.all_cons,Bool.and_eq_true] at f
  rw [List.any_cons,List.any_cons,eqU_of r f.1,any_eqU t f.2]
theorem mem_eqAt {A:Around}{s:Shared}{x:V}{v:Value} (rx:RelV x v) (fx:flatV x=true):∀ {xs:List V}{us:List Value},Vals xs us->xs.all flatV=true->∀ u ∈ us,SeqAt.EqAt A s u v (eqU x u)
 | _,_,.nil,_=>fun u hu=>by cases hu
 | y :: xs,u :: us,.cons r t,f=>fun u' hu=>by
  rw [List.all_cons,Bool.and_eq_true] at f
  rcases List.mem_cons.mp hu with rfl | hu
  ·rw [eqU_of r f.1]; exact eqAt_V r rx f.1 fx
  ·exact mem_eqAt rx fx t f.2 u' hu
def inV (x:V) (xs:List V):Bool:=xs.any fun y=>eqV y x
def rIn (K:PySem.W.Frag) (neg:Bool):R2:=fun x y H Q=>∃ p xs,y=.ref p/\(SqL K H p xs ∨ SqT K H p xs)/\flatV x=true/\xs.all flatV=true/\Q (.bl (if neg then !inV x xs else inV x xs)) H
theorem op_in_seq:OpR X (compareOp .In) (rIn X.K false):=by
 intro pins s σ H x y v u Q I rx ry h
 obtain ⟨p,xs,rfl,hq,fx,fs,q⟩:=h
 cases ry
 rcases hq with hq | hq
 ·obtain ⟨its,r,pl,hz⟩:=I.list hq
  refine SeqAt.in_listAt (eqU x) pl.isList (fun w hw=>mem_eqAt rx fx r fs w (by simpa using hw)) ⟨.bl _,H,I,rfl,?_⟩
  rw [show its.toArray.any (eqU x)=its.any (eqU x) by simp,any_eqU r fs]
  exact q
 ·obtain ⟨its,r,pl,hz⟩:=I.tuple hq
  refine SeqAt.in_tupleAt (eqU x) pl (fun w hw=>mem_eqAt rx fx r fs w (by simpa using hw)) ⟨.bl _,H,I,rfl,?_⟩
  rw [show its.toArray.any (eqU x)=its.any (eqU x) by simp,any_eqU r fs]
  exact q
theorem op_notIn_seq:OpR X (compareOp .NotIn) (rIn X.K true):=by
 intro pins s σ H x y v u Q I rx ry h
 obtain ⟨p,xs,rfl,hq,fx,fs,q⟩:=h
 cases ry
 rcases hq with hq | hq
 ·obtain ⟨its,r,pl,hz⟩:=I.list hq
  refine SeqAt.notIn_listAt (eqU x) pl.isList (fun w hw=>mem_eqAt rx fx r fs w (by simpa using hw)) ⟨.bl _,H,I,rfl,?_⟩
  rw [show its.toArray.any (eqU x)=its.any (eqU x) by simp,any_eqU r fs]
  exact q
 ·obtain ⟨its,r,pl,hz⟩:=I.tuple hq
  refine SeqAt.notIn_tupleAt (eqU x) pl (fun w hw=>mem_eqAt rx fx r fs w (by simpa using hw)) ⟨.bl _,H,I,rfl,?_⟩
  rw [show its.toArray.any (eqU x)=its.any (eqU x) by simp,any_eqU r fs]
  exact q
theorem call_len_seq:CallR X (.builtin "len") (fun xs H Q=>∃ p ys,xs=[.ref p]/\(SqL X.K H p ys ∨ SqT X.K H p ys)/\Q (.int ys.length) H):=by
 intro pins s σ H xs us Q I r h
 obtain ⟨p,ys,rfl,hq,q⟩:=h
 obtain ⟨u,rfl,rx⟩:=vals1 r
 cases rx
 have hn:=line63
 rcases hq with hq | hq
 ·obtain ⟨its,r',pl,hz⟩:=I.list hq
  have hlen:=r'.length
  exact Calls.call_len_list pl.isList (by simp only [List.size_toArray] <;> omega) ⟨.int ys.length,H,I.tok _,⟨s.toks + 1,by rw [List.size_toArray,hlen]⟩,q⟩
 ·obtain ⟨its,r',pl,hz⟩:=I.tuple hq
  have hlen:=r'.length
  exact len_tuple pl (by simp only [List.size_toArray] <;> omega) ⟨.int ys.length,H,I.tok _,⟨s.toks + 1,by rw [List.size_toArray,hlen]⟩,q⟩
theorem call_len_str:CallR X (.builtin "len") (fun xs H Q=>∃ z,xs=[.str z]/\z.length <= sizeLine/\Q (.int z.length) H):=by
 intro pins s σ H xs us Q I r h
 obtain ⟨z,rfl,hz,q⟩:=h
 obtain ⟨u,rfl,t,rfl⟩:=vals1 r
 have hn:=line63
 exact len_str (by omega) ⟨.int z.length,H,I.tok _,⟨_,rfl⟩,q⟩
theorem CallR.or {f:Value}{r r':List V->Hp->VK->Prop} (h:CallR X f r) (h':CallR X f r'):CallR X f (fun xs H Q=>r xs H Q ∨ r' xs H Q):=by
 intro pins s σ H xs us Q I rs q
 rcases q with q | q
 ·exact h pins s σ H xs us Q I rs q
 ·exact h' pins s σ H xs us Q I rs q
theorem call_tuple_of:CallR X (.type "tuple") (fun xs H Q=>∃ p ys,xs=[.ref p]/\((SqL X.K H p ys/\∀ l,H l=none->Q (.ref l) (upd H l (.tup ys))) ∨ (SqT X.K H p ys/\Q (.ref p) H))):=by
 intro pins s σ H xs us Q I r h
 obtain ⟨p,ys,rfl,h⟩:=h
 obtain ⟨u,rfl,rx⟩:=vals1 r
 cases rx
 rcases h with ⟨hq,q⟩ | ⟨hq,q⟩
 ·obtain ⟨its,r',pl,hz⟩:=I.list hq
  have hlen:=r'.length
  refine call_tuple_list pl.isList (fun h' kp=>?_) (by simp only [List.size_toArray] <;> omega)
  have I1:Inv X pins σ H { s with heap:=h' }:=I.kept (t' := s.toks) kp
  have I2:Inv X pins σ (upd H h'.objs.size (.tup ys)) { s with heap:=h'.push { cls := .type "tuple",data := .seq its.toArray } } :=
   I1.laid (t' := s.toks) (fun b o e=>Heap.get?_push_of_some _ e) (Nat.le_refl _) (show ObjOk X.prog X.w _ _ _ (.tup ys) from ⟨hz,its,r',TupN.new _ _⟩)
  exact ⟨.ref h'.objs.size,_,I2,rfl,q _ (I1.hok.fresh (Nat.le_refl _))⟩
 ·obtain ⟨its,r',pl,hz⟩:=I.tuple hq
  exact call_tuple_same pl ⟨.ref p,H,I,rfl,q⟩
def tyV (K:PySem.W.Frag) (T:String) (x:V) (H:Hp):Prop:=match x with
 | .str _=>T = "str"
 | .int _=>T = "int"
 | .ref p=>(T = "list" /\ ∃ xs,SqL K H p xs) ∨ (T = "tuple" /\ ∃ o,K.lookup p=some o/\o.cls=.type "tuple" /\ o.dict=none) ∨
   (T = "dict" /\ ((∃ kvs,H p=some (.dK kvs)) ∨ ∃ kvs,H p=some (.dT kvs))) ∨ (T = "set" /\ ∃ S n,H p=some (.set S n))
 | _=>False
theorem tyV_is {pins:List (Addr × Obj)}{σ:St}{H:Hp}{s:Shared}{T:String}{x:V}{v:Value} (I:Inv X pins σ H s) (r:RelV x v) (ty:tyV X.K T x H) :
  s.TypeIs v T/\∀ a,v=.ref a->∃ ob,s.heap.get? a=some ob/\ob.dict=none:=by
 cases x with
 | str z =>
  obtain ⟨t,rfl⟩:=r
  cases (show T = "str" from ty)
  exact ⟨typeIs_str s z t,fun _ e=>nomatch e⟩
 | int i =>
  obtain ⟨t,rfl⟩:=r
  cases (show T = "int" from ty)
  exact ⟨typeIs_int s i t,fun _ e=>nomatch e⟩
 | ref p =>
  cases r
  rcases ty with ⟨rfl,xs,hq⟩ | ⟨rfl,o,hk,hc,hd⟩ | ⟨rfl,hk⟩ | ⟨rfl,S,n,hk⟩
  ·obtain ⟨its,_,pl,_⟩:=I.list hq
   refine ⟨pl.isList.typeIs,fun a e=>?_⟩
   cases e
   obtain ⟨o,n,e,c,hd,_⟩:=pl
   exact ⟨o,e,hd⟩
  ·refine ⟨⟨o,I.kIn p o hk,hc⟩,fun a e=>?_⟩
   cases e
   exact ⟨o,I.kIn _ o hk,hd⟩
  ·have z:∃ o,s.heap.get? p=some o/\o.ExactDict:=by
    rcases hk with ⟨kvs,hk⟩ | ⟨kvs,hk⟩
    ·obtain ⟨_,_,_,_,o,_,_,e,ex,_⟩:=I.hok p _ hk
     exact ⟨o,e,ex⟩
    ·obtain ⟨_,_,_,_,o,_,_,e,ex,_⟩:=I.hok p _ hk
     exact ⟨o,e,ex⟩
   obtain ⟨o,e,ex⟩:=z
   refine ⟨⟨o,e,ex.1⟩,fun a e2=>?_⟩
   cases e2
   exact ⟨o,e,ex.2.1⟩
  ·obtain ⟨o,_,_,_,e,ex,_⟩:=I.hok p _ hk
   refine ⟨⟨o,e,ex.1⟩,fun a e2=>?_⟩
   cases e2
   exact ⟨o,e,ex.2.1⟩
 | _=>exact False.elim ty
def tBM0 (K:PySem.W.Frag) (T:String) (r:V->List V->Hp->VK->Prop) (to:TE):TE:=fun σ H Q=>to σ H fun x H1=>tyV K T x H1/\r x [] H1 Q
def tBM (K:PySem.W.Frag) (T:String) (r:V->List V->Hp->VK->Prop) (to:TE) (t:TA):TE:=fun σ H Q=>to σ H fun x H1=>tyV K T x H1/\t σ H1 fun xs H2=>r x xs H2 Q
variable {o e:Expr}{es:List Expr}{to:TE}{t:TA}{name:Str}{apos cpos:Pos}{T id:String}{r:V->List V->Hp->VK->Prop}
theorem pe_bm0 (pa:PlainAttrs T) (slot:Slot T name id) (hty:typeOf (.builtin id)=pure (.type "method_descriptor")) (hm:MtR X id r) (ho:PE X o to)
  (hbase:attributeBase o name X.env (eval o X.env)=eval o X.env:=by rfl) (hline:(apos.endLine == cpos.line)=true:=by rfl):PE X (.Call (.Attribute o name apos) [] [] cpos) (tBM0 X.K T r to):=by
 intro pins s σ H Q I h
 refine wpAny_Call_method0_late hbase hline (thn (ho pins s σ H _ I h) fun v s1 ⟨x,H1,I1,r1,ty,q1⟩=>?_)
 obtain ⟨h1,h2⟩:=tyV_is I1 r1 ty
 exact ⟨T,id,pa,slot,hty,h1,h2,Calls.callWith_builtin rfl (PySem.evalArgs_none (hm pins s1 σ H1 x [] v [] Q I1 r1 .nil q1))⟩
theorem pe_bm (pa:PlainAttrs T) (slot:Slot T name id) (hty:typeOf (.builtin id)=pure (.type "method_descriptor")) (hm:MtR X id r) (ho:PE X o to) (ha:PA X (e :: es) t)
  (hbase:attributeBase o name X.env (eval o X.env)=eval o X.env:=by rfl)
  (hfew:((backTo cpos (starEach (e :: es) X.env)).all (fun x=>!x.1) && (backToKw cpos (keywordEach [] X.env)).all (fun x=>x.1.isSome)
   && decide ((e :: es).length + ([]:List Keyword).length + (if ([]:List Keyword).isEmpty then 0 else 1) < 30))=true:=by rfl)
  (hline:(apos.endLine == cpos.line)=true:=by rfl) (hs:starEach (e :: es) X.env=(false,eval e X.env) :: starEach es X.env:=by rfl) (hplain:(backTo cpos (starEach es X.env)).any (·.1)=false:=by rfl) :
  PE X (.Call (.Attribute o name apos) (e :: es) [] cpos) (tBM X.K T r to t):=by
 intro pins s σ H Q I h
 refine wpAny_Call_method_late hbase hfew hline rfl (thn (ho pins s σ H _ I h) fun v s1 ⟨x,H1,I1,r1,ty,q1⟩=>?_)
 obtain ⟨h1,h2⟩:=tyV_is I1 r1 ty
 refine ⟨T,id,pa,slot,hty,h1,h2,?_⟩
 have hA:=ha cpos pins s1 σ H1 _ I1 q1
 rw [hs] at hA ⊢
 refine Calls.callWith_builtin (by show (false || (backTo cpos (starEach es X.env)).any (·.1))=false; rw [hplain] <;> rfl) (Calls.evalArgs_plain ?_)
 exact thn hA fun us s2 hq5=>L2.ex5 hq5 fun vs H2 I2 r2 q2=>hm pins s2 σ H2 x vs v us Q I2 r1 r2 q2
end
def MtM (X:Cx) (id:String) (r:V->List V->Hp->VK->Prop):Prop :=
 ∀ (pins:List (Addr × Obj)) (s:Shared) (σ:St) (H:Hp) (x:V) (xs:List V) (v:Value) (us:List Value) (Q:VK),Inv X pins σ H s->RelV x v->Vals xs us->r x xs H Q ->
  wpAny (model X.prog X.w) X.A (call (.builtin id) (v :: us)) (EP X pins σ Q) X.xe s
theorem Vals.one {x:V}{us:List Value} (h:Vals [x] us):∃ u,us=[u]/\RelV x u:=by
 cases h with
 | cons r h=>cases h; exact ⟨_,rfl,r⟩
theorem Vals.two {x y:V}{us:List Value} (h:Vals [x,y] us):∃ u v,us=[u,v]/\RelV x u/\RelV y v:=by
 cases h with
 | cons r h =>
  cases h with
  | cons q h=>cases h; exact ⟨_,_,rfl,r,q⟩
theorem Vals.zero:∀ {us:List Value},Vals [] us->us=[]
 | _,.nil=>rfl
theorem Vals.dropLast {xs:List V}{us:List Value} (h:Vals xs us):Vals xs.dropLast us.dropLast:=by
 induction h with
 | nil=>exact .nil
 | cons r t ih =>
  cases t with
  | nil=>exact .nil
  | cons q t'=>exact .cons r ih
theorem erase_last {α:Type} (l:List α):l.eraseIdx (l.length - 1)=l.dropLast:=by
 induction l with
 | nil=>rfl
 | cons a r ih =>
  cases r with
  | nil=>rfl
  | cons b r =>
   have e:(a :: b :: r).length - 1=((b :: r).length - 1) + 1:=by
    have h1:(a :: b :: r).length=r.length + 2:=rfl
    have h2:(b :: r).length=r.length + 1:=rfl
    omega
   rw [e,List.eraseIdx_cons_succ,ih]
   all_goals rfl
section
variable {X:Cx}{pins:List (Addr × Obj)}{σ:St}{H:Hp}{s:Shared}{l b:Addr}{xs ys zs:List V}
theorem Inv.lset {its its':List Value}{n:Nat}{f:Array Value->Array Value}{t':Nat} (I:Inv X pins σ H s) (hH:H l=some (.lst xs))
  (e:s.heap.get? l=some { cls := .type "list",data := .seq its.toArray n }) (hf:f its.toArray=its'.toArray) (hv:Vals ys its') (hz:ys.length <= sizeLine) :
  Inv X pins σ (upd H l (.lst ys)) { s with heap:=s.heap.update l (Obj.mapSeq f),toks:=t' }:=by
 have q:=PySem.IsL.update e f
 rw [hf] at q
 refine I.write (x:=l) (e:=l) (by rw [hH]; exact trivial) (.inl rfl) (fun b' u hb hu=>(Heap.get?_update_other s.heap (Obj.mapSeq f) (Ne.symm hb)).trans hu) ⟨_,q⟩ ?_
 exact ⟨hz,its',_,hv,q⟩
theorem Inv.lnew {its:List Value}{t':Nat} (I:Inv X pins σ H s) (hv:Vals ys its) (hz:ys.length <= sizeLine) :
  Inv X pins σ (upd H s.heap.objs.size (.lst ys)) { s with heap:=s.heap.push { cls := .type "list",data := .seq its.toArray },toks:=t' } :=
 I.laid (fun _ _ q=>Heap.get?_push_of_some _ q) (Nat.le_refl _) ⟨hz,its,0,hv,Heap.get?_push_size _ rfl⟩
theorem Inv.fresh (I:Inv X pins σ H s):H s.heap.objs.size=none:=I.hok.fresh (Nat.le_refl _)
theorem Inv.lstM (I:Inv X pins σ H s) (hH:H l=some (.lst xs)):xs.length <= sizeLine/\∃ (its:List Value) (n:Nat),Vals xs its/\xs.length=its.length/\s.heap.get? l=some { cls := .type "list",data := .seq its.toArray n }:=by
 obtain ⟨z,its,n,r,e⟩:=I.hok l _ hH
 exact ⟨z,its,n,r,r.length,e⟩
theorem notLongL {n:Nat} (h:n <= sizeLine):Builtin.List.listTooLong n=false:=by
 unfold Builtin.List.listTooLong
 exact decide_eq_false (by omega)
end
section
variable {X:Cx}
def rAppend:V->List V->Hp->VK->Prop:=fun x vs H Q=>∃ l xs y,x=.ref l/\vs=[y]/\H l=some (.lst xs)/\xs.length < sizeLine/\Q .non (upd H l (.lst (xs ++ [y])))
theorem mt_append:MtM X "list.append" rAppend:=by
 intro pins s σ H x vs v us Q I rx rv h
 obtain ⟨l,xs,y,rfl,rfl,hH,hz,q⟩:=h
 cases rx
 obtain ⟨u,rfl,ru⟩:=rv.one
 obtain ⟨z,its,n,r,hl,e⟩:=I.lstM hH
 refine call_meets F.slot_list_append ⟨_,e,rfl⟩ F.entry_list_append (F.args_list_append_2 _ _) (PySem.list_append l its.toArray n u (by rw [List.size_toArray]; omega)) ⟨e,?_⟩
 refine ⟨.non,_,I.lset (its' := its ++ [u]) hH e (by simp) (r.append (.cons ru .nil)) ?_,rfl,q⟩
 rw [List.length_append,List.length_singleton]
 omega
def rExtend:V->List V->Hp->VK->Prop:=fun x vs H Q=>∃ l b xs zs,x=.ref l/\vs=[.ref b]/\H l=some (.lst xs)/\H b=some (.lst zs)/\xs.length + zs.length <= sizeLine/\Q .non (upd H l (.lst (xs ++ zs)))
theorem mt_extend:MtM X "list.extend" rExtend:=by
 intro pins s σ H x vs v us Q I rx rv h
 obtain ⟨l,b,xs,zs,rfl,rfl,hH,hB,hz,q⟩:=h
 cases rx
 obtain ⟨u,rfl,ru⟩:=rv.one
 cases ru
 obtain ⟨z,its,n,r,hl,e⟩:=I.lstM hH
 obtain ⟨z2,its2,n2,r2,hl2,e2⟩:=I.lstM hB
 have hsz:its.toArray.size + its2.toArray.size <= sizeLine:=by rw [List.size_toArray,List.size_toArray]; omega
 have hlong:¬ (!its.toArray.isEmpty && Builtin.List.listTooLong (its.toArray.size + its2.toArray.size))=true:=by
  rw [notLongL hsz,Bool.and_false]
  exact Bool.false_ne_true
 refine call_meets F.slot_list_extend ⟨_,e,rfl⟩ F.entry_list_extend (F.args_list_extend_2 _ _)
  (AutoSeq1.list_extend_list_list_0 l its.toArray n b its2.toArray n2 hlong (by rw [List.size_toArray]; omega) (by omega)) ⟨e,e2,?_⟩
 refine ⟨.non,_,I.lset (its' := its ++ its2) hH e (by simp) (r.append r2) ?_,rfl,q⟩
 rw [List.length_append]
 omega
def rPop:V->List V->Hp->VK->Prop:=fun x vs H Q=>∃ l xs y,x=.ref l/\vs=[]/\H l=some (.lst xs)/\xs[xs.length - 1]?=some y/\Q y (upd H l (.lst xs.dropLast))
theorem mt_pop:MtM X "list.pop" rPop:=by
 intro pins s σ H x vs v us Q I rx rv h
 obtain ⟨l,xs,y,rfl,rfl,hH,hy,q⟩:=h
 cases rx
 have hus:=rv.zero
 subst hus
 obtain ⟨z,its,n,r,hl,e⟩:=I.lstM hH
 obtain ⟨u,hu,ru⟩:=r.get hy
 have hy':its.toArray[its.toArray.size - 1]?=some u:=by
  show its.toArray[its.length - 1]?=some u
  rw [<- Array.getElem?_toList,<- hl]
  exact hu
 refine call_meets F.slot_list_pop ⟨_,e,rfl⟩ F.entry_list_pop (F.args_list_pop_1 _) (MeetsSeq.list_pop_last l its.toArray n u hy' (by rw [List.size_toArray]; omega)) ⟨e,?_⟩
 refine ⟨y,_,I.lset (its' := its.dropLast) hH e ?_ r.dropLast ?_,ru,q⟩
 ·show its.toArray.eraseIdxIfInBounds (its.toArray.size - 1)=its.dropLast.toArray
  rw [List.size_toArray,List.eraseIdxIfInBounds_toArray,erase_last]
 ·rw [List.length_dropLast]
  omega
end
section
variable {prog:Program}{w:World}{A:Around}{E:Value->Shared->Prop}{s:Shared}
end
section
variable {X:Cx}
end
section
variable {κ:Type} [DecidableEq κ]
def valV (kvs:List (κ × V)) (k:κ):Option V:=(kvs.find? fun kv=>decide (kv.1=k)).map (·.2)
def putK (kvs:List (κ × V)) (k:κ) (v:V):List (κ × V) :=
 if (kvs.any fun kv=>decide (kv.1=k))=true then kvs.map (fun kv=>if kv.1=k then (kv.1,v) else kv) else kvs ++ [(k,v)]
theorem valV_pos {p:κ × V}{r:List (κ × V)}{k:κ} (e:p.1=k):valV (p :: r) k=some p.2:=by simp [valV,List.find?_cons,e]
theorem valV_neg {p:κ × V}{r:List (κ × V)}{k:κ} (e:¬ p.1=k):valV (p :: r) k=valV r k:=by simp [valV,List.find?_cons,e]
theorem valV_any (k:κ):∀ kvs:List (κ × V),(kvs.any fun kv=>decide (kv.1=k))=(valV kvs k).isSome
 | []=>rfl
 | p :: r=>by
  rw [List.any_cons]
  by_cases e:p.1=k
  ·simp only [valV_pos e,decide_eq_true e,Bool.true_or,Option.isSome_some]
  ·rw [valV_neg e,decide_eq_false e,Bool.false_or]; exact valV_any k r
theorem length_putK (kvs:List (κ × V)) (k:κ) (v:V):(putK kvs k v).length <= kvs.length + 1:=by
 unfold putK
 split
 ·rw [List.length_map]; omega
 ·rw [List.length_append,List.length_cons,List.length_nil]; omega
theorem RelO.isSome_eq {o:Option V}{u:Option Value} (r:RelO o u):o.isSome=u.isSome:=by
 cases o with
 | none=>cases u with
  | none=>rfl
  | some _=>exact (show False from r).elim
 | some _=>cases u with
  | none=>exact (show False from r).elim
  | some _=>rfl
theorem KV.val {kvs:List (κ × V)}{vs:List (κ × Value)} (r:KV kvs vs) (k:κ):RelO (valV kvs k) (valueAt vs k):=by
 unfold KV at r
 induction r with
 | nil=>exact True.intro
 | @cons p q ps qs h t ih =>
  obtain ⟨h1,h2⟩:=h
  by_cases e:p.1=k
  ·have e':q.1=k:=h1.symm.trans e
   have b:valueAt (q :: qs) k=some q.2:=by simp [valueAt,List.find?_cons,e']
   rw [valV_pos e,b]; exact h2
  ·have e':¬ q.1=k:=fun z=>e (h1.trans z)
   have b:valueAt (q :: qs) k=valueAt qs k:=by simp [valueAt,List.find?_cons,e']
   rw [valV_neg e,b]; exact ih
theorem KV.any {kvs:List (κ × V)}{vs:List (κ × Value)} (r:KV kvs vs) (k:κ):(kvs.any fun kv=>decide (kv.1=k))=vs.any fun kv=>decide (kv.1=k):=by
 unfold KV at r
 induction r with
 | nil=>rfl
 | cons h t ih=>rw [List.any_cons,List.any_cons,ih,h.1]
theorem KV.repl {kvs:List (κ × V)}{vs:List (κ × Value)} (r:KV kvs vs) (k:κ) {y:V}{u:Value} (ry:RelV y u) :
  KV (kvs.map fun kv=>if kv.1=k then (kv.1,y) else kv) (vs.map fun kv=>if kv.1=k then (kv.1,u) else kv):=by
 unfold KV at r ⊢
 induction r with
 | nil=>exact .nil
 | @cons p q ps qs h t ih =>
  rw [List.map_cons,List.map_cons]
  refine .cons ?_ ih
  obtain ⟨h1,h2⟩:=h
  by_cases e:p.1=k
  ·rw [if_pos e,if_pos (h1.symm.trans e)]; exact ⟨h1,ry⟩
  ·rw [if_neg e,if_neg (fun z=>e (h1.trans z))]; exact ⟨h1,h2⟩
theorem KV.put {kvs:List (κ × V)}{vs:List (κ × Value)} (r:KV kvs vs) (k:κ) {y:V}{u:Value} (ry:RelV y u):KV (putK kvs k y) (stored vs k u):=by
 unfold putK stored
 rw [r.any k]
 by_cases e:(vs.any fun kv=>decide (kv.1=k))=true
 ·rw [if_pos e,if_pos e]; exact r.repl k ry
 ·rw [if_neg e,if_neg e]; exact Paired.snoc r ⟨rfl,ry⟩
theorem KV.length {kvs:List (κ × V)}{vs:List (κ × Value)} (r:KV kvs vs):kvs.length=vs.length:=Paired.length r
end
theorem kV_is {P:Program}{w:World}{k:Key}{u:Value} (r:RelV (kV k) u):(mixKind P w).is k u=true:=by
 cases k with
 | inl i=>obtain ⟨t,e⟩:=(show ∃ t,u=Value.int i t from r); subst e; exact mixKind_int P w i t
 | inr x=>obtain ⟨t,e⟩:=(show ∃ t,u=Value.str x t from r); subst e; exact mixKind_str P w x t
theorem items_are {P:Program}{w:World}:∀ {ks:List Key}{us:List Value},Vals (ks.map kV) us->ItemsAre (mixKind P w) ks us
 | [],_,r=>by rw [List.map_nil] at r; cases r; exact .nil
 | k :: ks,_,r=>by
  rw [List.map_cons] at r
  cases r with
  | cons h t=>exact .cons (kV_is h) (items_are t)
abbrev KT (H:Hp):List (List Key × V)->List (List Key × Addr × Value)->Prop:=Paired fun p q=>p.1=q.1/\H q.2.1=some (.tup (p.1.map kV))/\RelV p.2 q.2.2
theorem KT.val {H:Hp}{kvs:List (List Key × V)}{xs:List (List Key × Addr × Value)} (r:KT H kvs xs) (k:List Key):RelO (valV kvs k) ((atKey xs k).map (·.2)):=by
 induction r with
 | nil=>exact True.intro
 | @cons p q ps qs h t ih =>
  obtain ⟨h1,_,h2⟩:=h
  by_cases e:p.1=k
  ·have e':q.1=k:=h1.symm.trans e
   have b:atKey (q :: qs) k=some q.2:=by simp [atKey,List.find?_cons,e']
   rw [valV_pos e,b]; exact h2
  ·have e':¬ q.1=k:=fun z=>e (h1.trans z)
   have b:atKey (q :: qs) k=atKey qs k:=by simp [atKey,List.find?_cons,e']
   rw [valV_neg e,b]; exact ih
theorem KT.repl {H:Hp}{kvs:List (List Key × V)}{xs:List (List Key × Addr × Value)} (r:KT H kvs xs) (k:List Key) {y:V}{u:Value} (ry:RelV y u) :
  KT H (kvs.map fun kv=>if kv.1=k then (kv.1,y) else kv) (xs.map (putAt k u)):=by
 induction r with
 | nil=>exact .nil
 | @cons p q ps qs h t ih =>
  rw [List.map_cons,List.map_cons]
  refine .cons ?_ ih
  obtain ⟨h1,h2,h3⟩:=h
  unfold putAt
  by_cases e:p.1=k
  ·rw [if_pos e,if_pos (h1.symm.trans e)]; exact ⟨h1,h2,ry⟩
  ·rw [if_neg e,if_neg (fun z=>e (h1.trans z))]; exact ⟨h1,h2,h3⟩
theorem KT.put {H:Hp}{kvs:List (List Key × V)}{xs:List (List Key × Addr × Value)} (r:KT H kvs xs) (k:List Key) {b:Addr}{y:V}{u:Value} (hb:H b=some (.tup (k.map kV))) (ry:RelV y u) :
  KT H (putK kvs k y) (storedH xs k b u):=by
 have e:(kvs.any fun kv=>decide (kv.1=k))=(atKey xs k).isSome:=by
  rw [valV_any,(r.val k).isSome_eq,Option.isSome_map]
 unfold putK storedH
 rw [e]
 by_cases q:(atKey xs k).isSome=true
 ·rw [if_pos q,if_pos q]; exact r.repl k ry
 ·rw [if_neg q,if_neg q]; exact Paired.snoc r ⟨rfl,hb,ry⟩
theorem KT.keeps {H H':Hp}{kvs:List (List Key × V)}{xs:List (List Key × Addr × Value)} (r:KT H kvs xs) (ht:∀ b ys,H b=some (.tup ys)->H' b=some (.tup ys)):KT H' kvs xs :=
 Paired.mapP r fun _ _ z=>⟨z.1,ht _ _ z.2.1,z.2.2⟩
section
variable {P:Program}{w:World}{H:Hp}{h:Heap}{a:Addr}
theorem rd_of {u:HO} (ok:HOk P w H h) (e:Rd H a u):ObjOk P w H h a u:=e.ok ok
theorem dk_rd {kvs:List (Key × V)} (ok:HOk P w H h) (e:Rd H a (.dK kvs)):kvs.length <= sizeLine/\(a == sysModules)=false/\∃ vs,KV kvs vs/\h.DictOf (mixKind P w) a vs :=
 show ObjOk P w H h a (.dK kvs) from rd_of ok e
theorem dk_of {kvs:List (Key × V)} (ok:HOk P w H h) (e:H a=some (.dK kvs)):kvs.length <= sizeLine/\(a == sysModules)=false/\∃ vs,KV kvs vs/\h.DictOf (mixKind P w) a vs:=dk_rd ok (.inl e)
theorem key_of {ks:List Key} (ok:HOk P w H h) (e:H a=some (.tup (ks.map kV))):(tupleKind (mixKind P w)).is h ks a:=by
 obtain ⟨_,its,r,tn⟩:=(show ObjOk P w H h a (.tup (ks.map kV)) from ok a _ e)
 obtain ⟨o,h1,h2,n,h3⟩:=tn.is
 exact ⟨o,its.toArray,n,h1,h2,h3,by simpa using items_are r⟩
theorem dt_rd {kvs:List (List Key × V)} (ok:HOk P w H h) (e:Rd H a (.dT kvs)):kvs.length <= sizeLine/\(a == sysModules)=false /\
  ∃ xs,KT H kvs xs/\h.DictOfH (tupleKind (mixKind P w)) a xs:=by
 obtain ⟨z,y,xs,r,o,es,ep,h1,h2,h3,h4,h5⟩:=(show ObjOk P w H h a (.dT kvs) from rd_of ok e)
 refine ⟨z,y,xs,r,o,es,ep,h1,h2,h3,h4,fun x hx=>?_,h5⟩
 have all:∀ {l:List (List Key × V)}{m:List (List Key × Addr × Value)},KT H l m->∀ x ∈ m,(tupleKind (mixKind P w)).is h x.1 x.2.1:=by
  intro l m q
  induction q with
  | nil=>intro x hx; exact nomatch hx
  | @cons p q ps qs hq t ih =>
   intro x hx
   rcases List.mem_cons.mp hx with e | hx
   ·subst e
    exact key_of ok (by rw [<- hq.1]; exact hq.2.1)
   ·exact ih x hx
 exact all r x hx
theorem dt_of {kvs:List (List Key × V)} (ok:HOk P w H h) (e:H a=some (.dT kvs)):kvs.length <= sizeLine/\(a == sysModules)=false /\
  ∃ xs,KT H kvs xs/\h.DictOfH (tupleKind (mixKind P w)) a xs:=dt_rd ok (.inl e)
end
def DGet (H:Hp) (a:Addr) (y:V) (r:Option V):Prop :=
 (∃ kvs k,Rd H a (.dK kvs)/\y=kV k/\r=valV kvs k) ∨ ∃ kvs k b,Rd H a (.dT kvs)/\y=.ref b/\H b=some (.tup (k.map kV))/\r=valV kvs k
def DPut (H:Hp) (a:Addr) (y v:V) (H':Hp):Prop :=
 (∃ kvs k,H a=some (.dK kvs)/\y=kV k/\kvs.length < sizeLine/\H'=upd H a (.dK (putK kvs k v))) ∨
 ∃ kvs k b,H a=some (.dT kvs)/\y=.ref b/\H b=some (.tup (k.map kV))/\kvs.length < sizeLine/\H'=upd H a (.dT (putK kvs k v))
theorem DGet.k {H:Hp}{a:Addr}{kvs:List (Key × V)}{k:Key} (e:H a=some (.dK kvs)):DGet H a (kV k) (valV kvs k) := .inl ⟨kvs,k,.inl e,rfl,rfl⟩
theorem DGet.t {H:Hp}{a b:Addr}{kvs:List (List Key × V)}{k:List Key} (e:H a=some (.dT kvs)) (eb:H b=some (.tup (k.map kV))):DGet H a (.ref b) (valV kvs k) := .inr ⟨kvs,k,b,.inl e,rfl,eb,rfl⟩
theorem DPut.k {H:Hp}{a:Addr}{kvs:List (Key × V)}{k:Key}{v:V} (e:H a=some (.dK kvs)) (hl:kvs.length < sizeLine):DPut H a (kV k) v (upd H a (.dK (putK kvs k v))) := .inl ⟨kvs,k,e,rfl,hl,rfl⟩
theorem DPut.t {H:Hp}{a b:Addr}{kvs:List (List Key × V)}{k:List Key}{v:V} (e:H a=some (.dT kvs)) (eb:H b=some (.tup (k.map kV))) (hl:kvs.length < sizeLine) :
  DPut H a (.ref b) v (upd H a (.dT (putK kvs k v))) := .inr ⟨kvs,k,b,e,rfl,eb,hl,rfl⟩
section
variable {X:Cx}{pins:List (Addr × Obj)}{σ:St}{H:Hp}{s:Shared}{a:Addr}{y v:V}{u r:Value}{o:Option V}{A:Around}{E:Value->Shared->Prop}
theorem Inv.big (I:Inv X pins σ H s):sysModules < s.heap.objs.size:=by
 have h:mainGlobals < s.heap.objs.size:=(I.mod.glob.keeps I.bk).lt
 exact Nat.lt_trans (by decide) h
theorem d_getItem {Q:Value->Shared->Prop} (hu:A.units + 1 < cLine) (I:Inv X pins σ H s) (g:DGet H a y (some v)) (ry:RelV y u) (h:∀ w' s',Inv X pins σ H s'->RelV v w'->Q w' s') :
  wpAny (model X.prog X.w) A (getItem (.ref a) u) Q E s:=by
 rcases g with ⟨kvs,k,e,ey,l⟩ | ⟨kvs,k,b,e,ey,eb,l⟩
 ·subst ey
  obtain ⟨z,hd,vs,rel,dd⟩:=dk_rd I.hok e
  obtain ⟨w',hw,rw'⟩:=RelO.some_of (v:=v) (o:=valueAt vs k) (by rw [l]; exact rel.val k)
  exact wpAny_getItem_of (kV_is ry) dd.mapOf hw (h w' _ (I.tok _) rw')
 ·subst ey
  cases (show u=Value.ref b from ry)
  obtain ⟨z,hd,xs,rel,dd⟩:=dt_rd I.hok e
  obtain ⟨w',hw,rw'⟩:=RelO.some_of (v:=v) (o:=(atKey xs k).map (·.2)) (by rw [l]; exact rel.val k)
  obtain ⟨p,hp,hp2⟩:=Option.map_eq_some_iff.mp hw
  refine wpAny_getItem_heap (tupleKind_room_in1 hu) (key_of I.hok eb) dd hp ?_
  rw [hp2]
  exact h w' _ (I.tok _) rw'
theorem d_write {h':Heap}{t':Nat}{ob:HO} (I:Inv X pins σ H s) (mu:Mut (H a)) (hs:Heap.SameBut a s.heap h') (he:∃ q,h'.get? a=some q) (new:ObjOk X.prog X.w (upd H a ob) h' a ob) :
  Inv X pins σ (upd H a ob) { s with heap:=h',toks:=t' } :=
 I.write (x:=a) (e:=a) mu (.inl rfl) (fun b q hb z=>(hs.2 b hb).trans z) he new
theorem dk_new {P:Program}{w:World}{H':Hp}{h':Heap}{kvs:List (Key × V)}{vs:List (Key × Value)} (z:kvs.length <= sizeLine) (hd:(a == sysModules)=false) (rel:KV kvs vs) (dd:h'.DictOf (mixKind P w) a vs) :
  ObjOk P w H' h' a (.dK kvs):=⟨z,hd,vs,rel,dd⟩
theorem d_setItem {H':Hp}{Q:Unit->Shared->Prop} (hu:A.units + 1 < cLine) (I:Inv X pins σ H s) (g:DPut H a y v H') (ry:RelV y u) (rv:RelV v r) (h:∀ s',Inv X pins σ H' s'->Q () s') :
  wpAny (model X.prog X.w) A (setItem (.ref a) u r) Q E s:=by
 rcases g with ⟨kvs,k,e,ey,l,eH⟩ | ⟨kvs,k,b,e,ey,eb,l,eH⟩
 ·subst ey eH
  obtain ⟨z,hd,vs,rel,dd⟩:=dk_of I.hok e
  have hz:vs.length <= sizeLine:=by rw [<- rel.length]; exact z
  have hl:(putK kvs k v).length <= sizeLine:=by have:=length_putK kvs k v; omega
  refine wpAny_setItem_pairs (hsz:=hz) (kV_is ry) dd fun h' dd' hs=>h _ ?_
  have he:∃ q,h'.get? a=some q:=let ⟨q,_,_,hq,_⟩:=dd'; ⟨q,hq⟩
  exact d_write I (by rw [e]; exact True.intro) hs he (dk_new hl hd (rel.put k rv) dd')
 ·subst ey eH
  cases (show u=Value.ref b from ry)
  obtain ⟨z,hd,xs,rel,dd⟩:=dt_of I.hok e
  have hz:xs.length <= sizeLine:=by rw [<- Paired.length rel]; exact z
  have hl:(putK kvs k v).length <= sizeLine:=by have:=length_putK kvs k v; omega
  refine wpAny_setItem_heap (hsz:=hz) (tupleKind_room_in1 hu) (key_of I.hok eb) dd fun h' dd' hs=>h _ ?_
  obtain ⟨q,es,ep,hq,h2,h3,h4,_,h5⟩:=dd'
  refine d_write I (by rw [e]; exact True.intro) hs ⟨q,hq⟩ ⟨hl,hd,_,(rel.put k eb rv).keeps fun c ys ec=>?_,q,es,ep,hq,h2,h3,h4,h5⟩
  rw [upd_ne (ne_of ec e (fun z=>nomatch z))]
  exact ec
end
section
variable {X:Cx}{pins:List (Addr × Obj)}{σ:St}{H:Hp}{s:Shared}{a:Addr}{kvs:List (Key × V)}{k:Key}{u:Value}{A:Around}{E:Value->Shared->Prop}
end
def NoSl (i:Expr):Prop := ∀ ov iv,subscripted i false ov iv=operate [ov,iv] (getItem ov iv)
theorem subD_of {prog:Program}{w:World}{A:Around}{E:Value->Shared->Prop}{s:Shared}{env:Env}{value slice:Expr}{pos:Pos}{T id:String}{Q:Value->Shared->Prop}
  (hl:typeLookup (.type T) "__getitem__" = pure (some (.builtin id))) (hs:NoSl slice)
  (h:wpAny (model prog w) A (eval value env) (fun o s₁=>wpAny (model prog w) A (eval slice env) (fun i s₂=>s₂.TypeIs o T/\wpAny (model prog w) A (getItem o i) Q E s₂) E s₁) E s) :
  wpAny (model prog w) A (eval (.Subscript value slice pos) env) Q E s:=by
 refine Subscript_ (wpAny_mono h (fun o s₁ h₁=>wpAny_mono h₁ (fun i s₂ h₂=>?_) fun _ _ x=>x) fun _ _ x=>x)
 obtain ⟨hT,h₂⟩:=h₂
 unfold subscriptTail
 refine wpAny_bind ?_
 rw [getitemInPython_of_ne hT.not_modules]
 refine wpAny_bind (wpAny_specialOf hT hl ?_)
 have fin:wpAny (model prog w) A (subscripted slice false o i) (fun r s₃=>wpAny (model prog w) A (letTemporaryGo value o r >>= fun _=>pure r) Q E s₃) E s₂:=by
  rw [hs o i]
  exact wpAny_operating (wpAny_mono h₂ (fun r s₃ h₃=>wpAny_bind (wpAny_letTemporaryGo (wpAny_pure h₃))) fun _ _ x=>x)
 first
  | exact wpAny_pure (wpAny_bind fin)
  | exact wpAny_bind (wpAny_pure (wpAny_bind fin))
  | exact wpAny_bind fin
theorem dict_typeIs {X:Cx}{pins:List (Addr × Obj)}{σ:St}{H:Hp}{s:Shared}{a:Addr}{y:V}{o:Option V} (I:Inv X pins σ H s) (g:DGet H a y o):s.TypeIs (.ref a) "dict" := by
 rcases g with ⟨kvs,k,e,_,_⟩ | ⟨kvs,k,b,e,_,_,_⟩
 ·obtain ⟨_,_,vs,_,dd⟩:=dk_rd I.hok e
  exact dd.typeIs
 ·obtain ⟨_,_,xs,_,dd⟩:=dt_rd I.hok e
  exact dd.typeIs
def tDGet (td ty:TE):TE:=fun σ H Q=>td σ H fun x H1=>ty σ H1 fun y H2=>∃ a v,x=.ref a/\DGet H2 a y (some v)/\Q v H2
def sDPut (td ty tv:TE):TS:=fun D σ H=>tv σ H fun v H1=>td σ H1 fun x H2=>ty σ H2 fun y H3=>∃ a H4,x=.ref a/\DPut H3 a y v H4/\D.nx σ H4
section
variable {X:Cx}{o i e value:Expr}{pos pos' tpos:Pos}{td ty tv:TE}
theorem pe_dget (hu:X.A.units + 1 < cLine) (ho:PE X o td) (hi:PE X i ty) (hs:NoSl i):PE X (.Subscript o i pos) (tDGet td ty):=by
 intro pins s σ H Q I h
 refine subD_of PySem.F.slot_dict_getitem.lookup hs (thn (ho pins s σ H _ I h) fun u s1 hq5=>L2.ex5 hq5 fun x H1 I1 rx q1=>thn (hi pins s1 σ H1 _ I1 q1) fun iv s2 ⟨y,H2,I2,ry,a,v,ex,g,q2⟩=>?_)
 subst ex
 obtain rfl:u=Value.ref a:=rx
 exact ⟨dict_typeIs I2 g,d_getItem hu I2 g ry fun w' s3 I3 rw'=>⟨v,H2,I3,rw',q2⟩⟩
theorem ps_dput (hu:X.A.units + 1 < cLine) (ho:PE X o td) (hi:PE X i ty) (hv:PE X value tv) (hs:swapsWith value (some (.Subscript o i pos')) pos.line X.env=pure false) :
  PS X (.Assign [.Subscript o i pos'] value pos) (sDPut td ty tv):=by
 intro pins s σ H D I h
 refine wpAny_Assign_Subscript (thn (hv pins s σ H _ I h) fun r s1 hq5=>L2.ex5 hq5 fun v H1 I1 rv q1=>thn (ho pins s1 σ H1 _ I1 q1) fun u s2 hq5=>L2.ex5 hq5 fun x H2 I2 rx q2=>thn (hi pins s2 σ H2 _ I2 q2) fun iv s3 ⟨y,H3,I3,ry,a,H4,ex,g,q3⟩=>?_) hs
 subst ex
 obtain rfl:u=Value.ref a:=rx
 exact d_setItem hu I3 g ry rv fun s4 I4=>⟨σ,H4,I4,q3⟩
end
theorem dt_empty {P:Program}{w:World}{H:Hp} (h:Heap) (hb:sysModules < h.objs.size):ObjOk P w H (h.push { cls := .type "dict",data := .dict #[] }) h.objs.size (.dT []) :=
 ⟨Nat.zero_le _,beq_eq_false_iff_ne.mpr (Ne.symm (Nat.ne_of_lt hb)),[],.nil,_,#[],0,Heap.get?_push_size _ rfl,⟨rfl,rfl,rfl⟩,rfl,rfl,List.nodup_nil⟩
def tDNewT:TE:=fun _ H Q=>∀ p,H p=none->Q (.ref p) (upd H p (.dT []))
section
variable {X:Cx}{pos:Pos}
theorem pe_dnewT:PE X (.Dict [] [] pos) tDNewT:=fun pins s σ H Q I h =>
 wpAny_Dict_empty ⟨.ref s.heap.objs.size,_,I.laid (a:=s.heap.objs.size) (o := .dT []) (t' := s.toks) (fun _ _ q=>Heap.get?_push_of_some _ q) (Nat.le_refl _) (dt_empty s.heap I.big),rfl,h _ (I.hok.fresh (Nat.le_refl _))⟩
end
section
variable {X:Cx}{pins:List (Addr × Obj)}{σ:St}{H:Hp}{s:Shared}{a:Addr}{y d:V}{u r:Value}{o:Option V}{A:Around}{E:Value->Shared->Prop}
end
section
variable {X:Cx}{o e f:Expr}{apos cpos:Pos}{td ty tx:TE}
end
section
variable {X:Cx}{pins:List (Addr × Obj)}{σ:St}{H:Hp}{s:Shared}{a:Addr}{kvs:List (Key × V)}{A:Around}{E:Value->Shared->Prop}
end
section
variable {X:Cx}{pins:List (Addr × Obj)}{σ:St}{H:Hp}{s:Shared}{a:Addr}{y:V}{u:Value}{A:Around}{E:Value->Shared->Prop}
end
end L2
namespace Att
open PySem PySem.W PySem.Calls PyProof.Rows
theorem ints_of_wellAll {P:Params}{h:Heap}:∀ (ns:List Int) (vs:List Value),WellAll P h vs (ns.map WData.int)->IntsAre vs ns:=by
 intro ns
 induction ns with
 | nil =>
  intro vs w
  rw [List.map_nil] at w
  cases w
  exact .nil
 | cons n ns ih =>
  intro vs w
  rw [List.map_cons] at w
  cases w with
  | cons a b =>
   cases a
   exact .cons _ _ (ih _ b)
theorem script_of {l:OpenLaw}{n:Nat} (hn:l.most=some n) {P:Params}{h:Heap}{args:List WData}{vals:List Value}
  (hpre:l.row.toRowW.claim.pre args=true) (hwl:WellAll P h vals args) :
  ∃ a vs ns,vals=[Value.ref a]/\args=[WData.list (ns.map WData.int)]/\h.get? a=some { cls := .type "list",data := .seq vs.toArray }/\IntsAre vs ns/\ns.length <= n:=by
 have hsh:WShape.hasAll [] args [.list .int]=true:=(pre_splitW hpre).1
 have hc:l.pre.holds [] { args:=args }=true:=(pre_splitW hpre).2
 obtain ⟨d,r,rfl,h1,h2⟩:=hasAllW_cons hsh
 obtain rfl:=hasAllW_nil h2
 obtain ⟨xs,rfl,h3⟩:=hasW_list h1
 obtain ⟨ns,rfl⟩:=items_int h3
 have hlen:ns.length <= n:=by
  unfold OpenLaw.pre at hc
  have h4:(WTm.not (.lt (.lit (.int (n:Int))) (.len (.arg 0)))).holds [] { args := [.list (ns.map .int)] }=true:=by
   have h4:=(holds_andW hc).1
   rw [hn] at h4
   exact h4
  have h5:=condW_of h4 (w_not (w_lt w_lit (w_len_list (w_arg rfl))))
  rw [List.length_map] at h5
  refine Nat.le_of_not_lt fun q=>?_
  have q':(n:Int) < ((ns.length:Nat):Int):=by omega
  first
   | (rw [decide_eq_true q'] at h5; exact absurd h5 (by decide))
   | (simp at h5; omega)
 cases hwl with
 | cons w1 w2 =>
  cases w2
  cases w1 with
  | list ho hall=>exact ⟨_,_,ns,rfl,rfl,ho,ints_of_wellAll ns _ hall,hlen⟩
theorem post_true (l:OpenLaw) (args:List WData):l.row.toRowW.claim.post args (.bool true) args=true :=
 postW_of (r:=l.row.toRowW) (X:=(true == true))
  (show WShape.has [] (.bool true) .bool=true by first | rfl | decide | simp [WShape.has,WShape.arms,WShape.armsAll])
  (show (WTm.eq .res (.lit (.bool true))).value [] { args:=args,res:=some (.bool true),after:=args }=some (.bool (true == true)) from w_eq_bool (w_res rfl) w_lit) rfl
theorem attach_call {l:OpenLaw}{n:Nat}{q:Program}{loose:List Str}{XP:(Str->Option Value)->Heap->Prop}{YP:World->Heap->Prop}{d:DefRec}
  (hn:l.most=some n) (hdf:d.params.defaults=[])
  (call:∀ (w:World) (s₀ s₁:Shared) (mg mb:Str->Option Value) (fa:Addr) (o:Obj) (pm cd doc:Value) (a:Addr) (vs:List Value) (ns:List Int),
   Ground q loose [] XP w s₀ mg mb s₁.heap->YP w s₁.heap ->
   s₁.heap.get? fa=some o->o.data=.func (docDef d.name d.params d.body d.scope pm cd doc)->s₁.heap.CodeRec cd d.name->mg d.name=some (.ref fa) ->
   s₁.heap.get? a=some { cls := .type "list",data := .seq vs.toArray }->IntsAre vs ns->ns.length <= n->s₁.gens = #[] ->
   codeAny (model l.prog w) callerA (.call (.ref fa) ⟨[.ref a],[]⟩) (fun r s'=>r=.ok (.ret (.bool true))/\OldK s₁.heap s'.heap/\s'.os=s₁.os/\AllBare s'.gens) s₁) :
  WalkO q loose XP YP l.row.toRowW d [] (fun f vs=>PySem.call f vs):=by
 intro w s₀ s₁ mg mb G Y fa o pm cd doc dV kV ho hd hcd hD hmg hg args vals as hpre hlay hrd hwl hlo
 obtain rfl:dV=.none:=Dflts.none hD hdf
 obtain rfl:kV=.none:=Dflts.noKw hD
 obtain ⟨a,vs,ns,rfl,rfl,hobj,hints,hlen⟩:=script_of hn hpre hwl
 refine enter_call (codeAny_mono (call w s₀ s₁ mg mb fa o pm cd doc a vs ns G Y ho (fd_plain hd) hcd hmg hobj hints hlen hg) fun r s' hq=>?_)
 obtain ⟨rfl,h2,h3,h4⟩:=hq
 exact ⟨.inl ⟨.bool true,.bool true,[],rfl,fun _=>rfl,.bool true,post_true l _,fun _=>⟨List.Pairwise.nil,fun _ hm=>(nomatch hm)⟩⟩,h2,h3,h4⟩
section
variable {prog:Program}{w:World}{A:Around}{E:Value->Shared->Prop}{s:Shared}{K:Frag}
end
end Att
namespace L2
open PySem PySem.Spec PyProof.Rows
theorem vals_ints:∀ {vs:List Value}{ns:List Int},IntsAre vs ns->Vals (ns.map V.int) vs
 | _,_,.nil=>.nil
 | _,_,.cons n t h=>.cons ⟨t,rfl⟩ (vals_ints h)
def Only (H:Hp):Prop := ∀ b,H b=none ∨ ∃ o xs,H b=some (.frz o (.lst xs))
theorem law_call {P:Program}{w:World}{K:PySem.W.Frag}{mg mb:Str->Option Value}{CX:CXT}{k:Nat}{fa a:Addr}{fd:FuncData}{x:Str}{sp:Sp}{s₁:Shared}{vs:List Value}{ns:List Int}
  (KX:K.In s₁.heap) (hns:s₁.heap.Ns mainGlobals mg) (hb:s₁.heap.Ns builtinsNs mb) (hbb:∀ x:Str,x ≠ "__name__" -> mb x=bootBuiltins x) (hlim:s₁.heap.NoLimit) (hg:s₁.gens = #[])
  (ha:s₁.heap.get? a=some { cls := .type "list",data := .seq vs.toArray }) (hi:IntsAre vs ns) (hl:ns.length <= sizeLine) (hr:Room k callerA)
  (F:∀ base:Heap,K.In base->base.Ns mainGlobals mg->FnOk P w K mg base CX k fa fd [x] sp) (hbind:∀ (s:Shared) (u:Value),BindsTo s fd ⟨[u],[]⟩ [(x,u)])
  (hsp:∀ H:Hp,Only H->SqL K H a (ns.map V.int)->sp [.ref a] H (fun v _=>v=.bl true) fun _ _ _=>False)
  (hCX:∀ H e s',CX [] H s₁ (fun _ _ _=>False) e s'->False) :
  codeAny (model P w) callerA (.call (.ref fa) ⟨[.ref a],[]⟩) (fun r s'=>r=.ok (.ret (.bool true))/\OldK s₁.heap s'.heap/\s'.os=s₁.os/\AllBare s'.gens) s₁:=by
 have rv:=vals_ints hi
 have lenV:=hi.length
 have core:∀ H:Hp,Only H->SqL K H a (ns.map V.int)->HOk P w H s₁.heap->(∀ b,H b ≠ none->b=a)->(H a ≠ none->K.lookup a=none) ->
   codeAny (model P w) callerA (.call (.ref fa) ⟨[.ref a],[]⟩) (fun r s'=>r=.ok (.ret (.bool true))/\OldK s₁.heap s'.heap/\s'.os=s₁.os/\AllBare s'.gens) s₁:=by
  intro H hO hS hok hA hK
  have base_of:∀ {b:Addr}{o:Obj},s₁.heap.get? b=some o->H b=none->(hidT s₁.heap H).get? b=some o:=fun e n=>hidT_get e n
  have noA:∀ {b:Addr}{o:Obj}{es:Array DictEntry}{ep:Nat},s₁.heap.get? b=some o->o.data=.dict es ep->H b=none:=fun {b o es ep} e d=>by
   cases q:H b with
   | none=>rfl
   | some u =>
    have e':b=a:=hA b (by rw [q]; simp)
    subst e'
    rw [ha] at e; cases e
    have d':Data.seq vs.toArray _=Data.dict es ep:=d
    cases d'
  have nsK:∀ {b:Addr}{m:Str->Option Value},s₁.heap.Ns b m->(hidT s₁.heap H).Ns b m:=fun {b m} ⟨o,es,ep,e,d,r⟩=>⟨o,es,ep,base_of e (noA e d),d,r⟩
  have hKb:K.In (hidT s₁.heap H):=fun b o e=>base_of (KX b o e) (by
   cases q:H b with
   | none=>rfl
   | some u =>
    have e':b=a:=hA b (by rw [q]; simp)
    subst e'
    rw [hK (by rw [q]; simp)] at e; cases e)
  have hM:Mod K mg (hidT s₁.heap H):=⟨hKb,nsK hns,⟨mb,nsK hb,hbb⟩,let ⟨mc,h1,h2⟩:=hlim; ⟨mc,nsK h1,h2⟩⟩
  have e0:Env0 P w K mg (hidT s₁.heap H) callerA [] s₁ H:=⟨rfl,hM,fun b o e=>of_hidT e,Nat.le_of_eq (hidT_size _ _),trivial,fun b hb=>absurd (show b ∈ ([]:List Addr) from hb) (by simp),hok,.of_eq hg⟩
  refine codeAny_mono ((F _ hKb (nsK hns)).run callerA [] s₁ H ⟨[.ref a],[]⟩ [.ref a] [.ref a] _ _ hr e0 (hbind s₁ (.ref a)) (.cons rfl .nil) (hsp H hO hS)) fun r s' h=>?_
  cases r with
  | error e=>exact (hCX H e s' h).elim
  | ok fl =>
   cases fl with
   | next=>exact False.elim h
   | brk=>exact False.elim h
   | cont=>exact False.elim h
   | ret u =>
    obtain ⟨v,H',os,bare,un,hok',r',q⟩:=h
    have q':v=.bl true:=q
    subst q'
    obtain rfl:u=Value.bool true:=r'
    refine ⟨rfl,OldK.of_keep fun b o e=>?_,os,bare⟩
    cases q:H b with
    | none=>exact un.keep b o e q (by intro z; exact absurd (show b ∈ ([]:List Addr) from z) (by simp)) (by simp)
    | some u =>
     rcases hO b with z | ⟨ob,xs,z⟩
     ·rw [q] at z; cases z
     ·have z2:=un.frzs b ob _ z
      obtain ⟨e1,_⟩:=hok b _ z
      obtain ⟨e2,_⟩:=hok' b _ z2
      rw [e] at e1; cases e1
      exact e2
 cases hk:K.lookup a with
 | some o =>
  have e:=KX a o hk
  rw [ha] at e
  cases e
  refine core (fun _=>none) (fun _=>.inl rfl) (.inr ⟨_,vs.toArray,_,hk,rfl,rfl,rfl,by rw [List.size_toArray,lenV]; exact hl,by simpa using rv⟩) (fun b u z=>by have z':(none:Option HO)=some u:=z; cases z') (fun b z=>absurd rfl z) fun z=>absurd rfl z
 | none =>
  refine core (fun b=>if b=a then some (.frz { cls := .type "list",data := .seq vs.toArray } (.lst (ns.map V.int))) else none) (fun b=>?_) (.inl (.inr ⟨{ cls := .type "list",data := .seq vs.toArray },if_pos rfl⟩)) (fun b u z=>?_) (fun b z=>?_) fun _=>hk
  ·by_cases hb:b=a
   ·exact .inr ⟨_,_,if_pos hb⟩
   ·exact .inl (if_neg hb)
  ·by_cases hb:b=a
   ·have z' := (if_pos hb).symm.trans z
    cases z'
    subst hb
    exact ⟨ha,by rw [List.length_map]; exact hl,vs,_,rv,ha⟩
   ·have z' := (if_neg hb).symm.trans z
    cases z'
  ·by_cases hb:b=a
   ·exact hb
   ·exact absurd (if_neg hb) z
abbrev KOf {K:PySem.W.Frag}{h:Heap} (_:K.In h):PySem.W.Frag:=K
theorem walk_of {l:PySem.W.OpenLaw}{n k:Nat}{q:Program}{loose:List Str}{XP:(Str->Option Value)->Heap->Prop}{YP:World->Heap->Prop}{d:DefRec}{K:Params->PySem.W.Frag}{CX:World->CXT}{sp:World->Sp}{x:Str}
  (hn:l.most=some n) (hn2:n <= sizeLine) (hdf:d.params.defaults=[]) (hr:Room k callerA)
  (hY:∀ (w:World) (h:Heap),YP w h->(K w.params).In h)
  (F:∀ (w:World) (mg:Str->Option Value) (fa:Addr) (h:Heap),(K w.params).In h->h.Ns mainGlobals mg->mg d.name=some (.ref fa) ->
   ∃ fd:FuncData,(∀ (s:Shared) (u:Value),BindsTo s fd ⟨[u],[]⟩ [(x,u)]) /\
    ∀ base:Heap,(K w.params).In base->base.Ns mainGlobals mg->FnOk l.prog w (K w.params) mg base (CX w) k fa fd [x] (sp w))
  (hsp:∀ (w:World) (H:Hp) (a:Addr) (ns:List Int),ns.length <= n->Only H->SqL (K w.params) H a (ns.map V.int)->sp w [.ref a] H (fun v _=>v=.bl true) fun _ _ _=>False)
  (hCX:∀ (w:World) (H:Hp) (s:Shared) (e:Value) (s':Shared),CX w [] H s (fun _ _ _=>False) e s'->False) :
  PySem.W.WalkO q loose XP YP l.row.toRowW d [] (fun f vs=>PySem.call f vs):=by
 refine Att.attach_call hn hdf fun w s₀ s₁ mg mb fa o pm cd doc a vs ns G Y ho hd hcd hmg hobj hints hlen hg=>?_
 have KX:=hY w _ Y
 obtain ⟨fd,hb,hF⟩:=F w mg fa _ KX G.T.g hmg
 exact law_call KX G.T.g G.T.b G.T.builtins G.T.nolimit hg hobj hints (Nat.le_trans hlen hn2) hr hF hb (fun H hO hS=>hsp w H a ns hlen hO hS) fun H e s'=>hCX w H s₁ e s'
def defArgs (s:Stmt):Arguments:=match s with
 | .FunctionDef _ a _ _ _ _ _ _ _ _=>a
 | _=>{ posonlyargs := [],args := [],vararg:=none,kwonlyargs := [],kw_defaults := [],kwarg:=none,defaults := [] }
def defBody (s:Stmt):List Stmt:=match s with
 | .FunctionDef _ _ b _ _ _ _ _ _ _=>b
 | _=>[]
def defScope (s:Stmt):Scope:=match s with
 | .FunctionDef _ _ _ _ _ _ sc _ _ _=>sc
 | _=>{ kind := .function,names := [],isGenerator:=false,isCoroutine:=false }
abbrev CX0:CXT:=fun _ _ _ _ _ _=>False
abbrev E0:XK:=fun _ _ _=>False
theorem pass0 {X:Cx}:Passes CX0 X E0:=fun _ _ _ _ _ _ _ h=>h.elim
structure Fun (K:PySem.W.Frag) (x qual:Str) (st:Stmt) (f:Addr) (fd:FuncData):Prop where
 ex:∃ (oc:Value) (od:Option Addr) (kV doc pm:Value) (an:Option Addr) (cdv ct:Value) (osl:Array (Option Value)),
  fd=PySem.W.fnOf x qual (defArgs st) (defBody st) (defScope st) .none kV doc pm an cdv ct/\K.lookup f=some ⟨oc,od,.func fd,osl⟩/\PySem.W.codeIn K cdv qual=true
 kp:PySem.W.keepIn K (.ref f)=true
section
variable {P:Program}{w:World}{K:PySem.W.Frag}{mg:Str->Option Value}{base:Heap}
theorem Fun.ok {x qual:Str}{st:Stmt}{f:Addr}{fd:FuncData}{N ps:List Str}{k:Nat}{sp:Sp} (F:Fun K x qual st f fd) (S:FnScope N ps (defScope st)) (len:∀ vs H Q E,sp vs H Q E->vs.length=ps.length)
  (hbody:∀ (cdv:Value) (A:Around) (outer:List Env) (s:Shared) (H:Hp) (vs:List V) (Q:VK) (E:XK),Room k (A.deeper (envOfC qual (defScope st) s.heap.objs.size f cdv))->sp vs H Q E ->
   ∃ t,PSs (cxOf CX0 P w K mg base N qual (defScope st) f cdv A outer s H E).nox (defBody st) t/\t { nx:=fun _ H'=>Q .non H',rt:=Q } (start N vs) H):FnOk P w K mg base CX0 (k + 1) f fd ps sp:=by
 obtain ⟨oc,od,kV,doc,pm,an,cdv,ct,osl,rfl,lk,hcd⟩:=F.ex
 refine fn_of lk hcd S len fun A outer s H vs Q E hr hsp=>?_
 obtain ⟨t,h,q⟩:=hbody cdv A outer s H vs Q E hr hsp
 exact ⟨t,h.nox,q⟩
theorem Fun.binds {x qual:Str}{st:Stmt}{f:Addr}{fd:FuncData}{ps:List Str} (F:Fun K x qual st f fd)
  (h:∀ (kV doc pm:Value) (an:Option Addr) (cdv ct:Value) (us:List Value),us.length=ps.length->bindArgs (PySem.W.fnOf x qual (defArgs st) (defBody st) (defScope st) .none kV doc pm an cdv ct) ⟨us,[]⟩=pure (ps.zip us)):Binds K fd ps []:=by
 obtain ⟨oc,od,kV,doc,pm,an,cdv,ct,osl,rfl,lk,hcd⟩:=F.ex
 exact .all (h kV doc pm an cdv ct)
theorem fun_mk {x qual:Str}{st:Stmt}{f:Addr}{oc:Value}{od an:Option Addr}{osl:Array (Option Value)}{kV doc pm cdv ct:Value} (l:K.lookup f=some ⟨oc,od,.func (PySem.W.fnOf x qual (defArgs st) (defBody st) (defScope st) .none kV doc pm an cdv ct),osl⟩)
  (c:PySem.W.codeIn K cdv qual=true) (k:PySem.W.keepIn K (.ref f)=true):Fun K x qual st f (PySem.W.fnOf x qual (defArgs st) (defBody st) (defScope st) .none kV doc pm an cdv ct):=⟨⟨oc,od,kV,doc,pm,an,cdv,ct,osl,rfl,l,c⟩,k⟩
end
theorem hu_of {A:Around}{k:Nat} (hr:Room k A):A.units + 1 < cLine:=Nat.lt_of_le_of_lt (Nat.add_le_add_left (by decide:1 <= 64) _) hr.units
section
variable {X:Cx}
end
def Same (H H':Hp):Prop := ∀ b o,H b=some o->H' b=some o
theorem Same.refl (H:Hp):Same H H:=fun _ _ h=>h
theorem Same.trans {H H1 H2:Hp} (a:Same H H1) (b:Same H1 H2):Same H H2:=fun c o h=>b c o (a c o h)
theorem Same.free {H H':Hp} (e:Same H H') {l:Addr} (h:H' l=Option.none):H l=Option.none:=by
 cases q:H l with
 | none=>rfl
 | some o =>
  rw [e l o q] at h
  cases h
theorem Same.seq {K:PySem.W.Frag}{H H':Hp}{a:Addr}{xs:List V} (e:Same H H') (h:SqL K H a xs):SqL K H' a xs:=by
 rcases h with (h | ⟨o,h⟩) | h
 ·exact .inl (.inl (e _ _ h))
 ·exact .inl (.inr ⟨o,e _ _ h⟩)
 ·exact .inr h
section
variable {X:Cx}
end
section
variable {κ:Type} [DecidableEq κ]
end
section
variable {X:Cx}{pins:List (Addr × Obj)}{σ:St}{H H':Hp}{s s':Shared}
end
theorem lookup_mem {α:Type}{y:Str}{v:α}:∀ {l:List (Str × α)},l.lookup y=some v->(y,v) ∈ l
 | [],h=>by cases h
 | (n,k) :: r,h=>by
  rw [List.lookup_cons] at h
  cases hb:y == n with
  | true =>
   rw [hb] at h
   cases h
   rw [beq_iff_eq.mp hb]
   exact List.mem_cons_self
  | false =>
   rw [hb] at h
   exact List.mem_cons_of_mem _ (lookup_mem h)
theorem lookup_of_nd {α:Type}{y:Str}{v:α}:∀ {l:List (Str × α)},(l.map (·.1)).Nodup->(y,v) ∈ l->l.lookup y=some v
 | [],_,h=>by cases h
 | (n,k) :: r,hn,h=>by
  have hn':(n :: r.map (·.1)).Nodup:=hn
  obtain ⟨h1,h2⟩:=List.nodup_cons.mp hn'
  rw [List.lookup_cons]
  rcases List.mem_cons.mp h with e | e
  ·cases e
   simp
  ·have hne:(y == n)=false:=by
    refine beq_eq_false_iff_ne.mpr fun z=>h1 ?_
    rw [<- z]
    exact List.mem_map.mpr ⟨(y,v),e,rfl⟩
   rw [hne]
   exact lookup_of_nd h2 e
def relK (env:Env) (y:Str) (k:NameKind):NameKind:=if (k == NameKind.free && env.scope.kind == .function && env.kindOf y == some .cell)=true then .cell else k
theorem lookup_relabel (scope:Scope) (env:Env) (y:Str):(relabel scope env).names.lookup y=(scope.names.lookup y).map (relK env y):=by
 show (scope.names.map fun (n,k)=>if (k == NameKind.free && env.scope.kind == .function && env.kindOf n == some .cell)=true then (n,NameKind.cell) else (n,k)).lookup y=_
 induction scope.names with
 | nil=>rfl
 | cons p r ih =>
  obtain ⟨n,k⟩:=p
  rw [List.map_cons]
  by_cases hc:(k == NameKind.free && env.scope.kind == .function && env.kindOf n == some .cell)=true
  ·simp only [if_pos hc,List.lookup_cons]
   cases hb:y == n with
   | true =>
    have e:y=n:=beq_iff_eq.mp hb
    subst e
    simp only [Option.map_some,relK,if_pos hc]
   | false=>exact ih
  ·simp only [if_neg hc,List.lookup_cons]
   cases hb:y == n with
   | true =>
    have e:y=n:=beq_iff_eq.mp hb
    subst e
    simp only [Option.map_some,relK,if_neg hc]
   | false=>exact ih
theorem closure_go {env:Env} (f:Str × NameKind->List (Str × Addr)->Sem (ForInStep (List (Str × Addr))))
  (hf:∀ name kind cs,f (name,kind) cs=if (kind == .free)=true then (do let a <- cellOf env name; pure (.yield ((name,a) :: cs))) else pure (.yield cs)) :
  ∀ (names:List (Str × NameKind)) (acc:List (Str × Addr)),(∀ y ∈ names,y.2=.free->∃ c,env.cells.lookup y.1=some c) ->
   ∃ cl,(forIn names acc f:Sem (List (Str × Addr)))=pure cl/\(∀ y c,cl.lookup y=some c->acc.lookup y=some c ∨ (env.cells.lookup y=some c/\(y,NameKind.free) ∈ names)) /\
    (∀ y,(y,NameKind.free) ∈ names ∨ (acc.lookup y).isSome=true->∃ c,cl.lookup y=some c)
 | [],acc,_=>⟨acc,by rw [List.forIn_nil],fun y c e=>.inl e,fun y h=>by
   rcases h with h | h
   ·cases h
   ·exact Option.isSome_iff_exists.mp h⟩
 | (name,kind) :: r,acc,h=>by
  have hr:∀ y ∈ r,y.2=.free->∃ c,env.cells.lookup y.1=some c:=fun y hy=>h y (List.mem_cons_of_mem _ hy)
  by_cases hk:(kind == NameKind.free)=true
  ·have e:kind=.free:=beq_iff_eq.mp hk
   subst e
   obtain ⟨c0,hc0⟩:=h (name,.free) List.mem_cons_self rfl
   have hc0:env.cells.lookup name=some c0:=hc0
   obtain ⟨cl,h1,h2,h3⟩:=closure_go f hf r ((name,c0) :: acc) hr
   refine ⟨cl,?_,fun y c e=>?_,fun y hy=>?_⟩
   ·rw [List.forIn_cons,hf,if_pos hk]
    unfold cellOf
    rw [hc0]
    exact h1
   ·rcases h2 y c e with q | ⟨q1,q2⟩
    ·rw [List.lookup_cons] at q
     cases hb:y == name with
     | true =>
      rw [hb] at q
      cases q
      have e:y=name:=beq_iff_eq.mp hb
      subst e
      exact .inr ⟨hc0,List.mem_cons_self⟩
     | false =>
      rw [hb] at q
      exact .inl q
    ·exact .inr ⟨q1,List.mem_cons_of_mem _ q2⟩
   ·refine h3 y ?_
    rw [List.lookup_cons]
    cases hb:y == name with
    | true=>exact .inr rfl
    | false =>
     rcases hy with hy | hy
     ·rcases List.mem_cons.mp hy with z | z
      ·cases z
       simp at hb
      ·exact .inl z
     ·exact .inr hy
  ·obtain ⟨cl,h1,h2,h3⟩:=closure_go f hf r acc hr
   refine ⟨cl,?_,fun y c e=>(h2 y c e).imp id fun q=>⟨q.1,List.mem_cons_of_mem _ q.2⟩,fun y hy=>h3 y (hy.imp (fun hy=>?_) id)⟩
   ·rw [List.forIn_cons,hf,if_neg hk]
    exact h1
   ·rcases List.mem_cons.mp hy with z | z
    ·cases z
     exact absurd rfl hk
    ·exact z
theorem closure_ok {scope:Scope}{env:Env} (h:∀ y ∈ scope.names,y.2=.free->∃ c,env.cells.lookup y.1=some c) :
  ∃ cl,closureFor scope env=pure cl/\(∀ y c,cl.lookup y=some c->env.cells.lookup y=some c/\(y,NameKind.free) ∈ scope.names)/\(∀ y,(y,NameKind.free) ∈ scope.names->∃ c,cl.lookup y=some c):=by
 have key:∀ f:Str × NameKind->List (Str × Addr)->Sem (ForInStep (List (Str × Addr))),
   (∀ name kind cs,f (name,kind) cs=if (kind == .free)=true then (do let a <- cellOf env name; pure (.yield ((name,a) :: cs))) else pure (.yield cs)) ->
   closureFor scope env=(forIn scope.names [] f >>= fun r=>pure r) ->
   ∃ cl,closureFor scope env=pure cl/\(∀ y c,cl.lookup y=some c->env.cells.lookup y=some c/\(y,NameKind.free) ∈ scope.names)/\(∀ y,(y,NameKind.free) ∈ scope.names->∃ c,cl.lookup y=some c):=by
  intro f hf e
  obtain ⟨cl,h1,h2,h3⟩:=closure_go f hf scope.names [] h
  refine ⟨cl,?_,fun y c q=>(h2 y c q).resolve_left (fun z=>by cases z),fun y hy=>h3 y (.inl hy)⟩
  rw [e,h1]
  rfl
 refine key _ (fun name kind cs=>?_) rfl
 by_cases hk:(kind == NameKind.free)=true
 ·simp only [hk,if_true]
 ·simp only [hk,if_false]
theorem cells_split:∀ (names:List (Str × NameKind)) (h:Heap) (acc:List (Str × Addr)) (y:Str) (c:Addr),(cellsFrom h.objs.size names acc).lookup y=some c ->
  acc.lookup y=some c ∨ (h.objs.size <= c/\(y,NameKind.cell) ∈ names/\(pushCells h names).IsCell c none)
 | [],_,_,_,_,e=>.inl e
 | (name,kind) :: r,h,acc,y,c,e=>by
  unfold cellsFrom at e
  unfold pushCells
  by_cases hk:(kind == NameKind.cell)=true
  ·rw [if_pos hk] at e ⊢
   have ek:kind=.cell:=beq_iff_eq.mp hk
   subst ek
   have sz:(h.push { cls := .type "cell",data := .cell none }).objs.size=h.objs.size + 1:=Heap.size_push ..
   rw [<- sz] at e
   rcases cells_split r _ _ y c e with q | ⟨q1,q2,q3⟩
   ·rw [List.lookup_cons] at q
    cases hb:y == name with
    | true =>
     rw [hb] at q
     cases q
     have e:y=name:=beq_iff_eq.mp hb
     subst e
     exact .inr ⟨Nat.le_refl _,List.mem_cons_self,⟨_,pushCells_keeps _ _ _ _ (Heap.get?_push_size _ rfl),rfl⟩⟩
    | false =>
     rw [hb] at q
     exact .inl q
   ·rw [sz] at q1
    exact .inr ⟨Nat.le_of_succ_le q1,List.mem_cons_of_mem _ q2,q3⟩
  ·rw [if_neg hk] at e ⊢
   rcases cells_split r _ _ y c e with q | ⟨q1,q2,q3⟩
   ·exact .inl q
   ·exact .inr ⟨q1,List.mem_cons_of_mem _ q2,q3⟩
theorem cells_inj:∀ (names:List (Str × NameKind)) (n:Nat) (acc:List (Str × Addr)),(∀ y z c,acc.lookup y=some c->acc.lookup z=some c->y=z)->(∀ y c,acc.lookup y=some c->c < n) ->
  ∀ y z c,(cellsFrom n names acc).lookup y=some c->(cellsFrom n names acc).lookup z=some c->y=z
 | [],_,_,h,_,y,z,c,e1,e2=>h y z c e1 e2
 | (name,kind) :: r,n,acc,h,hl,y,z,c,e1,e2=>by
  unfold cellsFrom at e1 e2
  by_cases hk:(kind == NameKind.cell)=true
  ·rw [if_pos hk] at e1 e2
   refine cells_inj r (n + 1) _ (fun y z c q1 q2=>?_) (fun y c q=>?_) y z c e1 e2
   ·rw [List.lookup_cons] at q1 q2
    cases b1:y == name with
    | true =>
     rw [b1] at q1
     cases q1
     cases b2:z == name with
     | true=>rw [beq_iff_eq.mp b1,beq_iff_eq.mp b2]
     | false =>
      rw [b2] at q2
      exact absurd (hl z _ q2) (Nat.lt_irrefl _)
    | false =>
     rw [b1] at q1
     cases b2:z == name with
     | true =>
      rw [b2] at q2
      cases q2
      exact absurd (hl y _ q1) (Nat.lt_irrefl _)
     | false =>
      rw [b2] at q2
      exact h y z c q1 q2
   ·rw [List.lookup_cons] at q
    cases b:y == name with
    | true =>
     rw [b] at q
     cases q
     exact Nat.lt_succ_self _
    | false =>
     rw [b] at q
     exact Nat.lt_succ_of_lt (hl y c q)
  ·rw [if_neg hk] at e1 e2
   exact cells_inj r n acc h hl y z c e1 e2
theorem newCompEnv {M:Model}{A:Around}{E:Value->Shared->Prop}{s:Shared}{scope:Scope}{env:Env}{cl:List (Str × Addr)}{Q:Env->Shared->Prop}
  (hQ:Q { scope:=scope,locals:=s.heap.objs.size,globals:=env.globals,cells:=cellsFrom (s.heap.objs.size + 1) scope.names cl,qual:=env.qual,func:=none,code:=env.code,frame:=env.frame,builtins:=env.builtins }
   { s with heap:=pushCells (s.heap.push { cls := .type "dict",data := .dict #[] }) scope.names }) :
  wpAny M A (newFunctionEnv scope env.globals cl [] env.qual none .none (some env)) Q E s:=by
 simp only [newFunctionEnv,Option.isSome_some,if_true]
 refine wpAny_bind (wpAny_alloc ?_)
 refine wpAny_bind (wpAny_layCells _ (fun name kind cells=>by cases hkc:kind == NameKind.cell <;> simp [hkc]) _ _ _ _ ?_)
 rw [show ({ s with heap:=s.heap.push { cls := .type "dict",data := .dict #[] } }:Shared).heap.objs.size=s.heap.objs.size + 1 from Heap.size_push ..]
 refine wpAny_bind ?_
 rw [List.forIn_nil]
 exact wpAny_pure (wpAny_pure hQ)
section
variable {prog:Program}{w:World}{A:Around}{R:Result->Shared->Prop}{s:Shared}
theorem compLoopG {elt target iter:Expr}{ifs:List Expr}{scope:Scope}{pos:Pos}{it acc:Value}{env:Env} (I:Nat->Shared->Prop)
  (turn:∀ n s,I n s->wpAny (model prog w) A (pyNext it) (fun r s₁=>match r with
   | none=>R (.ok .next) s₁
   | some v=>wpAny (model prog w) A (letOwnedTupleGo target it v) (fun _ s₁'=>wpAny (model prog w) A (assign target env v) (fun _ s₂ =>
     wpAny (model prog w) A (forIn ifs true fun c r=>if r=true then do let ok <- isTrue c env (eval c env); pure (ForInStep.yield ok) else pure (ForInStep.yield r)) (fun ok s₂' =>
      if ok=true then wpAny (model prog w) A (eval elt env) (fun x s₃ =>
       wpAny (model prog w) A (call (.builtin "list.append") [acc,x]) (fun _ s₄=>∃ m,m < n/\I m s₄) (fun _ _=>False) s₃) (fun _ _=>False) s₂'
      else ∃ m,m < n/\I m s₂') (fun _ _=>False) s₂) (fun _ _=>False) s₁') (fun _ _=>False) s₁) (fun _ _=>False) s)
  (n:Nat) (h:I n s):codeAny (model prog w) A (.compLoop (.ListComp elt [⟨target,iter,ifs,0⟩] scope pos) 0 it acc env) R s:=by
 refine codeAny_loop rfl I (fun n s hI=>?_) n h
 show wpAny _ _ ((compTurn (.ListComp elt [⟨target,iter,ifs,0⟩] scope pos) 0 it acc env).onRaise (fun x=>do noteFrame x env; theTreesLotGoes x)) _ _ s
 refine wpAny_noted ?_
 rw [compTurn_list]
 refine wpAny_bind (wpAny_standAt (wpAny_bind (wpAny_mono (turn n s hI) (fun r s₁ h₁=>?_) fun _ _ h'=>h'.elim)))
 cases r with
 | none=>exact wpAny_pure h₁
 | some v =>
  refine wpAny_bind (wpAny_mono h₁ (fun _ s₁' h₁'=>?_) fun _ _ h'=>h'.elim)
  refine wpAny_bind (wpAny_mono h₁' (fun _ s₂ h₂=>wpAny_bind (wpAny_mono h₂ (fun ok s₃ h₃=>?_) fun _ _ h'=>h'.elim)) fun _ _ h'=>h'.elim)
  cases ok with
  | false=>exact wpAny_pure ⟨rfl,h₃⟩
  | true =>
   exact wpAny_bind (wpAny_bind (wpAny_mono h₃ (fun x s₄ h₄=>wpAny_bind (wpAny_mono h₄ (fun _ s₅ h₅=>wpAny_pure (wpAny_pure ⟨rfl,h₅⟩)) fun _ _ h'=>h'.elim)) fun _ _ h'=>h'.elim))
def PIf (X:Cx) (ifs:List Expr) (t:TT):Prop := ∀ (pins:List (Addr × Obj)) (s:Shared) (σ:St) (H:Hp) (Q:Bool->Hp->Prop),Inv X pins σ H s->t σ H Q ->
 wpAny (model X.prog X.w) X.A (forIn ifs true fun c r=>if r=true then do let ok <- isTrue c X.env (eval c X.env); pure (ForInStep.yield ok) else pure (ForInStep.yield r)) (TP X pins σ Q) X.xe s
def tAll:TT:=fun _ H Q=>Q true H
theorem pif_nil {X:Cx}:PIf X [] tAll:=fun pins s σ H Q I h=>wpAny_tests_nil ⟨H,I,h⟩
theorem pif_one {X:Cx}{c:Expr}{t:TT} (h:PT X c t):PIf X [c] t:=fun pins s σ H Q I hw=>wpAny_tests_one (h pins s σ H Q I hw)
end
structure CompOk (X:Cx) (scope:Scope) (own:List Str) (cap:List (Str × Nat)):Prop where
 kind:scope.kind=.function
 nd:(scope.names.map (·.1)).Nodup
 free:∀ y ∈ scope.names,y.2=.free->X.env.kindOf y.1=some .cell ∨ X.env.kindOf y.1=some .free
 capN:∀ p ∈ cap,X.N[p.2]?=some p.1/\(p.1,NameKind.free) ∈ scope.names
def capV (σ:St) (cap:List (Str × Nat)):St:=cap.map fun p=>(σ[p.2]?).join
def cxComp (X:Cx) (scope:Scope) (cs:List (Str × Addr)) (C:Addr) (N:List Str) (s0:Shared) (H0:Hp) (fp:List Addr):Cx where
 prog:=X.prog
 w:=X.w
 K:=X.K
 mg:=X.mg
 base:=X.base
 A:=X.A
 N:=N
 s₀:=s0
 H₀:=H0
 env:=compEnvC scope cs C X.env
 outer:=X.stack
 stack:=X.stack
 ex:=fp
 fn:=fun y=>decide (scope.names.lookup y=some .cell)
 calm:=X.calm
 pn:=X.pn
 xe:=fun _ _=>False
section
variable {X:Cx}{pins:List (Addr × Obj)}{σ:St}{H:Hp}{s:Shared}
theorem vis_of_cell {env:Env}{y:Str} (h:env.kindOf y=some .cell ∨ env.kindOf y=some .free):Vis env.scope y := .inr h
theorem inv_comp {scope:Scope}{own:List Str}{cap:List (Str × Nat)}{cl:List (Str × Addr)}{fp:List Addr} (I:Inv X pins σ H s) (ok:CompOk X scope own cap)
  (hcl:∀ y c,cl.lookup y=some c->X.env.cells.lookup y=some c/\(y,NameKind.free) ∈ scope.names) (hcl2:∀ y,(y,NameKind.free) ∈ scope.names->∃ c,cl.lookup y=some c)
  (f2:∀ b ∈ fp,FpOk X pins H b) (fo:∀ b ∈ fp,b < s.heap.objs.size) :
  Inv (cxComp X scope (cellsFrom (s.heap.objs.size + 1) scope.names cl) s.heap.objs.size (own ++ cap.map (·.1)) s H fp) pins (List.replicate own.length none ++ capV σ cap) H
   { s with heap:=pushCells (s.heap.push { cls := .type "dict",data := .dict #[] }) scope.names }:=by
 have szC:(s.heap.push { cls := .type "dict",data := .dict #[] }).objs.size=s.heap.objs.size + 1:=Heap.size_push ..
 have kp:∀ b o,s.heap.get? b=some o->(pushCells (s.heap.push { cls := .type "dict",data := .dict #[] }) scope.names).get? b=some o:=fun b o e=>pushCells_keeps _ _ b o (Heap.get?_push_of_some _ e)
 have sp:∀ y c,(cellsFrom (s.heap.objs.size + 1) scope.names cl).lookup y=some c->(X.env.cells.lookup y=some c/\(y,NameKind.free) ∈ scope.names) ∨
   (s.heap.objs.size + 1 <= c/\(y,NameKind.cell) ∈ scope.names/\(pushCells (s.heap.push { cls := .type "dict",data := .dict #[] }) scope.names).IsCell c none):=fun y c e=>by
  rw [<- szC] at e
  rcases cells_split _ _ _ y c e with q | q
  ·exact .inl (hcl y c q)
  ·rw [szC] at q
   exact .inr q
 have clt:∀ y c,X.env.cells.lookup y=some c->c < s.heap.objs.size:=fun y c e=>by
  obtain ⟨v,o,ho,_⟩:=I.cell y c e
  exact Heap.lt_size ho
 have kfree:∀ y,(y,NameKind.free) ∈ scope.names->scope.names.lookup y=some .free:=fun y h=>lookup_of_nd ok.nd h
 have kcell:∀ y,(y,NameKind.cell) ∈ scope.names->scope.names.lookup y=some .cell:=fun y h=>lookup_of_nd ok.nd h
 have okY:(cxComp X scope (cellsFrom (s.heap.objs.size + 1) scope.names cl) s.heap.objs.size (own ++ cap.map (·.1)) s H fp).Ok := {
  mod:=I.ok.mod
  kind:=ok.kind
  glob:=I.ok.glob
  blt:=I.ok.blt
  above:=Nat.le_refl _
  inj:=fun x y c e1 e2=>cells_inj scope.names (s.heap.objs.size + 1) cl (fun y z c q1 q2=>I.ok.inj y z c (hcl y c q1).1 (hcl z c q2).1) (fun y c q=>Nat.lt_succ_of_lt (clt y c (hcl y c q).1)) x y c e1 e2
  has:=fun y hy=>by
   have hy':(relabel scope X.env).names.lookup y=some .cell ∨ (relabel scope X.env).names.lookup y=some .free:=hy
   rw [lookup_relabel] at hy'
   refine Option.isSome_iff_exists.mp (PySem.W.cellsFrom_some scope.names _ _ ?_)
   cases q:scope.names.lookup y with
   | none =>
    rw [q] at hy'
    rcases hy' with z | z <;> cases z
   | some k =>
    by_cases hk:k=.cell
    ·subst hk
     exact .inl rfl
    ·by_cases hf:k=.free
     ·subst hf
      obtain ⟨c,hc⟩:=hcl2 y (lookup_mem q)
      exact .inr (by rw [hc]; rfl)
     ·rw [q] at hy'
      exfalso
      have hb:(k == NameKind.free)=false:=by simpa using hf
      rcases hy' with z | z
      ·simp [relK,hb] at z
       exact hk z
      ·simp [relK,hb] at z
       exact hf z
  cab:=fun y c hf e=>by
   have hf':scope.names.lookup y=some .cell:=of_decide_eq_true hf
   rcases sp y c e with ⟨_,q⟩ | ⟨q,_⟩
   ·rw [kfree y q] at hf'
    cases hf'
   ·exact Nat.le_of_succ_le q
  hd:=I.ok.hd
  frames:=I.ok.frames
  stk := .inl rfl
  exf:=fun b hb=>⟨Nat.ne_of_lt (fo b hb),fun x c e z=>by
   subst z
   rcases sp x c e with ⟨q,_⟩ | ⟨q,_⟩
   ·exact (f2 c hb).2.2.2.2.1 x c q rfl
   ·exact absurd (Nat.lt_of_lt_of_le (fo c hb) (Nat.le_of_succ_le q)) (Nat.lt_irrefl _)⟩
  bs:=I.bs
  bsz:=Nat.le_trans I.ok.bsz I.sz
  noex:=fun b o e hb=>by
   rcases (f2 b hb).2.2.2.1 with q | q
   ·exact I.ok.noex b o e q
   ·exact absurd (Nat.lt_of_lt_of_le (Heap.lt_size e) (Nat.le_trans I.ok.bsz q)) (Nat.lt_irrefl _)
  exfs:=fun b hb z=>by
   rcases List.mem_cons.mp (I.stkSub b z) with q | q
   ·exact (f2 b hb).2.1 q
   ·exact (f2 b hb).2.2.1 q
  funs:=I.stack
  frf:=I.stkFree }
 obtain ⟨m,hns,hl⟩:=id I.loc
 refine ⟨okY,rfl,I.bare,Un.kept kp,⟨fun _=>none,(Heap.Ns.new s.heap (.type "dict")).keeps (pushCells_keeps _ _),fun i x v e1 e2 e3=>?_⟩,fun y c e=>?_,I.fresh,fun y c e=>?_,fun p hp=>?_,I.hok.kept kp,?_⟩
 ·
  have e1:(own ++ cap.map (·.1))[i]?=some x:=e1
  by_cases hi:i < own.length
  ·rw [List.getElem?_append_left (by simpa using hi)] at e2
   simp [hi] at e2
  ·have hi':own.length <= i:=Nat.not_lt.mp hi
   rw [List.getElem?_append_right (by simpa using hi')] at e2
   rw [List.getElem?_append_right hi'] at e1
   rw [List.length_replicate] at e2
   unfold capV at e2
   rw [List.getElem?_map] at e1 e2
   cases q:cap[i - own.length]? with
   | none =>
    rw [q] at e1
    cases e1
   | some p =>
    rw [q] at e1 e2
    obtain ⟨p1,p2⟩:=p
    have e1:p1=x:=Option.some.inj e1
    subst e1
    have e2:(σ[p2]?).join=some v:=Option.some.inj e2
    have e2:σ[p2]?=some (some v):=by
     cases z:σ[p2]? with
     | none=>rw [z] at e2; cases e2
     | some z'=>rw [z] at e2; exact congrArg some e2
    obtain ⟨hN,hfr⟩:=ok.capN (p1,p2) (List.mem_of_getElem? q)
    have hk:=ok.free (p1,.free) hfr rfl
    obtain ⟨u,r,L⟩:=hl p2 p1 v hN e2 (vis_of_cell hk)
    refine ⟨u,r,?_⟩
    rcases L with ⟨k,_⟩ | ⟨_,c,hc,hcell⟩
    ·have hk:X.env.kindOf p1=some .cell ∨ X.env.kindOf p1=some .free:=hk
     rw [k] at hk
     rcases hk with z | z <;> cases z
    ·refine .inr ⟨?_,c,?_,hcell.keeps kp⟩
     ·show (relabel scope X.env).names.lookup p1=some .cell ∨ (relabel scope X.env).names.lookup p1=some .free
      rw [lookup_relabel,kfree _ hfr,Option.map_some]
      unfold relK
      split
      ·exact .inl rfl
      ·exact .inr rfl
     ·obtain ⟨c',hc'⟩:=hcl2 p1 hfr
      obtain ⟨c2,hc2⟩:=Option.isSome_iff_exists.mp (PySem.W.cellsFrom_some scope.names (s.heap.objs.size + 1) cl (.inr (by rw [hc']; rfl):scope.names.lookup p1=some .cell ∨ (cl.lookup p1).isSome=true))
      have hc2':(cellsFrom (s.heap.objs.size + 1) scope.names cl).lookup p1=some c2:=hc2
      rcases sp p1 c2 hc2' with ⟨q1,_⟩ | ⟨_,q2,_⟩
      ·rw [hc] at q1
       cases q1
       exact hc2'
      ·have:=kcell p1 q2
       rw [kfree p1 hfr] at this
       cases this
 ·rcases sp y c e with ⟨q,_⟩ | ⟨_,_,q⟩
  ·obtain ⟨v,hv⟩:=I.cell y c q
   exact ⟨v,hv.keeps kp⟩
  ·exact ⟨none,q⟩
 ·rcases sp y c e with ⟨q,_⟩ | ⟨q,_⟩
  ·exact I.freeC y c q
  ·exact I.hok.fresh (Nat.le_of_succ_le q)
 ·obtain ⟨a1,a2,a3,a4,a5⟩:=I.pin p hp
  refine ⟨kp _ _ a1,a2,Nat.ne_of_lt (Heap.lt_size a1),fun z=>?_,a5⟩
  rcases List.mem_cons.mp (I.stkSub p.1 z) with q | q
  ·exact a3 q
  ·exact a4 q
 ·show (List.replicate own.length none ++ capV σ cap).length=(own ++ cap.map (·.1)).length
  simp [capV]
theorem inv_compEnd {scope:Scope}{cs:List (Str × Addr)}{C:Addr}{N:List Str}{fp:List Addr}{τ:St}{H':Hp}{s':Shared}{h':Heap} (I:Inv X pins σ H s) (f2:∀ b ∈ fp,FpOk X pins H b)
  (hC:s.heap.objs.size <= C) (J:Inv (cxComp X scope cs C N s H fp) pins τ H' s') (hs:Heap.SameBut C s'.heap h'):Inv X pins σ H' { s' with heap:=h' }:=by
 have u:Un (frs X.stack) fp H H' s.heap s'.heap:=J.base
 have ne:∀ b o,s.heap.get? b=some o->b ≠ C:=fun b o e=>Nat.ne_of_lt (Nat.lt_of_lt_of_le (Heap.lt_size e) hC)
 refine I.call' (s' := { s' with heap:=h' }) (ch:=fp) J.os ⟨fun b o e n hf hx=>?_,fun b o e n hf hx=>?_,u.free,fun b o e hx=>?_,u.tups,u.frzs,u.tbls⟩ (fun a o e=>?_) J.bare fun b hb=>⟨(f2 b hb).2.2.2.1,(f2 b hb).2.1,(f2 b hb).2.2.2.2.1,(f2 b hb).2.2.2.2.2⟩
 ·exact (hs.2 b (ne b o e)).trans (u.keep b o e n hf hx)
 ·obtain ⟨sl,q⟩:=u.slot b o e n hf hx
  exact ⟨sl,(hs.2 b (ne b o e)).trans q⟩
 ·obtain ⟨o',q⟩:=u.there b o e hx
  exact ⟨o',(hs.2 b (ne b o e)).trans q⟩
 ·refine (J.hok a o e).stay (fun b v hb q=>(hs.2 b ?_).trans q) (fun _ q=>q) fun _ _ q=>q
  rintro rfl
  have fr:H' b=none:=J.free
  rcases hb with rfl | hb
  ·rw [fr] at e
   cases e
  ·rw [fr] at hb
   cases hb
end
def tComp (wi:TI) (g:TG) (tt:TT) (te:TE) (k:Nat) (cap:List (Str × Nat)):TE:=fun σ H Q=>wi σ H fun J H1=>∀ acc,H1 acc=none->∃ W:Nat->Nat->St->List V->Hp->Prop,
 (∃ m,W 0 m (List.replicate k none ++ capV σ cap) [] (upd H1 acc (.lst []))) /\
 ∀ i m τ ys H,W i m τ ys H->(J.stop i H/\Q (.ref acc) H) ∨ (J.go i H/\∀ x H',J.yld i H x H'->g x τ H' fun τ2 H2=>tt τ2 H2 fun b H2'=>if b=true then te τ2 H2' fun v H3 =>
  H3 acc=some (.lst ys)/\ys.length < sizeLine/\∃ m',m' < m/\W (i + 1) m' τ2 (ys ++ [v]) (upd H3 acc (.lst (ys ++ [v]))) else ∃ m',m' < m/\W (i + 1) m' τ2 ys H2')
structure BlockOk (X:Cx) (scope:Scope) (own:List Str) (cap:List (Str × Nat)) (tg:Expr) (ifs:List Expr) (elt:Expr) (g:TG) (tt:TT) (te:TE):Prop where
 tgt:∀ cs C s0 H0 fp,PG (cxComp X scope cs C (own ++ cap.map (·.1)) s0 H0 fp) tg g
 tst:∀ cs C s0 H0 fp,PIf (cxComp X scope cs C (own ++ cap.map (·.1)) s0 H0 fp) ifs tt
 elm:∀ cs C s0 H0 fp,PE (cxComp X scope cs C (own ++ cap.map (·.1)) s0 H0 fp) elt te
section
variable {X:Cx}{tg elt iter:Expr}{ifs:List Expr}{tt:TT}{scope:Scope}{pos:Pos}{own:List Str}{cap:List (Str × Nat)}{wi:TI}{g:TG}{te:TE}
theorem comp_block {pins:List (Addr × Obj)}{σ:St}{H2:Hp}{s2:Shared}{Q:VK}{it:Addr}{fp:List Addr}{tn:Nat->Heap->Prop}{J:It}{cl:List (Str × Addr)}{RR:Value->Addr->Result->Shared->Prop}
  {cm:Cx->Prop} (ok:CompOk X scope own cap) (hc:∀ cs C N s0 H0 fp,Inv X pins σ H0 s0->cm (cxComp X scope cs C N s0 H0 fp)) (B:BlockOk X scope own cap tg ifs elt g tt te)
  (hcl:∀ y c,cl.lookup y=some c->X.env.cells.lookup y=some c/\(y,NameKind.free) ∈ scope.names) (hcl2:∀ y,(y,NameKind.free) ∈ scope.names->∃ c,cl.lookup y=some c)
  (I2:Inv X pins σ H2 s2) (T:TurnC cm X.prog X.w X.K tg J fp it tn) (st2:tn 0 s2.heap) (f2:∀ b ∈ fp,FpOk X pins H2 b)
  (h:∀ acc,H2 acc=none->∃ W:Nat->Nat->St->List V->Hp->Prop,(∃ m,W 0 m (List.replicate own.length none ++ capV σ cap) [] (upd H2 acc (.lst []))) /\
   ∀ i m τ ys H,W i m τ ys H->(J.stop i H/\Q (.ref acc) H) ∨ (J.go i H/\∀ x H',J.yld i H x H'->g x τ H' fun τ2 H2=>tt τ2 H2 fun b H2'=>if b=true then te τ2 H2' fun v H3 =>
    H3 acc=some (.lst ys)/\ys.length < sizeLine/\∃ m',m' < m/\W (i + 1) m' τ2 (ys ++ [v]) (upd H3 acc (.lst (ys ++ [v]))) else ∃ m',m' < m/\W (i + 1) m' τ2 ys H2'))
  (hR:∀ D C H' s',(∀ h',Heap.SameBut C s'.heap h'->Inv X pins σ H' { s' with heap:=h' })->(∃ m,s'.heap.Ns C m)->H' C=none->X.s₀.heap.objs.size <= C->C ≠ X.env.locals->(∀ x c,X.env.cells.lookup x=some c->c ≠ C)->(∀ p ∈ X.pn ++ pins,p.1 ≠ C) ->
   Q (.ref D) H'->RR (.ref D) C (.ok .next) s') {E:Value->Shared->Prop} :
  wpAny (model X.prog X.w) X.A (newList []) (fun acc s₃=>wpAny (model X.prog X.w) X.A (newFunctionEnv scope X.env.globals cl [] X.env.qual none .none (some X.env)) (fun cenv s₄ =>
   codeAny (model X.prog X.w) X.A (.compStart (.ListComp elt [⟨tg,iter,ifs,0⟩] scope pos) 0 (.ref it) acc { cenv with scope:=relabel scope X.env }) (RR acc cenv.locals) s₄) E s₃) E s2:=by
 refine wpAny_newObj_type ?_
 have fresh:H2 s2.heap.objs.size=none:=I2.fresh
 have I3:Inv X pins σ (upd H2 s2.heap.objs.size (.lst [])) { s2 with heap:=s2.heap.push { cls := .type "list",data := .seq ([]:List Value).toArray } }:=I2.lnew (its := []) (ys := []) (t' := s2.toks) .nil (Nat.zero_le _)
 have ob2:=T.obj _ _ st2
 have lt2:∀ b ∈ fp,b < s2.heap.objs.size:=fun b hb=>let ⟨o,e,_⟩:=ob2 b hb; Heap.lt_size e
 have f3:∀ b ∈ fp,FpOk X pins (upd H2 s2.heap.objs.size (.lst [])) b:=fun b hb=>⟨by rw [upd_ne (Nat.ne_of_lt (lt2 b hb))]; exact (f2 b hb).1,(f2 b hb).2⟩
 have kp3:∀ b o,s2.heap.get? b=some o->(s2.heap.push { cls := .type "list",data := .seq ([]:List Value).toArray }).get? b=some o:=fun b o e=>Heap.get?_push_of_some _ e
 generalize hs3:({ s2 with heap:=s2.heap.push { cls := .type "list",data := .seq ([]:List Value).toArray } }:Shared)=s3 at I3 ⊢
 have k3:∀ b o,s2.heap.get? b=some o->s3.heap.get? b=some o:=fun b o e=>by rw [<- hs3]; exact kp3 b o e
 refine newCompEnv ?_
 have lt3:∀ b ∈ fp,b < s3.heap.objs.size:=fun b hb=>let ⟨o,e,_⟩:=ob2 b hb; Heap.lt_size (k3 b o e)
 have I4:=inv_comp (own:=own) (cap:=cap) (fp:=fp) I3 ok hcl hcl2 f3 lt3
 have st4:tn 0 (pushCells (s3.heap.push { cls := .type "dict",data := .dict #[] }) scope.names):=T.keep _ _ _ st2 fun b _ o e=>pushCells_keeps _ _ b o (Heap.get?_push_of_some _ (k3 b o e))
 obtain ⟨W,⟨m0,w0⟩,turn⟩:=h s2.heap.objs.size fresh
 let Y:=cxComp X scope (cellsFrom (s3.heap.objs.size + 1) scope.names cl) s3.heap.objs.size (own ++ cap.map (·.1)) s3 (upd H2 s2.heap.objs.size (.lst [])) fp
 have I4:Inv Y pins (List.replicate own.length none ++ capV σ cap) (upd H2 s2.heap.objs.size (.lst [])) { s3 with heap:=pushCells (s3.heap.push { cls := .type "dict",data := .dict #[] }) scope.names }:=I4
 have f4:∀ {H':Hp},(∀ b ∈ fp,H' b=none)->∀ b ∈ fp,FpOk Y pins H' b:=fun {H'} hn b hb=>by
  refine ⟨hn b hb,Nat.ne_of_lt (lt3 b hb),fun z=>?_,.inl hb,(I4.ok.exf b hb).2,(f2 b hb).2.2.2.2.2⟩
  exact I4.ok.exfs b hb z
 have loop:codeAny (model X.prog X.w) X.A (.compLoop (.ListComp elt [⟨tg,iter,ifs,0⟩] scope pos) 0 (.ref it) (.ref s2.heap.objs.size) Y.env) (RR (.ref s2.heap.objs.size) s3.heap.objs.size)
   { s3 with heap:=pushCells (s3.heap.push { cls := .type "dict",data := .dict #[] }) scope.names }:=by
  refine compLoopG (fun n s'=>∃ i τ ys H',Inv Y pins τ H' s'/\tn i s'.heap/\(∀ b ∈ fp,H' b=none)/\W i n τ ys H') ?_ m0 ⟨0,_,[],_,I4,st4,fun b hb=>(f3 b hb).1,w0⟩
  rintro n s5 ⟨i,τ,ys,H5,I5,st5,fr5,w5⟩
  rcases turn i n τ ys H5 w5 with ⟨stop,q⟩ | ⟨go,step⟩
  ·refine thn (T.done Y rfl rfl rfl (hc _ _ _ _ _ _ I3) i pins s5 τ H5 (fun _ _=>False) I5 (f4 fr5) st5 stop) fun r s6 ⟨hr,I6⟩=>?_
   subst hr
   obtain ⟨m,hns,_⟩:=I6.loc
   have hC:X.s₀.heap.objs.size <= s3.heap.objs.size:=I3.sz
   refine hR _ _ H5 s6 (fun h' hs'=>inv_compEnd I3 f3 (Nat.le_refl _) I6 hs') ⟨m,hns⟩ I6.free hC (fun z=>?_) (fun x c e z=>?_) (fun p hp z=>?_) q
   ·exact Nat.lt_irrefl _ (z ▸ I3.lt)
   ·obtain ⟨v,o,ho,_⟩:=I3.cell x c e
    rw [z] at ho
    exact Nat.lt_irrefl _ (Heap.lt_size ho)
   ·have e:=(I3.pin p hp).1
    rw [z] at e
    exact Nat.lt_irrefl _ (Heap.lt_size e)
  ·refine thn (T.item Y rfl rfl rfl (hc _ _ _ _ _ _ I3) i pins s5 τ H5 (fun _ _=>False) I5 (f4 fr5) st5 go) fun r s6 ⟨u,hr,h6⟩=>?_
   subst hr
   refine thn h6 fun _ s7 ⟨x,H7,I7,r7,y7,st7,fr7⟩=>?_
   have I7' := I7.pinned (f4 fr7) (T.obj _ _ st7)
   refine thn (B.tgt _ _ _ _ _ _ s7 τ H7 x u _ I7' r7 (step x H7 y7)) fun _ s8 ⟨τ8,H8,I8,q8⟩=>?_
   refine thn (B.tst _ _ _ _ _ _ s8 τ8 H8 _ I8 q8) fun ok s8' ⟨H8',I8',q8'⟩=>?_
   have again:∀ {H':Hp}{s':Shared},Inv Y (pins ++ pinsAt fp s7.heap) τ8 H' s'->Inv Y pins τ8 H' s'/\tn (i + 1) s'.heap/\∀ b ∈ fp,H' b=none:=fun {H' s'} I'=>by
    refine ⟨I'.unpinned,T.keep _ _ _ st7 fun b hb o e=>(I'.pin (b,o) (List.mem_append_right _ (List.mem_append_right _ (mem_pinsAt hb e)))).1,fun b hb=>?_⟩
    obtain ⟨o,e,d⟩:=T.obj _ _ st7 b hb
    exact (I'.pin (b,o) (List.mem_append_right _ (List.mem_append_right _ (mem_pinsAt hb e)))).2.1
   cases ok with
   | false =>
    rw [if_neg Bool.false_ne_true] at q8' ⊢
    obtain ⟨m',hm,w9⟩:=q8'
    obtain ⟨z1,z2,z3⟩:=again I8'
    exact ⟨m',hm,i + 1,τ8,ys,H8',z1,z2,z3,w9⟩
   | true =>
    rw [if_pos rfl] at q8' ⊢
    refine thn (B.elm _ _ _ _ _ _ s8' τ8 H8' _ I8' q8') fun v s9 ⟨y,H9,I9,r9,hacc,hlen,m',hm,w9⟩=>?_
    refine thn (mt_append _ s9 τ8 H9 (.ref s2.heap.objs.size) [y] (.ref s2.heap.objs.size) [v] (fun z H'=>z=.non/\H'=upd H9 s2.heap.objs.size (.lst (ys ++ [y]))) I9 rfl (.cons r9 .nil) ⟨_,ys,y,rfl,rfl,hacc,hlen,rfl,rfl⟩) fun _ s10 ⟨z,H10,I10,_,_,e10⟩=>?_
    subst e10
    obtain ⟨z1,z2,z3⟩:=again I10
    exact ⟨m',hm,i + 1,τ8,ys ++ [y],_,z1,z2,z3,w9⟩
 exact codeAny_compStart_list loop (T.self X.A 0 _ _ _ st4 loop)
theorem comp_closure {pins:List (Addr × Obj)}{σ:St}{H:Hp}{s:Shared} (I:Inv X pins σ H s) (ok:CompOk X scope own cap):∃ cl,closureFor scope X.env=pure cl/\(∀ y c,cl.lookup y=some c->X.env.cells.lookup y=some c/\(y,NameKind.free) ∈ scope.names)/\(∀ y,(y,NameKind.free) ∈ scope.names->∃ c,cl.lookup y=some c) :=
 closure_ok fun y hy hk=>I.ok.has y.1 (ok.free y hy hk)
theorem comp_names (ok:CompOk X scope own cap):∀ x ∈ scope.names,x.2=.local->scope.names.lookup x.1=some .local:=fun x hx hl=>lookup_of_nd ok.nd (by rw [<- hl]; exact hx)
def PIEC (cm:Cx->Prop) (X:Cx) (pins:List (Addr × Obj)) (σ:St) (tg:Expr) (R:It->Hp->Prop) (itv:Value) (s2:Shared):Prop :=
 ∃ (it:Addr) (fp:List Addr) (tn:Nat->Heap->Prop) (J:It) (H':Hp),itv=.ref it/\Inv X pins σ H' s2/\TurnC cm X.prog X.w X.K tg J fp it tn/\tn 0 s2.heap/\(∀ b ∈ fp,FpOk X pins H' b)/\R J H'
def PIC (cm:Cx->Prop) (X:Cx) (tg iter:Expr) (wi:TI):Prop :=
 ∀ (pins:List (Addr × Obj)) (s:Shared) (σ:St) (H:Hp) (R:It->Hp->Prop),Inv X pins σ H s->wi σ H R ->
  wpAny (model X.prog X.w) X.A (eval iter X.env) (fun v s1=>wpAny (model X.prog X.w) X.A (pyIter v) (PIEC cm X pins σ tg R) X.xe s1) X.xe s
theorem pe_compC {cm:Cx->Prop} (ok:CompOk X scope own cap) (hc:∀ pins σ cs C N s0 H0 fp,Inv X pins σ H0 s0->cm (cxComp X scope cs C N s0 H0 fp)) (hi:PIC cm X tg iter wi) (B:BlockOk X scope own cap tg ifs elt g tt te) (hs:∀ x,foldedSetIterable iter X.env x=pure x:=by intro _; rfl) :
  PE X (.ListComp elt [⟨tg,iter,ifs,0⟩] scope pos) (tComp wi g tt te own.length cap):=by
 intro pins s σ H Q I h
 obtain ⟨cl,hclos,hcl,hcl2⟩:=comp_closure I ok
 rw [eval_ListComp]
 refine wpAny_comprehension_free (use:=none) rfl hs hclos ok.kind (comp_names ok) (thn (hi pins s σ H _ I h) fun xv s1 h1=>thn h1 fun itv s2 h2=>?_)
 obtain ⟨it,fp,tn,J,H2,e,I2,T,st2,f2,hW⟩:=h2
 subst e
 refine comp_block (Q:=Q) (RR:=fun acc C=>compPost (model X.prog X.w) X.A X.xe none (EP X pins σ Q) acc C) ok (hc pins σ) B hcl hcl2 I2 T st2 f2 hW ?_
 rintro D C H' s' hI ⟨m,hm⟩ _ _ _ _ _ q
 exact ⟨m,hm,fun h' hs'=>⟨.ref D,H',hI h' hs',rfl,q⟩⟩
theorem ps_setCompC {cm:Cx->Prop}{i:Nat}{y:Str}{py spos:Pos} (hN:X.N.Nodup) (hi':X.N[i]?=some y) (hy:Loc X.env.scope y) (ok:CompOk X scope own cap) (hc:∀ pins σ cs C N s0 H0 fp,Inv X pins σ H0 s0->cm (cxComp X scope cs C N s0 H0 fp)) (hi:PIC cm X tg iter wi) (B:BlockOk X scope own cap tg ifs elt g tt te)
  (hsw:swapsWith (.ListComp elt [⟨tg,iter,ifs,0⟩] scope pos) (some (.Name y py)) spos.line X.env=pure true:=by rfl)
  (hf:X.fn y=true ∨ X.env.scope.names.lookup y=some .local:=by first | exact .inl rfl | exact .inr rfl) (hs:∀ x,foldedSetIterable iter X.env x=pure x:=by intro _; rfl) :
  PS X (.Assign [.Name y py] (.ListComp elt [⟨tg,iter,ifs,0⟩] scope pos) spos) (tAsg (tComp wi g tt te own.length cap) (gName i)):=by
 intro pins s σ H D I h
 obtain ⟨cl,hclos,hcl,hcl2⟩:=comp_closure I ok
 rw [exec_Assign_Name_used _ _ _ _ hsw]
 refine wpAny_bind (wpAny_standAt (wpAny_bind ?_))
 show wpAny _ X.A (do let _ <- comprehension (.ListComp elt [⟨tg,iter,ifs,0⟩] scope pos) scope X.env _ (newList []) false (eval iter X.env) (some (assign (.Name y py) X.env))) _ _ s
 refine wpAny_bind (wpAny_mono (wpAny_comprehension_free (use:=some (assign (.Name y py) X.env)) (Q:=fun _ s'=>SP X pins D .next s') rfl hs hclos ok.kind (comp_names ok) (thn (hi pins s σ H _ I h) fun xv s1 h1=>thn h1 fun itv s2 h2=>?_)) (fun _ s' hq=>wpAny_pure (wpAny_pure hq)) fun _ _ e=>e)
 obtain ⟨it,fp,tn,J,H2,e,I2,T,st2,f2,hW⟩:=h2
 subst e
 refine comp_block (Q:=fun v H'=>gName i v σ H' D.nx) (RR:=fun acc C=>compPost (model X.prog X.w) X.A X.xe (some (assign (.Name y py) X.env)) (fun _ s'=>SP X pins D .next s') acc C) ok (hc pins σ) B hcl hcl2 I2 T st2 f2 hW ?_
 rintro D' C H' s' hI ⟨m,hm⟩ hHC hC1 hC2 hC3 hC4 q
 have I':Inv X pins σ H' s' := hI s'.heap (.refl ..)
 show wpAny _ X.A (assign (.Name y py) X.env (.ref D')) _ _ s'
 refine wpAny_assign_Name (store_ok2 I' hN hi' hy (show RelV (.ref D') (.ref D') from rfl) (fun s'' I'' ⟨a,hsa,ha⟩=>?_) hf)
 have ne:C ≠ a:=by
  rcases ha with rfl | ha
  ·exact hC2
  ·exact fun z=>hC3 y a ha z.symm
 refine ⟨m,hm.sameBut hsa ne,fun h' hs'=>?_⟩
 refine ⟨_,H',I''.turned (t' := s''.toks) (h' := h') (it:=C) (fun b o hb e=>(hs'.2 b hb).trans e) hHC hC2 (.inr hC1) (fun x c e z=>hC3 x c e z) hC4,q⟩
theorem pe_comp (ok:CompOk X scope own cap) (hc:X.calm=true) (hi:PI X tg iter wi) (B:BlockOk X scope own cap tg ifs elt g tt te) (hs:∀ x,foldedSetIterable iter X.env x=pure x:=by intro _; rfl) :
  PE X (.ListComp elt [⟨tg,iter,ifs,0⟩] scope pos) (tComp wi g tt te own.length cap):=pe_compC (cm:=fun X=>X.calm=true) ok (fun _ _ _ _ _ _ _ _ _=>hc) hi B hs
theorem ps_setComp {i:Nat}{y:Str}{py spos:Pos} (hN:X.N.Nodup) (hi':X.N[i]?=some y) (hy:Loc X.env.scope y) (ok:CompOk X scope own cap) (hc:X.calm=true) (hi:PI X tg iter wi) (B:BlockOk X scope own cap tg ifs elt g tt te)
  (hsw:swapsWith (.ListComp elt [⟨tg,iter,ifs,0⟩] scope pos) (some (.Name y py)) spos.line X.env=pure true:=by rfl)
  (hf:X.fn y=true ∨ X.env.scope.names.lookup y=some .local:=by first | exact .inl rfl | exact .inr rfl) (hs:∀ x,foldedSetIterable iter X.env x=pure x:=by intro _; rfl) :
  PS X (.Assign [.Name y py] (.ListComp elt [⟨tg,iter,ifs,0⟩] scope pos) spos) (tAsg (tComp wi g tt te own.length cap) (gName i)) :=
 ps_setCompC (cm:=fun X=>X.calm=true) hN hi' hy ok (fun _ _ _ _ _ _ _ _ _=>hc) hi B hsw hf hs
end
section
variable {prog:Program}{w:World}{A:Around}{E:Value->Shared->Prop}{s:Shared}
theorem nextOf_tup_item {it t:Addr}{i:Nat}{items:Array Value}{x:Value}{Q:Value->Shared->Prop} (hit:s.heap.IsTupleIter it t i) (ht:s.heap.IsTuple t items) (hx:items[i]?=some x)
  (hQ:∀ h',h'.IsTupleIter it t (i + 1)->Heap.SameBut it s.heap h'->Q x { s with heap:=h' }):wpAny (model prog w) A (Builtin.SmallTypes.nextOf (.ref it)) Q E s:=by
 obtain ⟨o,ho,hc,hd⟩:=id hit
 obtain ⟨ot,hot,_,nt,hdt⟩:=ht
 unfold Builtin.SmallTypes.nextOf
 refine wpAny_bind (wpAny_callSpecial?_slot (name:=Str.ofString "__next__") hit.typeIs F.slot_tuple_iterator_next (wpAny_call_entry F.slot_tuple_iterator_next hit.typeIs F.entry_tuple_iterator_next ?_ (F.args_tuple_iterator_next_1 _)))
 show wpAny _ _ (field (.ref it) 0 >>= _) _ _ s
 refine wpAny_bind (wpAny_field ho hd (x := .ref t) rfl ?_)
 show wpAny _ _ (if (Value.ref t == Value.none)=true then _ else _) _ _ s
 rw [if_neg (fun z:(Value.ref t == Value.none)=true=>Bool.false_ne_true z)]
 show wpAny _ _ (field (.ref it) 1 >>= _) _ _ s
 refine wpAny_bind (wpAny_field ho hd (x := .int i 0) rfl ?_)
 show wpAny _ _ (seqItems? (.ref t) >>= _) _ _ s
 refine wpAny_bind (wpAny_seqItems hot hdt ?_)
 simp only [Int.toNat_natCast,hx]
 refine wpAny_bind (wpAny_setField ho hd (by simp) (wpAny_pure ⟨x,rfl,wpAny_pure (hQ _ ⟨_,Heap.get?_update_self _ ho (Obj.isFreed_of_fields (Obj.data_mapFields hd _)),(Obj.cls_mapFields ..).trans hc,?_⟩ (Heap.SameBut.update ..))⟩))
 rw [Obj.data_mapFields hd]
 simp [rawInt]
theorem nextOf_tup_end {it t:Addr}{i:Nat}{items:Array Value}{Q:Value->Shared->Prop} (hh:A.handled=none) (hit:s.heap.IsTupleIter it t i) (ht:s.heap.IsTuple t items) (hx:items[i]?=none)
  (hE:∀ h' e,Heap.ExtBut it s.heap h'->(∃ o,h'.get? e=some o/\o.cls=.type "StopIteration")->E (.ref e) { s with heap:=h' }):wpAny (model prog w) A (Builtin.SmallTypes.nextOf (.ref it)) Q E s:=by
 obtain ⟨o,ho,hc,hd⟩:=id hit
 obtain ⟨ot,hot,_,nt,hdt⟩:=ht
 unfold Builtin.SmallTypes.nextOf
 refine wpAny_bind (wpAny_callSpecial?_slot (name:=Str.ofString "__next__") hit.typeIs F.slot_tuple_iterator_next (wpAny_call_entry F.slot_tuple_iterator_next hit.typeIs F.entry_tuple_iterator_next ?_ (F.args_tuple_iterator_next_1 _)))
 show wpAny _ _ (field (.ref it) 0 >>= _) _ _ s
 refine wpAny_bind (wpAny_field ho hd (x := .ref t) rfl ?_)
 show wpAny _ _ (if (Value.ref t == Value.none)=true then _ else _) _ _ s
 rw [if_neg (fun z:(Value.ref t == Value.none)=true=>Bool.false_ne_true z)]
 show wpAny _ _ (field (.ref it) 1 >>= _) _ _ s
 refine wpAny_bind (wpAny_field ho hd (x := .int i 0) rfl ?_)
 show wpAny _ _ (seqItems? (.ref t) >>= _) _ _ s
 refine wpAny_bind (wpAny_seqItems hot hdt ?_)
 simp only [Int.toNat_natCast,hx]
 refine wpAny_bind (wpAny_rule (wpAny_bind (wpAny_setField ho hd (by simp) ?_)))
 show wpAny _ _ (newExc (.type "StopIteration") [] >>= _) _ _ _
 refine wpAny_bind ?_
 simp only [newExc,newTuple]
 refine wpAny_bind (wpAny_newObj_type ?_ (by size_fits))
 refine wpAny_bind (m:=firstArgMember _ _) (wpAny_of_eq (a:=Value.none) (by first | rfl | (simp only [firstArgMember]; rfl)) ?_)
 refine wpAny_newObj_type ?_ (by size_fits)
 simp only [raiseNew]
 refine wpAny_bind (wpAny_handled ?_)
 first | rw [show A.in1.handled=none from hh] | rw [hh]
 exact wpAny_bind (wpAny_pure (wpAny_throw (hE _ _ (((Heap.SameBut.update ..).extBut.push _).push _) ⟨_,Heap.get?_push_size _ rfl,rfl⟩)))
theorem enum_item {e it:Addr}{i:Nat}{x old:Value}{R:Obj->Prop}{Q:Option Value->Shared->Prop} (he:IsEnum s.heap e it i old) (hne:e ≠ it)
  (hn:∀ (A':Around) (E' Q':Value->Shared->Prop),(∀ h',(∃ o,h'.get? it=some o/\R o)->Heap.SameBut it s.heap h'->Q' x { s with heap:=h' })->wpAny (model prog w) A' (Builtin.SmallTypes.nextOf (.ref it)) Q' E' s)
  (hQ:∀ h',IsEnumOut h' e it ((i:Int) + 1) x s.heap.objs.size->(∃ o,h'.get? it=some o/\R o)->h'.get? s.heap.objs.size=some { cls := .type "tuple",data := .seq #[.int i s.toks,x] }->h'.objs.size=s.heap.objs.size + 1 ->
   (∀ b o,b ≠ e->b ≠ it->s.heap.get? b=some o->h'.get? b=some o)->Q (some (.ref s.heap.objs.size)) { s with heap:=h',toks:=s.toks + 1 }) :
  wpAny (model prog w) A (pyNext (.ref e)) Q E s:=by
 have hT:s.TypeIs (.ref e) "enumerate" := ⟨_,he,rfl⟩
 unfold pyNext
 refine wpAny_bind (wpAny_attempt (wpAny_callSpecial?_slot (name:=Str.ofString "__next__") hT F.slot_enumerate_next (wpAny_call_entry F.slot_enumerate_next hT F.entry_enumerate_next ?_ (F.args_enumerate_next_1 _))))
 obtain ⟨hp,g,d,tk,os⟩:=s
 show wpAny _ _ (field (.ref e) 2 >>= _) _ _ _
 refine wpAny_bind (wpAny_field he rfl (x := .ref it) rfl (wpAny_bind (hn _ _ _ fun h₁ hit₁ hs₁=>?_)))
 replace hs₁:Heap.SameBut it hp h₁:=hs₁
 have he₁:IsEnum h₁ e it i old:=(hs₁.2 e hne).trans he
 show wpAny _ _ (field (.ref e) 3 >>= _) _ _ ⟨h₁,g,d,tk,os⟩
 refine wpAny_bind (wpAny_field he₁ rfl (x:=rawInt i) rfl ?_)
 show wpAny _ _ (field (.ref e) 4 >>= _) _ _ ⟨h₁,g,d,tk,os⟩
 refine wpAny_bind (wpAny_field he₁ rfl (x := .none) rfl ?_)
 show wpAny _ _ (mkInt i >>= _) _ _ ⟨h₁,g,d,tk,os⟩
 refine wpAny_bind (wpAny_mkInt ?_)
 show wpAny _ _ (setField (.ref e) 3 (rawInt ((i:Int) + 1)) >>= _) _ _ ⟨h₁,g,d,tk + 1,os⟩
 refine wpAny_bind (wpAny_setField_rec he₁ (by simp) fun h₂ he₂ hs₂=>?_)
 replace hs₂:Heap.SameBut e h₁ h₂:=hs₂
 replace he₂:IsEnum h₂ e it ((i:Int) + 1) old:=he₂
 show wpAny _ _ (setField (.ref e) 4 .none >>= _) _ _ ⟨h₂,g,d,tk + 1,os⟩
 refine wpAny_bind (wpAny_setField_rec he₂ (by simp) fun h₃ he₃ hs₃=>?_)
 replace hs₃:Heap.SameBut e h₂ h₃:=hs₃
 replace he₃:IsEnum h₃ e it ((i:Int) + 1) old:=he₃
 show wpAny _ _ (newTuple [.int i tk,x] >>= _) _ _ ⟨h₃,g,d,tk + 1,os⟩
 refine wpAny_bind (wpAny_newTuple ?_)
 have sz:h₃.objs.size=hp.objs.size:=by rw [hs₃.1,hs₂.1,hs₁.1]
 have hel:e < hp.objs.size:=Heap.lt_size he
 obtain ⟨h₄,hh₄⟩:∃ h₄,h₄=h₃.push { cls := .type "tuple",data := .seq #[.int i tk,x] }:=⟨_,rfl⟩
 have he₄:IsEnum h₄ e it ((i:Int) + 1) old:=by rw [hh₄]; exact Heap.get?_push_of_some _ he₃
 have ht₄:h₄.get? hp.objs.size=some { cls := .type "tuple",data := .seq #[.int i tk,x] }:=by rw [hh₄,<- sz]; exact Heap.get?_push_size _ rfl
 have hz₄:h₄.objs.size=hp.objs.size + 1:=by rw [hh₄,Heap.size_push,sz]
 have hk₄:∀ b o,b ≠ e->b ≠ it->hp.get? b=some o->h₄.get? b=some o:=fun b o hbe hbi hb=>by
  rw [hh₄]
  exact Heap.get?_push_of_some _ (hs₃.extBut b o hbe (hs₂.extBut b o hbe (hs₁.extBut b o hbi hb)))
 have hit₄:∃ o,h₄.get? it=some o/\R o:=by
  obtain ⟨o,ho,r⟩:=hit₁
  rw [hh₄]
  exact ⟨o,Heap.get?_push_of_some _ (hs₃.extBut it o (Ne.symm hne) (hs₂.extBut it o (Ne.symm hne) ho)),r⟩
 rw [<- hh₄]
 show wpAny _ _ (Builtin.SmallTypes.ownedTupleIsFree (.ref e) >>= _) _ _ ⟨h₄,g,d,tk + 1,os⟩
 rw [sz]
 clear hh₄ he₃ hs₃ he₂ hs₂ he₁ hs₁ hit₁ sz h₃ h₂ h₁
 refine wpAny_bind ?_
 unfold Builtin.SmallTypes.ownedTupleIsFree
 refine wpAny_bind (wpAny_field he₄ rfl (x := .none) rfl (wpAny_pure ?_))
 simp only [if_true]
 refine wpAny_bind (wpAny_rule (wpAny_bind (wpAny_field he₄ rfl (x:=old) rfl (wpAny_bind (wpAny_setField_rec he₄ (by simp) fun h₅ he₅ hs₅=>?_)))))
 replace hs₅:Heap.SameBut e h₄ h₅:=hs₅
 replace he₅:IsEnum h₅ e it ((i:Int) + 1) x:=he₅
 show wpAny _ _ (Builtin.SmallTypes.ownedTupleHandOut (.ref e) (.ref hp.objs.size) >>= _) _ _ ⟨h₅,g,d,tk + 1,os⟩
 refine wpAny_bind ?_
 unfold Builtin.SmallTypes.ownedTupleHandOut
 refine wpAny_bind (wpAny_setField_rec he₅ (by simp) fun h₆ he₆ hs₆=>?_)
 replace hs₆:Heap.SameBut e h₅ h₆:=hs₆
 replace he₆:IsEnumOut h₆ e it ((i:Int) + 1) x hp.objs.size:=he₆
 refine wpAny_setField_rec he₆ (by simp) fun h₇ he₇ hs₇=>?_
 replace hs₇:Heap.SameBut e h₆ h₇:=hs₇
 replace he₇:IsEnumOut h₇ e it ((i:Int) + 1) x hp.objs.size:=he₇
 have up:∀ b o,b ≠ e->h₄.get? b=some o->h₇.get? b=some o:=fun b o hb q=>hs₇.extBut b o hb (hs₆.extBut b o hb (hs₅.extBut b o hb q))
 refine wpAny_bind (wpAny_letGo (wpAny_pure ⟨_,rfl,wpAny_pure (hQ h₇ he₇ ?_ (up _ _ (Nat.ne_of_gt hel) ht₄) (by rw [hs₇.1,hs₆.1,hs₅.1,hz₄]) fun b o hbe hbi hb=>up b o hbe (hk₄ b o hbe hbi hb))⟩))
 obtain ⟨o,ho,r⟩:=hit₄
 exact ⟨o,up it o (Ne.symm hne) ho,r⟩
theorem enum_end {e it:Addr}{i:Nat}{old:Value}{Q:Option Value->Shared->Prop} (he:IsEnum s.heap e it i old)
  (hn:∀ (A':Around) (E' Q':Value->Shared->Prop),A'.handled=A.handled->(∀ h' x,Heap.ExtBut it s.heap h'->(∃ o,h'.get? x=some o/\o.cls=.type "StopIteration")->E' (.ref x) { s with heap:=h' })->wpAny (model prog w) A' (Builtin.SmallTypes.nextOf (.ref it)) Q' E' s)
  (hQ:∀ h',Heap.ExtBut it s.heap h'->Q none { s with heap:=h' }):wpAny (model prog w) A (pyNext (.ref e)) Q E s:=by
 have hT:s.TypeIs (.ref e) "enumerate" := ⟨_,he,rfl⟩
 unfold pyNext
 refine wpAny_bind (wpAny_attempt (wpAny_callSpecial?_slot (name:=Str.ofString "__next__") hT F.slot_enumerate_next (wpAny_call_entry F.slot_enumerate_next hT F.entry_enumerate_next ?_ (F.args_enumerate_next_1 _))))
 show wpAny _ _ (field (.ref e) 2 >>= _) _ _ _
 refine wpAny_bind (wpAny_field he rfl (x := .ref it) rfl (wpAny_bind (hn _ _ _ rfl fun h' x he' hx'=>?_)))
 obtain ⟨o,ho,hc⟩:=hx'
 exact wpAny_bind (wpAny_isInstance (T := "StopIteration") (b:=true) ⟨o,ho,hc⟩ isSubtype_stop (wpAny_pure (hQ _ he')))
set_option maxHeartbeats 4000000 in
theorem meets_enum_newT (t:Addr) (items:Array Value) (n:Nat) (dct:Option Addr) (sl:Array (Option Value)) :
  Meets (Builtin.«enumerate.__new__» ⟨[.type "enumerate",.ref t],[]⟩) (fun _ R s=>s.heap.get? t=some { cls := .type "tuple",dict:=dct,data := .seq items n,slots:=sl } /\
   R (.ok (.ret (.ref (s.heap.push { cls := .type "tuple_iterator",data := .fields #[.ref t,.int 0 0] }).objs.size)))
    { s with heap:=(s.heap.push { cls := .type "tuple_iterator",data := .fields #[.ref t,.int 0 0] }).push { cls := .type "enumerate",data := .fields #[.none,.bool false,.ref s.heap.objs.size,rawInt 0,.none,.none] } }) :=
 .of_wp fun prog w A R s h=>by
  obtain ⟨hp,g,d,tk,os⟩:=s
  obtain ⟨ht,h⟩:=h
  have hsub:=sub_enumerate
  have hT:Heap.IsTuple (Shared.heap ⟨hp,g,d,tk,os⟩) t items:=⟨_,ht,rfl,n,rfl⟩
  wp_walk using AutoSeq1.wpAny_loadPart' ht
  refine wpAny_stack_any fun st=>wpAny_pure ?_
  split
  ·rename_i c _ _ _ _ _
   cases (c == Value.type "enumerate") <;> (wp_walk using AutoSeq1.wpAny_loadPart' ht,wpAny_pyIter_tuple hT; exact ⟨_,rfl,h⟩)
  ·wp_walk using AutoSeq1.wpAny_loadPart' ht,wpAny_pyIter_tuple hT
   exact ⟨_,rfl,h⟩
theorem call_enum_tup {t:Addr}{items:Array Value}{Q:Value->Shared->Prop} (hT:s.heap.IsTuple t items)
  (h:∀ h',IsEnum h' (s.heap.objs.size + 1) s.heap.objs.size 0 .none->h'.IsTupleIter s.heap.objs.size t 0->(∀ b o,s.heap.get? b=some o->h'.get? b=some o)->Q (.ref (s.heap.objs.size + 1)) { s with heap:=h' }) :
  wpAny (model prog w) A (call (.type "enumerate") [.ref t]) Q E s:=by
 obtain ⟨⟨c,dct,dt,sl⟩,hl,hc,n,hd⟩:=hT
 have hc:c=.type "tuple" := hc
 have hd:dt=.seq items n:=hd
 subst hc hd
 refine callType_new F.called_enumerate (by decide) (F.typeCall_enumerate_1 _) (F.newCall_enumerate_1 _) (fun obj=>F.args_object_init_2 obj _) F.entry_enumerate_new (meets_enum_newT t items n dct sl) ⟨hl,?_⟩
 have hz:(s.heap.push { cls := .type "tuple_iterator",data := .fields #[.ref t,.int 0 0] }).objs.size=s.heap.objs.size + 1:=Heap.size_push ..
 show _/\_
 rw [hz]
 have q:=Heap.get?_push_size (s.heap.push { cls := .type "tuple_iterator",data := .fields #[.ref t,.int 0 0] }) (o := { cls := .type "enumerate",data := .fields #[.none,.bool false,.ref s.heap.objs.size,rawInt 0,.none,.none] }) rfl
 rw [hz] at q
 exact ⟨⟨_,q,rfl⟩,h _ q ⟨_,Heap.get?_push_of_some _ (Heap.get?_push_size _ rfl),rfl,rfl⟩ fun b o x=>Heap.get?_push_of_some _ (Heap.get?_push_of_some _ x)⟩
end
theorem hok_add {P:Program}{w:World}{H:Hp}{h:Heap}{p:Addr}{o:HO} (x:HOk P w H h) (hn:H p=none) (new:ObjOk P w (upd H p o) h p o):HOk P w (upd H p o) h:=fun a u e=>by
 by_cases q:a=p
 ·subst q
  rw [upd_same] at e
  cases e
  exact new
 ·rw [upd_ne q] at e
  exact (x a u e).stay (fun _ _ _ z=>z) (fun b z=>by rw [upd_ne (ne_of_none z hn)]; exact z) fun b xs z=>by rw [upd_ne (ne_of_none z hn)]; exact z
def Ite (src:Hp->List V->Prop):It :=
 ⟨fun i H=>∃ xs x,src H xs/\xs[i]?=some x,fun i H x H'=>∃ p y,x=.ref p/\H p=none/\H'=upd H p (.tup [.int i,y])/\∀ xs,src H xs->xs[i]?=some y,fun i H=>∃ xs,src H xs/\xs.length <= i⟩
structure Src (P:Program) (w:World) (K:PySem.W.Frag) (a it:Addr) (src:Hp->List V->Prop) (nx:Nat->Obj->Prop):Prop where
 dat:∀ i o,nx i o->∀ v,o.data ≠ .cell v
 item:∀ (X:Cx),X.prog=P->X.w=w->X.K=K->∀ (pins:List (Addr × Obj)) (σ:St) (H:Hp) (s:Shared) (xs:List V) (i:Nat) (x:V),Inv X pins σ H s->src H xs->xs[i]?=some x->(∃ o,s.heap.get? it=some o/\nx i o) ->
  ∃ u,RelV x u/\∀ (A':Around) (E' Q':Value->Shared->Prop),(∀ h',(∃ o,h'.get? it=some o/\nx (i + 1) o)->Heap.SameBut it s.heap h'->Q' u { s with heap:=h' })->wpAny (model P w) A' (Builtin.SmallTypes.nextOf (.ref it)) Q' E' s
 done:∀ (X:Cx),X.prog=P->X.w=w->X.K=K->∀ (pins:List (Addr × Obj)) (σ:St) (H:Hp) (s:Shared) (xs:List V) (i:Nat),Inv X pins σ H s->src H xs->xs.length <= i->(∃ o,s.heap.get? it=some o/\nx i o) ->
  ∀ (A':Around) (E' Q':Value->Shared->Prop),A'.handled=none->(∀ h' x,Heap.ExtBut it s.heap h'->(∃ o,h'.get? x=some o/\o.cls=.type "StopIteration")->E' (.ref x) { s with heap:=h' })->wpAny (model P w) A' (Builtin.SmallTypes.nextOf (.ref it)) Q' E' s
 inj:∀ (X:Cx),X.prog=P->X.w=w->X.K=K->∀ (pins:List (Addr × Obj)) (σ:St) (H:Hp) (s:Shared) (xs ys:List V),Inv X pins σ H s->src H xs->src H ys->xs=ys
theorem src_list {P:Program}{w:World}{K:PySem.W.Frag} (a it:Addr):Src P w K a it (fun H xs=>SqL K H a xs) (fun i o=>o.cls=.type "list_iterator" /\ o.data=.fields #[.ref a,.int i 0]) where
 dat:=fun i o h v z=>by rw [h.2] at z; cases z
 item:=by
  intro X hP hw hK pins σ H s xs i x I hq hx ho
  subst hP hw hK
  obtain ⟨its,rv,p,hz⟩:=I.list hq
  obtain ⟨u,hu,ru⟩:=rv.get hx
  obtain ⟨o,h1,h2,h3⟩:=ho
  exact ⟨u,ru,fun A' E' Q' hQ=>wpAny_nextOf_list_item ⟨o,h1,h2,h3⟩ p.isList (by simpa using hu) fun h' st sb=>hQ h' st sb⟩
 done:=by
  intro X hP hw hK pins σ H s xs i I hq hx ho A' E' Q' hh hE
  subst hP hw hK
  obtain ⟨its,rv,p,hz⟩:=I.list hq
  obtain ⟨o,h1,h2,h3⟩:=ho
  have hl:=rv.length
  exact wpAny_nextOf_list_end hh ⟨o,h1,h2,h3⟩ p.isList (by simp; omega) hE
 inj:=by
  intro X hP hw hK pins σ H s xs ys I h1 h2
  subst hP hw hK
  exact I.list_inj h1 h2
theorem isTuple_of {h:Heap}{a:Addr}{its:Array Value} (x:IsTup h a its):h.IsTuple a its:=by
 obtain ⟨o,h1,h2,h3⟩:=x
 exact ⟨o,h1,h2,h3⟩
theorem src_tup {P:Program}{w:World}{K:PySem.W.Frag} (a it:Addr):Src P w K a it (fun H xs=>SqT K H a xs) (fun i o=>o.cls=.type "tuple_iterator" /\ o.data=.fields #[.ref a,.int i 0]) where
 dat:=fun i o h v z=>by rw [h.2] at z; cases z
 item:=by
  intro X hP hw hK pins σ H s xs i x I hq hx ho
  subst hP hw hK
  obtain ⟨its,rv,p,hz⟩:=I.tuple hq
  obtain ⟨u,hu,ru⟩:=rv.get hx
  obtain ⟨o,h1,h2,h3⟩:=ho
  exact ⟨u,ru,fun A' E' Q' hQ=>nextOf_tup_item ⟨o,h1,h2,h3⟩ (isTuple_of p) (by simpa using hu) fun h' st sb=>hQ h' st sb⟩
 done:=by
  intro X hP hw hK pins σ H s xs i I hq hx ho A' E' Q' hh hE
  subst hP hw hK
  obtain ⟨its,rv,p,hz⟩:=I.tuple hq
  obtain ⟨o,h1,h2,h3⟩:=ho
  have hl:=rv.length
  exact nextOf_tup_end hh ⟨o,h1,h2,h3⟩ (isTuple_of p) (by simp; omega) hE
 inj:=by
  intro X hP hw hK pins σ H s xs ys I h1 h2
  subst hP hw hK
  exact I.tuple_inj h1 h2
theorem turn_enum {P:Program}{w:World}{K:PySem.W.Frag}{elts:List Expr}{x1:Nat}{tp:Pos}{a it e:Addr}{src:Hp->List V->Prop}{nx:Nat->Obj->Prop} (S:Src P w K a it src nx) (hne:e ≠ it) :
  Turn P w K (.Tuple elts x1 tp) (Ite src) [e,it] e (fun i h=>(∃ old,IsEnum h e it (i:Nat) old)/\∃ o,h.get? it=some o/\nx i o) where
 mem:=by simp
 obj:=fun i h st b hb=>by
  obtain ⟨⟨old,h1⟩,o,h2,h3⟩:=st
  rcases List.mem_cons.mp hb with q | q
  ·subst q
   exact ⟨_,h1,fun v z=>by cases z⟩
  ·have q:b=it:=by simpa using q
   subst q
   exact ⟨o,h2,S.dat i o h3⟩
 keep:=fun i h h' st k=>by
  obtain ⟨⟨old,h1⟩,o,h2,h3⟩:=st
  exact ⟨⟨old,k e (by simp) _ h1⟩,o,k it (by simp) o h2,h3⟩
 item:=by
  intro X hP hw hK hc i pins s σ H E I hf st hg
  obtain ⟨xs,x,hq,hx⟩:=hg
  obtain ⟨⟨old,h1⟩,ho⟩:=st
  obtain ⟨u,ru,hnx⟩:=S.item X hP hw hK pins σ H s xs i x I hq hx ho
  have inj:=fun ys (hy:src H ys)=>S.inj X hP hw hK pins σ H s ys xs I hy hq
  obtain ⟨f0,f1,f2,f3,f4,f5⟩:=hf e (by simp)
  obtain ⟨g0,g1,g2,g3,g4,g5⟩:=hf it (by simp)
  subst hP hw hK
  have hel:e < s.heap.objs.size:=Heap.lt_size h1
  refine enum_item h1 hne hnx fun h' k1 k2 k3 k4 k5=>⟨_,rfl,wpAny_letOwnedTupleGo_enum k1 fun h'' m1 m2=>?_⟩
  have m2:Heap.SameBut e h' h'' := m2
  have fr:H s.heap.objs.size=none:=I.fresh
  have kp:∀ b o,b ≠ e->b ≠ it->s.heap.get? b=some o->h''.get? b=some o:=fun b o hb hb' q=>(m2.2 b hb).trans (k5 b o hb hb' q)
  have tp:h''.get? s.heap.objs.size=some { cls := .type "tuple",data := .seq #[.int i s.toks,u] }:=(m2.2 _ (Nat.ne_of_gt hel)).trans k3
  have ok1:HOk X.prog X.w H h'' := fun b o hb=>(I.hok b o hb).stay (fun c v hcb q=>kp c v (fun z=>by
    subst z
    rcases hcb with z | z
    ·subst z
     rw [f0] at hb
     cases hb
    ·rw [f0] at z
     cases z) (fun z=>by
    subst z
    rcases hcb with z | z
    ·subst z
     rw [g0] at hb
     cases hb
    ·rw [g0] at z
     cases z) q) (fun _ z=>z) fun _ _ z=>z
  have ok2:HOk X.prog X.w (upd H s.heap.objs.size (.tup [.int i,x])) h'' := hok_add ok1 fr ⟨by show 2 <= sizeLine; decide,[.int i s.toks,u],.cons ⟨_,rfl⟩ (.cons ru .nil),⟨_,tp⟩⟩
  have I2:Inv X pins σ (upd H s.heap.objs.size (.tup [.int i,x])) { s with heap:=h'',toks:=s.toks + 1 }:=by
   refine I.step (g' := s.gens) (d' := s.drawn) (ch := [e,it]) (fun b hb=>?_) (fun b o _ _ hb q _=>kp b o (fun z=>hb (by simp [z])) (fun z=>hb (by simp [z])) q) (fun b o _ _ hb q _=>⟨o.slots,kp b o (fun z=>hb (by simp [z])) (fun z=>hb (by simp [z])) q⟩)
    (fun b o _ q n=>by rw [upd_ne (Nat.ne_of_lt (Heap.lt_size q))]; exact n) (fun b o hb q=>⟨o,kp b o (fun z=>hb (by simp [z])) (fun z=>hb (by simp [z])) q⟩)
    (fun b ys q=>by rw [upd_ne (ne_of_none q fr)]; exact q) (fun b o v q=>by rw [upd_ne (ne_of_none q fr)]; exact q) (fun b ps q=>⟨#[],by rw [upd_ne (ne_of_none q fr),Array.append_empty]; exact q⟩)
    (fun m hm=>hm.at fun o q=>kp _ o (Ne.symm f1) (Ne.symm g1) q) ok2 I.bare
   rcases List.mem_cons.mp hb with z | z
   ·subst z
    exact ⟨f3,f1,f4,f5⟩
   ·have z:b=it:=by simpa using z
    subst z
    exact ⟨g3,g1,g4,g5⟩
  obtain ⟨oi,hoi,ri⟩:=k2
  refine ⟨.ref s.heap.objs.size,_,I2,rfl,⟨_,x,rfl,fr,rfl,fun ys hy=>by rw [inj ys hy]; exact hx⟩,⟨⟨u,?_⟩,oi,(m2.2 it (Ne.symm hne)).trans hoi,ri⟩,fun b hb=>?_⟩
  ·have m1:IsEnum h'' e it ((i:Int) + 1) u:=m1
   have z:(((i + 1:Nat)):Int)=(i:Int) + 1:=by omega
   rw [z]
   exact m1
  ·have lt:b < s.heap.objs.size:=by
    rcases List.mem_cons.mp hb with z | z
    ·rw [z]
     exact hel
    ·have z:b=it:=by simpa using z
     obtain ⟨o,q,_⟩:=ho
     rw [z]
     exact Heap.lt_size q
   rw [upd_ne (Nat.ne_of_lt lt)]
   exact (hf b hb).1
 done:=by
  intro X hP hw hK hc i pins s σ H E I hf st hg
  obtain ⟨xs,hq,hx⟩:=hg
  obtain ⟨⟨old,h1⟩,ho⟩:=st
  have hd:=S.done X hP hw hK pins σ H s xs i I hq hx ho
  obtain ⟨g0,g1,g2,g3,g4,g5⟩:=hf it (by simp)
  subst hP hw hK
  exact enum_end h1 (fun A' E' Q' hA hE=>hd A' E' Q' (hA.trans (I.ok.hd hc)) hE) fun h' eb=>⟨rfl,I.turned (t' := s.toks) (fun b o hb q=>eb b o hb q) g0 g1 g3 g4 g5⟩
 self:=fun _ _ _ _ _ st h=>by
  obtain ⟨⟨old,h1⟩,_⟩:=st
  exact wpAny_pyIter_enum h1 h
section
variable {X:Cx}{elts:List Expr}{x1:Nat}{tp p pos:Pos}{l:Expr}{ta:TA}
end
section
variable {X:Cx}
theorem call_sorted:CallR X (.builtin "sorted") (fun xs H Q=>∃ (a:Addr) (ns:List Int),xs=[.ref a]/\SqL X.K H a (ns.map V.int)/\ns.length < 64/\∀ (p:Addr) (ns':List Int),H p=none->ns'.Perm ns->ns'.Pairwise (· <= ·)->Q (.ref p) (upd H p (.lst (ns'.map V.int)))):=by
 intro pins s σ H xs us Q I r h
 obtain ⟨a,ns,rfl,hq,hl,q⟩:=h
 obtain ⟨u,rfl,ru⟩:=vals1 r
 cases ru
 obtain ⟨its,rv,pl,hz⟩:=I.list hq
 have hi:=intsAre_of rv
 have hlen:=rv.length
 rw [List.length_map] at hlen
 refine sorted_ints pl.isList hi (by omega) fun out ns' a1 a2 a3=>?_
 obtain ⟨e,he⟩:=sortedAll_at s.heap its out
 refine ⟨.ref (s.heap.objs.size + 1),_,I.laid (t' := s.toks) (fun b o z=>sortedAll_old z) (Nat.le_succ _) ?_,rfl,q _ ns' (I.hok.fresh (Nat.le_succ _)) a2 a3⟩
 refine ⟨?_,out.toList,e,vals_ints a1,by rw [Array.toArray_toList]; exact he⟩
 rw [List.length_map,a2.length_eq]
 exact Nat.le_trans (Nat.le_of_lt hl) (by decide)
end
def relabelS (scope sc:Scope):Scope :=
 { scope with names:=scope.names.map fun (n,k)=>if (k == .free && sc.kind == .function && sc.names.lookup n == some .cell) then (n,.cell) else (n,k) }
theorem relabel_eq (scope:Scope) (env:Env):relabel scope env=relabelS scope env.scope:=rfl
def compChk (sc:Scope) (N:List Str) (scope:Scope) (cap:List (Str × Nat)):Bool :=
 decide (scope.kind=.function) && decide ((scope.names.map (·.1)).Nodup) &&
 (scope.names.all fun y=>!(y.2 == .free) || (sc.names.lookup y.1 == some .cell || sc.names.lookup y.1 == some .free)) &&
 (cap.all fun p=>(N[p.2]? == some p.1) && scope.names.contains (p.1,NameKind.free))
theorem compOk_mk {X:Cx}{scope:Scope}{own:List Str}{cap:List (Str × Nat)} (sc:Scope) (hsc:X.env.scope=sc) (N:List Str) (hN:X.N=N) (h:compChk sc N scope cap=true):CompOk X scope own cap:=by
 simp only [compChk,Bool.and_eq_true,decide_eq_true_eq] at h
 obtain ⟨⟨⟨h1,h2⟩,h3⟩,h4⟩:=h
 refine ⟨h1,h2,fun y hy hk=>?_,fun p hp=>?_⟩
 ·have q:=List.all_eq_true.mp h3 y hy
  show X.env.scope.names.lookup y.1=some .cell ∨ X.env.scope.names.lookup y.1=some .free
  rw [hsc]
  rw [hk] at q
  simpa using q
 ·have q:=List.all_eq_true.mp h4 p hp
  rw [Bool.and_eq_true] at q
  rw [hN]
  exact ⟨by simpa using q.1,by simpa using q.2⟩
structure Cal (P:Program) (w:World) (K:PySem.W.Frag) (mg:Str->Option Value) (base:Heap) (k:Nat) (x:Str) (ps:List Str) (sp:Sp):Prop where
 ex:∃ f fd,mg x=some (.ref f)/\PySem.W.keepIn K (.ref f)=true/\Binds K fd ps []/\FnOk P w K mg base CX0 k f fd ps sp
structure Dfn (K:PySem.W.Frag) (mg:Str->Option Value) (x:Str) (st:Stmt) (ps:List Str):Prop where
 ex:∃ f fd,Fun K x x st f fd/\mg x=some (.ref f)/\Binds K fd ps []
section
variable {X:Cx}{k:Nat}{x:Str}{ps:List Str}{sp:Sp}{p pos:Pos}{e:Expr}{es:List Expr}{t:TA}
theorem pe_cal (C:Cal X.prog X.w X.K X.mg X.base k x ps sp) (hr:Room k X.A) (hg:Gl X x) (ha:PA X (e :: es) t) (hdb:(x == ("__debug__" : Str))=false:=by decide)
  (he:starEach (e :: es) X.env=(false,eval e X.env) :: starEach es X.env:=by rfl) (hpl:(backTo pos (starEach es X.env)).any (·.1)=false:=by rfl):PE X (.Call (.Name x p) (e :: es) [] pos) (tCall sp [] E0 t):=by
 obtain ⟨f,fd,hm,hk,hb,F⟩:=C.ex
 exact pe_call F hr hg hm hk hb .nil pass0 ha hdb he hpl
end
section
variable {prog:Program}{w:World}{A:Around}{E:Value->Shared->Prop}{s:Shared}{z TI TO i1 i2 l1 l2:Addr}{k:Nat}{xs ys:Array Value}{a b:Value}{seq1 seq2:Heap->Prop}{nx1 nx2:Nat->Obj->Prop}
end
section
variable {X:Cx}
end
section
variable {X:Cx}
variable {o e:Expr}{es:List Expr}{to:TE}{t:TA}{name:Str}{apos cpos:Pos}{id:String}{r:V->List V->Hp->VK->Prop}
end
end L2
namespace DL
open PySem PySem.Spec PyProof.Rows L2
inductive Tg where | own | bor | frz | len (a:Addr)
 deriving DecidableEq
abbrev KT:=Sum Key (List Key)
inductive D where
 | non | bl (b:Bool) | int (i:Int) | str (x:Str)
 | tup (xs:List D) | lst (t:Tg) (xs:List D) | dct (t:Tg) (k:Bool) (ks:List KT) (vs:List D)
 | exc (C:Addr)
abbrev SD:=List (Option D)
inductive Res (α:Type) where | ok (a:α) | exn (C:Addr) | bad
def Res.bind {α β:Type}:Res α->(α->Res β)->Res β
 | .ok a,f=>f a
 | .exn c,_=>.exn c
 | .bad,_=>.bad
def Res.map {α β:Type} (f:α->β) (r:Res α):Res β:=r.bind fun a=>.ok (f a)
@[simp] theorem Res.bind_ok {α β:Type} (a:α) (f:α->Res β):(Res.ok a).bind f=f a:=rfl
@[simp] theorem Res.bind_exn {α β:Type} (c:Addr) (f:α->Res β):(Res.exn c:Res α).bind f=.exn c:=rfl
@[simp] theorem Res.bind_bad {α β:Type} (f:α->Res β):(Res.bad:Res α).bind f=.bad:=rfl
@[simp] theorem Res.map_ok {α β:Type} (a:α) (f:α->β):Res.map f (Res.ok a)=.ok (f a):=rfl
def Tg.isOwn:Tg->Bool | .own=>true | .len _=>true | _=>false
def Tg.view:Tg->Tg | .own=>.bor | .len _=>.bor | t=>t
def Tg.toBor:Tg->Tg | .frz=>.bor | t=>t
mutual
def D.view:D->D
 | .tup xs=>.tup (viewL xs)
 | .lst t xs=>.lst t.view (viewL xs)
 | .dct t k ks vs=>.dct t.view k ks (viewL vs)
 | d=>d
def viewL:List D->List D
 | []=>[]
 | d :: r=>d.view :: viewL r
end
mutual
def D.frz:D->D
 | .tup xs=>.tup (frzL xs)
 | .lst _ xs=>.lst .frz (frzL xs)
 | .dct _ k ks vs=>.dct .frz k ks (frzL vs)
 | d=>d
def frzL:List D->List D
 | []=>[]
 | d :: r=>d.frz :: frzL r
end
mutual
def D.toBor:D->D
 | .tup xs=>.tup (toBorL xs)
 | .lst t xs=>.lst t.toBor (toBorL xs)
 | .dct t k ks vs=>.dct t.toBor k ks (toBorL vs)
 | d=>d
def toBorL:List D->List D
 | []=>[]
 | d :: r=>d.toBor :: toBorL r
end
mutual
def D.hasBor:D->Bool
 | .tup xs=>hasBorL xs
 | .lst t xs=>decide (t=.bor) || hasBorL xs
 | .dct t _ _ vs=>decide (t=.bor) || hasBorL vs
 | _=>false
def hasBorL:List D->Bool
 | []=>false
 | d :: r=>d.hasBor || hasBorL r
end
mutual
def D.pure:D->Bool
 | .tup xs=>pureL xs
 | .lst _ _=>false
 | .dct _ _ _ _=>false
 | _=>true
def pureL:List D->Bool
 | []=>true
 | d :: r=>d.pure && pureL r
end
mutual
theorem view_pure:∀ d:D,d.pure=true->d.view=d
 | .non,_=>rfl
 | .bl _,_=>rfl
 | .int _,_=>rfl
 | .str _,_=>rfl
 | .exc _,_=>rfl
 | .tup xs,h=>by
  have h:pureL xs=true:=h
  show D.tup (viewL xs)=_
  rw [viewL_pure xs h]
 | .lst _ _,h=>by cases h
 | .dct _ _ _ _,h=>by cases h
theorem viewL_pure:∀ xs:List D,pureL xs=true->viewL xs=xs
 | [],_=>rfl
 | d :: r,h=>by
  have h:(d.pure && pureL r)=true:=h
  rw [Bool.and_eq_true] at h
  show d.view :: viewL r=_
  rw [view_pure d h.1,viewL_pure r h.2]
end
mutual
theorem frz_pure:∀ d:D,d.pure=true->d.frz=d
 | .non,_=>rfl
 | .bl _,_=>rfl
 | .int _,_=>rfl
 | .str _,_=>rfl
 | .exc _,_=>rfl
 | .tup xs,h=>by
  have h:pureL xs=true:=h
  show D.tup (frzL xs)=_
  rw [frzL_pure xs h]
 | .lst _ _,h=>by cases h
 | .dct _ _ _ _,h=>by cases h
theorem frzL_pure:∀ xs:List D,pureL xs=true->frzL xs=xs
 | [],_=>rfl
 | d :: r,h=>by
  have h:(d.pure && pureL r)=true:=h
  rw [Bool.and_eq_true] at h
  show d.frz :: frzL r=_
  rw [frz_pure d h.1,frzL_pure r h.2]
end
mutual
theorem toBor_pure:∀ d:D,d.pure=true->d.toBor=d
 | .non,_=>rfl
 | .bl _,_=>rfl
 | .int _,_=>rfl
 | .str _,_=>rfl
 | .exc _,_=>rfl
 | .tup xs,h=>by
  have h:pureL xs=true:=h
  show D.tup (toBorL xs)=_
  rw [toBorL_pure xs h]
 | .lst _ _,h=>by cases h
 | .dct _ _ _ _,h=>by cases h
theorem toBorL_pure:∀ xs:List D,pureL xs=true->toBorL xs=xs
 | [],_=>rfl
 | d :: r,h=>by
  have h:(d.pure && pureL r)=true:=h
  rw [Bool.and_eq_true] at h
  show d.toBor :: toBorL r=_
  rw [toBor_pure d h.1,toBorL_pure r h.2]
end
mutual
theorem hasBor_pure:∀ d:D,d.pure=true->d.hasBor=false
 | .non,_=>rfl
 | .bl _,_=>rfl
 | .int _,_=>rfl
 | .str _,_=>rfl
 | .exc _,_=>rfl
 | .tup xs,h=>hasBorL_pure xs h
 | .lst _ _,h=>by cases h
 | .dct _ _ _ _,h=>by cases h
theorem hasBorL_pure:∀ xs:List D,pureL xs=true->hasBorL xs=false
 | [],_=>rfl
 | d :: r,h=>by
  have h:(d.pure && pureL r)=true:=h
  rw [Bool.and_eq_true] at h
  show (d.hasBor || hasBorL r)=false
  rw [hasBor_pure d h.1,hasBorL_pure r h.2]
  rfl
end
theorem pureL_of:∀ {xs:List D},(∀ d ∈ xs,d.pure=true)->pureL xs=true
 | [],_=>rfl
 | d :: r,h=>by
  show (d.pure && pureL r)=true
  rw [h d List.mem_cons_self,pureL_of fun x hx=>h x (List.mem_cons_of_mem _ hx)]
  rfl
theorem pureL_mem:∀ {xs:List D},pureL xs=true->∀ d ∈ xs,d.pure=true
 | d :: r,h,x,hx=>by
  have h:(d.pure && pureL r)=true:=h
  rw [Bool.and_eq_true] at h
  rcases List.mem_cons.mp hx with e | e
  ·rw [e]; exact h.1
  ·exact pureL_mem h.2 x e
theorem frzL_eq:∀ xs:List D,frzL xs=xs.map D.frz
 | []=>rfl
 | d :: r=>by rw [frzL,frzL_eq r]; rfl
def DictAt (H:Hp) (a:Addr) (k:Bool) (ks:List KT) (vs:List V):Prop :=
 (k=false/\∃ kvs:List (Key × V),H a=some (.dK kvs)/\ks=kvs.map (fun p=>Sum.inl p.1)/\vs=kvs.map (·.2)) ∨
 (k=true/\∃ kvs:List (List Key × V),H a=some (.dT kvs)/\ks=kvs.map (fun p=>Sum.inr p.1)/\vs=kvs.map (·.2))
def ExcAt (H:Hp) (a C:Addr):Prop := ∃ (t:Addr) (tb:Value) (u:HO),H a=some (.frz { cls := .ref C,data := .fields #[.ref t,tb,.none,.none,.bool false,.none] } u)
mutual
def Rep (K:PySem.W.Frag) (B:Hp) (S:Addr->Prop) (H:Hp):D->V->List Addr->Prop
 | .non,v,fp=>v=.non/\fp=[]
 | .bl b,v,fp=>v=.bl b/\fp=[]
 | .int i,v,fp=>v=.int i/\fp=[]
 | .str x,v,fp=>v=.str x/\fp=[]
 | .exc x,v,fp=>(∃ a,v=.ref a/\ExcAt H a x)/\fp=[]
 | .tup xs,v,fp=>∃ a vs,v=.ref a/\H a=some (.tup vs)/\RepL K B S H xs vs fp
 | .lst .own xs,v,fp=>∃ a vs f,v=.ref a/\H a=some (.lst vs)/\RepL K B S H xs vs f/\fp=a :: f
 | .lst .bor xs,v,fp=>∃ a vs,v=.ref a/\((S a/\SqL K H a vs) ∨ SqL K B a vs)/\RepL K B S H xs vs []/\fp=[]
 | .lst .frz xs,v,fp=>∃ a vs,v=.ref a/\SqL K B a vs/\RepL K B (fun _=>False) H xs vs []/\fp=[]
 | .lst (.len _) _,_,_=>False
 | .dct (.len p) k ks xs,v,fp=>∃ vs f,v=.ref p/\DictAt H p k ks vs/\RepL K B S H xs vs f/\fp=p :: f
 | .dct .own k ks xs,v,fp=>∃ a vs f,v=.ref a/\DictAt H a k ks vs/\RepL K B S H xs vs f/\fp=a :: f
 | .dct .bor k ks xs,v,fp=>∃ a vs,v=.ref a/\((S a/\DictAt H a k ks vs) ∨ DictAt B a k ks vs)/\RepL K B S H xs vs []/\fp=[]
 | .dct .frz k ks xs,v,fp=>∃ a vs,v=.ref a/\DictAt B a k ks vs/\RepL K B (fun _=>False) H xs vs []/\fp=[]
def RepL (K:PySem.W.Frag) (B:Hp) (S:Addr->Prop) (H:Hp):List D->List V->List Addr->Prop
 | [],vs,fp=>vs=[]/\fp=[]
 | d :: ds,vs,fp=>∃ v r f g,vs=v :: r/\Rep K B S H d v f/\RepL K B S H ds r g/\fp=f ++ g
end
theorem rd_mono {K:PySem.W.Frag}{H H':Hp} (s:Same H H') {a:Addr}{xs:List V} (h:SqL K H a xs):SqL K H' a xs:=s.seq h
theorem DictAt.mono {H H':Hp} (s:Same H H') {a:Addr}{k:Bool}{ks:List KT}{vs:List V} (h:DictAt H a k ks vs):DictAt H' a k ks vs:=by
 rcases h with ⟨z,kvs,h,r⟩ | ⟨z,kvs,h,r⟩
 ·exact .inl ⟨z,kvs,s _ _ h,r⟩
 ·exact .inr ⟨z,kvs,s _ _ h,r⟩
theorem ExcAt.mono {H H':Hp} (s:Same H H') {a C:Addr} (h:ExcAt H a C):ExcAt H' a C:=let ⟨t,tb,u,h⟩:=h; ⟨t,tb,u,s _ _ h⟩
section
variable {K:PySem.W.Frag}
mutual
theorem Rep.mono {B B' H H':Hp}{S S':Addr->Prop} (sH:Same H H') (sB:Same B B') (sS:∀ a,S a->S' a):∀ {d:D}{v:V}{fp:List Addr},Rep K B S H d v fp->Rep K B' S' H' d v fp
 | .non,_,_,h=>h
 | .bl _,_,_,h=>h
 | .int _,_,_,h=>h
 | .str _,_,_,h=>h
 | .exc _,_,_,h=>let ⟨⟨a,e,z⟩,r⟩:=h; ⟨⟨a,e,z.mono sH⟩,r⟩
 | .tup xs,v,fp,h=>let ⟨a,vs,e,q,r⟩:=h; ⟨a,vs,e,sH _ _ q,RepL.mono sH sB sS r⟩
 | .lst .own xs,v,fp,h=>let ⟨a,vs,f,e,q,r,z⟩:=h; ⟨a,vs,f,e,sH _ _ q,RepL.mono sH sB sS r,z⟩
 | .lst .bor xs,v,fp,h=>let ⟨a,vs,e,q,r,z⟩:=h; ⟨a,vs,e,q.imp (fun y=>⟨sS _ y.1,rd_mono sH y.2⟩) (fun y=>rd_mono sB y),RepL.mono sH sB sS r,z⟩
 | .lst .frz xs,v,fp,h=>let ⟨a,vs,e,q,r,z⟩:=h; ⟨a,vs,e,rd_mono sB q,RepL.mono sH sB (fun _ x=>x) r,z⟩
 | .lst (.len _) _,_,_,h=>h.elim
 | .dct (.len a) k ks xs,v,fp,h=>let ⟨vs,f,e,q,r,z⟩:=h; ⟨vs,f,e,q.mono sH,RepL.mono sH sB sS r,z⟩
 | .dct .own k ks xs,v,fp,h=>let ⟨a,vs,f,e,q,r,z⟩:=h; ⟨a,vs,f,e,q.mono sH,RepL.mono sH sB sS r,z⟩
 | .dct .bor k ks xs,v,fp,h=>let ⟨a,vs,e,q,r,z⟩:=h; ⟨a,vs,e,q.imp (fun y=>⟨sS _ y.1,y.2.mono sH⟩) (fun y=>y.mono sB),RepL.mono sH sB sS r,z⟩
 | .dct .frz k ks xs,v,fp,h=>let ⟨a,vs,e,q,r,z⟩:=h; ⟨a,vs,e,q.mono sB,RepL.mono sH sB (fun _ x=>x) r,z⟩
theorem RepL.mono {B B' H H':Hp}{S S':Addr->Prop} (sH:Same H H') (sB:Same B B') (sS:∀ a,S a->S' a):∀ {ds:List D}{vs:List V}{fp:List Addr},RepL K B S H ds vs fp->RepL K B' S' H' ds vs fp
 | [],_,_,h=>h
 | d :: ds,vs,fp,h=>let ⟨v,r,f,g,e,h1,h2,z⟩:=h; ⟨v,r,f,g,e,Rep.mono sH sB sS h1,RepL.mono sH sB sS h2,z⟩
end
theorem RepL.length {B H:Hp}{S:Addr->Prop}:∀ {ds:List D}{vs:List V}{fp:List Addr},RepL K B S H ds vs fp->ds.length=vs.length
 | [],_,_,h=>by rw [h.1]; rfl
 | d :: ds,vs,fp,h=>by
  obtain ⟨v,r,f,g,e,h1,h2,z⟩:=h
  rw [e,List.length_cons,List.length_cons,RepL.length h2]
theorem nil_of_append {f g:List Addr} (h:([]:List Addr)=f ++ g):f=[]/\g=[]:=List.append_eq_nil_iff.mp h.symm
theorem RepL.get {B H:Hp}{S:Addr->Prop}:∀ {ds:List D}{vs:List V}{fp:List Addr}{i:Nat}{d:D},RepL K B S H ds vs fp->ds[i]?=some d->∃ v f,vs[i]?=some v/\Rep K B S H d v f/\List.Sublist f fp
 | [],_,_,i,_,_,e=>by simp at e
 | d :: ds,vs,fp,0,d',h,e=>by
  obtain ⟨v,r,f,g,e1,h1,h2,z⟩:=h
  have e:d=d' := by simpa using e
  subst e e1 z
  exact ⟨v,f,rfl,h1,List.sublist_append_left _ _⟩
 | d :: ds,vs,fp,i + 1,d',h,e=>by
  obtain ⟨v,r,f,g,e1,h1,h2,z⟩:=h
  subst e1 z
  obtain ⟨w,f',a1,a2,a3⟩:=RepL.get (i:=i) h2 (by simpa using e)
  exact ⟨w,f',by simpa using a1,a2,a3.trans (List.sublist_append_right _ _)⟩
theorem RepL.append {B H:Hp}{S:Addr->Prop}:∀ {xs ys:List D}{us vs:List V}{f g:List Addr},RepL K B S H xs us f->RepL K B S H ys vs g->RepL K B S H (xs ++ ys) (us ++ vs) (f ++ g)
 | [],ys,us,vs,f,g,h,h'=>by
  obtain ⟨rfl,rfl⟩:=h
  exact h'
 | d :: ds,ys,us,vs,f,g,h,h'=>by
  obtain ⟨v,r,f1,f2,e1,h1,h2,z⟩:=h
  subst e1 z
  exact ⟨v,r ++ vs,f1,f2 ++ g,rfl,h1,RepL.append h2 h',by rw [List.append_assoc]⟩
theorem RepL.one {B H:Hp}{S:Addr->Prop}{d:D}{v:V}{f:List Addr} (h:Rep K B S H d v f):RepL K B S H [d] [v] f:=⟨v,[],f,[],rfl,h,⟨rfl,rfl⟩,(List.append_nil _).symm⟩
theorem pure_fp {B H:Hp}{S:Addr->Prop}:(∀ (d:D) {v:V}{fp:List Addr},d.pure=true->Rep K B S H d v fp->fp=[])/\(∀ (ds:List D) {vs:List V}{fp:List Addr},pureL ds=true->RepL K B S H ds vs fp->fp=[]):=by
 refine ⟨fun d=>?_,fun ds=>?_⟩
 ·exact D.rec (motive_1:=fun d=>∀ {v:V}{fp:List Addr},d.pure=true->Rep K B S H d v fp->fp=[]) (motive_2:=fun ds=>∀ {vs:List V}{fp:List Addr},pureL ds=true->RepL K B S H ds vs fp->fp=[])
   (fun _ h=>h.2) (fun _ _ _ _ h=>h.2) (fun _ _ _ _ h=>h.2) (fun _ _ _ _ h=>h.2) (fun xs ih _ _ p h=>let ⟨_,_,_,_,r⟩:=h; ih p r) (fun _ _ _ _ _ p=>by cases p) (fun _ _ _ _ _ _ _ p=>by cases p) (fun _ _ _ _ h=>h.2) (fun _ h=>h.2)
   (fun d r ih1 ih2 _ _ p h=>by
    have p:(d.pure && pureL r)=true:=p
    rw [Bool.and_eq_true] at p
    obtain ⟨_,_,_,_,_,h1,h2,z⟩:=h
    rw [z,ih1 p.1 h1,ih2 p.2 h2]; rfl) d
 ·exact D.rec_1 (motive_1:=fun d=>∀ {v:V}{fp:List Addr},d.pure=true->Rep K B S H d v fp->fp=[]) (motive_2:=fun ds=>∀ {vs:List V}{fp:List Addr},pureL ds=true->RepL K B S H ds vs fp->fp=[])
   (fun _ h=>h.2) (fun _ _ _ _ h=>h.2) (fun _ _ _ _ h=>h.2) (fun _ _ _ _ h=>h.2) (fun xs ih _ _ p h=>let ⟨_,_,_,_,r⟩:=h; ih p r) (fun _ _ _ _ _ p=>by cases p) (fun _ _ _ _ _ _ _ p=>by cases p) (fun _ _ _ _ h=>h.2) (fun _ h=>h.2)
   (fun d r ih1 ih2 _ _ p h=>by
    have p:(d.pure && pureL r)=true:=p
    rw [Bool.and_eq_true] at p
    obtain ⟨_,_,_,_,_,h1,h2,z⟩:=h
    rw [z,ih1 p.1 h1,ih2 p.2 h2]; rfl) ds
end
abbrev No:Addr->Prop:=fun _=>False
section
variable {K:PySem.W.Frag}
mutual
theorem Rep.view {B H:Hp}{S:Addr->Prop}:∀ {d:D}{v:V}{fp:List Addr},Rep K B No H d v fp->(∀ a ∈ fp,S a)->Rep K B S H d.view v []
 | .non,_,_,h,_=>⟨h.1,rfl⟩
 | .bl _,_,_,h,_=>⟨h.1,rfl⟩
 | .int _,_,_,h,_=>⟨h.1,rfl⟩
 | .str _,_,_,h,_=>⟨h.1,rfl⟩
 | .exc _,_,_,h,_=>⟨h.1,rfl⟩
 | .tup xs,v,fp,h,hs=>let ⟨a,vs,e,q,r⟩:=h; ⟨a,vs,e,q,RepL.view r hs⟩
 | .lst .own xs,v,fp,h,hs=>by
  obtain ⟨a,vs,f,e,q,r,z⟩:=h
  subst z
  exact ⟨a,vs,e,.inl ⟨hs a List.mem_cons_self,SqL.of q⟩,RepL.view r fun b hb=>hs b (List.mem_cons_of_mem _ hb),rfl⟩
 | .lst .bor xs,v,fp,h,hs=>let ⟨a,vs,e,q,r,z⟩:=h; ⟨a,vs,e,.inr (q.resolve_left fun y=>y.1),RepL.view r (fun _ x=>by cases x),rfl⟩
 | .lst .frz xs,v,fp,h,hs=>let ⟨a,vs,e,q,r,z⟩:=h; ⟨a,vs,e,q,RepL.view (S:=No) r (fun _ x=>by cases x),rfl⟩
 | .lst (.len _) _,_,_,h,_=>h.elim
 | .dct (.len a) kd ks xs,v,fp,h,hs=>by
  obtain ⟨vs,f,e,q,r,z⟩:=h
  subst z
  exact ⟨a,vs,e,.inl ⟨hs a List.mem_cons_self,q⟩,RepL.view r fun b hb=>hs b (List.mem_cons_of_mem _ hb),rfl⟩
 | .dct .own kd ks xs,v,fp,h,hs=>by
  obtain ⟨a,vs,f,e,q,r,z⟩:=h
  subst z
  exact ⟨a,vs,e,.inl ⟨hs a List.mem_cons_self,q⟩,RepL.view r fun b hb=>hs b (List.mem_cons_of_mem _ hb),rfl⟩
 | .dct .bor kd ks xs,v,fp,h,hs=>let ⟨a,vs,e,q,r,z⟩:=h; ⟨a,vs,e,.inr (q.resolve_left fun y=>y.1),RepL.view r (fun _ x=>by cases x),rfl⟩
 | .dct .frz kd ks xs,v,fp,h,hs=>let ⟨a,vs,e,q,r,z⟩:=h; ⟨a,vs,e,q,RepL.view (S:=No) r (fun _ x=>by cases x),rfl⟩
theorem RepL.view {B H:Hp}{S:Addr->Prop}:∀ {ds:List D}{vs:List V}{fp:List Addr},RepL K B No H ds vs fp->(∀ a ∈ fp,S a)->RepL K B S H (viewL ds) vs []
 | [],_,_,h,_=>⟨h.1,rfl⟩
 | d :: ds,vs,fp,h,hs=>by
  obtain ⟨v,r,f,g,e,h1,h2,z⟩:=h
  subst z
  exact ⟨v,r,[],[],e,Rep.view h1 (fun b hb=>hs b (List.mem_append_left _ hb)),RepL.view h2 (fun b hb=>hs b (List.mem_append_right _ hb)),rfl⟩
end
theorem sqL_to {B B' H:Hp}{S:Addr->Prop}{a:Addr}{vs:List V} (sB:Same B B') (hs:∀ a o,S a->H a=some o->B' a=some o) (q:(S a/\SqL K H a vs) ∨ SqL K B a vs):SqL K B' a vs:=by
 rcases q with ⟨s,(q | ⟨o,q⟩) | q⟩ | q
 ·exact .inl (.inl (hs _ _ s q))
 ·exact .inl (.inr ⟨o,hs _ _ s q⟩)
 ·exact .inr q
 ·exact sB.seq q
theorem dictAt_to {B B' H:Hp}{S:Addr->Prop}{a:Addr}{kd:Bool}{ks:List KT}{vs:List V} (sB:Same B B') (hs:∀ a o,S a->H a=some o->B' a=some o) (q:(S a/\DictAt H a kd ks vs) ∨ DictAt B a kd ks vs):DictAt B' a kd ks vs:=by
 rcases q with ⟨s,⟨z,kvs,q,r⟩ | ⟨z,kvs,q,r⟩⟩ | q
 ·exact .inl ⟨z,kvs,hs _ _ s q,r⟩
 ·exact .inr ⟨z,kvs,hs _ _ s q,r⟩
 ·exact q.mono sB
mutual
theorem Rep.frz {B B' H:Hp}{S:Addr->Prop} (sB:Same B B') (hs:∀ a o,S a->H a=some o->B' a=some o):∀ {d:D}{v:V}{fp:List Addr},Rep K B S H d v fp->(∀ a ∈ fp,∀ o,H a=some o->B' a=some o)->Rep K B' No H d.frz v []
 | .non,_,_,h,_=>⟨h.1,rfl⟩
 | .bl _,_,_,h,_=>⟨h.1,rfl⟩
 | .int _,_,_,h,_=>⟨h.1,rfl⟩
 | .str _,_,_,h,_=>⟨h.1,rfl⟩
 | .exc _,_,_,h,_=>⟨h.1,rfl⟩
 | .tup xs,v,fp,h,hf=>let ⟨a,vs,e,q,r⟩:=h; ⟨a,vs,e,q,RepL.frz sB hs r hf⟩
 | .lst .own xs,v,fp,h,hf=>by
  obtain ⟨a,vs,f,e,q,r,z⟩:=h
  subst z
  exact ⟨a,vs,e,SqL.of (hf a List.mem_cons_self _ q),RepL.frz sB hs r fun b hb=>hf b (List.mem_cons_of_mem _ hb),rfl⟩
 | .lst .bor xs,v,fp,h,hf=>let ⟨a,vs,e,q,r,z⟩:=h; ⟨a,vs,e,sqL_to sB hs q,RepL.frz sB hs r (fun _ x=>by cases x),rfl⟩
 | .lst .frz xs,v,fp,h,hf=>let ⟨a,vs,e,q,r,z⟩:=h; ⟨a,vs,e,rd_mono sB q,RepL.frz sB (fun _ _ x=>x.elim) r (fun _ x=>by cases x),rfl⟩
 | .lst (.len _) _,_,_,h,_=>h.elim
 | .dct (.len a) kd ks xs,v,fp,h,hf=>by
  obtain ⟨vs,f,e,q,r,z⟩:=h
  subst z
  refine ⟨a,vs,e,?_,RepL.frz sB hs r fun b hb=>hf b (List.mem_cons_of_mem _ hb),rfl⟩
  exact dictAt_to (S:=fun b=>b=a) sB (fun b o eb=>by rw [eb]; exact hf a List.mem_cons_self o) (.inl ⟨rfl,q⟩)
 | .dct .own kd ks xs,v,fp,h,hf=>by
  obtain ⟨a,vs,f,e,q,r,z⟩:=h
  subst z
  refine ⟨a,vs,e,?_,RepL.frz sB hs r fun b hb=>hf b (List.mem_cons_of_mem _ hb),rfl⟩
  exact dictAt_to (S:=fun b=>b=a) sB (fun b o eb=>by rw [eb]; exact hf a List.mem_cons_self o) (.inl ⟨rfl,q⟩)
 | .dct .bor kd ks xs,v,fp,h,hf=>let ⟨a,vs,e,q,r,z⟩:=h; ⟨a,vs,e,dictAt_to sB hs q,RepL.frz sB hs r (fun _ x=>by cases x),rfl⟩
 | .dct .frz kd ks xs,v,fp,h,hf=>let ⟨a,vs,e,q,r,z⟩:=h; ⟨a,vs,e,q.mono sB,RepL.frz sB (fun _ _ x=>x.elim) r (fun _ x=>by cases x),rfl⟩
theorem RepL.frz {B B' H:Hp}{S:Addr->Prop} (sB:Same B B') (hs:∀ a o,S a->H a=some o->B' a=some o):∀ {ds:List D}{vs:List V}{fp:List Addr},RepL K B S H ds vs fp->(∀ a ∈ fp,∀ o,H a=some o->B' a=some o)->RepL K B' No H (frzL ds) vs []
 | [],_,_,h,_=>⟨h.1,rfl⟩
 | d :: ds,vs,fp,h,hf=>by
  obtain ⟨v,r,f,g,e,h1,h2,z⟩:=h
  subst z
  exact ⟨v,r,[],[],e,Rep.frz sB hs h1 (fun b hb=>hf b (List.mem_append_left _ hb)),RepL.frz sB hs h2 (fun b hb=>hf b (List.mem_append_right _ hb)),rfl⟩
end
theorem sqL_back {B B' H:Hp}{S:Addr->Prop}{a:Addr}{vs:List V} (sH:Same B H) (hb:∀ a o,B a=some o->B' a=some o ∨ S a) (q:SqL K B a vs):(S a/\SqL K H a vs) ∨ SqL K B' a vs:=by
 rcases q with (q | ⟨o,q⟩) | q
 ·exact (hb _ _ q).symm.imp (fun s=>⟨s,SqL.of (sH _ _ q)⟩) fun z=>.inl (.inl z)
 ·exact (hb _ _ q).symm.imp (fun s=>⟨s,.inl (.inr ⟨o,sH _ _ q⟩)⟩) fun z=>.inl (.inr ⟨o,z⟩)
 ·exact .inr (.inr q)
theorem dictAt_back {B B' H:Hp}{S:Addr->Prop}{a:Addr}{kd:Bool}{ks:List KT}{vs:List V} (sH:Same B H) (hb:∀ a o,B a=some o->B' a=some o ∨ S a) (q:DictAt B a kd ks vs):(S a/\DictAt H a kd ks vs) ∨ DictAt B' a kd ks vs:=by
 rcases q with ⟨y,kvs,q,r⟩ | ⟨y,kvs,q,r⟩
 ·exact (hb _ _ q).symm.imp (fun s=>⟨s,.inl ⟨y,kvs,sH _ _ q,r⟩⟩) fun z=>.inl ⟨y,kvs,z,r⟩
 ·exact (hb _ _ q).symm.imp (fun s=>⟨s,.inr ⟨y,kvs,sH _ _ q,r⟩⟩) fun z=>.inr ⟨y,kvs,z,r⟩
mutual
theorem Rep.toBor {B B' H:Hp}{S:Addr->Prop} (sH:Same B H) (hb:∀ a o,B a=some o->B' a=some o ∨ S a):∀ {d:D}{v:V}{fp:List Addr},Rep K B No H d v fp->Rep K B' S H d.toBor v fp
 | .non,_,_,h=>h
 | .bl _,_,_,h=>h
 | .int _,_,_,h=>h
 | .str _,_,_,h=>h
 | .exc _,_,_,h=>h
 | .tup xs,v,fp,h=>let ⟨a,vs,e,q,r⟩:=h; ⟨a,vs,e,q,RepL.toBor sH hb r⟩
 | .lst .own xs,v,fp,h=>let ⟨a,vs,f,e,q,r,z⟩:=h; ⟨a,vs,f,e,q,RepL.toBor sH hb r,z⟩
 | .lst .bor xs,v,fp,h=>let ⟨a,vs,e,q,r,z⟩:=h; ⟨a,vs,e,sqL_back sH hb (q.resolve_left fun y=>y.1),RepL.toBor sH hb r,z⟩
 | .lst .frz xs,v,fp,h=>let ⟨a,vs,e,q,r,z⟩:=h; ⟨a,vs,e,sqL_back sH hb q,RepL.toBor sH hb r,z⟩
 | .lst (.len _) _,_,_,h=>h.elim
 | .dct (.len a) kd ks xs,v,fp,h=>let ⟨vs,f,e,q,r,z⟩:=h; ⟨vs,f,e,q,RepL.toBor sH hb r,z⟩
 | .dct .own kd ks xs,v,fp,h=>let ⟨a,vs,f,e,q,r,z⟩:=h; ⟨a,vs,f,e,q,RepL.toBor sH hb r,z⟩
 | .dct .bor kd ks xs,v,fp,h=>let ⟨a,vs,e,q,r,z⟩:=h; ⟨a,vs,e,dictAt_back sH hb (q.resolve_left fun y=>y.1),RepL.toBor sH hb r,z⟩
 | .dct .frz kd ks xs,v,fp,h=>let ⟨a,vs,e,q,r,z⟩:=h; ⟨a,vs,e,dictAt_back sH hb q,RepL.toBor sH hb r,z⟩
theorem RepL.toBor {B B' H:Hp}{S:Addr->Prop} (sH:Same B H) (hb:∀ a o,B a=some o->B' a=some o ∨ S a):∀ {ds:List D}{vs:List V}{fp:List Addr},RepL K B No H ds vs fp->RepL K B' S H (toBorL ds) vs fp
 | [],_,_,h=>h
 | d :: ds,vs,fp,h=>let ⟨v,r,f,g,e,h1,h2,z⟩:=h; ⟨v,r,f,g,e,Rep.toBor sH hb h1,RepL.toBor sH hb h2,z⟩
end
mutual
theorem Rep.noBor {B H:Hp}{S:Addr->Prop}:∀ {d:D}{v:V}{fp:List Addr},d.hasBor=false->Rep K B S H d v fp->Rep K B No H d v fp
 | .non,_,_,_,h=>h
 | .bl _,_,_,_,h=>h
 | .int _,_,_,_,h=>h
 | .str _,_,_,_,h=>h
 | .exc _,_,_,_,h=>h
 | .tup xs,v,fp,p,h=>let ⟨a,vs,e,q,r⟩:=h; ⟨a,vs,e,q,RepL.noBor (ds:=xs) p r⟩
 | .lst .own xs,v,fp,p,h=>let ⟨a,vs,f,e,q,r,z⟩:=h; ⟨a,vs,f,e,q,RepL.noBor (ds:=xs) (by simpa [D.hasBor] using p) r,z⟩
 | .lst .bor xs,v,fp,p,h=>by simp [D.hasBor] at p
 | .lst .frz xs,v,fp,p,h=>h
 | .lst (.len _) _,_,_,_,h=>h.elim
 | .dct (.len a) kd ks xs,v,fp,p,h=>let ⟨vs,f,e,q,r,z⟩:=h; ⟨vs,f,e,q,RepL.noBor (ds:=xs) (by simpa [D.hasBor] using p) r,z⟩
 | .dct .own kd ks xs,v,fp,p,h=>let ⟨a,vs,f,e,q,r,z⟩:=h; ⟨a,vs,f,e,q,RepL.noBor (ds:=xs) (by simpa [D.hasBor] using p) r,z⟩
 | .dct .bor kd ks xs,v,fp,p,h=>by simp [D.hasBor] at p
 | .dct .frz kd ks xs,v,fp,p,h=>h
theorem RepL.noBor {B H:Hp}{S:Addr->Prop}:∀ {ds:List D}{vs:List V}{fp:List Addr},hasBorL ds=false->RepL K B S H ds vs fp->RepL K B No H ds vs fp
 | [],_,_,_,h=>h
 | d :: ds,vs,fp,p,h=>by
  obtain ⟨v,r,f,g,e,h1,h2,z⟩:=h
  have p:(d.hasBor || hasBorL ds)=false:=p
  rw [Bool.or_eq_false_iff] at p
  exact ⟨v,r,f,g,e,Rep.noBor p.1 h1,RepL.noBor p.2 h2,z⟩
end
def mutO:HO->Prop
 | .lst _=>True
 | .dK _=>True
 | .dT _=>True
 | _=>False
structure Keep (H H':Hp) (M:List Addr):Prop where
 keep:∀ a o,H a=some o->a ∉ M->H' a=some o
 muts:∀ a ∈ M,∃ o,H a=some o/\mutO o
theorem Keep.imm {H H':Hp}{M:List Addr} (k:Keep H H' M) {a:Addr}{o:HO} (h:H a=some o) (n:¬ mutO o):H' a=some o:=k.keep a o h fun m=>by
 obtain ⟨u,e,z⟩:=k.muts a m
 rw [h] at e
 cases e
 exact n z
mutual
theorem Rep.keep {B H H':Hp}{M:List Addr} (k:Keep H H' M):∀ {d:D}{v:V}{fp:List Addr},Rep K B No H d v fp->(∀ a ∈ fp,a ∉ M)->Rep K B No H' d v fp
 | .non,_,_,h,_=>h
 | .bl _,_,_,h,_=>h
 | .int _,_,_,h,_=>h
 | .str _,_,_,h,_=>h
 | .exc _,_,_,h,_=>let ⟨⟨a,e,t,tb,u,h1⟩,r⟩:=h; ⟨⟨a,e,t,tb,u,k.imm h1 (fun x=>x)⟩,r⟩
 | .tup xs,v,fp,h,hf=>by
  obtain ⟨a,vs,e,q,r⟩:=h
  exact ⟨a,vs,e,k.imm q (fun x=>x),RepL.keep k r hf⟩
 | .lst .own xs,v,fp,h,hf=>by
  obtain ⟨a,vs,f,e,q,r,z⟩:=h
  subst z
  exact ⟨a,vs,f,e,k.keep _ _ q (hf a List.mem_cons_self),RepL.keep k r fun b hb=>hf b (List.mem_cons_of_mem _ hb),rfl⟩
 | .lst .bor xs,v,fp,h,hf=>let ⟨a,vs,e,q,r,z⟩:=h; ⟨a,vs,e,.inr (q.resolve_left fun y=>y.1),RepL.keep k r (fun _ x=>by cases x),z⟩
 | .lst .frz xs,v,fp,h,hf=>let ⟨a,vs,e,q,r,z⟩:=h; ⟨a,vs,e,q,RepL.keep k r (fun _ x=>by cases x),z⟩
 | .lst (.len _) _,_,_,h,_=>h.elim
 | .dct (.len a) kd ks xs,v,fp,h,hf=>by
  obtain ⟨vs,f,e,q,r,z⟩:=h
  subst z
  have hm:=hf a List.mem_cons_self
  refine ⟨vs,f,e,?_,RepL.keep k r fun b hb=>hf b (List.mem_cons_of_mem _ hb),rfl⟩
  rcases q with ⟨y,kvs,q,w⟩ | ⟨y,kvs,q,w⟩
  ·exact .inl ⟨y,kvs,k.keep _ _ q hm,w⟩
  ·exact .inr ⟨y,kvs,k.keep _ _ q hm,w⟩
 | .dct .own kd ks xs,v,fp,h,hf=>by
  obtain ⟨a,vs,f,e,q,r,z⟩:=h
  subst z
  have hm:=hf a List.mem_cons_self
  refine ⟨a,vs,f,e,?_,RepL.keep k r fun b hb=>hf b (List.mem_cons_of_mem _ hb),rfl⟩
  rcases q with ⟨y,kvs,q,w⟩ | ⟨y,kvs,q,w⟩
  ·exact .inl ⟨y,kvs,k.keep _ _ q hm,w⟩
  ·exact .inr ⟨y,kvs,k.keep _ _ q hm,w⟩
 | .dct .bor kd ks xs,v,fp,h,hf=>let ⟨a,vs,e,q,r,z⟩:=h; ⟨a,vs,e,.inr (q.resolve_left fun y=>y.1),RepL.keep k r (fun _ x=>by cases x),z⟩
 | .dct .frz kd ks xs,v,fp,h,hf=>let ⟨a,vs,e,q,r,z⟩:=h; ⟨a,vs,e,q,RepL.keep k r (fun _ x=>by cases x),z⟩
theorem RepL.keep {B H H':Hp}{M:List Addr} (k:Keep H H' M):∀ {ds:List D}{vs:List V}{fp:List Addr},RepL K B No H ds vs fp->(∀ a ∈ fp,a ∉ M)->RepL K B No H' ds vs fp
 | [],_,_,h,_=>h
 | d :: ds,vs,fp,h,hf=>by
  obtain ⟨v,r,f,g,e,h1,h2,z⟩:=h
  subst z
  exact ⟨v,r,f,g,e,Rep.keep k h1 (fun b hb=>hf b (List.mem_append_left _ hb)),RepL.keep k h2 (fun b hb=>hf b (List.mem_append_right _ hb)),rfl⟩
end
mutual
theorem Rep.own {B H:Hp}{S:Addr->Prop}:∀ {d:D}{v:V}{fp:List Addr},Rep K B S H d v fp->∀ a ∈ fp,∃ o,H a=some o/\mutO o
 | .non,_,_,h=>by rw [h.2]; intro a m; cases m
 | .bl _,_,_,h=>by rw [h.2]; intro a m; cases m
 | .int _,_,_,h=>by rw [h.2]; intro a m; cases m
 | .str _,_,_,h=>by rw [h.2]; intro a m; cases m
 | .exc _,_,_,h=>by rw [h.2]; intro a m; cases m
 | .tup xs,v,fp,h=>let ⟨a,vs,e,q,r⟩:=h; RepL.own r
 | .lst .own xs,v,fp,h=>by
  obtain ⟨a,vs,f,e,q,r,z⟩:=h
  subst z
  intro b hb
  rcases List.mem_cons.mp hb with e | e
  ·subst e; exact ⟨_,q,trivial⟩
  ·exact RepL.own r b e
 | .lst .bor xs,v,fp,h=>by obtain ⟨a,vs,e,q,r,z⟩:=h; rw [z]; intro a m; cases m
 | .lst .frz xs,v,fp,h=>by obtain ⟨a,vs,e,q,r,z⟩:=h; rw [z]; intro a m; cases m
 | .lst (.len _) _,_,_,h=>h.elim
 | .dct (.len a) kd ks xs,v,fp,h=>by
  obtain ⟨vs,f,e,q,r,z⟩:=h
  subst z
  intro b hb
  rcases List.mem_cons.mp hb with e | e
  ·subst e
   rcases q with ⟨y,kvs,q,w⟩ | ⟨y,kvs,q,w⟩
   ·exact ⟨_,q,trivial⟩
   ·exact ⟨_,q,trivial⟩
  ·exact RepL.own r b e
 | .dct .own kd ks xs,v,fp,h=>by
  obtain ⟨a,vs,f,e,q,r,z⟩:=h
  subst z
  intro b hb
  rcases List.mem_cons.mp hb with e | e
  ·subst e
   rcases q with ⟨y,kvs,q,w⟩ | ⟨y,kvs,q,w⟩
   ·exact ⟨_,q,trivial⟩
   ·exact ⟨_,q,trivial⟩
  ·exact RepL.own r b e
 | .dct .bor kd ks xs,v,fp,h=>by obtain ⟨a,vs,e,q,r,z⟩:=h; rw [z]; intro a m; cases m
 | .dct .frz kd ks xs,v,fp,h=>by obtain ⟨a,vs,e,q,r,z⟩:=h; rw [z]; intro a m; cases m
theorem RepL.own {B H:Hp}{S:Addr->Prop}:∀ {ds:List D}{vs:List V}{fp:List Addr},RepL K B S H ds vs fp->∀ a ∈ fp,∃ o,H a=some o/\mutO o
 | [],_,_,h=>by rw [h.2]; intro a m; cases m
 | d :: ds,vs,fp,h=>by
  obtain ⟨v,r,f,g,e,h1,h2,z⟩:=h
  subst z
  intro b hb
  rcases List.mem_append.mp hb with e | e
  ·exact Rep.own h1 b e
  ·exact RepL.own h2 b e
end
def RepS (K:PySem.W.Frag) (B H:Hp):SD->L2.St->List Addr->Prop
 | [],σ,P=>σ=[]/\P=[]
 | none :: r,σ,P=>∃ o τ,σ=o :: τ/\RepS K B H r τ P
 | some d :: r,σ,P=>∃ v τ f g,σ=some v :: τ/\Rep K B No H d v f/\RepS K B H r τ g/\P=f ++ g
structure SI (K:PySem.W.Frag) (H0 B0 B H:Hp) (σ:L2.St) (τ:SD) (P:List Addr) (F:Addr->Prop):Prop where
 bh:Same B H
 h0:Same H0 H
 b0:Same B0 B
 nb:∀ a,B a ≠ none->B0 a ≠ none ∨ H0 a=none
 rep:RepS K B H τ σ P
 nd:P.Nodup
 own:∀ a ∈ P,B a=none/\H0 a=none/\¬ F a
 fr:∀ a,F a->B a=none/\H a ≠ none
structure Vok (H0 B H:Hp) (P:List Addr) (F:Addr->Prop) (fp:List Addr):Prop where
 nd:fp.Nodup
 own:∀ a ∈ fp,B a=none/\H0 a=none/\H a ≠ none/\a ∉ P/\¬ F a
theorem Vok.nil {H0 B H:Hp}{P:List Addr}{F:Addr->Prop}:Vok H0 B H P F []:=⟨List.nodup_nil,fun a m=>by cases m⟩
theorem Vok.sub {H0 B H:Hp}{P:List Addr}{F:Addr->Prop}{fp fq:List Addr} (h:Vok H0 B H P F fp) (s:List.Sublist fq fp):Vok H0 B H P F fq:=⟨h.nd.sublist s,fun a m=>h.own a (s.subset m)⟩
theorem RepS.own {B H:Hp}:∀ {τ:SD}{σ:L2.St}{P:List Addr},RepS K B H τ σ P->∀ a ∈ P,∃ o,H a=some o/\mutO o
 | [],_,_,h=>by rw [h.2]; intro a m; cases m
 | none :: r,σ,P,h=>by obtain ⟨o,τ,e,h⟩:=h; exact RepS.own h
 | some d :: r,σ,P,h=>by
  obtain ⟨v,τ,f,g,e,h1,h2,z⟩:=h
  subst z
  intro b hb
  rcases List.mem_append.mp hb with e | e
  ·exact Rep.own h1 b e
  ·exact RepS.own h2 b e
theorem RepS.mono {B B' H H':Hp} (sH:Same H H') (sB:Same B B'):∀ {τ:SD}{σ:L2.St}{P:List Addr},RepS K B H τ σ P->RepS K B' H' τ σ P
 | [],_,_,h=>h
 | none :: r,σ,P,h=>let ⟨o,τ,e,h⟩:=h; ⟨o,τ,e,RepS.mono sH sB h⟩
 | some d :: r,σ,P,h=>let ⟨v,τ,f,g,e,h1,h2,z⟩:=h; ⟨v,τ,f,g,e,Rep.mono sH sB (fun _ x=>x) h1,RepS.mono sH sB h2,z⟩
theorem RepS.get {B H:Hp}:∀ {τ:SD}{σ:L2.St}{P:List Addr}{i:Nat}{d:D},RepS K B H τ σ P->τ[i]?=some (some d)->∃ v f,σ[i]?=some (some v)/\Rep K B No H d v f/\List.Sublist f P
 | [],_,_,i,_,_,e=>by simp at e
 | none :: r,σ,P,0,d,h,e=>by simp at e
 | none :: r,σ,P,i + 1,d,h,e=>by
  obtain ⟨o,τ,e1,h⟩:=h
  subst e1
  obtain ⟨v,f,a1,a2,a3⟩:=RepS.get (i:=i) h (by simpa using e)
  exact ⟨v,f,by simpa using a1,a2,a3⟩
 | some d :: r,σ,P,0,d',h,e=>by
  obtain ⟨v,τ,f,g,e1,h1,h2,z⟩:=h
  have e:d=d' := by simpa using e
  subst e e1 z
  exact ⟨v,f,rfl,h1,List.sublist_append_left _ _⟩
 | some d :: r,σ,P,i + 1,d',h,e=>by
  obtain ⟨v,τ,f,g,e1,h1,h2,z⟩:=h
  subst e1 z
  obtain ⟨w,f',a1,a2,a3⟩:=RepS.get (i:=i) h2 (by simpa using e)
  exact ⟨w,f',by simpa using a1,a2,a3.trans (List.sublist_append_right _ _)⟩
variable {H0 B0 B H:Hp}{σ:L2.St}{τ:SD}{P:List Addr}{F:Addr->Prop}
theorem SI.stands (I:SI K H0 B0 B H σ τ P F) {a:Addr} (h:a ∈ P):H a ≠ none:=by
 obtain ⟨o,e,_⟩:=I.rep.own a h
 rw [e]; exact fun z=>by cases z
theorem SI.anti {F':Addr->Prop} (I:SI K H0 B0 B H σ τ P F) (h:∀ a,F' a->F a):SI K H0 B0 B H σ τ P F' :=
 ⟨I.bh,I.h0,I.b0,I.nb,I.rep,I.nd,fun a m=>let ⟨x,y,z⟩:=I.own a m; ⟨x,y,fun q=>z (h a q)⟩,fun a m=>I.fr a (h a m)⟩
theorem SI.hold {fp:List Addr} (I:SI K H0 B0 B H σ τ P F) (v:Vok H0 B H P F fp):SI K H0 B0 B H σ τ P (fun a=>a ∈ fp ∨ F a) :=
 ⟨I.bh,I.h0,I.b0,I.nb,I.rep,I.nd,fun a m=>let ⟨x,y,z⟩:=I.own a m; ⟨x,y,fun q=>q.elim (fun r=>(v.own a r).2.2.2.1 m) z⟩,fun a m=>m.elim (fun r=>⟨(v.own a r).1,(v.own a r).2.2.1⟩) (I.fr a)⟩
theorem SI.grow {H':Hp} (I:SI K H0 B0 B H σ τ P F) (s:Same H H'):SI K H0 B0 B H' σ τ P F :=
 ⟨I.bh.trans s,I.h0.trans s,I.b0,I.nb,I.rep.mono s (fun _ _ x=>x),I.nd,I.own,fun a m=>⟨(I.fr a m).1,fun z=>(I.fr a m).2 (s.free z)⟩⟩
theorem Vok.grow {H' B':Hp}{fp:List Addr} (v:Vok H0 B H P F fp) (s:Same H H') (hb:∀ a ∈ fp,B' a=none):Vok H0 B' H' P F fp :=
 ⟨v.nd,fun a m=>let ⟨x,y,z,p,q⟩:=v.own a m; ⟨hb a m,y,fun n=>z (s.free n),p,q⟩⟩
theorem SI.newAt (I:SI K H0 B0 B H σ τ P F) {p:Addr} (h:H p=none):B p=none/\H0 p=none/\p ∉ P/\¬ F p :=
 ⟨I.bh.free h,I.h0.free h,fun m=>I.stands m h,fun m=>(I.fr p m).2 h⟩
end
theorem ex8 {α β γ δ ε ζ:Sort _}{p q:α->β->γ->δ->ε->ζ->Prop}{C:Prop} (h:∃ a b c d e f,p a b c d e f/\q a b c d e f) (k:∀ a b c d e f,p a b c d e f->q a b c d e f->C):C:=h.elim fun a h=>h.elim fun b h=>h.elim fun c h=>h.elim fun d h=>h.elim fun e h=>h.elim fun f h=>k a b c d e f h.1 h.2
theorem ex7 {α β γ δ ε:Sort _}{p q:α->β->γ->δ->ε->Prop}{C:Prop} (h:∃ a b c d e,p a b c d e/\q a b c d e) (k:∀ a b c d e,p a b c d e->q a b c d e->C):C:=h.elim fun a h=>h.elim fun b h=>h.elim fun c h=>h.elim fun d h=>h.elim fun e h=>k a b c d e h.1 h.2
theorem ex12 {α β γ δ ε ζ η θ:Sort _}{p q r s:α->β->γ->δ->ε->ζ->η->θ->Prop}{C:Prop} (h:∃ a b c d e f g i,p a b c d e f g i/\q a b c d e f g i/\r a b c d e f g i/\s a b c d e f g i) (k:∀ a b c d e f g i,p a b c d e f g i->q a b c d e f g i->r a b c d e f g i->s a b c d e f g i->C):C:=h.elim fun a h=>h.elim fun b h=>h.elim fun c h=>h.elim fun d h=>h.elim fun e h=>h.elim fun f h=>h.elim fun g h=>h.elim fun i h=>k a b c d e f g i h.1 h.2.1 h.2.2.1 h.2.2.2
structure XY where
 ex:Addr->L2.St->Hp->Prop
 ln:Bool
instance:CoeFun XY fun _=>Addr->L2.St->Hp->Prop:=⟨XY.ex⟩
abbrev NoY:XY:=⟨fun _ _ _=>False,false⟩
abbrev LnY:XY:=⟨fun _ _ _=>False,true⟩
section
variable (K:PySem.W.Frag) (Y:XY) (H0 B0 B H:Hp) (σ:L2.St) (τ:SD) (P:List Addr) (F:Addr->Prop)
def Out (Q:VK) (d:D):Prop := ∀ v H' B' fp,SI K H0 B0 B' H' σ τ P F->Same H H'->Same B B'->Rep K B' (· ∈ P) H' d v fp->Vok H0 B' H' P F fp->Q v H'
def OutX (C:Addr):Prop := ∀ H' B',SI K H0 B0 B' H' σ τ P F->Same H H'->Same B B'->Y C σ H'
def OutL (Q:List V->Hp->Prop) (ds:List D):Prop := ∀ vs H' B' fp,SI K H0 B0 B' H' σ τ P F->Same H H'->Same B B'->RepL K B' (· ∈ P) H' ds vs fp->Vok H0 B' H' P F fp->Q vs H'
def OutB (Q:Bool->Hp->Prop) (b:Bool):Prop := ∀ H' B',SI K H0 B0 B' H' σ τ P F->Same H H'->Same B B'->Q b H'
def Goal (Q:VK):Res D->Prop
 | .ok d=>Out K H0 B0 B H σ τ P F Q d
 | .exn C=>OutX K Y H0 B0 B H σ τ P F C
 | .bad=>False
def GoalL (Q:List V->Hp->Prop):Res (List D)->Prop
 | .ok d=>OutL K H0 B0 B H σ τ P F Q d
 | .exn C=>OutX K Y H0 B0 B H σ τ P F C
 | .bad=>False
def GoalB (Q:Bool->Hp->Prop):Res Bool->Prop
 | .ok d=>OutB K H0 B0 B H σ τ P F Q d
 | .exn C=>OutX K Y H0 B0 B H σ τ P F C
 | .bad=>False
end
def tM (K:PySem.W.Frag) (Y:XY) (f:SD->Res D):TE:=fun σ H Q=>∃ H0 B0 B τ P F,SI K H0 B0 B H σ τ P F/\Goal K Y H0 B0 B H σ τ P F Q (f τ)
def tML (K:PySem.W.Frag) (Y:XY) (f:SD->Res (List D)):TA:=fun σ H Q=>∃ H0 B0 B τ P F,SI K H0 B0 B H σ τ P F/\GoalL K Y H0 B0 B H σ τ P F Q (f τ)
def tMB (K:PySem.W.Frag) (Y:XY) (f:SD->Res Bool):TT:=fun σ H Q=>∃ H0 B0 B τ P F,SI K H0 B0 B H σ τ P F/\GoalB K Y H0 B0 B H σ τ P F Q (f τ)
section
variable {K:PySem.W.Frag}{Y:XY}{H0 B0 B H:Hp}{σ:L2.St}{τ:SD}{P:List Addr}{F:Addr->Prop}
theorem OutX.later {H1 B1:Hp}{F':Addr->Prop}{C:Addr} (h:OutX K Y H0 B0 B H σ τ P F C) (sH:Same H H1) (sB:Same B B1) (hF:∀ a,F a->F' a):OutX K Y H0 B0 B1 H1 σ τ P F' C :=
 fun H' B' I s b=>h H' B' (I.anti hF) (sH.trans s) (sB.trans b)
theorem Out.later {H1 B1:Hp}{Q:VK}{d:D} (h:Out K H0 B0 B H σ τ P F Q d) (sH:Same H H1) (sB:Same B B1):Out K H0 B0 B1 H1 σ τ P F Q d :=
 fun v H' B' fp I s b r k=>h v H' B' fp I (sH.trans s) (sB.trans b) r k
theorem Goal.later {H1 B1:Hp}{Q:VK}{r:Res D} (h:Goal K Y H0 B0 B H σ τ P F Q r) (sH:Same H H1) (sB:Same B B1):Goal K Y H0 B0 B1 H1 σ τ P F Q r:=by
 cases r with
 | ok d=>exact Out.later h sH sB
 | exn C=>exact OutX.later h sH sB fun _ x=>x
 | bad=>exact h
theorem Out.here {Q:VK}{d:D}{v:V} (h:Out K H0 B0 B H σ τ P F Q d) (I:SI K H0 B0 B H σ τ P F) (r:Rep K B (· ∈ P) H d v []):Q v H:=h v H B [] I (Same.refl _) (Same.refl _) r Vok.nil
theorem Out.hereO {Q:VK}{d:D}{v:V}{fp:List Addr} (h:Out K H0 B0 B H σ τ P F Q d) (I:SI K H0 B0 B H σ τ P F) (r:Rep K B (· ∈ P) H d v fp) (k:Vok H0 B H P F fp):Q v H:=h v H B fp I (Same.refl _) (Same.refl _) r k
theorem sameUpd' {p:Addr}{o:HO} (h:H p=none):Same H (upd H p o):=fun b u e=>by
 rw [upd_ne (ne_of_none e h)]; exact e
theorem Out.newL {Q:VK}{ds:List D}{vs:List V}{fp:List Addr}{p:Addr} (h:Out K H0 B0 B H σ τ P F Q (.lst .own ds)) (I:SI K H0 B0 B H σ τ P F) (r:RepL K B (· ∈ P) H ds vs fp) (k:Vok H0 B H P F fp) (hp:H p=none):Q (.ref p) (upd H p (.lst vs)):=by
 have s:=sameUpd' (o := .lst vs) hp
 obtain ⟨n1,n2,n3,n4⟩:=I.newAt hp
 refine h (.ref p) _ B (p :: fp) (I.grow s) s (Same.refl _) ⟨p,vs,fp,rfl,upd_same,r.mono s (Same.refl _) (fun _ x=>x),rfl⟩ ⟨List.nodup_cons.mpr ⟨fun m=>(k.own p m).2.2.1 hp,k.nd⟩,fun a m=>?_⟩
 rcases List.mem_cons.mp m with e | e
 ·subst e
  exact ⟨n1,n2,(by rw [upd_same]; exact Option.some_ne_none _),n3,n4⟩
 ·obtain ⟨a1,a2,a3,a4,a5⟩:=k.own a e
  exact ⟨a1,a2,fun z=>a3 (s.free z),a4,a5⟩
theorem Out.newT {Q:VK}{ds:List D}{vs:List V}{fp:List Addr}{p:Addr} (h:Out K H0 B0 B H σ τ P F Q (.tup ds)) (I:SI K H0 B0 B H σ τ P F) (r:RepL K B (· ∈ P) H ds vs fp) (k:Vok H0 B H P F fp) (hp:H p=none):Q (.ref p) (upd H p (.tup vs)):=by
 have s:=sameUpd' (o := .tup vs) hp
 exact h (.ref p) _ B fp (I.grow s) s (Same.refl _) ⟨p,vs,rfl,upd_same,r.mono s (Same.refl _) (fun _ x=>x)⟩ (k.grow s fun a m=>(k.own a m).1)
theorem Vok.both {H1 B1:Hp}{f g:List Addr} (k:Vok H0 B H P F f) (sH:Same H H1) (I1:SI K H0 B0 B1 H1 σ τ P (fun a=>a ∈ f ∨ F a)) (k':Vok H0 B1 H1 P (fun a=>a ∈ f ∨ F a) g):Vok H0 B1 H1 P F (f ++ g):=by
 refine ⟨List.nodup_append.mpr ⟨k.nd,k'.nd,fun a ha b hb e=>?_⟩,fun a m=>?_⟩
 ·subst e
  exact (k'.own a hb).2.2.2.2 (.inl ha)
 ·rcases List.mem_append.mp m with e | e
  ·obtain ⟨a1,a2,a3,a4,a5⟩:=k.own a e
   exact ⟨(I1.fr a (.inl e)).1,a2,(I1.fr a (.inl e)).2,a4,a5⟩
  ·obtain ⟨a1,a2,a3,a4,a5⟩:=k'.own a e
   exact ⟨a1,a2,a3,a4,fun z=>a5 (.inr z)⟩
theorem Vok.left {f g:List Addr} (k:Vok H0 B H P F (f ++ g)):Vok H0 B H P F f:=k.sub (List.sublist_append_left _ _)
theorem Vok.right {f g:List Addr} (k:Vok H0 B H P F (f ++ g)):Vok H0 B H P F g:=k.sub (List.sublist_append_right _ _)
theorem PE.imp {X:Cx}{e:Expr}{t t':TE} (h:PE X e t) (hi:∀ σ H Q,t' σ H Q->t σ H Q):PE X e t' := fun pins s σ H Q I hw=>h pins s σ H Q I (hi σ H Q hw)
theorem PT.imp {X:Cx}{e:Expr}{t t':TT} (h:PT X e t) (hi:∀ σ H Q,t' σ H Q->t σ H Q):PT X e t' := fun pins s σ H Q I hw=>h pins s σ H Q I (hi σ H Q hw)
theorem PA.imp {X:Cx}{es:List Expr}{t t':TA} (h:PA X es t) (hi:∀ σ H Q,t' σ H Q->t σ H Q):PA X es t' := fun pos pins s σ H Q I hw=>h pos pins s σ H Q I (hi σ H Q hw)
theorem PS.imp {X:Cx}{st:Stmt}{t t':TS} (h:PS X st t) (hi:∀ E σ H,t' E σ H->t E σ H):PS X st t' := fun pins s σ H E I hw=>h pins s σ H E I (hi E σ H hw)
theorem PSs.imp {X:Cx}{st:List Stmt}{t t':TS} (h:PSs X st t) (hi:∀ E σ H,t' E σ H->t E σ H):PSs X st t' := fun pins s σ H E I hw=>h pins s σ H E I (hi E σ H hw)
theorem tM.seq {f:SD->Res D}{Q':V->Hp->Prop}{g:D->Res D}{Q:VK} (I:SI K H0 B0 B H σ τ P F) (h:Goal K Y H0 B0 B H σ τ P F Q ((f τ).bind g))
  (k:∀ d v H1 B1 fp,f τ=.ok d->SI K H0 B0 B1 H1 σ τ P F->Same H H1->Same B B1->Rep K B1 (· ∈ P) H1 d v fp->Vok H0 B1 H1 P F fp->Goal K Y H0 B0 B1 H1 σ τ P F Q (g d)->Q' v H1):tM K Y f σ H Q' := by
 refine ⟨H0,B0,B,τ,P,F,I,?_⟩
 cases e:f τ with
 | ok d =>
  rw [e] at h
  intro v H1 B1 fp I1 s1 b1 r1 k1
  exact k d v H1 B1 fp e I1 s1 b1 r1 k1 (Goal.later h s1 b1)
 | exn C=>rw [e] at h; exact h
 | bad=>rw [e] at h; exact h
theorem tM.seq2 {f1 f2:SD->Res D}{Q':V->V->Hp->Prop}{g:D->D->Res D}{Q:VK} (I:SI K H0 B0 B H σ τ P F) (h:Goal K Y H0 B0 B H σ τ P F Q ((f1 τ).bind fun x=>(f2 τ).bind (g x)))
  (k:∀ d1 d2 v1 v2 H2 B2 fp1 fp2,f1 τ=.ok d1->f2 τ=.ok d2->SI K H0 B0 B2 H2 σ τ P F->Same H H2->Same B B2->Rep K B2 (· ∈ P) H2 d1 v1 fp1->Rep K B2 (· ∈ P) H2 d2 v2 fp2->Vok H0 B2 H2 P F (fp1 ++ fp2)->Goal K Y H0 B0 B2 H2 σ τ P F Q (g d1 d2)->Q' v1 v2 H2) :
  tM K Y f1 σ H fun x H1=>tM K Y f2 σ H1 fun y H2=>Q' x y H2:=by
 refine tM.seq (g:=fun x=>(f2 τ).bind (g x)) I h fun d1 v1 H1 B1 fp1 e1 I1 s1 b1 r1 k1 h1=>?_
 refine ⟨H0,B0,B1,τ,P,_,I1.hold k1,?_⟩
 cases e:f2 τ with
 | ok d2 =>
  rw [e] at h1
  intro v2 H2 B2 fp2 I2 s2 b2 r2 k2
  exact k d1 d2 v1 v2 H2 B2 fp1 fp2 e1 e (I2.anti fun a x=>.inr x) (s1.trans s2) (b1.trans b2) (r1.mono s2 b2 fun _ x=>x) r2 (k1.both s2 I2 k2) (Goal.later h1 s2 b2)
 | exn C =>
  rw [e] at h1
  exact OutX.later h1 (Same.refl _) (Same.refl _) fun a x=>.inr x
 | bad=>rw [e] at h1; exact h1
def eVar (i:Nat) (τ:SD):Res D:=match τ[i]? with
 | some (some d)=>.ok d.view
 | _=>.bad
def eC (d:D) (_:SD):Res D := .ok d
theorem qv {X:Cx} (i:Nat) {x:Str}{pos:Pos} (hN:X.N[i]?=some x:=by rfl) (hv:Vis X.env.scope x:=by first | exact Or.inl rfl | exact Or.inr (Or.inl rfl) | exact Or.inr (Or.inr rfl)) (hd:(x == ("__debug__" : Str))=false:=by decide)
  (hcd:(x == ("__classdict__" : Str))=false:=by decide):PE X (.Name x pos) (tM X.K Y (eVar i)):=by
 refine PE.imp (pe_var hN hv hd hcd) ?_
 rintro σ H Q ⟨H0,B0,B,τ,P,F,I,h⟩
 unfold eVar at h
 cases e:τ[i]? with
 | none=>rw [e] at h; exact h.elim
 | some o =>
  cases o with
  | none=>rw [e] at h; exact h.elim
  | some d =>
   rw [e] at h
   obtain ⟨v,f,h1,h2,h3⟩:=I.rep.get e
   exact ⟨v,h1,Out.here h I (h2.view fun a m=>h3.subset m)⟩
theorem qc {X:Cx}{e:Expr}{d:D}{v:V} (h:PE X e (tC v)) (hr:∀ K B S H,Rep K B S H d v []):PE X e (tM X.K Y (eC d)):=PE.imp h fun σ H Q hq=>ex8 hq fun H0 B0 B τ P F I h=>Out.here h I (hr _ _ _ _)
theorem q_int {X:Cx}{i:Int}{j pos}:PE X (.Constant (.int i) j pos) (tM X.K Y (eC (.int i))):=qc pe_int fun _ _ _ _=>⟨rfl,rfl⟩
theorem q_bl {X:Cx}{b:Bool}{j pos}:PE X (.Constant (.bool b) j pos) (tM X.K Y (eC (.bl b))):=qc pe_bl fun _ _ _ _=>⟨rfl,rfl⟩
theorem q_str {X:Cx}{x:Str}{j pos}:PE X (.Constant (.str x) j pos) (tM X.K Y (eC (.str x))):=qc pe_str fun _ _ _ _=>⟨rfl,rfl⟩
def OpD (K:PySem.W.Frag) (Y:XY) (r:R2) (g:D->D->Res D):Prop := ∀ {H0 B0 B H:Hp}{σ:L2.St}{τ:SD}{P:List Addr}{F:Addr->Prop}{d1 d2:D}{x y:V}{f1 f2:List Addr}{Q:VK},
 SI K H0 B0 B H σ τ P F->Rep K B (· ∈ P) H d1 x f1->Rep K B (· ∈ P) H d2 y f2->Vok H0 B H P F (f1 ++ f2)->Goal K Y H0 B0 B H σ τ P F Q (g d1 d2)->r x y H Q
def eBin (g:D->D->Res D) (a b:SD->Res D) (τ:SD):Res D:=(a τ).bind fun x=>(b τ).bind (g x)
theorem OpR.or {X:Cx}{f:Value->Value->Sem Value}{r r':R2} (h:OpR X f r) (h':OpR X f r'):OpR X f (fun x y H Q=>r x y H Q ∨ r' x y H Q):=by
 intro pins s σ H x y v u Q I rx ry q
 rcases q with q | q
 ·exact h pins s σ H x y v u Q I rx ry q
 ·exact h' pins s σ H x y v u Q I rx ry q
variable {X:Cx}{a b c:Expr}{fa fb fc:SD->Res D}{pos:Pos}
theorem q_op {op:Operator}{r:R2}{g:D->D->Res D} (ho:OpR X (binaryOp op) r) (hg:OpD X.K Y r g) (ha:PE X a (tM X.K Y fa)) (hb:PE X b (tM X.K Y fb)):PE X (.BinOp a op b pos) (tM X.K Y (eBin g fa fb)) :=
 PE.imp (pe_op ho ha hb) fun σ H Q hq=>ex8 hq fun H0 B0 B τ P F I h=>tM.seq2 I h fun d1 d2 v1 v2 H2 B2 f1 f2 _ _ I2 _ _ r1 r2 k h2=>hg I2 r1 r2 k h2
theorem q_cmp {op:CmpOp}{r:R2}{g:D->D->Res D} (ho:OpR X (compareOp op) r) (hg:OpD X.K Y r g) (ha:PE X a (tM X.K Y fa)) (hb:PE X b (tM X.K Y fb)) (hm:behindInMarks op b=false):PE X (.Compare a [op] [b] pos) (tM X.K Y (eBin g fa fb)) :=
 PE.imp (pe_cmpR ho ha hb hm) fun σ H Q hq=>ex8 hq fun H0 B0 B τ P F I h=>tM.seq2 I h fun d1 d2 v1 v2 H2 B2 f1 f2 _ _ I2 _ _ r1 r2 k h2=>hg I2 r1 r2 k h2
theorem q_ix {r:R2}{g:D->D->Res D} (ho:IxR X r) (hg:OpD X.K Y r g) (ha:PE X a (tM X.K Y fa)) (hb:PE X b (tM X.K Y fb)) (hs:PlainIx b):PE X (.Subscript a b pos) (tM X.K Y (eBin g fa fb)) :=
 PE.imp (pe_ix ho ha hb hs) fun σ H Q hq=>ex8 hq fun H0 B0 B τ P F I h=>tM.seq2 I h fun d1 d2 v1 v2 H2 B2 f1 f2 _ _ I2 _ _ r1 r2 k h2=>hg I2 r1 r2 k h2
def asB:D->Res Bool | .bl b=>.ok b | _=>.bad
theorem goalB_of {Q:Bool->Hp->Prop}{r:Res D} (h:GoalB K Y H0 B0 B H σ τ P F Q (r.bind asB)):Goal K Y H0 B0 B H σ τ P F (fun x H1=>∃ c,x=.bl c/\Q c H1) r:=by
 cases r with
 | ok d =>
  intro v H' B' fp I s b r k
  cases d with
  | bl c=>obtain ⟨rfl,rfl⟩:=r; exact ⟨c,rfl,h H' B' I s b⟩
  | _=>exact h.elim
 | exn C=>exact h
 | bad=>exact h
def eT (f:SD->Res D) (τ:SD):Res Bool:=(f τ).bind asB
theorem qt_val (ha:PE X a (tM X.K Y fa)) (he:∀ whole,isTrue a X.env whole=(do let v <- whole; standAt a.pos; holding [v] (truthy v)):=by intro _; rfl):PT X a (tMB X.K Y (eT fa)) :=
 PT.imp (pt_val ha he) fun σ H Q hq=>ex8 hq fun H0 B0 B τ P F I h=>⟨H0,B0,B,τ,P,F,I,goalB_of h⟩
theorem qt_cmp {op:CmpOp}{r:R2}{g:D->D->Res D} (ho:OpR X (compareOp op) r) (hg:OpD X.K Y r g) (ha:PE X a (tM X.K Y fa)) (hb:PE X b (tM X.K Y fb)) (hm:behindInMarks op b=false):PT X (.Compare a [op] [b] pos) (tMB X.K Y (eT (eBin g fa fb))) :=
 PT.imp (pt_cmpR ho ha hb hm) fun σ H Q hq=>ex8 hq fun H0 B0 B τ P F I h=>tM.seq2 I (goalB_of h) fun d1 d2 v1 v2 H2 B2 f1 f2 _ _ I2 _ _ r1 r2 k h2=>hg I2 r1 r2 k h2
end
section
variable {K:PySem.W.Frag}{Y:XY}{H0 B0 B H:Hp}{σ:L2.St}{τ:SD}{P:List Addr}{F:Addr->Prop}
theorem Rep.lst (I:SI K H0 B0 B H σ τ P F) {t:Tg}{xs:List D}{v:V}{f:List Addr} (r:Rep K B (· ∈ P) H (.lst t xs) v f):∃ a vs g,v=.ref a/\SqL K H a vs/\RepL K B (· ∈ P) H xs vs g/\List.Sublist g f:=by
 cases t with
 | len a=>exact False.elim r
 | own =>
  obtain ⟨a,vs,g,e,q,r,z⟩:=r
  subst z
  exact ⟨a,vs,g,e,SqL.of q,r,List.sublist_cons_self _ _⟩
 | bor =>
  obtain ⟨a,vs,e,q,r,z⟩:=r
  subst z
  exact ⟨a,vs,[],e,q.elim (fun y=>y.2) fun y=>rd_mono I.bh y,r,List.Sublist.refl _⟩
 | frz =>
  obtain ⟨a,vs,e,q,r,z⟩:=r
  subst z
  exact ⟨a,vs,[],e,rd_mono I.bh q,r.mono (Same.refl _) (Same.refl _) (fun _ x=>x.elim),List.Sublist.refl _⟩
theorem Rep.tp {xs:List D}{v:V}{f:List Addr} (r:Rep K B (· ∈ P) H (.tup xs) v f):∃ a vs,v=.ref a/\SqT K H a vs/\RepL K B (· ∈ P) H xs vs f:=let ⟨a,vs,e,q,r⟩:=r; ⟨a,vs,e,SqT.of q,r⟩
theorem sqL_of {a:Addr}{vs:List V} (h:SqL K H a vs):SqL K H a vs:=h
variable {X:Cx}
def rCatR (K:PySem.W.Frag):R2:=fun x y H Q=>∃ l b xs zs,x=.ref l/\y=.ref b/\SqL K H l xs/\SqL K H b zs/\xs.length + zs.length <= sizeLine/\∀ p,H p=none->Q (.ref p) (upd H p (.lst (xs ++ zs)))
theorem op_catR:OpR X (binaryOp .Add) (rCatR X.K):=by
 intro pins s σ H x y v u Q I rx ry h
 obtain ⟨l,b,xs,zs,rfl,rfl,hH,hB,hz,q⟩:=h
 cases rx
 cases ry
 obtain ⟨its,r,pl,z⟩:=I.list hH
 obtain ⟨its2,r2,pl2,z2⟩:=I.list hB
 obtain ⟨⟨cls,dd,data,sl⟩,ho,hc,n,hd⟩:=id pl.isList
 obtain ⟨⟨cls2,dd2,data2,sl2⟩,ho2,hc2,n2,hd2⟩:=id pl2.isList
 simp only at hc hd hc2 hd2
 subst hc hd hc2 hd2
 have e:its.toArray ++ its2.toArray=(its ++ its2).toArray:=by simp
 have l1:=r.length
 have l2:=r2.length
 refine concat_meets ⟨_,ho,rfl⟩ ⟨_,ho2,rfl⟩ noFill_list_add seq_list_add PySem.F.slot_list_add PySem.F.entry_list_add (PySem.F.args_list_add_2 _ _) (list_addW l b its.toArray its2.toArray n n2 dd dd2 sl sl2 (by rw [List.size_toArray,List.size_toArray]; omega)) ⟨ho,ho2,?_⟩
 rw [e]
 exact ⟨.ref _,_,I.lnew (t' := s.toks) (r.append r2) (by rw [List.length_append]; omega),rfl,q _ I.fresh⟩
def addD:D->D->Res D
 | .int i,.int j=>.ok (.int (i + j))
 | .str i,.str j=>if i.length + j.length <= 16777216 then .ok (.str (i ++ j)) else .bad
 | .lst _ xs,.lst _ ys=>if xs.length + ys.length <= 16777216 then .ok (.lst .own (xs ++ ys)) else .bad
 | .tup xs,.tup ys=>if xs ≠ []/\ys ≠ []/\xs.length + ys.length <= 16777216 then .ok (.tup (xs ++ ys)) else .bad
 | _,_=>.bad
theorem isz {n:Nat} (h:n <= 16777216):n <= sizeLine:=by rw [sizeLine_eq]; exact h
theorem RepL.nil_iff {S:Addr->Prop}{xs:List D}{vs:List V}{f:List Addr} (r:RepL K B S H xs vs f):vs=[] ↔ xs=[]:=by
 have:=r.length
 cases xs <;> cases vs <;> simp_all
abbrev rAdd (K:PySem.W.Frag):R2:=fun x y H Q=>rI0 (fun i j=>.int (i + j)) x y H Q ∨ ((∃ i j,x=.str i/\y=.str j/\i.length + j.length <= sizeLine/\Q (.str (i ++ j)) H) ∨ (rCatR K x y H Q ∨ rCatT K x y H Q))
theorem op_addA:OpR X (binaryOp .Add) (rAdd X.K):=OpR.or op_add (OpR.or op_add_str (OpR.or op_catR op_catT))
theorem d_add:OpD K Y (rAdd K) addD:=by
 intro H0 B0 B H σ τ P F d1 d2 x y f1 f2 Q I r1 r2 k h
 unfold addD at h
 split at h
 ·obtain ⟨rfl,rfl⟩:=r1
  obtain ⟨rfl,rfl⟩:=r2
  exact .inl ⟨_,_,rfl,rfl,Out.here h I ⟨rfl,rfl⟩⟩
 ·obtain ⟨rfl,rfl⟩:=r1
  obtain ⟨rfl,rfl⟩:=r2
  split at h
  ·rename_i hl
   exact .inr (.inl ⟨_,_,rfl,rfl,isz hl,Out.here h I ⟨rfl,rfl⟩⟩)
  ·exact h.elim
 ·obtain ⟨a,vs,g1,rfl,q1,l1,s1⟩:=r1.lst I
  obtain ⟨b,ws,g2,rfl,q2,l2,s2⟩:=r2.lst I
  split at h
  ·rename_i hl
   refine .inr (.inr (.inl ⟨_,_,_,_,rfl,rfl,q1,q2,by rw [<- l1.length,<- l2.length]; exact isz hl,fun p hp=>?_⟩))
   exact Out.newL h I (l1.append l2) (k.sub (s1.append s2)) hp
  ·exact h.elim
 ·obtain ⟨a,vs,rfl,q1,l1⟩:=r1.tp
  obtain ⟨b,ws,rfl,q2,l2⟩:=r2.tp
  split at h
  ·rename_i hl
   obtain ⟨n1,n2,hl⟩:=hl
   refine .inr (.inr (.inr ⟨_,_,_,_,rfl,rfl,q1,q2,fun z=>n1 (l1.nil_iff.mp z),by rw [<- l1.length,<- l2.length]; exact isz hl,fun z=>absurd (l2.nil_iff.mp z) n2,fun _ p hp=>?_⟩))
   exact Out.newT h I (l1.append l2) k hp
  ·exact h.elim
 ·exact h.elim
def iiD (C:Int->Int->Prop) [∀ i j,Decidable (C i j)] (g:Int->Int->D):D->D->Res D
 | .int i,.int j=>if C i j then .ok (g i j) else .bad
 | _,_=>.bad
def ii0 (g:Int->Int->D):D->D->Res D
 | .int i,.int j=>.ok (g i j)
 | _,_=>.bad
theorem d_ii {C:Int->Int->Prop} [∀ i j,Decidable (C i j)] {g:Int->Int->D}{gv:Int->Int->V} (hg:∀ i j K B S H,Rep K B S H (g i j) (gv i j) []):OpD K Y (rI C gv) (iiD C g):=by
 intro H0 B0 B H σ τ P F d1 d2 x y f1 f2 Q I r1 r2 k h
 unfold iiD at h
 split at h
 ·obtain ⟨rfl,rfl⟩:=r1
  obtain ⟨rfl,rfl⟩:=r2
  split at h
  ·rename_i hc
   exact ⟨_,_,rfl,rfl,hc,Out.here h I (hg ..)⟩
  ·exact h.elim
 ·exact h.elim
theorem d_ii0 {g:Int->Int->D}{gv:Int->Int->V} (hg:∀ i j K B S H,Rep K B S H (g i j) (gv i j) []):OpD K Y (rI0 gv) (ii0 g):=by
 intro H0 B0 B H σ τ P F d1 d2 x y f1 f2 Q I r1 r2 k h
 unfold ii0 at h
 split at h
 ·obtain ⟨rfl,rfl⟩:=r1
  obtain ⟨rfl,rfl⟩:=r2
  exact ⟨_,_,rfl,rfl,Out.here h I (hg ..)⟩
 ·exact h.elim
instance (i j:Int):Decidable (CDiv i j):=inferInstanceAs (Decidable (_/\_))
instance (i j:Int):Decidable (CPow i j):=inferInstanceAs (Decidable (_/\_/\_))
instance (i j:Int):Decidable (CMul i j):=inferInstanceAs (Decidable ((_/\_) ∨ (_/\_)))
def CMulD (i j:Int):Prop:=CMul i j ∨ (i.natAbs < 2 ^ 1024/\j.natAbs < 2 ^ 1024)
instance (i j:Int):Decidable (CMulD i j):=inferInstanceAs (Decidable (_ ∨ (_/\_)))
theorem bits_1024 {i:Int} (h:i.natAbs < 2 ^ 1024):Builtin.Int.intBits i <= 2 ^ 20:=by
 unfold Builtin.Int.intBits
 split
 ·exact Nat.zero_le _
 ·by_cases e:i.natAbs=0
  ·rw [e]; decide
  ·have:=(Nat.log2_lt e).mpr h
   omega
theorem op_mulD:OpR X (binaryOp .Mult) (rI CMulD fun i j=>.int (i * j)):=opI fun _ _ _ _ _ _ _ hc q=>mul_int q (hc.elim CMul.ok fun z=>IntMulOk.of_bits (bits_1024 z.1) (bits_1024 z.2))
abbrev rij (g:Int->Int->Int):∀ i j K B S H,Rep K B S H (.int (g i j)) (.int (g i j)) []:=fun _ _ _ _ _ _=>⟨rfl,rfl⟩
abbrev rib (g:Int->Int->Bool):∀ i j K B S H,Rep K B S H (.bl (g i j)) (.bl (g i j)) []:=fun _ _ _ _ _ _=>⟨rfl,rfl⟩
abbrev subD:=ii0 fun i j=>.int (i - j)
abbrev mulD:=iiD CMulD fun i j=>.int (i * j)
abbrev fdivD:=iiD CDiv fun i j=>.int (i / j)
abbrev modD:=iiD (fun _ j=>0 < j) fun i j=>.int (i % j)
abbrev powD:=iiD CPow fun i j=>.int (i ^ j.toNat)
abbrev shrD:=iiD (fun _ j=>0 <= j) fun i j=>.int (i / 2 ^ j.toNat)
abbrev shlD:=iiD CPow fun i j=>.int (i * 2 ^ j.toNat)
abbrev andD:=ii0 fun i j=>.int (Builtin.bitAnd i j)
abbrev ltD:=ii0 fun i j=>.bl (decide (i < j))
abbrev gtD:=ii0 fun i j=>.bl (decide (j < i))
theorem d_sub:OpD K Y (rI0 fun i j=>.int (i - j)) subD:=d_ii0 (rij _)
theorem d_mul:OpD K Y (rI CMulD fun i j=>.int (i * j)) mulD:=d_ii (rij _)
theorem d_fdiv:OpD K Y (rI CDiv fun i j=>.int (i / j)) fdivD:=d_ii (rij _)
theorem d_mod:OpD K Y (rI (fun _ j=>0 < j) fun i j=>.int (i % j)) modD:=d_ii (rij _)
theorem d_pow:OpD K Y (rI CPow fun i j=>.int (i ^ j.toNat)) powD:=d_ii (rij fun i j=>i ^ j.toNat)
theorem d_shr:OpD K Y (rI (fun _ j=>0 <= j) fun i j=>.int (i / 2 ^ j.toNat)) shrD:=d_ii (rij fun i j=>i / 2 ^ j.toNat)
theorem d_shl:OpD K Y (rI CPow fun i j=>.int (i * 2 ^ j.toNat)) shlD:=d_ii (rij fun i j=>i * 2 ^ j.toNat)
theorem d_and:OpD K Y (rI0 fun i j=>.int (Builtin.bitAnd i j)) andD:=d_ii0 (rij _)
theorem d_lt:OpD K Y (rI0 fun i j=>.bl (decide (i < j))) ltD:=d_ii0 (rib fun i j=>decide (i < j))
theorem d_gt:OpD K Y (rI0 fun i j=>.bl (decide (j < i))) gtD:=d_ii0 (rib fun i j=>decide (j < i))
end
section
variable {K:PySem.W.Frag}{Y:XY}{H0 B0 B H:Hp}{σ:L2.St}{τ:SD}{P:List Addr}{F:Addr->Prop}{X:Cx}{a b c:Expr}{fa fb fc:SD->Res D}{ga gb:SD->Res Bool}{pos:Pos}
theorem Vok.still {H1 B1:Hp}{f:List Addr} (k:Vok H0 B H P F f) (sH:Same H H1) (I1:SI K H0 B0 B1 H1 σ τ P (fun a=>a ∈ f ∨ F a)):Vok H0 B1 H1 P F f:=⟨k.nd,fun a m=>let ⟨_,a2,_,a4,a5⟩:=k.own a m; ⟨(I1.fr a (.inl m)).1,a2,(I1.fr a (.inl m)).2,a4,a5⟩⟩
def D.flat:D->Bool | .non=>true | .bl _=>true | .int _=>true | .str _=>true | _=>false
def eqFlat:D->D->Option Bool
 | .non,.non=>some true | .non,.int _=>some false | .int _,.non=>some false | .non,.bl _=>some false | .bl _,.non=>some false | .non,.str _=>some false | .str _,.non=>some false
 | .int i,.int j=>some (decide (i=j)) | .bl i,.bl j=>some (decide (i=j)) | .str i,.str j=>some (decide (i=j))
 | .int _,.str _=>some false | .str _,.int _=>some false | .bl _,.str _=>some false | .str _,.bl _=>some false
 | _,_=>none
theorem eqFlat_ok {S S':Addr->Prop}{d1 d2:D}{x y:V}{f1 f2:List Addr}{r:Bool} (e:eqFlat d1 d2=some r) (r1:Rep K B S H d1 x f1) (r2:Rep K B S' H d2 y f2):scal x y=true/\decide (x=y)=r:=by
 cases d1 <;> cases d2 <;> first | (cases e; done) | (obtain ⟨rfl,rfl⟩:=r1; obtain ⟨rfl,rfl⟩:=r2; cases e; first | exact ⟨rfl,rfl⟩ | exact ⟨rfl,by simp⟩)
def ofO (neg:Bool):Option Bool->Res D | some b=>.ok (.bl (xor neg b)) | none=>.bad
def eqD (d1 d2:D):Res D:=ofO false (eqFlat d1 d2)
def neD (d1 d2:D):Res D:=ofO true (eqFlat d1 d2)
theorem d_eq:OpD K Y rEq eqD:=by
 intro H0 B0 B H σ τ P F d1 d2 x y f1 f2 Q I r1 r2 k h
 unfold eqD at h
 cases e:eqFlat d1 d2 with
 | none=>rw [e] at h; exact h.elim
 | some r =>
  rw [e] at h
  obtain ⟨s,z⟩:=eqFlat_ok e r1 r2
  refine ⟨s,?_⟩
  rw [z]
  exact Out.here h I ⟨by simp,rfl⟩
theorem d_ne:OpD K Y rNe neD:=by
 intro H0 B0 B H σ τ P F d1 d2 x y f1 f2 Q I r1 r2 k h
 unfold neD at h
 cases e:eqFlat d1 d2 with
 | none=>rw [e] at h; exact h.elim
 | some r =>
  rw [e] at h
  obtain ⟨s,z⟩:=eqFlat_ok e r1 r2
  refine ⟨s,?_⟩
  rw [z]
  exact Out.here h I ⟨by simp,rfl⟩
def eqF:D->D->Bool
 | .non,.non=>true
 | .bl a,.bl b=>a == b
 | .bl a,.int b=>(if a then 1 else 0) == b
 | .int a,.bl b=>a == (if b then 1 else 0)
 | .int a,.int b=>a == b
 | .str a,.str b=>a == b
 | _,_=>false
def inF (x:D) (xs:List D):Bool:=xs.any fun y=>eqF y x
theorem flatV_of {S:Addr->Prop}{d:D}{v:V}{f:List Addr} (h:d.flat=true) (r:Rep K B S H d v f):flatV v=true:=by
 cases d <;> first | exact absurd (show false=true from h) Bool.false_ne_true | (obtain ⟨rfl,_⟩:=r; rfl)
theorem eqV_of {S:Addr->Prop}{d e:D}{v u:V}{f g:List Addr} (h:d.flat=true) (h':e.flat=true) (r:Rep K B S H d v f) (r':Rep K B S H e u g):eqV v u=eqF d e:=by
 cases d <;> cases e <;> first | exact absurd (show false=true from h) Bool.false_ne_true | exact absurd (show false=true from h') Bool.false_ne_true | (obtain ⟨rfl,_⟩:=r; obtain ⟨rfl,_⟩:=r'; rfl)
theorem all_flat {S:Addr->Prop}{x:D}{u:V}{g:List Addr} (hx:x.flat=true) (rx:Rep K B S H x u g):∀ {xs:List D}{vs:List V}{f:List Addr},xs.all D.flat=true->RepL K B S H xs vs f->vs.all flatV=true/\inV u vs=inF x xs
 | [],vs,f,_,r=>by obtain ⟨rfl,_⟩:=r; exact ⟨rfl,rfl⟩
 | d :: ds,vs,f,h,r=>by
  obtain ⟨v,w,f1,f2,rfl,r1,r2,_⟩:=r
  rw [List.all_cons,Bool.and_eq_true] at h
  obtain ⟨i1,i2⟩:=all_flat hx rx h.2 r2
  refine ⟨by rw [List.all_cons,flatV_of h.1 r1,i1]; rfl,?_⟩
  show (eqV v u || inV u w)=(eqF d x || inF x ds)
  rw [i2,eqV_of h.1 hx r1 rx]
def inD (neg:Bool):D->D->Res D
 | x,.lst _ xs=>if x.flat=true/\xs.all D.flat=true then .ok (.bl (if neg then !inF x xs else inF x xs)) else .bad
 | x,.tup xs=>if x.flat=true/\xs.all D.flat=true then .ok (.bl (if neg then !inF x xs else inF x xs)) else .bad
 | _,_=>.bad
theorem d_in (neg:Bool):OpD K Y (rIn K neg) (inD neg):=by
 intro H0 B0 B H σ τ P F d1 d2 x y f1 f2 Q I r1 r2 k h
 unfold inD at h
 split at h
 ·split at h
  ·rename_i hc
   obtain ⟨a,vs,g,rfl,q,l,s⟩:=r2.lst I
   obtain ⟨z1,z2⟩:=all_flat hc.1 r1 hc.2 l
   refine ⟨a,vs,rfl,.inl (sqL_of q),flatV_of hc.1 r1,z1,?_⟩
   rw [z2]
   exact Out.here h I ⟨rfl,rfl⟩
  ·exact h.elim
 ·split at h
  ·rename_i hc
   obtain ⟨a,vs,rfl,q,l⟩:=r2.tp
   obtain ⟨z1,z2⟩:=all_flat hc.1 r1 hc.2 l
   refine ⟨a,vs,rfl,.inr q,flatV_of hc.1 r1,z1,?_⟩
   rw [z2]
   exact Out.here h I ⟨rfl,rfl⟩
  ·exact h.elim
 ·exact h.elim
def ixD:D->D->Res D
 | .lst _ xs,.int i=>match atI xs i with | some d=>.ok d | none=>.bad
 | .tup xs,.int i=>match atI xs i with | some d=>.ok d | none=>.bad
 | .str z,.int i=>if z.length <= 16777216 then match atI z.cps.toList i with | some c=>.ok (.str ⟨#[c]⟩) | none=>.bad else .bad
 | _,_=>.bad
theorem RepL.atI {S:Addr->Prop}{xs:List D}{vs:List V}{f:List Addr}{i:Int}{d:D} (r:RepL K B S H xs vs f) (e:atI xs i=some d):∃ v g,L2.atI vs i=some v/\Rep K B S H d v g/\List.Sublist g f:=by
 unfold L2.atI at e ⊢
 rw [r.length] at e
 cases z:ixN vs.length i with
 | none=>rw [z] at e; cases e
 | some j =>
  rw [z] at e
  obtain ⟨v,g,h1,h2,h3⟩:=r.get (i:=j) e
  exact ⟨v,g,h1,h2,h3⟩
theorem d_ix:OpD K Y (rIx K) ixD:=by
 intro H0 B0 B H σ τ P F d1 d2 x y f1 f2 Q I r1 r2 k h
 unfold ixD at h
 split at h
 ·obtain ⟨rfl,rfl⟩:=r2
  obtain ⟨a,vs,g,rfl,q,l,s⟩:=r1.lst I
  split at h
  ·rename_i d e
   obtain ⟨v,g',e1,r',s'⟩:=l.atI e
   exact .inl ⟨a,vs,_,v,rfl,rfl,sqL_of q,e1,Out.hereO h I r' (k.left.sub (s'.trans s))⟩
  ·exact h.elim
 ·obtain ⟨rfl,rfl⟩:=r2
  obtain ⟨a,vs,rfl,q,l⟩:=r1.tp
  split at h
  ·rename_i d e
   obtain ⟨v,g',e1,r',s'⟩:=l.atI e
   exact .inr (.inl ⟨a,vs,_,v,rfl,rfl,q,e1,Out.hereO h I r' (k.left.sub s')⟩)
  ·exact h.elim
 ·obtain ⟨rfl,rfl⟩:=r2
  obtain ⟨rfl,rfl⟩:=r1
  split at h
  ·rename_i hl
   split at h
   ·rename_i c e
    exact .inr (.inr ⟨_,_,c,rfl,rfl,isz hl,e,Out.here h I ⟨rfl,rfl⟩⟩)
   ·exact h.elim
  ·exact h.elim
 ·exact h.elim
theorem GoalB.later {H1 B1:Hp}{Q:Bool->Hp->Prop}{r:Res Bool} (h:GoalB K Y H0 B0 B H σ τ P F Q r) (sH:Same H H1) (sB:Same B B1):GoalB K Y H0 B0 B1 H1 σ τ P F Q r:=by
 cases r with
 | ok d=>exact fun H' B' I s b=>h H' B' I (sH.trans s) (sB.trans b)
 | exn C=>exact OutX.later h sH sB fun _ x=>x
 | bad=>exact h
theorem tMB.seq {f:SD->Res Bool}{Q':Bool->Hp->Prop}{g:Bool->Res Bool}{Q:Bool->Hp->Prop} (I:SI K H0 B0 B H σ τ P F) (h:GoalB K Y H0 B0 B H σ τ P F Q ((f τ).bind g))
  (k:∀ d H1 B1,SI K H0 B0 B1 H1 σ τ P F->GoalB K Y H0 B0 B1 H1 σ τ P F Q (g d)->Q' d H1):tMB K Y f σ H Q' := by
 refine ⟨H0,B0,B,τ,P,F,I,?_⟩
 cases e:f τ with
 | ok d=>rw [e] at h; exact fun H1 B1 I1 s1 b1=>k d H1 B1 I1 (GoalB.later h s1 b1)
 | exn C=>rw [e] at h; exact h
 | bad=>rw [e] at h; exact h
theorem tMB.seqV {f:SD->Res Bool}{Q':Bool->Hp->Prop}{g:Bool->Res D}{Q:VK} (I:SI K H0 B0 B H σ τ P F) (h:Goal K Y H0 B0 B H σ τ P F Q ((f τ).bind g))
  (k:∀ d H1 B1,SI K H0 B0 B1 H1 σ τ P F->Goal K Y H0 B0 B1 H1 σ τ P F Q (g d)->Q' d H1):tMB K Y f σ H Q' := by
 refine ⟨H0,B0,B,τ,P,F,I,?_⟩
 cases e:f τ with
 | ok d=>rw [e] at h; exact fun H1 B1 I1 s1 b1=>k d H1 B1 I1 (Goal.later h s1 b1)
 | exn C=>rw [e] at h; exact h
 | bad=>rw [e] at h; exact h
def bNot (f:SD->Res Bool) (τ:SD):Res Bool:=(f τ).bind fun b=>.ok (!b)
def bAnd (f g:SD->Res Bool) (τ:SD):Res Bool:=(f τ).bind fun b=>if b=true then g τ else .ok false
theorem qt_not (ha:PT X a (tMB X.K Y ga)):PT X (.UnaryOp .Not a pos) (tMB X.K Y (bNot ga)) :=
 PT.imp (pt_not ha) fun σ H Q hq=>ex8 hq fun H0 B0 B τ P F I h=>tMB.seq I h fun d H1 B1 I1 h1=>h1 H1 B1 I1 (Same.refl _) (Same.refl _)
theorem PW.imp {e:Expr}{t t':TT} (h:PW X e t) (hi:∀ σ H Q,t' σ H Q->t σ H Q):PW X e t' := fun wh pins s σ H Q I hw=>h wh pins s σ H Q I (hi σ H Q hw)
theorem qw_and1 (ha:PT X a (tMB X.K Y ga)):PW X (.BoolOp .And [a] pos) (tMB X.K Y ga):=pw_and1 ha
theorem qw_and {rest:List Expr} (ha:PT X a (tMB X.K Y ga)) (hb:PW X (.BoolOp .And (b :: rest) pos) (tMB X.K Y gb)):PW X (.BoolOp .And (a :: b :: rest) pos) (tMB X.K Y (bAnd ga gb)) :=
 PW.imp (pw_and ha hb) fun σ H Q hq=>ex8 hq fun H0 B0 B τ P F I h=>tMB.seq I h fun d H1 B1 I1 h1=>by
  cases d with
  | true=>rw [if_pos rfl] at h1 ⊢; exact ⟨H0,B0,B1,τ,P,F,I1,h1⟩
  | false=>rw [if_neg Bool.false_ne_true] at h1 ⊢; exact h1 H1 B1 I1 (Same.refl _) (Same.refl _)
def eIf (c:SD->Res Bool) (f g:SD->Res D) (τ:SD):Res D:=(c τ).bind fun b=>if b=true then f τ else g τ
theorem q_if (hc:PT X c (tMB X.K Y ga)) (ha:PE X a (tM X.K Y fa)) (hb:PE X b (tM X.K Y fb)):PE X (.IfExp c a b pos) (tM X.K Y (eIf ga fa fb)) :=
 PE.imp (pe_ifExp hc ha hb) fun σ H Q hq=>ex8 hq fun H0 B0 B τ P F I h=>tMB.seqV I h fun d H1 B1 I1 h1=>by
  cases d with
  | true=>rw [if_pos rfl] at h1 ⊢; exact ⟨H0,B0,B1,τ,P,F,I1,h1⟩
  | false=>rw [if_neg Bool.false_ne_true] at h1 ⊢; exact ⟨H0,B0,B1,τ,P,F,I1,h1⟩
def eAnd (f g:SD->Res D) (τ:SD):Res D:=(f τ).bind fun d=>(asB d).bind fun b=>if b=true then g τ else .ok (.bl false)
def eNot (f:SD->Res D) (τ:SD):Res D:=(f τ).bind fun d=>(asB d).bind fun b=>.ok (.bl (!b))
theorem asB_cases {d:D}{v:V}{f:List Addr}{g:Bool->Res D}{Q:VK} (r:Rep K B (· ∈ P) H d v f) (h:Goal K Y H0 B0 B H σ τ P F Q ((asB d).bind g)):∃ c,v=.bl c/\f=[]/\Goal K Y H0 B0 B H σ τ P F Q (g c):=by
 cases d with
 | bl c=>exact ⟨c,r.1,r.2,h⟩
 | _=>exact h.elim
theorem q_one {op} (h:PE X a (tM X.K Y fa)):PE X (.BoolOp op [a] pos) (tM X.K Y fa):=pe_one h
theorem q_and {rest:List Expr} (ha:PE X a (tM X.K Y fa)) (hb:PE X (.BoolOp .And (b :: rest) pos) (tM X.K Y fb)):PE X (.BoolOp .And (a :: b :: rest) pos) (tM X.K Y (eAnd fa fb)) :=
 PE.imp (pe_and ha hb) fun σ H Q hq=>ex8 hq fun H0 B0 B τ P F I h=>tM.seq I h fun d v H1 B1 fp _ I1 _ _ r1 _ h1=>by
  obtain ⟨c,rfl,_,h2⟩:=asB_cases r1 h1
  refine ⟨c,rfl,?_⟩
  cases c with
  | true=>rw [if_pos rfl] at h2 ⊢; exact ⟨H0,B0,B1,τ,P,F,I1,h2⟩
  | false=>rw [if_neg Bool.false_ne_true] at h2 ⊢; exact Out.here h2 I1 ⟨rfl,rfl⟩
theorem q_not (ha:PE X a (tM X.K Y fa)):PE X (.UnaryOp .Not a pos) (tM X.K Y (eNot fa)) :=
 PE.imp (pe_not ha) fun σ H Q hq=>ex8 hq fun H0 B0 B τ P F I h=>tM.seq I h fun d v H1 B1 fp _ I1 _ _ r1 _ h1=>by
  obtain ⟨c,rfl,_,h2⟩:=asB_cases r1 h1
  exact ⟨c,rfl,Out.here h2 I1 ⟨rfl,rfl⟩⟩
def eUn (g:D->Res D) (f:SD->Res D) (τ:SD):Res D:=(f τ).bind g
def negD:D->Res D | .int i=>.ok (.int (-i)) | _=>.bad
theorem q_neg (ha:PE X a (tM X.K Y fa)):PE X (.UnaryOp .USub a pos) (tM X.K Y (eUn negD fa)) :=
 PE.imp (pe_un un_neg ha) fun σ H Q hq=>ex8 hq fun H0 B0 B τ P F I h=>tM.seq I h fun d v H1 B1 fp _ I1 _ _ r1 _ h1=>by
  cases d with
  | int i=>exact ⟨i,r1.1,Out.here h1 I1 ⟨rfl,rfl⟩⟩
  | _=>exact h1.elim
def aNil (_:SD):Res (List D) := .ok []
def aCons (f:SD->Res D) (g:SD->Res (List D)) (τ:SD):Res (List D):=(f τ).bind fun d=>(g τ).bind fun ds=>.ok (d :: ds)
variable {e:Expr}{es:List Expr}{fe:SD->Res D}{fs:SD->Res (List D)}
theorem qa_nil:PA X [] (tML X.K Y aNil):=PA.imp pa_nil fun σ H Q hq=>ex8 hq fun H0 B0 B τ P F I h=>h [] H B [] I (Same.refl _) (Same.refl _) ⟨rfl,rfl⟩ Vok.nil
theorem qa_cons (ha:PE X e (tM X.K Y fe)) (hr:PA X es (tML X.K Y fs)) (hs:starEach (e :: es) X.env=(false,eval e X.env) :: starEach es X.env:=by rfl):PA X (e :: es) (tML X.K Y (aCons fe fs)):=by
 refine PA.imp (pa_cons ha hr hs) fun σ H Q hq=>ex8 hq fun H0 B0 B τ P F I h=>?_
 refine ⟨H0,B0,B,τ,P,F,I,?_⟩
 unfold aCons at h
 cases z:fe τ with
 | exn C=>rw [z] at h; exact h
 | bad=>rw [z] at h; exact h
 | ok d =>
  rw [z] at h
  intro v H1 B1 fp I1 s1 b1 r1 k1
  refine ⟨H0,B0,B1,τ,P,_,I1.hold k1,?_⟩
  cases y:fs τ with
  | exn C=>rw [y] at h; exact OutX.later h s1 b1 fun a x=>.inr x
  | bad=>rw [y] at h; exact h
  | ok ds =>
   rw [y] at h
   intro vs H2 B2 fq I2 s2 b2 r2 k2
   exact h (v :: vs) H2 B2 (fp ++ fq) (I2.anti fun a x=>.inr x) (s1.trans s2) (b1.trans b2) ⟨v,vs,fp,fq,rfl,r1.mono s2 b2 (fun _ x=>x),r2,rfl⟩ (k1.both s2 I2 k2)
theorem tML.seq {f:SD->Res (List D)}{Q':List V->Hp->Prop}{g:List D->Res D}{Q:VK} (I:SI K H0 B0 B H σ τ P F) (h:Goal K Y H0 B0 B H σ τ P F Q ((f τ).bind g))
  (k:∀ ds vs H1 B1 fp,f τ=.ok ds->SI K H0 B0 B1 H1 σ τ P F->Same H H1->Same B B1->RepL K B1 (· ∈ P) H1 ds vs fp->Vok H0 B1 H1 P F fp->Goal K Y H0 B0 B1 H1 σ τ P F Q (g ds)->Q' vs H1):tML K Y f σ H Q' := by
 refine ⟨H0,B0,B,τ,P,F,I,?_⟩
 cases e:f τ with
 | ok d =>
  rw [e] at h
  intro v H1 B1 fp I1 s1 b1 r1 k1
  exact k d v H1 B1 fp e I1 s1 b1 r1 k1 (Goal.later h s1 b1)
 | exn C=>rw [e] at h; exact h
 | bad=>rw [e] at h; exact h
def tupD (ds:List D):Res D:=if ds.length <= 16777216 then .ok (.tup ds) else .bad
def lstD (ds:List D):Res D:=if ds.length <= 16777216 then .ok (.lst .own ds) else .bad
def eA (g:List D->Res D) (f:SD->Res (List D)) (τ:SD):Res D:=(f τ).bind g
theorem q_tup {x1} (h:PA X es (tML X.K Y fs)):PE X (.Tuple es x1 pos) (tM X.K Y (eA tupD fs)) :=
 PE.imp (pe_tup h) fun σ H Q hq=>ex8 hq fun H0 B0 B τ P F I h=>tML.seq I h fun ds vs H1 B1 fp _ I1 _ _ r1 k1 h1=>by
  unfold tupD at h1
  split at h1
  ·rename_i hl
   exact ⟨by rw [<- r1.length]; exact isz hl,fun p hp=>Out.newT h1 I1 r1 k1 hp⟩
  ·exact h1.elim
theorem q_lst (h:PA X es (tML X.K Y fs)):PE X (.List es pos) (tM X.K Y (eA lstD fs)) :=
 PE.imp (pe_lst h) fun σ H Q hq=>ex8 hq fun H0 B0 B τ P F I h=>tML.seq I h fun ds vs H1 B1 fp _ I1 _ _ r1 k1 h1=>by
  unfold lstD at h1
  split at h1
  ·rename_i hl
   exact ⟨by rw [<- r1.length]; exact isz hl,fun p hp=>Out.newL h1 I1 r1 k1 hp⟩
  ·exact h1.elim
def CallD (K:PySem.W.Frag) (Y:XY) (r:List V->Hp->VK->Prop) (g:List D->Res D):Prop := ∀ {H0 B0 B H:Hp}{σ:L2.St}{τ:SD}{P:List Addr}{F:Addr->Prop}{ds:List D}{vs:List V}{f:List Addr}{Q:VK},
 SI K H0 B0 B H σ τ P F->RepL K B (· ∈ P) H ds vs f->Vok H0 B H P F f->Goal K Y H0 B0 B H σ τ P F Q (g ds)->r vs H Q
theorem q_callB {x:Str}{id:String}{p:Pos}{r:List V->Hp->VK->Prop}{g:List D->Res D} (hc:CallR X (.builtin id) r) (hgd:CallD X.K Y r g) (hg:Gl X x) (hm:X.mg x=none) (hv:bootBuiltins x=some (.builtin id)) (ha:PA X (e :: es) (tML X.K Y fs)) (hn:x ≠ "__name__" := by decide) (hdb:(x == ("__debug__" : Str))=false:=by decide)
  (he:starEach (e :: es) X.env=(false,eval e X.env) :: starEach es X.env:=by rfl) (hpl:(backTo pos (starEach es X.env)).any (·.1)=false:=by rfl) :
  PE X (.Call (.Name x p) (e :: es) [] pos) (tM X.K Y (eA g fs)) :=
 PE.imp (pe_callB hc hg hm hv ha hn hdb he hpl) fun σ H Q hq=>ex8 hq fun H0 B0 B τ P F I h=>tML.seq I h fun ds vs H1 B1 fp _ I1 _ _ r1 k1 h1=>hgd I1 r1 k1 h1
theorem q_callTy {x:Str}{T:String}{p:Pos}{r:List V->Hp->VK->Prop}{g:List D->Res D} (hc:CallR X (.type T) r) (hgd:CallD X.K Y r g) (hg:Gl X x) (hm:X.mg x=none) (hv:bootBuiltins x=some (.type T)) (ha:PA X (e :: es) (tML X.K Y fs)) (hn:x ≠ "__name__" := by decide) (hdb:(x == ("__debug__" : Str))=false:=by decide)
  (he:starEach (e :: es) X.env=(false,eval e X.env) :: starEach es X.env:=by rfl) (hpl:(backTo pos (starEach es X.env)).any (·.1)=false:=by rfl) :
  PE X (.Call (.Name x p) (e :: es) [] pos) (tM X.K Y (eA g fs)) :=
 PE.imp (pe_callTy hc hg hm hv ha hn hdb he hpl) fun σ H Q hq=>ex8 hq fun H0 B0 B τ P F I h=>tML.seq I h fun ds vs H1 B1 fp _ I1 _ _ r1 k1 h1=>hgd I1 r1 k1 h1
theorem repL1 {S:Addr->Prop}{d:D}{vs:List V}{f:List Addr} (r:RepL K B S H [d] vs f):∃ v,vs=[v]/\Rep K B S H d v f:=by
 obtain ⟨v,w,f1,f2,rfl,r1,r2,rfl⟩:=r
 obtain ⟨rfl,rfl⟩:=r2
 exact ⟨v,rfl,by rw [List.append_nil]; exact r1⟩
theorem repL2 {S:Addr->Prop}{d e:D}{vs:List V}{f:List Addr} (r:RepL K B S H [d,e] vs f):∃ v u f1 f2,vs=[v,u]/\f=f1 ++ f2/\Rep K B S H d v f1/\Rep K B S H e u f2:=by
 obtain ⟨v,w,f1,f2,rfl,r1,r2,rfl⟩:=r
 obtain ⟨u,rfl,r3⟩:=repL1 r2
 exact ⟨v,u,f1,f2,rfl,rfl,r1,r3⟩
def lenD:List D->Res D
 | [.lst _ xs]=>.ok (.int xs.length)
 | [.tup xs]=>.ok (.int xs.length)
 | [.str z]=>if z.length <= 16777216 then .ok (.int z.length) else .bad
 | _=>.bad
abbrev rLen (K:PySem.W.Frag):List V->Hp->VK->Prop:=fun xs H Q=>(∃ p ys,xs=[.ref p]/\(SqL K H p ys ∨ SqT K H p ys)/\Q (.int ys.length) H) ∨ ∃ z,xs=[.str z]/\z.length <= sizeLine/\Q (.int z.length) H
theorem call_lenA:CallR X (.builtin "len") (rLen X.K):=CallR.or call_len_seq call_len_str
theorem d_len:CallD K Y (rLen K) lenD:=by
 intro H0 B0 B H σ τ P F ds vs f Q I r k h
 unfold lenD at h
 split at h
 ·obtain ⟨v,rfl,r'⟩:=repL1 r
  obtain ⟨a,ws,g,rfl,q,l,s⟩:=r'.lst I
  refine .inl ⟨a,ws,rfl,.inl (sqL_of q),?_⟩
  rw [<- l.length]
  exact Out.here h I ⟨rfl,rfl⟩
 ·obtain ⟨v,rfl,r'⟩:=repL1 r
  obtain ⟨a,ws,rfl,q,l⟩:=r'.tp
  refine .inl ⟨a,ws,rfl,.inr q,?_⟩
  rw [<- l.length]
  exact Out.here h I ⟨rfl,rfl⟩
 ·obtain ⟨v,rfl,r'⟩:=repL1 r
  obtain ⟨rfl,rfl⟩:=r'
  split at h
  ·rename_i hl
   exact .inr ⟨_,rfl,isz hl,Out.here h I ⟨rfl,rfl⟩⟩
  ·exact h.elim
 ·exact h.elim
def max2D:List D->Res D | [.int i,.int j]=>.ok (.int (if j > i then j else i)) | _=>.bad
def min2D:List D->Res D | [.int i,.int j]=>.ok (.int (if j < i then j else i)) | _=>.bad
theorem d_max2:CallD K Y (fun xs H Q=>∃ i j,xs=[.int i,.int j]/\Q (.int (if j > i then j else i)) H) max2D:=by
 intro H0 B0 B H σ τ P F ds vs f Q I r k h
 unfold max2D at h
 split at h
 ·obtain ⟨v,u,f1,f2,rfl,rfl,⟨rfl,rfl⟩,⟨rfl,rfl⟩⟩:=repL2 r
  exact ⟨_,_,rfl,Out.here h I ⟨rfl,rfl⟩⟩
 ·exact h.elim
theorem d_min2:CallD K Y (fun xs H Q=>∃ i j,xs=[.int i,.int j]/\Q (.int (if j < i then j else i)) H) min2D:=by
 intro H0 B0 B H σ τ P F ds vs f Q I r k h
 unfold min2D at h
 split at h
 ·obtain ⟨v,u,f1,f2,rfl,rfl,⟨rfl,rfl⟩,⟨rfl,rfl⟩⟩:=repL2 r
  exact ⟨_,_,rfl,Out.here h I ⟨rfl,rfl⟩⟩
 ·exact h.elim
def tupleD:List D->Res D
 | [.lst _ xs]=>.ok (.tup xs)
 | [.tup xs]=>.ok (.tup xs)
 | _=>.bad
theorem d_tuple:CallD K Y (fun xs H Q=>∃ p ys,xs=[.ref p]/\((SqL K H p ys/\∀ l,H l=none->Q (.ref l) (upd H l (.tup ys))) ∨ (SqT K H p ys/\Q (.ref p) H))) tupleD:=by
 intro H0 B0 B H σ τ P F ds vs f Q I r k h
 unfold tupleD at h
 split at h
 ·obtain ⟨v,rfl,r'⟩:=repL1 r
  obtain ⟨a,ws,g,rfl,q,l,s⟩:=r'.lst I
  exact ⟨a,ws,rfl,.inl ⟨sqL_of q,fun p hp=>Out.newT h I l (k.sub s) hp⟩⟩
 ·obtain ⟨v,rfl,r'⟩:=repL1 r
  obtain ⟨a,ws,rfl,q,l⟩:=r'.tp
  exact ⟨a,ws,rfl,.inr ⟨q,Out.hereO h I r' k⟩⟩
 ·exact h.elim
def eP (f:SD->Res D) (τ:SD):Res (Option Int):=(f τ).bind fun d=>match d with | .int i=>.ok (some i) | _=>.bad
def eP0 (_:SD):Res (Option Int) := .ok none
def tMO (K:PySem.W.Frag) (Y:XY) (f:SD->Res (Option Int)):TO:=fun σ H Q=>∃ H0 B0 B τ P F,SI K H0 B0 B H σ τ P F/\match f τ with
 | .ok o=>∀ H' B',SI K H0 B0 B' H' σ τ P F->Same H H'->Same B B'->Q o H'
 | .exn C=>OutX K Y H0 B0 B H σ τ P F C
 | .bad=>False
theorem PO.imp {e:Option Expr}{t t':TO} (h:PO X e t) (hi:∀ σ H Q,t' σ H Q->t σ H Q):PO X e t' := fun pins s σ H Q I hw=>h pins s σ H Q I (hi σ H Q hw)
theorem qo_none:PO X none (tMO X.K Y eP0):=PO.imp po_none fun σ H Q hq=>ex8 hq fun H0 B0 B τ P F I h=>h H B I (Same.refl _) (Same.refl _)
theorem qo_some (h:PE X e (tM X.K Y fe)):PO X (some e) (tMO X.K Y (eP fe)):=by
 refine PO.imp (po_some h) fun σ H Q hq=>ex8 hq fun H0 B0 B τ P F I h=>?_
 refine ⟨H0,B0,B,τ,P,F,I,?_⟩
 unfold eP at h
 cases z:fe τ with
 | exn C=>rw [z] at h; exact h
 | bad=>rw [z] at h; exact h
 | ok d =>
  rw [z] at h
  intro v H1 B1 fp I1 s1 b1 r1 k1
  cases d with
  | int i=>exact ⟨i,r1.1,h H1 B1 I1 s1 b1⟩
  | _=>exact h.elim
def cut {α:Type} (xs:List α) (lo hi:Option Int):List α:=(xs.drop (HT.sIx xs.length 0 lo)).take (HT.sIx xs.length xs.length hi - HT.sIx xs.length 0 lo)
theorem RepL.drop {S:Addr->Prop}:∀ (n:Nat) {xs:List D}{vs:List V}{f:List Addr},RepL K B S H xs vs f->∃ g,RepL K B S H (xs.drop n) (vs.drop n) g/\List.Sublist g f
 | 0,xs,vs,f,r=>⟨f,r,List.Sublist.refl _⟩
 | n + 1,[],vs,f,r=>by
  obtain ⟨rfl,rfl⟩:=r
  exact ⟨[],⟨rfl,rfl⟩,List.Sublist.refl _⟩
 | n + 1,d :: ds,vs,f,r=>by
  obtain ⟨v,w,f1,f2,rfl,r1,r2,rfl⟩:=r
  obtain ⟨g,h1,h2⟩:=RepL.drop n r2
  exact ⟨g,h1,h2.trans (List.sublist_append_right _ _)⟩
theorem RepL.take {S:Addr->Prop}:∀ (n:Nat) {xs:List D}{vs:List V}{f:List Addr},RepL K B S H xs vs f->∃ g,RepL K B S H (xs.take n) (vs.take n) g/\List.Sublist g f
 | 0,xs,vs,f,r=>⟨[],⟨rfl,rfl⟩,List.nil_sublist _⟩
 | n + 1,[],vs,f,r=>by
  obtain ⟨rfl,rfl⟩:=r
  exact ⟨[],⟨rfl,rfl⟩,List.Sublist.refl _⟩
 | n + 1,d :: ds,vs,f,r=>by
  obtain ⟨v,w,f1,f2,rfl,r1,r2,rfl⟩:=r
  obtain ⟨g,h1,h2⟩:=RepL.take n r2
  exact ⟨f1 ++ g,⟨v,_,f1,g,rfl,r1,h1,rfl⟩,List.Sublist.append (List.Sublist.refl _) h2⟩
theorem RepL.cut {S:Addr->Prop}{xs:List D}{vs:List V}{f:List Addr} (r:RepL K B S H xs vs f) (lo hi:Option Int):∃ g,RepL K B S H (cut xs lo hi) (cutV vs lo hi) g/\List.Sublist g f:=by
 unfold DL.cut cutV
 rw [r.length]
 obtain ⟨g,h1,h2⟩:=r.drop (HT.sIx vs.length 0 lo)
 obtain ⟨g',h3,h4⟩:=h1.take (HT.sIx vs.length vs.length hi - HT.sIx vs.length 0 lo)
 exact ⟨g',h3,h4.trans h2⟩
def cutD (d:D) (lo hi:Option Int):Res D:=match d with
 | .lst _ xs=>.ok (.lst .own (cut xs lo hi))
 | .tup xs=>if HT.sIx xs.length 0 lo=0/\HT.sIx xs.length xs.length hi=xs.length then .bad else .ok (.tup (cut xs lo hi))
 | _=>.bad
def eCut (f:SD->Res D) (lo hi:SD->Res (Option Int)) (τ:SD):Res D:=(f τ).bind fun d=>(lo τ).bind fun l=>(hi τ).bind fun u=>cutD d l u
theorem q_slice {lo hi:Option Expr}{fl fh:SD->Res (Option Int)}{p2:Pos} (he:PE X e (tM X.K Y fe)) (hl:PO X lo (tMO X.K Y fl)) (hu:PO X hi (tMO X.K Y fh)):PE X (.Subscript e (.Slice lo hi none p2) pos) (tM X.K Y (eCut fe fl fh)):=by
 refine PE.imp (pe_slice (SlR.or sl_list sl_tup) he hl hu) fun σ H Q hq=>ex8 hq fun H0 B0 B τ P F I h=>?_
 refine tM.seq I h fun d v H1 B1 fp _ I1 s1 b1 r1 k1 h1=>?_
 refine ⟨H0,B0,B1,τ,P,_,I1.hold k1,?_⟩
 cases z:fl τ with
 | exn C=>rw [z] at h1; exact OutX.later h1 (Same.refl _) (Same.refl _) fun a x=>.inr x
 | bad=>rw [z] at h1; exact h1
 | ok l =>
  rw [z] at h1
  intro H2 B2 I2 s2 b2
  refine ⟨H0,B0,B2,τ,P,_,I2,?_⟩
  cases y:fh τ with
  | exn C=>rw [y] at h1; exact OutX.later h1 s2 b2 fun a x=>.inr x
  | bad=>rw [y] at h1; exact h1
  | ok u =>
   rw [y] at h1
   intro H3 B3 I3 s3 b3
   have I4:=I3.anti (F' := F) fun a x=>.inr x
   have k4:=k1.still (s2.trans s3) I3
   have r4:=r1.mono (s2.trans s3) (b2.trans b3) fun _ x=>x
   have h4:Goal X.K Y H0 B0 B3 H3 σ τ P F Q (cutD d l u):=Goal.later h1 (s2.trans s3) (b2.trans b3)
   unfold cutD at h4
   split at h4
   ·obtain ⟨a,vs,g,rfl,q,l',s⟩:=r4.lst I4
    obtain ⟨g',l2,s2⟩:=l'.cut l u
    exact .inl ⟨a,vs,rfl,sqL_of q,fun p hp=>Out.newL h4 I4 l2 (k4.sub (s2.trans s)) hp⟩
   ·obtain ⟨a,vs,rfl,q,l'⟩:=r4.tp
    obtain ⟨g',l2,s2⟩:=l'.cut l u
    split at h4
    ·exact h4.elim
    ·rename_i hc
     rw [l'.length] at hc
     exact .inr ⟨a,vs,rfl,q,hc,fun p hp=>Out.newT h4 I4 l2 (k4.sub s2) hp⟩
   ·exact h4.elim
end
inductive Fl where | nx (τ:SD) | rt (d:D) | bk (τ:SD) | ct (τ:SD) | ex (C:Addr) (τ:SD) | bad
abbrev SF:=SD->Fl
def Tg.unbor:Tg->Tg | .bor=>.frz | t=>t
mutual
def D.unbor:D->D
 | .tup xs=>.tup (unborL xs)
 | .lst t xs=>.lst t.unbor (unborL xs)
 | .dct t k ks vs=>.dct t.unbor k ks (unborL vs)
 | d=>d
def unborL:List D->List D
 | []=>[]
 | d :: r=>d.unbor :: unborL r
end
mutual
theorem unbor_id:∀ d:D,d.hasBor=false->d.unbor=d
 | .non,_=>rfl
 | .bl _,_=>rfl
 | .int _,_=>rfl
 | .str _,_=>rfl
 | .exc _,_=>rfl
 | .tup xs,h=>by
  have h:hasBorL xs=false:=h
  show D.tup (unborL xs)=_
  rw [unborL_id xs h]
 | .lst t xs,h=>by
  have h:(decide (t=.bor) || hasBorL xs)=false:=h
  rw [Bool.or_eq_false_iff] at h
  show D.lst t.unbor (unborL xs)=_
  rw [unborL_id xs h.2]
  cases t <;> first | rfl | exact absurd h.1 (by decide)
 | .dct t k ks vs,h=>by
  have h:(decide (t=.bor) || hasBorL vs)=false:=h
  rw [Bool.or_eq_false_iff] at h
  show D.dct t.unbor k ks (unborL vs)=_
  rw [unborL_id vs h.2]
  cases t <;> first | rfl | exact absurd h.1 (by decide)
theorem unborL_id:∀ xs:List D,hasBorL xs=false->unborL xs=xs
 | [],_=>rfl
 | d :: r,h=>by
  have h:(d.hasBor || hasBorL r)=false:=h
  rw [Bool.or_eq_false_iff] at h
  show d.unbor :: unborL r=_
  rw [unbor_id d h.1,unborL_id r h.2]
end
section
variable {K:PySem.W.Frag}
mutual
theorem Rep.unbor {B B' H:Hp}{S:Addr->Prop} (sB:Same B B') (hs:∀ a o,S a->H a=some o->B' a=some o):∀ {d:D}{v:V}{fp:List Addr},Rep K B S H d v fp->Rep K B' No H d.unbor v fp
 | .non,_,_,h=>h
 | .bl _,_,_,h=>h
 | .int _,_,_,h=>h
 | .str _,_,_,h=>h
 | .exc _,_,_,h=>h
 | .tup xs,v,fp,h=>let ⟨a,vs,e,q,r⟩:=h; ⟨a,vs,e,q,RepL.unbor sB hs r⟩
 | .lst .own xs,v,fp,h=>let ⟨a,vs,f,e,q,r,z⟩:=h; ⟨a,vs,f,e,q,RepL.unbor sB hs r,z⟩
 | .lst .bor xs,v,fp,h=>let ⟨a,vs,e,q,r,z⟩:=h; ⟨a,vs,e,sqL_to sB hs q,RepL.unbor sB hs r,z⟩
 | .lst .frz xs,v,fp,h=>let ⟨a,vs,e,q,r,z⟩:=h; ⟨a,vs,e,rd_mono sB q,RepL.unbor sB (fun _ _ x=>x.elim) r,z⟩
 | .lst (.len _) _,_,_,h=>h.elim
 | .dct (.len a) kd ks xs,v,fp,h=>let ⟨vs,f,e,q,r,z⟩:=h; ⟨vs,f,e,q,RepL.unbor sB hs r,z⟩
 | .dct .own kd ks xs,v,fp,h=>let ⟨a,vs,f,e,q,r,z⟩:=h; ⟨a,vs,f,e,q,RepL.unbor sB hs r,z⟩
 | .dct .bor kd ks xs,v,fp,h=>let ⟨a,vs,e,q,r,z⟩:=h; ⟨a,vs,e,dictAt_to sB hs q,RepL.unbor sB hs r,z⟩
 | .dct .frz kd ks xs,v,fp,h=>let ⟨a,vs,e,q,r,z⟩:=h; ⟨a,vs,e,q.mono sB,RepL.unbor sB (fun _ _ x=>x.elim) r,z⟩
theorem RepL.unbor {B B' H:Hp}{S:Addr->Prop} (sB:Same B B') (hs:∀ a o,S a->H a=some o->B' a=some o):∀ {ds:List D}{vs:List V}{fp:List Addr},RepL K B S H ds vs fp->RepL K B' No H (unborL ds) vs fp
 | [],_,_,h=>h
 | d :: ds,vs,fp,h=>let ⟨v,r,f,g,e,h1,h2,z⟩:=h; ⟨v,r,f,g,e,Rep.unbor sB hs h1,RepL.unbor sB hs h2,z⟩
end
def Imm (H H':Hp):Prop := ∀ a o,H a=some o->¬ mutO o->H' a=some o
theorem Imm.of {H H':Hp} (s:Same H H'):Imm H H' := fun a o h _=>s a o h
theorem Imm.refl (H:Hp):Imm H H:=fun _ _ h _=>h
theorem Imm.trans {H H1 H2:Hp} (a:Imm H H1) (b:Imm H1 H2):Imm H H2:=fun x o h n=>b x o (a x o h n) n
structure Aft (K:PySem.W.Frag) (H0 B0 B H:Hp) (B' H':Hp) (σ':L2.St) (τ':SD) (P':List Addr):Prop where
 si:SI K H0 B0 B' H' σ' τ' P' No
 b:Same B B'
 imm:Imm H H'
structure RetOk (K:PySem.W.Frag) (H0 B0 B' H':Hp) (d:D) (v:V) (fp:List Addr):Prop where
 h0:Same H0 H'
 b0:Same B0 B'
 bh:Same B' H'
 nb:∀ a,B' a ≠ none->B0 a ≠ none ∨ H0 a=none
 rep:Rep K B' No H' d v fp
 nd:fp.Nodup
 own:∀ a ∈ fp,B' a=none/\H0 a=none/\H' a ≠ none
def RtL (K:PySem.W.Frag) (H0 B0:Hp) (E:Ends):D->Prop
 | .tup [r,x]=>∀ B' H' v u f1 f2,RetOk K H0 B0 B' H' r v f1->Rep K B' No H' x u f2->(f1 ++ f2).Nodup->(∀ b ∈ f2,B' b=none/\H0 b=none/\H' b ≠ none)->E.rt v H'
 | _=>False
def GoalS (K:PySem.W.Frag) (Y:XY) (H0 B0 B H:Hp) (E:Ends):Fl->Prop
 | .nx τ'=>∀ B' H' σ' P',Aft K H0 B0 B H B' H' σ' τ' P'->E.nx σ' H'
 | .bk τ'=>∀ B' H' σ' P',Aft K H0 B0 B H B' H' σ' τ' P'->E.bk σ' H'
 | .ct τ'=>∀ B' H' σ' P',Aft K H0 B0 B H B' H' σ' τ' P'->E.ct σ' H'
 | .ex C τ'=>∀ B' H' σ' P',Aft K H0 B0 B H B' H' σ' τ' P'->Y C σ' H'
 | .rt d=>match Y.ln with
  | false=>∀ B' H' v fp,RetOk K H0 B0 B' H' d v fp->E.rt v H'
  | true=>RtL K H0 B0 E d
 | .bad=>False
def tMS (K:PySem.W.Frag) (Y:XY) (g:SF):TS:=fun E σ H=>∃ H0 B0 B τ P,SI K H0 B0 B H σ τ P No/\GoalS K Y H0 B0 B H E (g τ)
variable {Y:XY}{H0 B0 B H:Hp}{σ:L2.St}{τ:SD}{P:List Addr}{F:Addr->Prop}{E:Ends}
theorem Aft.refl (I:SI K H0 B0 B H σ τ P No):Aft K H0 B0 B H B H σ τ P:=⟨I,Same.refl _,Imm.refl _⟩
theorem Aft.grow {B' H':Hp} (I:SI K H0 B0 B' H' σ τ P No) (sB:Same B B') (sH:Same H H'):Aft K H0 B0 B H B' H' σ τ P:=⟨I,sB,Imm.of sH⟩
theorem Aft.trans {B1 H1 B2 H2:Hp}{σ1 σ2:L2.St}{τ1 τ2:SD}{P1 P2:List Addr} (a:Aft K H0 B0 B H B1 H1 σ1 τ1 P1) (b:Aft K H0 B0 B1 H1 B2 H2 σ2 τ2 P2):Aft K H0 B0 B H B2 H2 σ2 τ2 P2:=⟨b.si,a.b.trans b.b,a.imm.trans b.imm⟩
theorem GoalS.later {B1 H1:Hp}{σ1:L2.St}{τ1:SD}{P1:List Addr}{r:Fl} (h:GoalS K Y H0 B0 B H E r) (a:Aft K H0 B0 B H B1 H1 σ1 τ1 P1):GoalS K Y H0 B0 B1 H1 E r:=by
 cases r with
 | nx τ'=>exact fun B' H' σ' P' b=>h B' H' σ' P' (a.trans b)
 | bk τ'=>exact fun B' H' σ' P' b=>h B' H' σ' P' (a.trans b)
 | ct τ'=>exact fun B' H' σ' P' b=>h B' H' σ' P' (a.trans b)
 | ex C τ'=>exact fun B' H' σ' P' b=>h B' H' σ' P' (a.trans b)
 | rt d=>exact h
 | bad=>exact h
theorem GoalS.rt {d:D} (hl:Y.ln=false) (h:GoalS K Y H0 B0 B H E (.rt d)):∀ B' H' v fp,RetOk K H0 B0 B' H' d v fp->E.rt v H' := by
 have h:(match Y.ln with | false=>∀ B' H' v fp,RetOk K H0 B0 B' H' d v fp->E.rt v H' | true=>RtL K H0 B0 E d):=h
 rw [hl] at h
 exact h
theorem GoalS.rtL {d:D} (hl:Y.ln=true) (h:GoalS K Y H0 B0 B H E (.rt d)):RtL K H0 B0 E d:=by
 have h:(match Y.ln with | false=>∀ B' H' v fp,RetOk K H0 B0 B' H' d v fp->E.rt v H' | true=>RtL K H0 B0 E d):=h
 rw [hl] at h
 exact h
def Fl.andThen (r:Fl) (s:SF):Fl:=match r with | .nx τ=>s τ | r=>r
def sSeq (a b:SF) (τ:SD):Fl:=(a τ).andThen b
def sNext (τ:SD):Fl := .nx τ
variable {X:Cx}{st:Stmt}{rest:List Stmt}{g g1 g2:SF}{pos:Pos}
theorem ss_nil:PSs X [] (tMS X.K Y sNext):=PSs.imp pss_nil fun E σ H hq=>ex7 hq fun H0 B0 B τ P I h=>h B H σ P (Aft.refl I)
theorem ss_one (h:PS X st (tMS X.K Y g)):PSs X [st] (tMS X.K Y g):=pss_one h
theorem ss_cons (h1:PS X st (tMS X.K Y g1)) (h2:PSs X rest (tMS X.K Y g2)):PSs X (st :: rest) (tMS X.K Y (sSeq g1 g2)):=by
 refine PSs.imp (pss_cons h1 h2) fun E σ H hq=>ex7 hq fun H0 B0 B τ P I h=>⟨H0,B0,B,τ,P,I,?_⟩
 unfold sSeq at h
 cases e:g1 τ with
 | nx τ'=>rw [e] at h; exact fun B' H' σ' P' a=>⟨H0,B0,B',τ',P',a.si,GoalS.later h a⟩
 | bk τ'=>rw [e] at h; exact h
 | ct τ'=>rw [e] at h; exact h
 | ex C τ'=>rw [e] at h; exact h
 | rt d=>rw [e] at h; exact h
 | bad=>rw [e] at h; exact h
def Res.toFl (τ:SD) (r:Res D) (k:D->Fl):Fl:=match r with | .ok d=>k d | .exn C=>.ex C τ | .bad=>.bad
def Res.toFlB (τ:SD) (r:Res Bool) (k:Bool->Fl):Fl:=match r with | .ok d=>k d | .exn C=>.ex C τ | .bad=>.bad
theorem exprS {f:SD->Res D}{k:D->Fl}{Q:VK} (I:SI K H0 B0 B H σ τ P No) (h:GoalS K Y H0 B0 B H E ((f τ).toFl τ k))
  (c:∀ d v H1 B1 fp,f τ=.ok d->SI K H0 B0 B1 H1 σ τ P No->Same H H1->Same B B1->Rep K B1 (· ∈ P) H1 d v fp->Vok H0 B1 H1 P No fp->GoalS K Y H0 B0 B1 H1 E (k d)->Q v H1):tM K Y f σ H Q:=by
 refine ⟨H0,B0,B,τ,P,No,I,?_⟩
 cases e:f τ with
 | ok d =>
  rw [e] at h
  intro v H1 B1 fp I1 s1 b1 r1 k1
  exact c d v H1 B1 fp e I1 s1 b1 r1 k1 (GoalS.later h (Aft.grow I1 b1 s1))
 | exn C=>rw [e] at h; exact fun H1 B1 I1 s1 b1=>h B1 H1 σ P (Aft.grow I1 b1 s1)
 | bad=>rw [e] at h; exact h
theorem testS {f:SD->Res Bool}{k:Bool->Fl}{Q:Bool->Hp->Prop} (I:SI K H0 B0 B H σ τ P No) (h:GoalS K Y H0 B0 B H E ((f τ).toFlB τ k))
  (c:∀ d H1 B1,f τ=.ok d->SI K H0 B0 B1 H1 σ τ P No->Same H H1->Same B B1->GoalS K Y H0 B0 B1 H1 E (k d)->Q d H1):tMB K Y f σ H Q:=by
 refine ⟨H0,B0,B,τ,P,No,I,?_⟩
 cases e:f τ with
 | ok d=>rw [e] at h; exact fun H1 B1 I1 s1 b1=>c d H1 B1 e I1 s1 b1 (GoalS.later h (Aft.grow I1 b1 s1))
 | exn C=>rw [e] at h; exact fun H1 B1 I1 s1 b1=>h B1 H1 σ P (Aft.grow I1 b1 s1)
 | bad=>rw [e] at h; exact h
variable {e c:Expr}{fe:SD->Res D}{gc:SD->Res Bool}
def sIf (c:SD->Res Bool) (a b:SF) (τ:SD):Fl:=(c τ).toFlB τ fun t=>if t=true then a τ else b τ
theorem s_if {a b:List Stmt} (hc:PT X c (tMB X.K Y gc)) (ha:PSs X a (tMS X.K Y g1)) (hb:PSs X b (tMS X.K Y g2)):PS X (.If c a b pos) (tMS X.K Y (sIf gc g1 g2)) :=
 PS.imp (ps_if hc ha hb) fun E σ H hq=>ex7 hq fun H0 B0 B τ P I h=>testS I h fun d H1 B1 _ I1 _ _ h1=>by
  cases d with
  | true=>rw [if_pos rfl] at h1 ⊢; exact ⟨H0,B0,B1,τ,P,I1,h1⟩
  | false=>rw [if_neg Bool.false_ne_true] at h1 ⊢; exact ⟨H0,B0,B1,τ,P,I1,h1⟩
def atRest (B H:Hp) (S:Addr->Prop):Hp:=fun a=>by classical exact if S a then H a else B a
theorem rest_same {S:Addr->Prop} (h:Same B H):Same B (atRest B H S):=fun a o e=>by
 unfold atRest; split
 ·exact h a o e
 ·exact e
theorem rest_in {S:Addr->Prop}{a:Addr}{o:HO} (s:S a) (h:H a=some o):atRest B H S a=some o:=by unfold atRest; rw [if_pos s]; exact h
theorem rest_up {S:Addr->Prop} (h:Same B H):Same (atRest B H S) H:=fun a o e=>by
 unfold atRest at e; split at e
 ·exact e
 ·exact h a o e
theorem rest_out {S:Addr->Prop}{a:Addr} (s:¬ S a):atRest B H S a=B a:=by unfold atRest; rw [if_neg s]
def sRet (f:SD->Res D) (τ:SD):Fl:=(f τ).toFl τ fun d=>.rt d.unbor
theorem retOk_of {d:D}{v:V}{fp:List Addr} (I:SI K H0 B0 B H σ τ P F) (r:Rep K B (· ∈ P) H d v fp) (k:Vok H0 B H P F fp):RetOk K H0 B0 (atRest B H (· ∈ P)) H d.unbor v fp where
 h0:=I.h0
 b0:=I.b0.trans (rest_same I.bh)
 bh:=rest_up I.bh
 nb:=fun a n=>by
  by_cases m:a ∈ P
  ·exact .inr (I.own a m).2.1
  ·rw [rest_out m] at n; exact I.nb a n
 rep:=r.unbor (rest_same I.bh) fun a o s h=>rest_in s h
 nd:=k.nd
 own:=fun a m=>let ⟨a1,a2,a3,a4,_⟩:=k.own a m; ⟨by rw [rest_out a4]; exact a1,a2,a3⟩
theorem s_ret (he:PE X e (tM X.K Y fe)) (hl:Y.ln=false:=by rfl):PS X (.Return (some e) pos) (tMS X.K Y (sRet fe)) :=
 PS.imp (ps_ret he) fun E σ H hq=>ex7 hq fun H0 B0 B τ P I h=>exprS I h fun d v H1 B1 fp _ I1 _ _ r1 k1 h1=>(GoalS.rt hl h1) _ H1 v fp (retOk_of I1 r1 k1)
def sRetV (i:Nat) (τ:SD):Fl:=match τ[i]? with | some (some d)=>.rt d | _=>.bad
theorem s_retV (i:Nat) {x:Str}{pos':Pos} (hN:X.N[i]?=some x:=by rfl) (hv:Vis X.env.scope x:=by first | exact Or.inl rfl | exact Or.inr (Or.inl rfl) | exact Or.inr (Or.inr rfl)) (hd:(x == ("__debug__" : Str))=false:=by decide)
  (hcd:(x == ("__classdict__" : Str))=false:=by decide) (hl:Y.ln=false:=by rfl):PS X (.Return (some (.Name x pos')) pos) (tMS X.K Y (sRetV i)):=by
 refine PS.imp (ps_ret (pe_var hN hv hd hcd)) fun E σ H hq=>ex7 hq fun H0 B0 B τ P I h=>?_
 unfold sRetV at h
 cases e:τ[i]? with
 | none=>rw [e] at h; exact h.elim
 | some o =>
  cases o with
  | none=>rw [e] at h; exact h.elim
  | some d =>
   rw [e] at h
   obtain ⟨v,f,h1,h2,h3⟩:=I.rep.get e
   refine ⟨v,h1,(GoalS.rt hl h) B H v f ⟨I.h0,I.b0,I.bh,I.nb,h2,I.nd.sublist h3,fun a m=>?_⟩⟩
   obtain ⟨a1,a2,a3⟩:=I.own a (h3.subset m)
   exact ⟨a1,a2,I.stands (h3.subset m)⟩
theorem RepS.length {B H:Hp}:∀ {τ:SD}{σ:L2.St}{P:List Addr},RepS K B H τ σ P->τ.length=σ.length
 | [],_,_,h=>by rw [h.1]; rfl
 | none :: r,σ,P,h=>by obtain ⟨o,t,rfl,h⟩:=h; rw [List.length_cons,List.length_cons,RepS.length h]
 | some d :: r,σ,P,h=>by obtain ⟨v,t,f,g,rfl,_,h,_⟩:=h; rw [List.length_cons,List.length_cons,RepS.length h]
theorem RepS.cut {B H:Hp}:∀ {τ:SD}{σ:L2.St}{P:List Addr}{i:Nat},RepS K B H τ σ P->i < τ.length->∃ A f C,P=A ++ f ++ C/\(∀ d,τ[i]?=some (some d)->∃ v,σ[i]?=some (some v)/\Rep K B No H d v f) /\
  ∀ {B' H':Hp}{d':D}{v':V}{f':List Addr},(∀ d v g,Rep K B No H d v g->(∀ a ∈ g,a ∈ A ++ C)->Rep K B' No H' d v g)->Rep K B' No H' d' v' f'->RepS K B' H' (τ.set i (some d')) (σ.set i (some v')) (A ++ f' ++ C)
 | [],σ,P,i,h,hi=>absurd hi (Nat.not_lt_zero _)
 | none :: r,σ,P,0,h,hi=>by
  obtain ⟨o,t,rfl,h⟩:=h
  refine ⟨[],[],P,rfl,fun d e=>by simp at e,fun {B' H' d' v' f'} hm hr=>⟨v',t,f',P,rfl,hr,?_,rfl⟩⟩
  revert hm
  have key:∀ {τ:SD}{σ:L2.St}{Q:List Addr},RepS K B H τ σ Q->(∀ d v g,Rep K B No H d v g->(∀ a ∈ g,a ∈ Q)->Rep K B' No H' d v g)->RepS K B' H' τ σ Q:=by
   intro τ
   induction τ with
   | nil=>intro σ Q h _; exact h
   | cons o r ih =>
    intro σ Q h hm
    cases o with
    | none=>obtain ⟨o,t,e,h⟩:=h; exact ⟨o,t,e,ih h hm⟩
    | some d =>
     obtain ⟨v,t,f,g,e,h1,h2,z⟩:=h
     subst z
     exact ⟨v,t,f,g,e,hm d v f h1 (fun a m=>List.mem_append_left _ m),ih h2 (fun d v g' hr hg=>hm d v g' hr fun a m=>List.mem_append_right _ (hg a m)),rfl⟩
  exact fun hm=>key h hm
 | some d :: r,σ,P,0,h,hi=>by
  obtain ⟨v,t,f,g,rfl,h1,h2,rfl⟩:=h
  refine ⟨[],f,g,by simp,fun d' e=>⟨v,rfl,?_⟩,fun {B' H' d' v' f'} hm hr=>⟨v',t,f',g,rfl,hr,?_,rfl⟩⟩
  ·have e:d=d' := by simpa using e
   subst e
   exact h1
  ·have key:∀ {τ:SD}{σ:L2.St}{Q:List Addr},RepS K B H τ σ Q->(∀ d v g,Rep K B No H d v g->(∀ a ∈ g,a ∈ Q)->Rep K B' No H' d v g)->RepS K B' H' τ σ Q:=by
    intro τ
    induction τ with
    | nil=>intro σ Q h _; exact h
    | cons o r ih =>
     intro σ Q h hm
     cases o with
     | none=>obtain ⟨o,t,e,h⟩:=h; exact ⟨o,t,e,ih h hm⟩
     | some d =>
      obtain ⟨v,t,f,g,e,h1,h2,z⟩:=h
      subst z
      exact ⟨v,t,f,g,e,hm d v f h1 (fun a m=>List.mem_append_left _ m),ih h2 (fun d v g' hr hg=>hm d v g' hr fun a m=>List.mem_append_right _ (hg a m)),rfl⟩
   exact key h2 hm
 | none :: r,σ,P,i + 1,h,hi=>by
  obtain ⟨o,t,rfl,h⟩:=h
  obtain ⟨A,f,C,e,h1,h2⟩:=RepS.cut (i:=i) h (by simpa using hi)
  exact ⟨A,f,C,e,fun d z=>h1 d (by simpa using z),fun hm hr=>⟨o,_,rfl,h2 hm hr⟩⟩
 | some d :: r,σ,P,i + 1,h,hi=>by
  obtain ⟨v,t,f,g,rfl,r1,r2,rfl⟩:=h
  obtain ⟨A,f',C,e,h1,h2⟩:=RepS.cut (i:=i) r2 (by simpa using hi)
  subst e
  refine ⟨f ++ A,f',C,by simp,fun d z=>h1 d (by simpa using z),fun {B' H' d' v' f''} hm hr=>?_⟩
  refine ⟨v,_,f,A ++ f'' ++ C,rfl,hm d v f r1 fun a m=>by simp [m],h2 (fun d v g hr hg=>hm d v g hr fun a m=>?_) hr,by simp⟩
  have:=hg a m
  simp at this ⊢
  rcases this with z | z
  ·exact .inr (.inl z)
  ·exact .inr (.inr z)
theorem SI.put {i:Nat}{H1:Hp}{d':D}{v':V}{f':List Addr} (I:SI K H0 B0 B H σ τ P F) (hi:i < τ.length) {A f C:List Addr} (eP:P=A ++ f ++ C)
  (put:∀ {B' H':Hp}{d':D}{v':V}{f':List Addr},(∀ d v g,Rep K B No H d v g->(∀ a ∈ g,a ∈ A ++ C)->Rep K B' No H' d v g)->Rep K B' No H' d' v' f'->RepS K B' H' (τ.set i (some d')) (σ.set i (some v')) (A ++ f' ++ C))
  (kp:Keep H H1 f) (r:Rep K B No H1 d' v' f') (nd:f'.Nodup) (own:∀ a ∈ f',a ∈ f ∨ (B a=none/\H0 a=none/\H a=none/\¬ F a) ∨ (a ∉ P/\B a=none/\H0 a=none/\¬ F a)) :
  SI K H0 B0 B H1 (σ.set i (some v')) (τ.set i (some d')) (A ++ f' ++ C) F:=by
 have nd0:=I.nd
 rw [eP] at nd0
 have ndA:A.Nodup:=(nd0.sublist (by simp)).sublist (List.sublist_append_left A (f ++ C))
 have kb:∀ a o,B a=some o->a ∉ f:=fun a o e m=>by
  have:=(I.own a (by rw [eP]; simp [m])).1
  rw [e] at this; cases this
 have k0:∀ a o,H0 a=some o->a ∉ f:=fun a o e m=>by
  have:=(I.own a (by rw [eP]; simp [m])).2.1
  rw [e] at this; cases this
 have kf:∀ a,F a->a ∉ f:=fun a e m=>(I.own a (by rw [eP]; simp [m])).2.2 e
 have notin:∀ a ∈ f',a ∉ A/\a ∉ C:=fun a m=>by
  rcases own a m with q | q | q
  ·rw [List.append_assoc,List.nodup_append] at nd0
   obtain ⟨n1,n2,n3⟩:=nd0
   rw [List.nodup_append] at n2
   exact ⟨fun z=>n3 a z a (by simp [q]) rfl,fun z=>n2.2.2 a q a z rfl⟩
  ·exact ⟨fun z=>I.stands (a:=a) (by rw [eP]; simp [z]) q.2.2.1,fun z=>I.stands (a:=a) (by rw [eP]; simp [z]) q.2.2.1⟩
  ·exact ⟨fun z=>q.1 (by rw [eP]; simp [z]),fun z=>q.1 (by rw [eP]; simp [z])⟩
 refine ⟨fun a o e=>kp.keep a o (I.bh a o e) (kb a o e),fun a o e=>kp.keep a o (I.h0 a o e) (k0 a o e),I.b0,I.nb,?_,?_,fun a m=>?_,fun a m=>⟨(I.fr a m).1,fun z=>?_⟩⟩
 ·refine put (fun d v g hr hg=>hr.keep kp fun a m z=>?_) r
  have h1:=hg a m
  rw [List.append_assoc,List.nodup_append] at nd0
  obtain ⟨n1,n2,n3⟩:=nd0
  rw [List.nodup_append] at n2
  rcases List.mem_append.mp h1 with q | q
  ·exact n3 a q a (by simp [z]) rfl
  ·exact n2.2.2 a z a q rfl
 ·rw [List.append_assoc,List.nodup_append] at nd0 ⊢
  obtain ⟨n1,n2,n3⟩:=nd0
  rw [List.nodup_append] at n2
  refine ⟨n1,List.nodup_append.mpr ⟨nd,n2.2.1,fun a ha b hb e=>?_⟩,fun a ha b hb e=>?_⟩
  ·subst e; exact (notin a ha).2 hb
  ·subst e
   rcases List.mem_append.mp hb with q | q
   ·exact (notin a q).1 ha
   ·exact n3 a ha a (by simp [q]) rfl
 ·rcases List.mem_append.mp m with q | q
  ·rcases List.mem_append.mp q with q | q
   ·exact I.own a (by rw [eP]; simp [q])
   ·rcases own a q with q | q | q
    ·exact I.own a (by rw [eP]; simp [q])
    ·exact ⟨q.1,q.2.1,q.2.2.2⟩
    ·exact ⟨q.2.1,q.2.2.1,q.2.2.2⟩
  ·exact I.own a (by rw [eP]; simp [q])
 ·obtain ⟨o,e⟩:=Option.ne_none_iff_exists'.mp (I.fr a m).2
  rw [kp.keep a o e (kf a m)] at z
  cases z
theorem Keep.same {f:List Addr} (h:∀ a ∈ f,∃ o,H a=some o/\mutO o):Keep H H f:=⟨fun _ _ h _=>h,h⟩
theorem sublist_mid (A f C:List Addr):∀ a ∈ f,a ∈ A ++ f ++ C:=fun a m=>by simp [m]
theorem SI.set {d:D}{v:V}{fp:List Addr} (i:Nat) (I:SI K H0 B0 B H σ τ P F) (r:Rep K B No H d v fp) (k:Vok H0 B H P F fp):∃ P',SI K H0 B0 B H (σ.set i (some v)) (τ.set i (some d)) P' F/\∀ a ∈ P',a ∈ P ∨ a ∈ fp:=by
 by_cases hi:i < τ.length
 ·obtain ⟨A,f,C,e,h1,h2⟩:=I.rep.cut hi
  refine ⟨_,I.put hi e h2 (Keep.same fun a m=>I.rep.own a (by rw [e]; exact sublist_mid A f C a m)) r k.nd fun a m=>.inr (.inr ?_),fun a m=>?_⟩
  ·obtain ⟨a1,a2,a3,a4,a5⟩:=k.own a m
   exact ⟨a4,a1,a2,a5⟩
  ·rw [e]; simp at m ⊢; rcases m with m | m | m <;> simp [m]
 ·have e1:τ.set i (some d)=τ:=List.set_eq_of_length_le (by omega)
  have e2:σ.set i (some v)=σ:=List.set_eq_of_length_le (by rw [<- I.rep.length]; omega)
  rw [e1,e2]
  exact ⟨P,I,fun a m=>.inl m⟩
def setD (i:Nat) (τ:SD) (d:D):Fl:=if d.hasBor=true then .bad else .nx (τ.set i (some d))
def sSet (i:Nat) (f:SD->Res D) (τ:SD):Fl:=(f τ).toFl τ (setD i τ)
theorem s_set {i:Nat}{x:Str}{pos':Pos} (hN:X.N.Nodup) (hi:X.N[i]?=some x) (hx:Loc X.env.scope x) (he:PE X e (tM X.K Y fe)) (hs:swapsWith e (some (.Name x pos')) pos.line X.env=pure false:=by rfl) (hf:X.fn x=true ∨ X.env.scope.names.lookup x=some .local:=by first | exact .inl rfl | exact .inr rfl) :
  PS X (.Assign [.Name x pos'] e pos) (tMS X.K Y (sSet i fe)) :=
 PS.imp (ps_set hN hi hx he hs hf) fun E σ H hq=>ex7 hq fun H0 B0 B τ P I h=>exprS I h fun d v H1 B1 fp _ I1 _ _ r1 k1 h1=>by
  unfold setD at h1
  split at h1
  ·exact h1.elim
  ·rename_i hb
   obtain ⟨P',I',_⟩:=I1.set i (r1.noBor (by simpa using hb)) k1
   exact h1 B1 H1 _ P' ⟨I',Same.refl _,Imm.refl _⟩
def frzAt (js:List Nat) (τ:SD):SD:=js.foldl (fun t j=>match t[j]? with | some (some d)=>t.set j (some d.frz) | _=>t) τ
theorem SI.frz1 (j:Nat) {d:D} (I:SI K H0 B0 B H σ τ P No) (hd:τ[j]?=some (some d)):∃ B' P',Same B B'/\SI K H0 B0 B' H σ (τ.set j (some d.frz)) P' No:=by
 have hi:j < τ.length:=(List.getElem?_eq_some_iff.mp hd).1
 obtain ⟨A,f,C,e,h1,h2⟩:=I.rep.cut hi
 obtain ⟨v,e1,r1⟩:=h1 d hd
 have sB:Same B (atRest B H (· ∈ f)):=rest_same I.bh
 have nd0:=I.nd
 rw [e] at nd0
 have dis:∀ a ∈ A ++ C,a ∉ f:=fun a m z=>by
  rw [List.append_assoc,List.nodup_append] at nd0
  obtain ⟨n1,n2,n3⟩:=nd0
  rw [List.nodup_append] at n2
  rcases List.mem_append.mp m with q | q
  ·exact n3 a q a (by simp [z]) rfl
  ·exact n2.2.2 a z a q rfl
 have es:σ.set j (some v)=σ:=by
  refine List.ext_getElem? fun k=>?_
  by_cases hk:k=j
  ·subst hk
   rw [List.getElem?_set_self (List.getElem?_eq_some_iff.mp e1).1,e1]
  ·rw [List.getElem?_set_ne (Ne.symm hk)]
 have rr:=h2 (B' := atRest B H (· ∈ f)) (H' := H) (d' := d.frz) (v' := v) (f' := []) (fun d v g hr hg=>hr.mono (Same.refl _) sB fun _ x=>x) (r1.frz sB (fun a o s=>s.elim) fun a m o ho=>rest_in m ho)
 rw [es] at rr
 refine ⟨atRest B H (· ∈ f),A ++ [] ++ C,sB,rest_up I.bh,I.h0,I.b0.trans sB,fun a n=>?_,rr,?_,fun a m=>?_,fun a m=>m.elim⟩
 ·by_cases m:a ∈ f
  ·exact .inr (I.own a (by rw [e]; exact sublist_mid A f C a m)).2.1
  ·rw [rest_out m] at n; exact I.nb a n
 ·rw [List.append_nil]
  refine nd0.sublist ?_
  rw [List.append_assoc]
  exact List.Sublist.append (List.Sublist.refl _) (List.sublist_append_right _ _)
 ·rw [List.append_nil] at m
  obtain ⟨a1,a2,a3⟩:=I.own a (by rw [e]; rcases List.mem_append.mp m with q | q <;> simp [q])
  exact ⟨by rw [rest_out (dis a m)]; exact a1,a2,fun x=>x⟩
theorem SI.frzAt:∀ (js:List Nat) {B:Hp}{τ:SD}{P:List Addr},SI K H0 B0 B H σ τ P No->∃ B' P',Same B B'/\SI K H0 B0 B' H σ (DL.frzAt js τ) P' No
 | [],B,τ,P,I=>⟨B,P,Same.refl _,I⟩
 | j :: js,B,τ,P,I=>by
  unfold DL.frzAt
  rw [List.foldl_cons]
  cases e:τ[j]? with
  | none=>exact SI.frzAt js I
  | some o =>
   cases o with
   | none=>exact SI.frzAt js I
   | some d =>
    obtain ⟨B1,P1,s1,I1⟩:=I.frz1 j e
    obtain ⟨B2,P2,s2,I2⟩:=SI.frzAt js I1
    exact ⟨B2,P2,s1.trans s2,I2⟩
def sFrz (js:List Nat) (g:SF) (τ:SD):Fl:=g (frzAt js τ)
theorem s_frz (js:List Nat) (h:PS X st (tMS X.K Y g)):PS X st (tMS X.K Y (sFrz js g)):=PS.imp h fun E σ H hq=>ex7 hq fun H0 B0 B τ P I h=>by
 obtain ⟨B',P',s,I'⟩:=I.frzAt js
 exact ⟨H0,B0,B',_,P',I',GoalS.later h (Aft.grow I' s (Same.refl _))⟩
def ownL (τ:SD) (i:Nat):Option (List D):=match τ[i]? with | some (some (.lst .own xs))=>some xs | _=>none
theorem ownL_some {τ:SD}{i:Nat}{xs:List D} (h:ownL τ i=some xs):τ[i]?=some (some (.lst .own xs)):=by
 unfold ownL at h
 split at h
 ·rename_i e; cases h; exact e
 ·cases h
theorem SI.mutL {i:Nat}{xs xs':List D}{gp:List Addr}{a:Addr}{vs vs':List V} (I:SI K H0 B0 B H σ τ P No) (hi:τ[i]?=some (some (.lst .own xs))) (ev:σ[i]?=some (some (.ref a)))
  (k:Vok H0 B H P No gp)
  (items:∀ f,H a=some (.lst vs)->RepL K B No H xs vs f->∃ f',RepL K B No H xs' vs' f'/\(∀ b ∈ f',b ∈ f ∨ b ∈ gp)/\(f.Nodup->(∀ b ∈ gp,b ∉ f)->f'.Nodup)) (hv:H a=some (.lst vs)) :
  ∃ P',Aft K H0 B0 B H B (upd H a (.lst vs')) σ (τ.set i (some (.lst .own xs'))) P' := by
 have hi':i < τ.length:=(List.getElem?_eq_some_iff.mp hi).1
 obtain ⟨A,f,C,e,h1,h2⟩:=I.rep.cut hi'
 obtain ⟨v,e1,r1⟩:=h1 _ hi
 rw [ev] at e1
 cases e1
 obtain ⟨a',ws,g,ea,hq,rl,ef⟩:=r1
 cases ea
 rw [hv] at hq
 cases hq
 subst ef
 have nd0:=I.nd
 rw [e] at nd0
 have ndf:(a :: g).Nodup:=(nd0.sublist (List.sublist_append_left _ _)).sublist (List.sublist_append_right _ _)
 have gdis:∀ b ∈ gp,b ∉ a :: g:=fun b m z=>(k.own b m).2.2.2.1 (by rw [e]; exact sublist_mid _ _ _ b z)
 obtain ⟨f',r',s',n'⟩:=items g hv rl
 obtain ⟨na,ng⟩:=List.nodup_cons.mp ndf
 have hna:a ∉ f' := fun m=>(s' a m).elim na fun z=>gdis a z List.mem_cons_self
 have es:σ.set i (some (.ref a))=σ:=by
  refine List.ext_getElem? fun k=>?_
  by_cases hk:k=i
  ·subst hk
   rw [List.getElem?_set_self (List.getElem?_eq_some_iff.mp ev).1,ev]
  ·rw [List.getElem?_set_ne (Ne.symm hk)]
 have kp:Keep H (upd H a (.lst vs')) [a]:=⟨fun b o h n=>by rw [upd_ne (by simpa using n)]; exact h,fun b m=>by
  have:b=a:=by simpa using m
  subst this
  exact ⟨_,hv,trivial⟩⟩
 have kpf:Keep H (upd H a (.lst vs')) (a :: g):=⟨fun b o h n=>kp.keep b o h (fun z=>n (List.mem_cons.mpr (.inl (List.mem_singleton.mp z)))),fun b m=>I.rep.own b (by rw [e]; exact sublist_mid _ _ _ b m)⟩
 have key:=I.put (i:=i) (H1:=upd H a (.lst vs')) (d' := .lst .own xs') (v' := .ref a) (f' := a :: f') hi' e h2 kpf ⟨a,vs',f',rfl,upd_same,r'.keep kp fun b m=>by
   have:b ≠ a:=fun z=>hna (z ▸ m)
   simpa using this,rfl⟩ (List.nodup_cons.mpr ⟨hna,n' ng fun b m z=>gdis b m (List.mem_cons_of_mem _ z)⟩) fun b m=>?_
 ·rw [es] at key
  exact ⟨_,key,Same.refl _,fun b o h n=>kp.imm h n⟩
 ·rcases List.mem_cons.mp m with q | q
  ·exact .inl (by simp [q])
  ·rcases s' b q with z | z
   ·exact .inl (List.mem_cons_of_mem _ z)
   ·obtain ⟨a1,a2,a3,a4,a5⟩:=k.own b z
    exact .inr (.inr ⟨a4,a1,a2,a5⟩)
end
section
variable {K:PySem.W.Frag}{Y:XY}{H0 B0 B H:Hp}{σ:L2.St}{τ:SD}{P:List Addr}{F:Addr->Prop}{E:Ends}{X:Cx}{pos:Pos}{e c:Expr}{fe:SD->Res D}{gc:SD->Res Bool}
theorem SI.listAt {i:Nat}{xs:List D} (I:SI K H0 B0 B H σ τ P F) (h:τ[i]?=some (some (.lst .own xs))):∃ a vs,σ[i]?=some (some (.ref a))/\H a=some (.lst vs)/\xs.length=vs.length:=by
 obtain ⟨v,f,h1,h2,h3⟩:=I.rep.get h
 obtain ⟨a,vs,g,rfl,q,r,z⟩:=h2
 exact ⟨a,vs,h1,q,r.length⟩
def sApp (i:Nat) (f:SD->Res D) (τ:SD):Fl:=match ownL τ i with
 | some xs=>(f τ).toFl τ fun d=>if d.hasBor=true then .bad else if xs.length < 16777216 then .nx (τ.set i (some (.lst .own (xs ++ [d])))) else .bad
 | none=>.bad
theorem s_app (i:Nat) {x:Str}{p1 apos cpos:Pos} (he:PE X e (tM X.K Y fe)) (hN:X.N[i]?=some x:=by rfl) (hv:Vis X.env.scope x:=by first | exact Or.inl rfl | exact Or.inr (Or.inl rfl) | exact Or.inr (Or.inr rfl)) (hd:(x == ("__debug__" : Str))=false:=by decide) (hcd:(x == ("__classdict__" : Str))=false:=by decide)
  (hbase:attributeBase (.Name x p1) "append" X.env (eval (.Name x p1) X.env)=eval (.Name x p1) X.env:=by rfl)
  (hfew:((backTo cpos (starEach [e] X.env)).all (fun x=>!x.1) && (backToKw cpos (keywordEach [] X.env)).all (fun x=>x.1.isSome)
   && decide ([e].length + ([]:List Keyword).length + (if ([]:List Keyword).isEmpty then 0 else 1) < 30))=true:=by rfl)
  (hline:(apos.endLine == cpos.line)=true:=by rfl) (hs:starEach [e] X.env=(false,eval e X.env) :: starEach [] X.env:=by rfl) (hplain:(backTo cpos (starEach [] X.env)).any (·.1)=false:=by rfl)
  (hsw:swapsWith (.Call (.Attribute (.Name x p1) "append" apos) [e] [] cpos) none pos.line X.env=pure false:=by rfl) :
  PS X (.Expr (.Call (.Attribute (.Name x p1) "append" apos) [e] [] cpos) pos) (tMS X.K Y (sApp i fe)):=by
 refine PS.imp (ps_expr (pe_bm PySem.F.plainAttrs_list PySem.F.slot_list_append PySem.F.type_list_append mt_append (pe_var hN hv hd hcd) (pa_cons he pa_nil hs) hbase hfew hline hs hplain) hsw) fun E σ H hq=>ex7 hq fun H0 B0 B τ P I h=>?_
 unfold sApp at h
 cases z:ownL τ i with
 | none=>rw [z] at h; exact h.elim
 | some xs =>
  rw [z] at h
  have hi:=ownL_some z
  obtain ⟨a,vs,ea,ha,hl⟩:=I.listAt hi
  refine ⟨.ref a,ea,.inl ⟨rfl,vs,SqL.of ha⟩,exprS I h fun d v H1 B1 fp _ I1 s1 b1 r1 k1 h1=>?_⟩
  split at h1
  ·exact h1.elim
  ·rename_i hb
   split at h1
   ·rename_i hz
    have ha1:=s1 a _ ha
    refine ⟨a,vs,v,rfl,rfl,ha1,by rw [<- hl,sizeLine_eq]; exact hz,?_⟩
    obtain ⟨P',I'⟩:=I1.mutL (xs' := xs ++ [d]) (vs' := vs ++ [v]) hi ea k1 (fun f _ rl=>⟨f ++ fp,rl.append (RepL.one (r1.noBor (by simpa using hb))),fun b m=>List.mem_append.mp m,fun nf dis=>List.nodup_append.mpr ⟨nf,k1.nd,fun a ha b hb e=>dis b hb (e ▸ ha)⟩⟩) ha1
    exact h1 B1 _ σ P' I'
   ·exact h1.elim
structure ItD (K:PySem.W.Frag) (J:It) (ds:List D) (B H:Hp):Prop where
 go:∀ B' H' i d,Same B B'->Same B' H'->Imm H H'->ds[i]?=some d->J.go i H'
 yld:∀ B' H' i d x H'',Same B B'->Same B' H'->Imm H H'->ds[i]?=some d->J.yld i H' x H''->Same H' H''/\Rep K B' No H'' d x []
 stop:∀ B' H',Same B B'->Same B' H'->Imm H H'->J.stop ds.length H'
def ItAll (K:PySem.W.Frag) (J:It) (ds:List D) (fl:Bool) (B H:Hp) (P fp:List Addr):Prop :=
 ∀ Bx:Hp,Same B Bx->Same Bx H->(∀ a ∈ fp,∀ o,H a=some o->Bx a=some o)->(fl=true->∀ a ∈ P,∀ o,H a=some o->Bx a=some o)->ItD K J (frzL ds) Bx H
def tMI (K:PySem.W.Frag) (Y:XY) (f:SD->Res (Bool × List D)):TI:=fun σ H R=>∃ H0 B0 B τ P F,SI K H0 B0 B H σ τ P F/\match f τ with
 | .ok (fl,ds)=>∀ J H' B' fp,SI K H0 B0 B' H' σ τ P F->Same H H'->Same B B'->Vok H0 B' H' P F fp->ItAll K J ds fl B' H' P fp->R J H'
 | .exn C=>OutX K Y H0 B0 B H σ τ P F C
 | .bad=>False
theorem PI.imp {tg it:Expr}{t t':TI} (h:PI X tg it t) (hi:∀ σ H R,t' σ H R->t σ H R):PI X tg it t' := fun pins s σ H R I hw=>h pins s σ H R I (hi σ H R hw)
def itemsD:D->Res (Bool × List D)
 | .lst t xs=>.ok ((D.lst t xs).hasBor,xs)
 | .tup xs=>.ok ((D.tup xs).hasBor,xs)
 | _=>.bad
def eIt (f:SD->Res D) (τ:SD):Res (Bool × List D):=(f τ).bind itemsD
theorem pi_seq {tg l:Expr}{tl:TE} (hl:PE X l tl):PI X tg l (fun σ H R=>tl σ H fun x H1=>(∃ a,x=.ref a/\(∃ xs,SqL X.K H1 a xs)/\R (Itl X.K a) H1) ∨ ∃ a,x=.ref a/\(∃ xs,SqT X.K H1 a xs)/\R (Itt X.K a) H1):=by
 intro pins s σ H R I h
 refine thn (hl pins s σ H _ I h) fun v s1 hq5=>L2.ex5 hq5 fun x H1 I1 r1 q1=>?_
 rcases q1 with ⟨a,e,⟨xs,hq⟩,q⟩ | ⟨a,e,⟨xs,hq⟩,q⟩
 ·subst e
  cases r1
  obtain ⟨its,rv,p,hz⟩:=I1.list hq
  refine wpAny_pyIter_list p.isList ?_
  refine ⟨s1.heap.objs.size,[s1.heap.objs.size],_,_,H1,rfl,I1.kept (t' := s1.toks) fun b o e=>Heap.get?_push_of_some _ e,turn_list a _,⟨_,Heap.get?_push_size _ rfl,rfl,rfl⟩,fun b hb=>?_,q⟩
  have e:b=s1.heap.objs.size:=by simpa using hb
  subst e
  exact I1.fpOk (Nat.le_refl _) (I1.hok.fresh (Nat.le_refl _))
 ·subst e
  cases r1
  obtain ⟨its,rv,p,hz⟩:=I1.tuple hq
  refine wpAny_pyIter_tuple (show s1.heap.IsTuple a its.toArray from p) ?_
  refine ⟨s1.heap.objs.size,[s1.heap.objs.size],_,_,H1,rfl,I1.kept (t' := s1.toks) fun b o e=>Heap.get?_push_of_some _ e,turn_tuple a _,⟨_,Heap.get?_push_size _ rfl,rfl,rfl⟩,fun b hb=>?_,q⟩
  have e:b=s1.heap.objs.size:=by simpa using hb
  subst e
  exact I1.fpOk (Nat.le_refl _) (I1.hok.fresh (Nat.le_refl _))
theorem SI.restV {fp:List Addr} (I:SI K H0 B0 B H σ τ P F) (k:Vok H0 B H P F fp):SI K H0 B0 (atRest B H (· ∈ fp)) H σ τ P F/\Same B (atRest B H (· ∈ fp)):=by
 have sB:Same B (atRest B H (· ∈ fp)):=rest_same I.bh
 refine ⟨⟨rest_up I.bh,I.h0,I.b0.trans sB,fun a n=>?_,I.rep.mono (Same.refl _) sB,I.nd,fun a m=>?_,fun a m=>?_⟩,sB⟩
 ·by_cases m:a ∈ fp
  ·exact .inr (k.own a m).2.1
  ·rw [rest_out m] at n; exact I.nb a n
 ·obtain ⟨a1,a2,a3⟩:=I.own a m
  exact ⟨by rw [rest_out fun z=>(k.own a z).2.2.2.1 m]; exact a1,a2,a3⟩
 ·obtain ⟨a1,a2⟩:=I.fr a m
  exact ⟨by rw [rest_out fun z=>(k.own a z).2.2.2.2 m]; exact a1,a2⟩
mutual
theorem Rep.stay {B B' H H':Hp} (sB:Same B B') (im:Imm H H'):∀ {d:D}{v:V}{fp:List Addr},fp=[]->Rep K B No H d v fp->Rep K B' No H' d v fp
 | .non,_,_,_,h=>h
 | .bl _,_,_,_,h=>h
 | .int _,_,_,_,h=>h
 | .str _,_,_,_,h=>h
 | .exc _,_,_,_,h=>let ⟨⟨a,e,t,tb,u,h1⟩,r⟩:=h; ⟨⟨a,e,t,tb,u,im _ _ h1 (fun x=>x)⟩,r⟩
 | .tup xs,v,fp,ef,h=>by
  obtain ⟨a,vs,e,q,r⟩:=h
  exact ⟨a,vs,e,im _ _ q (fun x=>x),RepL.stay sB im ef r⟩
 | .lst .own xs,v,fp,ef,h=>by obtain ⟨a,vs,f,e,q,r,z⟩:=h; rw [ef] at z; cases z
 | .lst .bor xs,v,fp,ef,h=>let ⟨a,vs,e,q,r,z⟩:=h; ⟨a,vs,e,.inr (rd_mono sB (q.resolve_left fun y=>y.1)),RepL.stay sB im rfl r,z⟩
 | .lst .frz xs,v,fp,ef,h=>let ⟨a,vs,e,q,r,z⟩:=h; ⟨a,vs,e,rd_mono sB q,RepL.stay sB im rfl r,z⟩
 | .lst (.len _) _,_,_,_,h=>h.elim
 | .dct (.len a) kd ks xs,v,fp,ef,h=>by obtain ⟨vs,f,e,q,r,z⟩:=h; rw [ef] at z; cases z
 | .dct .own kd ks xs,v,fp,ef,h=>by obtain ⟨a,vs,f,e,q,r,z⟩:=h; rw [ef] at z; cases z
 | .dct .bor kd ks xs,v,fp,ef,h=>let ⟨a,vs,e,q,r,z⟩:=h; ⟨a,vs,e,.inr ((q.resolve_left fun y=>y.1).mono sB),RepL.stay sB im rfl r,z⟩
 | .dct .frz kd ks xs,v,fp,ef,h=>let ⟨a,vs,e,q,r,z⟩:=h; ⟨a,vs,e,q.mono sB,RepL.stay sB im rfl r,z⟩
theorem RepL.stay {B B' H H':Hp} (sB:Same B B') (im:Imm H H'):∀ {ds:List D}{vs:List V}{fp:List Addr},fp=[]->RepL K B No H ds vs fp->RepL K B' No H' ds vs fp
 | [],_,_,_,h=>h
 | d :: ds,vs,fp,ef,h=>by
  obtain ⟨v,r,f,g,e,h1,h2,z⟩:=h
  rw [ef] at z
  obtain ⟨z1,z2⟩:=nil_of_append z
  exact ⟨v,r,f,g,e,Rep.stay sB im z1 h1,RepL.stay sB im z2 h2,by rw [ef,z1,z2]; rfl⟩
end
theorem sub_nil {f:List Addr} (h:List.Sublist f []):f=[]:=List.sublist_nil.mp h
theorem itd_list {a:Addr}{ds:List D}{vs:List V} (q:SqL K B a vs) (r:RepL K B No H ds vs []):ItD K (Itl K a) ds B H where
 go:=fun B' H' i d s1 s2 im e=>by
  obtain ⟨v,f,h1,_⟩:=r.get e
  exact ⟨vs,v,sqL_of (rd_mono (s1.trans s2) q),h1⟩
 yld:=fun B' H' i d x H'' s1 s2 im e y=>by
  obtain ⟨rfl,y⟩:=y
  obtain ⟨v,f,h1,h2,h3⟩:=r.get e
  have z:=y vs (sqL_of (rd_mono (s1.trans s2) q))
  rw [h1] at z
  cases z
  cases sub_nil h3
  exact ⟨Same.refl _,h2.stay s1 im rfl⟩
 stop:=fun B' H' s1 s2 im=>⟨vs,sqL_of (rd_mono (s1.trans s2) q),by rw [r.length]; exact Nat.le_refl _⟩
theorem sqT_imm {a:Addr}{vs:List V}{H':Hp} (im:Imm H H') (q:SqT K H a vs):SqT K H' a vs:=by
 rcases q with (q | ⟨o,q⟩) | q
 ·exact .inl (.inl (im _ _ q (fun x=>x)))
 ·exact .inl (.inr ⟨o,im _ _ q (fun x=>x)⟩)
 ·exact .inr q
theorem itd_tup {a:Addr}{ds:List D}{vs:List V} (q:SqT K H a vs) (r:RepL K B No H ds vs []):ItD K (Itt K a) ds B H where
 go:=fun B' H' i d s1 s2 im e=>by
  obtain ⟨v,f,h1,_⟩:=r.get e
  exact ⟨vs,v,sqT_imm im q,h1⟩
 yld:=fun B' H' i d x H'' s1 s2 im e y=>by
  obtain ⟨rfl,y⟩:=y
  obtain ⟨v,f,h1,h2,h3⟩:=r.get e
  have z:=y vs (sqT_imm im q)
  rw [h1] at z
  cases z
  cases sub_nil h3
  exact ⟨Same.refl _,h2.stay s1 im rfl⟩
 stop:=fun B' H' s1 s2 im=>⟨vs,sqT_imm im q,by rw [r.length]; exact Nat.le_refl _⟩
theorem itd_range {lo:Int}{n:Nat}:ItD K (Itr lo n) ((List.range n).map fun k:Nat=>D.int (lo + k)) B H where
 go:=fun B' H' i d s1 s2 im e=>by
  have:=(List.getElem?_eq_some_iff.mp e).1
  show i < n
  simpa using this
 yld:=fun B' H' i d x H'' s1 s2 im e y=>by
  obtain ⟨rfl,rfl⟩:=y
  have hi:=(List.getElem?_eq_some_iff.mp e).1
  rw [List.length_map,List.length_range] at hi
  rw [List.getElem?_map,List.getElem?_range hi] at e
  cases e
  exact ⟨Same.refl _,rfl,rfl⟩
 stop:=fun B' H' s1 s2 im=>by
  show n <= _
  rw [List.length_map,List.length_range]
  exact Nat.le_refl _
theorem frz_for {Bx:Hp}{fp:List Addr}{d:D}{v:V} (r:Rep K B (· ∈ P) H d v fp) (sB:Same B Bx) (h1:∀ a ∈ fp,∀ o,H a=some o->Bx a=some o) (h2:d.hasBor=true->∀ a ∈ P,∀ o,H a=some o->Bx a=some o):Rep K Bx No H d.frz v []:=by
 by_cases hb:d.hasBor=true
 ·exact r.frz sB (fun a o s h=>h2 hb a s o h) h1
 ·exact (r.noBor (by simpa using hb)).frz sB (fun a o s=>s.elim) h1
theorem qi_seq {tg:Expr} (he:PE X e (tM X.K Y fe)):PI X tg e (tMI X.K Y (eIt fe)):=by
 refine PI.imp (pi_seq he) fun σ H R hq=>ex8 hq fun H0 B0 B τ P F I h=>⟨H0,B0,B,τ,P,F,I,?_⟩
 cases z:fe τ with
 | exn C=>simp only [eIt,z,Res.bind_exn] at h; exact h
 | bad=>simp only [eIt,z,Res.bind_bad] at h
 | ok d =>
  simp only [eIt,z,Res.bind_ok] at h
  intro v H1 B1 fp I1 s1 b1 r1 k1
  cases d with
  | lst t xs =>
   simp only [itemsD] at h
   obtain ⟨a,vs,g,rfl,q,_⟩:=r1.lst I1
   refine .inl ⟨a,rfl,⟨vs,sqL_of q⟩,h _ H1 _ fp I1 s1 b1 k1 fun Bx sB sH h1 h2=>?_⟩
   obtain ⟨a',ws,ea,q',rl,_⟩:Rep X.K Bx No H1 (D.lst .frz (frzL xs)) (.ref a) []:=frz_for r1 sB h1 h2
   cases ea
   exact itd_list q' rl
  | tup xs =>
   simp only [itemsD] at h
   obtain ⟨a,vs,rfl,q,_⟩:=r1.tp
   refine .inr ⟨a,rfl,⟨vs,q⟩,h _ H1 _ fp I1 s1 b1 k1 fun Bx sB sH h1 h2=>?_⟩
   obtain ⟨a',ws,ea,q',rl⟩:Rep X.K Bx No H1 (D.tup (frzL xs)) (.ref a) []:=frz_for r1 sB h1 h2
   cases ea
   exact itd_tup (SqT.of q') rl
  | _=>exact h.elim
theorem frzL_ints (f:Nat->Int) (l:List Nat):frzL (l.map fun k=>D.int (f k))=l.map fun k=>D.int (f k):=by
 induction l with
 | nil=>rfl
 | cons a r ih=>rw [List.map_cons,frzL,ih]; rfl
def range1D:List D->Res (Bool × List D)
 | [.int j]=>if -1000000000 <= j/\j <= 1000000000 then .ok (false,(List.range j.toNat).map fun k:Nat=>.int (0 + k)) else .bad
 | _=>.bad
def range2D:List D->Res (Bool × List D)
 | [.int i,.int j]=>if -1000000000 <= i/\i <= 1000000000 /\ -1000000000 <= j/\j <= 1000000000 then .ok (false,(List.range (j - i).toNat).map fun k:Nat=>.int (i + k)) else .bad
 | _=>.bad
def eRng1 (f:SD->Res (List D)) (τ:SD):Res (Bool × List D):=(f τ).bind range1D
def eRng2 (f:SD->Res (List D)) (τ:SD):Res (Bool × List D):=(f τ).bind range2D
theorem rng1_imp {fs:SD->Res (List D)}{R:It->Hp->Prop}:tMI X.K Y (eRng1 fs) σ H R->iRng1 (tML X.K Y fs) σ H R:=by
 rintro ⟨H0,B0,B,τ,P,F,I,h⟩
 refine ⟨H0,B0,B,τ,P,F,I,?_⟩
 cases z:fs τ with
 | exn C=>simp only [eRng1,z,Res.bind_exn] at h; exact h
 | bad=>simp only [eRng1,z,Res.bind_bad] at h
 | ok ds =>
  simp only [eRng1,z,Res.bind_ok] at h
  intro vs H1 B1 fp I1 s1 b1 r1 k1
  cases y:range1D ds with
  | exn C=>exfalso; unfold range1D at y; split at y <;> first | (split at y <;> cases y) | cases y
  | bad=>rw [y] at h; exact h.elim
  | ok es =>
   rw [y] at h
   unfold range1D at y
   split at y
   ·split at y
    ·rename_i hc
     cases y
     obtain ⟨v,rfl,rfl,rfl⟩:=repL1 r1
     exact ⟨_,rfl,(by omega),(by omega),h _ H1 B1 [] I1 s1 b1 Vok.nil fun Bx _ _ _ _=>by rw [frzL_ints]; exact itd_range⟩
    ·cases y
   ·cases y
theorem qi_range1 {tg a:Expr}{fs:SD->Res (List D)}{p:Pos} (hg:Gl X "range") (hm:X.mg "range" = none) (ha:PA X [a] (tML X.K Y fs)) (hs:starEach [a] X.env=[(false,eval a X.env)]:=by rfl):PI X tg (.Call (.Name "range" p) [a] [] pos) (tMI X.K Y (eRng1 fs)) :=
 PI.imp (pi_range1 hg hm ha hs) fun σ H R h=>rng1_imp h
theorem qi_range2 {tg a b:Expr}{fs:SD->Res (List D)}{p:Pos} (hg:Gl X "range") (hm:X.mg "range" = none) (ha:PA X [a,b] (tML X.K Y fs)) (hs:starEach [a,b] X.env=[(false,eval a X.env),(false,eval b X.env)]:=by rfl) (hs2:starEach [b] X.env=[(false,eval b X.env)]:=by rfl) :
  PI X tg (.Call (.Name "range" p) [a,b] [] pos) (tMI X.K Y (eRng2 fs)):=by
 refine PI.imp (pi_range2 hg hm ha hs hs2) fun σ H R hq=>ex8 hq fun H0 B0 B τ P F I h=>⟨H0,B0,B,τ,P,F,I,?_⟩
 cases z:fs τ with
 | exn C=>simp only [eRng2,z,Res.bind_exn] at h; exact h
 | bad=>simp only [eRng2,z,Res.bind_bad] at h
 | ok ds =>
  simp only [eRng2,z,Res.bind_ok] at h
  intro vs H1 B1 fp I1 s1 b1 r1 k1
  cases y:range2D ds with
  | exn C=>exfalso; unfold range2D at y; split at y <;> first | (split at y <;> cases y) | cases y
  | bad=>rw [y] at h; exact h.elim
  | ok es =>
   rw [y] at h
   unfold range2D at y
   split at y
   ·split at y
    ·rename_i hc
     cases y
     obtain ⟨v,u,f1,f2,rfl,rfl,⟨rfl,rfl⟩,⟨rfl,rfl⟩⟩:=repL2 r1
     exact ⟨_,_,rfl,⟨by omega,by omega,by omega,by omega⟩,h _ H1 B1 [] I1 s1 b1 Vok.nil fun Bx _ _ _ _=>by rw [frzL_ints]; exact itd_range⟩
    ·cases y
   ·cases y
def enumD (xs:List D):List D:=xs.mapIdx fun i d=>.tup [.int i,d]
def eEnum (f:SD->Res (List D)) (τ:SD):Res (Bool × List D):=(f τ).bind fun ds=>match ds with | [d]=>(itemsD d).map fun p=>(p.1,enumD p.2) | _=>.bad
theorem frzL_mapIdx (xs:List D):∀ (f:Nat->Nat),frzL (xs.mapIdx fun i d=>D.tup [.int (f i),d])=(frzL xs).mapIdx fun i d=>D.tup [.int (f i),d]:=by
 induction xs with
 | nil=>intro f; rfl
 | cons a r ih =>
  intro f
  rw [List.mapIdx_cons,frzL,frzL,List.mapIdx_cons]
  exact congrArg _ (ih fun i=>f (i + 1))
theorem frzL_enum (xs:List D):frzL (enumD xs)=enumD (frzL xs):=frzL_mapIdx xs id
theorem itd_enum {src:Hp->List V->Prop}{ds:List D}{vs:List V} (r:RepL K B No H ds vs []) (q:∀ B' H':Hp,Same B B'->Same B' H'->Imm H H'->src H' vs):ItD K (Ite src) (enumD ds) B H where
 go:=fun B' H' i d s1 s2 im e=>by
  have hi:=(List.getElem?_eq_some_iff.mp e).1
  unfold enumD at hi
  rw [List.length_mapIdx,r.length] at hi
  exact ⟨vs,vs[i],q B' H' s1 s2 im,List.getElem?_eq_getElem hi⟩
 yld:=fun B' H' i d x H'' s1 s2 im e y=>by
  obtain ⟨p,w,rfl,hp,rfl,hy⟩:=y
  have hi:=(List.getElem?_eq_some_iff.mp e).1
  unfold enumD at hi e
  rw [List.length_mapIdx] at hi
  rw [List.getElem?_mapIdx,List.getElem?_eq_getElem hi] at e
  cases e
  have z:=hy vs (q B' H' s1 s2 im)
  obtain ⟨v,f,h1,h2,h3⟩:=r.get (List.getElem?_eq_getElem hi)
  rw [z] at h1
  cases h1
  cases sub_nil h3
  have s:=sameUpd' (o := .tup [.int i,w]) hp
  exact ⟨s,p,[.int i,w],rfl,upd_same,.int i,[w],[],[],rfl,⟨rfl,rfl⟩,RepL.one ((h2.stay s1 im rfl).mono s (Same.refl _) (fun _ x=>x)),rfl⟩
 stop:=fun B' H' s1 s2 im=>⟨vs,q B' H' s1 s2 im,by unfold enumD; rw [List.length_mapIdx,r.length]; exact Nat.le_refl _⟩
theorem pi_enumS {elts:List Expr}{x1:Nat}{tp p:Pos}{l:Expr}{ta:TA} (hg:Gl X "enumerate") (hm:X.mg "enumerate" = none) (ha:PA X [l] ta) (hs:starEach [l] X.env=[(false,eval l X.env)]:=by rfl) :
  PI X (.Tuple elts x1 tp) (.Call (.Name "enumerate" p) [l] [] pos) (fun σ H R=>ta σ H fun vs H1=>(∃ a xs,vs=[.ref a]/\SqL X.K H1 a xs/\R (Ite fun H xs=>SqL X.K H a xs) H1) ∨ ∃ a xs,vs=[.ref a]/\SqT X.K H1 a xs/\R (Ite fun H xs=>SqT X.K H a xs) H1):=by
 intro pins s σ H R I h
 refine wpAny_Call_Name_kw (ld_blt I hg hm (by decide +kernel:bootBuiltins "enumerate" = some (.type "enumerate")) ?_)
 refine PyProof.Rows.callWith_type1 (thn (ha pos pins s σ H _ I h) fun us s1 hq5=>L2.ex5 hq5 fun vs H1 I1 r1 q1=>?_) hs rfl
 rcases q1 with ⟨a,xs,rfl,hq,q⟩ | ⟨a,xs,rfl,hq,q⟩
 ·obtain ⟨u,rfl,ru⟩:=vals1 r1
  cases ru
  obtain ⟨its,rv,pl,hz⟩:=I1.list hq
  refine call_enumerate_list pl.isList fun h' e1 e2 e3 e4=>wpAny_pyIter_enum e1 ?_
  have I2:Inv X pins σ H1 { s1 with heap:=h' }:=I1.kept (t' := s1.toks) e4
  obtain ⟨o,c1,c2,c3⟩:=e2
  refine ⟨_,_,_,_,H1,rfl,I2,turn_enum (src_list a s1.heap.objs.size) (Nat.succ_ne_self _),⟨⟨_,e1⟩,o,c1,c2,c3⟩,fun b hb=>?_,q⟩
  rcases List.mem_cons.mp hb with z | z
  ·subst z
   exact I1.fpOk (Nat.le_succ _) (I1.hok.fresh (Nat.le_succ _))
  ·have z:b=s1.heap.objs.size:=by simpa using z
   subst z
   exact I1.fpOk (Nat.le_refl _) (I1.hok.fresh (Nat.le_refl _))
 ·obtain ⟨u,rfl,ru⟩:=vals1 r1
  cases ru
  obtain ⟨its,rv,pl,hz⟩:=I1.tuple hq
  refine call_enum_tup (isTuple_of pl) fun h' e1 e2 e4=>wpAny_pyIter_enum e1 ?_
  have I2:Inv X pins σ H1 { s1 with heap:=h' }:=I1.kept (t' := s1.toks) e4
  obtain ⟨o,c1,c2,c3⟩:=e2
  refine ⟨_,_,_,_,H1,rfl,I2,turn_enum (src_tup a s1.heap.objs.size) (Nat.succ_ne_self _),⟨⟨_,e1⟩,o,c1,c2,c3⟩,fun b hb=>?_,q⟩
  rcases List.mem_cons.mp hb with z | z
  ·subst z
   exact I1.fpOk (Nat.le_succ _) (I1.hok.fresh (Nat.le_succ _))
  ·have z:b=s1.heap.objs.size:=by simpa using z
   subst z
   exact I1.fpOk (Nat.le_refl _) (I1.hok.fresh (Nat.le_refl _))
theorem qi_enum {elts:List Expr}{x1:Nat}{tp p:Pos}{l:Expr}{fs:SD->Res (List D)} (hg:Gl X "enumerate") (hm:X.mg "enumerate" = none) (ha:PA X [l] (tML X.K Y fs)) (hs:starEach [l] X.env=[(false,eval l X.env)]:=by rfl) :
  PI X (.Tuple elts x1 tp) (.Call (.Name "enumerate" p) [l] [] pos) (tMI X.K Y (eEnum fs)):=by
 refine PI.imp (pi_enumS hg hm ha hs) fun σ H R hq=>ex8 hq fun H0 B0 B τ P F I h=>⟨H0,B0,B,τ,P,F,I,?_⟩
 cases z:fs τ with
 | exn C=>simp only [eEnum,z,Res.bind_exn] at h; exact h
 | bad=>simp only [eEnum,z,Res.bind_bad] at h
 | ok ds =>
  simp only [eEnum,z,Res.bind_ok] at h
  intro vs H1 B1 fp I1 s1 b1 r1 k1
  match ds,r1,h with
  | [d],r1,h =>
   obtain ⟨v,rfl,r1'⟩:=repL1 r1
   simp only at h
   cases d with
   | lst t xs =>
    simp only [itemsD,Res.map_ok] at h
    obtain ⟨a,vs,g,rfl,q,_⟩:=r1'.lst I1
    refine .inl ⟨a,vs,rfl,sqL_of q,h _ H1 _ fp I1 s1 b1 k1 fun Bx sB sH h1 h2=>?_⟩
    obtain ⟨a',ws,ea,q',rl,_⟩:Rep X.K Bx No H1 (D.lst .frz (frzL xs)) (.ref a) []:=frz_for r1' sB h1 h2
    cases ea
    rw [frzL_enum]
    exact itd_enum rl fun B' H' z1 z2 _=>sqL_of (rd_mono (z1.trans z2) q')
   | tup xs =>
    simp only [itemsD,Res.map_ok] at h
    obtain ⟨a,vs,rfl,q,_⟩:=r1'.tp
    refine .inr ⟨a,vs,rfl,q,h _ H1 _ fp I1 s1 b1 k1 fun Bx sB sH h1 h2=>?_⟩
    obtain ⟨a',ws,ea,q',rl⟩:Rep X.K Bx No H1 (D.tup (frzL xs)) (.ref a) []:=frz_for r1' sB h1 h2
    cases ea
    rw [frzL_enum]
    exact itd_enum rl fun B' H' z1 z2 im=>sqT_imm im (SqT.of q')
   | _=>exact h.elim
  | [],r1,h=>exact h.elim
  | _ :: _ :: _,r1,h=>exact h.elim
abbrev TGD:=D->SD->Option SD
def tMG (K:PySem.W.Frag) (g:TGD):TG:=fun v σ H Q=>∃ H0 B0 B τ P F d fp,SI K H0 B0 B H σ τ P F/\Rep K B No H d v fp/\Vok H0 B H P F fp/\match g d τ with
 | some τ'=>∀ H' σ' P',SI K H0 B0 B H' σ' τ' P' F->H'=H->Q σ' H'
 | none=>False
def gN (i:Nat) (d:D) (τ:SD):Option SD:=some (τ.set i (some d))
theorem PG.imp {tg:Expr}{t t':TG} (h:PG X tg t) (hi:∀ v σ H Q,t' v σ H Q->t v σ H Q):PG X tg t' := fun pins s σ H v u Q I r hw=>h pins s σ H v u Q I r (hi v σ H Q hw)
theorem g_name {i:Nat}{x:Str} (hN:X.N.Nodup) (hi:X.N[i]?=some x) (hx:Loc X.env.scope x) (hf:X.fn x=true ∨ X.env.scope.names.lookup x=some .local:=by first | exact .inl rfl | exact .inr rfl):PG X (.Name x pos) (tMG X.K (gN i)) :=
 PG.imp (pg_name hN hi hx hf) fun v σ H Q hq=>ex12 hq fun H0 B0 B τ P F d fp I r k h=>by
  obtain ⟨P',I',_⟩:=I.set i r k
  exact h H _ P' I' rfl
abbrev TGDs:=List D->SD->Option SD
def tMGs (K:PySem.W.Frag) (g:TGDs):TGs:=fun vs σ H Q=>∃ H0 B0 B τ P F ds fp,SI K H0 B0 B H σ τ P F/\RepL K B No H ds vs fp/\Vok H0 B H P F fp/\match g ds τ with
 | some τ'=>∀ H' σ' P',SI K H0 B0 B H' σ' τ' P' F->H'=H->Q σ' H'
 | none=>False
def gsNil (ds:List D) (τ:SD):Option SD:=match ds with | []=>some τ | _=>none
def gsCons (i:Nat) (g:TGDs) (ds:List D) (τ:SD):Option SD:=match ds with | d :: r=>g r (τ.set i (some d)) | []=>none
theorem PGs.imp {tgs:List Expr}{t t':TGs} (h:PGs X tgs t) (hi:∀ v σ H Q,t' v σ H Q->t v σ H Q):PGs X tgs t' := fun pins s σ H v u Q I r hw=>h pins s σ H v u Q I r (hi v σ H Q hw)
theorem gs_nil:PGs X [] (tMGs X.K gsNil):=PGs.imp pgs_nil fun vs σ H Q hq=>ex12 hq fun H0 B0 B τ P F ds fp I r k h=>by
 cases ds with
 | nil=>exact ⟨r.1,h H σ P I rfl⟩
 | cons d ds=>exact h.elim
theorem gs_cons {i:Nat}{x:Str}{es:List Expr}{g:TGDs} (hN:X.N.Nodup) (hi:X.N[i]?=some x) (hx:Loc X.env.scope x) (h2:PGs X es (tMGs X.K g)) (hf:X.fn x=true ∨ X.env.scope.names.lookup x=some .local:=by first | exact .inl rfl | exact .inr rfl)
  (hs:(assignEach (.Name x pos :: es) X.env).map (·.2)=assign (.Name x pos) X.env :: (assignEach es X.env).map (·.2):=by rfl):PGs X (.Name x pos :: es) (tMGs X.K (gsCons i g)) :=
 PGs.imp (pgs_cons (pg_name hN hi hx hf) h2 hs) fun vs σ H Q hq=>ex12 hq fun H0 B0 B τ P F ds fp I r k h=>by
  cases ds with
  | nil=>exact h.elim
  | cons d ds =>
   obtain ⟨v,w,f1,f2,rfl,r1,r2,rfl⟩:=r
   obtain ⟨P',I',s'⟩:=I.set i r1 k.left
   refine ⟨v,w,rfl,H0,B0,B,_,P',F,ds,f2,I',r2,⟨k.right.nd,fun a m=>?_⟩,h⟩
   obtain ⟨a1,a2,a3,a4,a5⟩:=k.right.own a m
   refine ⟨a1,a2,a3,fun z=>?_,a5⟩
   rcases s' a z with y | y
   ·exact a4 y
   ·exact (List.nodup_append.mp k.nd).2.2 a y a m rfl
def gT (n:Nat) (g:TGDs) (d:D) (τ:SD):Option SD:=match d with | .tup ds=>if ds.length=n then g ds τ else none | _=>none
theorem g_tup {es:List Expr}{k:Nat}{g:TGDs}{n:Nat} (hc:X.calm=true) (h:PGs X es (tMGs X.K g))
  (hn:(assignEach es X.env).length=n:=by rfl) (hst:(assignEach es X.env).findIdx? (·.1)=none:=by rfl):PG X (.Tuple es k pos) (tMG X.K (gT n g)) :=
 PG.imp (pg_tup hc h hn hst) fun v σ H Q hq=>ex12 hq fun H0 B0 B τ P F d fp I r k h=>by
  cases d with
  | tup ds =>
   obtain ⟨a,vs,rfl,q,rl⟩:=r
   unfold gT at h
   by_cases hl:ds.length=n
   ·simp only [hl,if_true] at h
    exact ⟨a,vs,rfl,SqT.of q,by rw [<- rl.length]; exact hl,H0,B0,B,τ,P,F,ds,fp,I,rl,k,h⟩
   ·simp only [hl,if_false] at h
  | _=>exact h.elim
def forD (tg:TGD) (body:SF):List D->SF
 | [],τ=>.nx τ
 | d :: r,τ=>match tg d τ with
  | none=>.bad
  | some τ'=>match body τ' with
   | .nx t=>forD tg body r t
   | .ct t=>forD tg body r t
   | .bk t=>.nx t
   | o=>o
def sFor (js:List Nat) (it:SD->Res (Bool × List D)) (tg:TGD) (body:SF) (τ:SD):Fl:=match it (frzAt js τ) with
 | .ok (false,ds)=>forD tg body (frzL ds) (frzAt js τ)
 | .ok (true,_)=>.bad
 | .exn C=>.ex C (frzAt js τ)
 | .bad=>.bad
theorem s_for (js:List Nat) {tg iter:Expr}{body:List Stmt}{it:SD->Res (Bool × List D)}{tgd:TGD}{g:SF} (hp:PassesOwn (model X.prog X.w) X.A X.env X.xe) (hc:X.calm=true) (hi:PI X tg iter (tMI X.K Y it)) (hg:PG X tg (tMG X.K tgd)) (hb:PSs X body (tMS X.K Y g))
  (hs:∀ x,foldedSetIterable iter X.env x=pure x:=by intro _; rfl):PS X (.For tg iter body [] pos) (tMS X.K Y (sFor js it tgd g)):=by
 refine PS.imp (ps_for hp hc hi hg hb hs) fun E σ H hq=>ex7 hq fun H0 B0 B τ P I h=>?_
 obtain ⟨Bf,Pf,sf,If⟩:=I.frzAt js
 have h:GoalS X.K Y H0 B0 Bf H E (sFor js it tgd g τ):=GoalS.later h (Aft.grow If sf (Same.refl _))
 unfold sFor at h
 refine ⟨H0,B0,Bf,_,Pf,No,If,?_⟩
 cases z:it (frzAt js τ) with
 | exn C=>rw [z] at h; exact fun H1 B1 I1 s1 b1=>h B1 H1 σ Pf (Aft.grow I1 b1 s1)
 | bad=>rw [z] at h; exact h.elim
 | ok q =>
  obtain ⟨fl,ds0⟩:=q
  rw [z] at h
  intro J H1 B1' fp I1' s1 b1' k1 JA
  cases fl with
  | true=>exact h.elim
  | false =>
  obtain ⟨I1,b2⟩:=I1'.restV k1
  have b1:=b1'.trans b2
  have J1:=JA _ b2 (rest_up I1'.bh) (fun a m o h=>rest_in m h) (fun z=>Bool.noConfusion z)
  generalize atRest B1' H1 (· ∈ fp)=B1 at I1 b1 J1
  have h:GoalS X.K Y H0 B0 Bf H E (forD tgd g (frzL ds0) (frzAt js τ)):=h
  generalize frzL ds0=ds at h J1
  have h:GoalS X.K Y H0 B0 B1 H1 E (forD tgd g ds (frzAt js τ)):=GoalS.later h (Aft.grow I1 b1 s1)
  refine ⟨fun i m σ' H'=>m=ds.length - i/\i <= ds.length/\∃ B' τ' P',Aft X.K H0 B0 B1 H1 B' H' σ' τ' P'/\GoalS X.K Y H0 B0 B' H' E (forD tgd g (ds.drop i) τ'),⟨_,rfl,Nat.zero_le _,B1,_,Pf,Aft.refl I1,h⟩,?_⟩
  rintro i m σ' H' ⟨rfl,hle,B',τ',P',a,gl⟩
  by_cases hlt:i < ds.length
  ·obtain ⟨d,hd⟩:∃ d,ds[i]?=some d:=⟨ds[i],List.getElem?_eq_getElem hlt⟩
   have hdrop:ds.drop i=d :: ds.drop (i + 1):=by
    rw [List.drop_eq_getElem_cons hlt]
    congr 1
    rw [List.getElem?_eq_getElem hlt] at hd
    exact Option.some.inj hd
   rw [hdrop] at gl
   unfold forD at gl
   refine .inr ⟨J1.go B' H' i d a.b a.si.bh a.imm hd,fun σ2 H2=>∃ B2 τ2 P2,Aft X.K H0 B0 B1 H1 B2 H2 σ2 τ2 P2/\GoalS X.K Y H0 B0 B2 H2 E (forD tgd g (ds.drop (i + 1)) τ2),fun σ2 H2 w=>⟨_,by omega,rfl,hlt,w⟩,fun x H'' y=>?_⟩
   obtain ⟨sy,ry⟩:=J1.yld B' H' i d x H'' a.b a.si.bh a.imm hd y
   have Iy:=a.si.grow sy
   refine ⟨H0,B0,B',τ',P',No,d,[],Iy,ry,Vok.nil,?_⟩
   cases w:tgd d τ' with
   | none=>rw [w] at gl; exact gl.elim
   | some τ2 =>
    rw [w] at gl
    intro H3 σ3 P3 I3 e3
    subst e3
    have ay:Aft X.K H0 B0 B' H' B' H3 σ3 τ2 P3:=⟨I3,Same.refl _,Imm.of sy⟩
    refine ⟨H0,B0,B',τ2,P3,I3,?_⟩
    cases u:g τ2 with
    | nx t =>
     simp only [u] at gl
     exact fun B4 H4 σ4 P4 a4=>⟨B4,t,P4,(a.trans ay).trans a4,GoalS.later gl (ay.trans a4)⟩
    | ct t =>
     simp only [u] at gl
     exact fun B4 H4 σ4 P4 a4=>⟨B4,t,P4,(a.trans ay).trans a4,GoalS.later gl (ay.trans a4)⟩
    | bk t =>
     simp only [u] at gl
     exact fun B4 H4 σ4 P4 a4=>gl B4 H4 σ4 P4 (ay.trans a4)
    | rt d=>simp only [u] at gl; exact gl
    | ex C t=>simp only [u] at gl; exact fun B4 H4 σ4 P4 a4=>gl B4 H4 σ4 P4 (ay.trans a4)
    | bad=>simp only [u] at gl; exact gl
  ·have e:i=ds.length:=by omega
   subst e
   rw [List.drop_length] at gl
   exact .inl ⟨J1.stop B' H' a.b a.si.bh a.imm,gl B' H' σ' P' (Aft.refl a.si)⟩
def whileD (c:SD->Res Bool) (body:SF):Nat->SF
 | 0,_=>.bad
 | n + 1,τ=>(c τ).toFlB τ fun b=>if b=true then (match body τ with
   | .nx t=>whileD c body n t
   | .ct t=>whileD c body n t
   | .bk t=>.nx t
   | o=>o) else .nx τ
def sWhile (c:SD->Res Bool) (body:SF) (τ:SD):Fl:=by classical exact if h:∃ n,whileD c body n τ ≠ .bad then whileD c body h.choose τ else .bad
theorem whileD_mono {c:SD->Res Bool}{body:SF}:∀ {n:Nat}{τ:SD},whileD c body n τ ≠ .bad->whileD c body (n + 1) τ=whileD c body n τ
 | 0,_,h=>absurd rfl h
 | n + 1,τ,h=>by
  rw [whileD] at h
  conv=>lhs; rw [whileD]
  conv=>rhs; rw [whileD]
  cases e:c τ with
  | exn C=>rfl
  | bad=>rfl
  | ok b =>
   rw [e] at h
   cases b with
   | false=>rfl
   | true =>
    simp only [Res.toFlB,if_true] at h ⊢
    cases u:body τ with
    | nx t=>simp only [u] at h ⊢; exact whileD_mono h
    | ct t=>simp only [u] at h ⊢; exact whileD_mono h
    | bk t=>rfl
    | rt d=>rfl
    | ex C t=>rfl
    | bad=>rfl
theorem whileD_le {c:SD->Res Bool}{body:SF}{n:Nat}{τ:SD} (h:whileD c body n τ ≠ .bad):∀ {m:Nat},n <= m->whileD c body m τ=whileD c body n τ:=by
 intro m hm
 induction hm with
 | refl=>rfl
 | step hm ih=>rw [whileD_mono (by rw [ih]; exact h),ih]
theorem sWhile_eq {c:SD->Res Bool}{body:SF}{n:Nat}{τ:SD} (h:whileD c body n τ ≠ .bad):sWhile c body τ=whileD c body n τ:=by
 have ex:∃ n,whileD c body n τ ≠ .bad:=⟨n,h⟩
 unfold sWhile
 rw [dif_pos ex]
 rcases Nat.le_total n ex.choose with q | q
 ·exact whileD_le h q
 ·exact (whileD_le ex.choose_spec q).symm
theorem s_while {body:List Stmt}{g:SF} (hp:PassesOwn (model X.prog X.w) X.A X.env X.xe) (hc:PT X c (tMB X.K Y gc)) (hb:PSs X body (tMS X.K Y g)):PS X (.While c body [] pos) (tMS X.K Y (sWhile gc g)):=by
 refine PS.imp (ps_while hp hc hb) fun E σ H hq=>ex7 hq fun H0 B0 B τ P I h=>?_
 obtain ⟨n,hn⟩:∃ n,GoalS X.K Y H0 B0 B H E (whileD gc g n τ):=by
  unfold sWhile at h
  split at h
  ·exact ⟨_,h⟩
  ·exact h.elim
 refine ⟨fun m σ' H'=>∃ B' τ' P',SI X.K H0 B0 B' H' σ' τ' P' No/\GoalS X.K Y H0 B0 B' H' E (whileD gc g m τ'),⟨n,B,τ,P,I,hn⟩,?_⟩
 rintro m σ' H' ⟨B',τ',P',I',gl⟩
 cases m with
 | zero=>exact gl.elim
 | succ m =>
  rw [whileD] at gl
  refine testS I' gl fun d H1 B1 _ I1 s1 b1 h1=>?_
  cases d with
  | false=>rw [if_neg Bool.false_ne_true] at h1 ⊢; exact h1 B1 H1 σ' P' (Aft.refl I1)
  | true =>
   rw [if_pos rfl] at h1 ⊢
   refine ⟨fun σ2 H2=>∃ B2 τ2 P2,SI X.K H0 B0 B2 H2 σ2 τ2 P2 No/\GoalS X.K Y H0 B0 B2 H2 E (whileD gc g m τ2),fun σ2 H2 w=>⟨m,Nat.lt_succ_self _,w⟩,H0,B0,B1,τ',P',I1,?_⟩
   cases u:g τ' with
   | nx t=>simp only [u] at h1; exact fun B4 H4 σ4 P4 a4=>⟨B4,t,P4,a4.si,GoalS.later h1 a4⟩
   | ct t=>simp only [u] at h1; exact fun B4 H4 σ4 P4 a4=>⟨B4,t,P4,a4.si,GoalS.later h1 a4⟩
   | bk t=>simp only [u] at h1; exact h1
   | rt d=>simp only [u] at h1; exact h1
   | ex C t=>simp only [u] at h1; exact h1
   | bad=>simp only [u] at h1; exact h1
end
abbrev DF:=List D->Res D
def spF (K:PySem.W.Frag) (G:DF):Sp:=fun vs H Q _=>∃ B0 ds,Same B0 H/\RepL K B0 No H ds vs []/\match G ds with
 | .ok d=>∀ B' H' v fp,RetOk K H B0 B' H' d v fp->Q v H'
 | .exn _=>False
 | .bad=>False
def Res.noX (r:Res D):Res D:=match r with | .exn _=>.bad | r=>r
@[simp] theorem Res.noX_ok (d:D):(Res.ok d).noX=.ok d:=rfl
def callD (G:DF) (ds:List D):Res D:=if hasBorL ds=true then (G (frzL ds)).noX.map D.toBor else (G (frzL ds)).noX
def eCall (G:DF) (fs:SD->Res (List D)) (τ:SD):Res D:=(fs τ).bind (callD G)
section
variable {K:PySem.W.Frag}{Y:XY}{H0 B0 B H:Hp}{σ:L2.St}{τ:SD}{P:List Addr}{F:Addr->Prop}{X:Cx}{pos p:Pos}{e:Expr}{es:List Expr}{fs:SD->Res (List D)}
theorem SI.called {S:Addr->Prop}{fp:List Addr}{B' H':Hp}{d:D}{v:V}{fq:List Addr} (I:SI K H0 B0 B H σ τ P F) (k:Vok H0 B H P F fp) (hS:∀ a,S a->a ∈ P) (r:RetOk K H (atRest B H (fun a=>S a ∨ a ∈ fp)) B' H' d v fq) :
  ∃ B'',SI K H0 B0 B'' H' σ τ P F/\Same B B''/\Vok H0 B'' H' P F fq/\(∀ a o,B' a=some o->B'' a=some o ∨ (S a/\a ∈ P)):=by
 classical
 have sP:∀ a o,B a=some o->a ∉ P:=fun a o e m=>by
  have:=(I.own a m).1
  rw [e] at this; cases this
 have up:∀ a,B' a ≠ none->B a ≠ none ∨ S a ∨ a ∈ fp ∨ H a=none:=fun a n=>by
  rcases r.nb a n with q | q
  ·by_cases hs:S a ∨ a ∈ fp
   ·exact .inr (hs.elim .inl fun z=>.inr (.inl z))
   ·rw [rest_out hs] at q; exact .inl q
  ·exact .inr (.inr (.inr q))
 refine ⟨fun a=>if a ∈ P then none else B' a,?_,fun a o e=>?_,⟨r.nd,fun a m=>?_⟩,fun a o e=>?_⟩
 ·have sB:Same B (fun a=>if a ∈ P then none else B' a):=fun a o e=>by
   show (if a ∈ P then none else B' a)=some o
   rw [if_neg (sP a o e)]
   exact r.b0 a o (rest_same I.bh a o e)
  refine ⟨fun a o e=>?_,I.h0.trans r.h0,I.b0.trans sB,fun a n=>?_,I.rep.mono r.h0 sB,I.nd,fun a m=>?_,fun a m=>?_⟩
  ·have e:(if a ∈ P then none else B' a)=some o:=e
   split at e
   ·cases e
   ·exact r.bh a o e
  ·have n:(if a ∈ P then none else B' a) ≠ none:=n
   split at n
   ·exact absurd rfl n
   ·rename_i hp
    rcases up a n with q | q | q | q
    ·exact I.nb a q
    ·exact absurd (hS a q) hp
    ·exact .inr (k.own a q).2.1
    ·exact .inr (I.h0.free q)
  ·refine ⟨?_,(I.own a m).2⟩
   show (if a ∈ P then none else B' a)=none
   rw [if_pos m]
  ·obtain ⟨a1,a2⟩:=I.fr a m
   refine ⟨?_,fun z=>a2 (r.h0.free z)⟩
   show (if a ∈ P then none else B' a)=none
   split
   ·rfl
   ·rename_i hp
    cases e:B' a with
    | none=>rfl
    | some o =>
     exfalso
     rcases up a (by rw [e]; exact Option.some_ne_none _) with q | q | q | q
     ·exact q a1
     ·exact hp (hS a q)
     ·exact (k.own a q).2.2.2.2 m
     ·exact a2 q
 ·show (if a ∈ P then none else B' a)=some o
  rw [if_neg (sP a o e)]
  exact r.b0 a o (rest_same I.bh a o e)
 ·obtain ⟨a1,a2,a3⟩:=r.own a m
  obtain ⟨n1,n2,n3,n4⟩:=I.newAt a2
  refine ⟨?_,n2,a3,n3,n4⟩
  show (if a ∈ P then none else B' a)=none
  rw [if_neg n3]; exact a1
 ·by_cases hp:a ∈ P
  ·rcases up a (by rw [e]; exact Option.some_ne_none _) with q | q | q | q
   ·obtain ⟨o',e'⟩:=Option.ne_none_iff_exists'.mp q
    exact absurd hp (sP a o' e')
   ·exact .inr ⟨q,hp⟩
   ·exact absurd hp (k.own a q).2.2.2.1
   ·exact absurd q (I.stands hp)
  ·left
   show (if a ∈ P then none else B' a)=some o
   rw [if_neg hp]; exact e
theorem q_cal {k:Nat}{x:Str}{ps:List Str}{G:DF} (C:Cal X.prog X.w X.K X.mg X.base k x ps (spF X.K G)) (hr:Room k X.A) (hg:Gl X x) (ha:PA X (e :: es) (tML X.K Y fs)) (hdb:(x == ("__debug__" : Str))=false:=by decide)
  (he:starEach (e :: es) X.env=(false,eval e X.env) :: starEach es X.env:=by rfl) (hpl:(backTo pos (starEach es X.env)).any (·.1)=false:=by rfl):PE X (.Call (.Name x p) (e :: es) [] pos) (tM X.K Y (eCall G fs)):=by
 refine PE.imp (pe_cal C hr hg ha hdb he hpl) fun σ H Q hq=>ex8 hq fun H0 B0 B τ P F I h=>tML.seq I h fun ds vs H1 B1 fp _ I1 s1 b1 r1 k1 h1=>?_
 rw [List.append_nil]
 unfold callD at h1
 split at h1
 ·refine ⟨atRest B1 H1 (fun a=>a ∈ P ∨ a ∈ fp),frzL ds,rest_up I1.bh,r1.frz (rest_same I1.bh) (fun a o s h=>rest_in (.inl s) h) (fun a m o h=>rest_in (.inr m) h),?_⟩
  cases z:G (frzL ds) with
  | exn c=>rw [z] at h1; exact h1.elim
  | bad=>rw [z] at h1; exact h1.elim
  | ok d =>
   rw [z] at h1
   intro B' H' v fq r
   obtain ⟨B2,I2,s2,k2,hb⟩:=I1.called k1 (S:=fun a=>a ∈ P) (fun a s=>s) r
   exact h1 v H' B2 fq I2 r.h0 s2 (r.rep.toBor r.bh fun a o e=>(hb a o e).imp id fun z=>z.2) k2
 ·rename_i hb
  have hb:hasBorL ds=false:=by simpa using hb
  refine ⟨atRest B1 H1 (fun a=>False ∨ a ∈ fp),frzL ds,rest_up I1.bh,(r1.noBor hb).frz (rest_same I1.bh) (fun a o s=>s.elim) (fun a m o h=>rest_in (.inr m) h),?_⟩
  cases z:G (frzL ds) with
  | exn c=>rw [z] at h1; exact h1.elim
  | bad=>rw [z] at h1; exact h1.elim
  | ok d =>
   rw [z] at h1
   intro B' H' v fq r
   obtain ⟨B2,I2,s2,k2,hb⟩:=I1.called k1 (S:=fun _=>False) (fun a s=>s.elim) r
   refine h1 v H' B2 fq I2 r.h0 s2 ?_ k2
   have sb:Same B' B2:=fun a o e=>(hb a o e).resolve_right fun z=>z.1
   exact r.rep.mono (Same.refl _) sb fun _ x=>x.elim
def Fl.out:Fl->Res D
 | .rt d=>.ok d
 | .nx _=>.ok .non
 | .ex C _=>.exn C
 | _=>.bad
def runF (n N:Nat) (g:SF) (ds:List D):Res D:=if ds.length=n then (g (ds.map some ++ List.replicate (N - n) none)).out else .bad
theorem repS_start:∀ {ds:List D}{vs:List V} (m:Nat),RepL K B No H ds vs []->RepS K B H (ds.map some ++ List.replicate m none) (vs.map some ++ List.replicate m none) []
 | [],vs,m,r=>by
  obtain ⟨rfl,_⟩:=r
  induction m with
  | zero=>exact ⟨rfl,rfl⟩
  | succ m ih=>exact ⟨none,_,rfl,ih⟩
 | d :: ds,vs,m,r=>by
  obtain ⟨v,w,f1,f2,rfl,r1,r2,z⟩:=r
  obtain ⟨rfl,rfl⟩:=nil_of_append z
  exact ⟨v,_,[],[],rfl,r1,repS_start m r2,rfl⟩
theorem fnok_of {P:Program}{w:World}{mg:Str->Option Value}{base:Heap}{x:Str}{st:Stmt}{N ps:List Str}{k:Nat}{g:SF}{f:Addr}{fd:FuncData} (D:Fun K x x st f fd) (S:FnScope N ps (defScope st))
  (hbody:∀ (f:Addr) (cdv:Value) (A:Around) (outer:List Env) (s:Shared) (H:Hp),Room k (A.deeper (envOfC x (defScope st) s.heap.objs.size f cdv)) ->
   PSs (cxOf CX0 P w K mg base N x (defScope st) f cdv A outer s H E0).nox (defBody st) (tMS K NoY g)):FnOk P w K mg base CX0 (k + 1) f fd ps (spF K (runF ps.length N.length g)):=by
 refine D.ok S (fun vs H Q E h=>?_) fun cdv A outer s H vs Q E hr h=>?_
 ·obtain ⟨B0,ds,_,r,h⟩:=h
  rw [<- r.length]
  unfold runF at h
  by_cases hl:ds.length=ps.length
  ·exact hl
  ·rw [if_neg hl] at h; exact h.elim
 ·obtain ⟨B0,ds,sB,r,h⟩:=h
  unfold runF at h
  by_cases hl:ds.length=ps.length
  ·rw [if_pos hl] at h
   have e:L2.start N vs=vs.map some ++ List.replicate (N.length - ps.length) none:=by
    unfold L2.start
    rw [<- r.length,hl]
   refine ⟨_,hbody f cdv A outer s H hr,H,B0,B0,ds.map some ++ List.replicate (N.length - ps.length) none,[],⟨sB,Same.refl _,Same.refl _,fun a n=>.inl n,by rw [e]; exact repS_start _ r,List.nodup_nil,(fun a m=>by cases m),fun a m=>m.elim⟩,?_⟩
   cases z:g (ds.map some ++ List.replicate (N.length - ps.length) none) with
   | rt d=>rw [z] at h; exact fun B' H' v fp q=>h B' H' v fp q
   | nx t =>
    rw [z] at h
    intro B' H' σ' P' a
    exact h B' H' .non [] ⟨a.si.h0,a.si.b0,a.si.bh,a.si.nb,⟨rfl,rfl⟩,List.nodup_nil,fun a m=>by cases m⟩
   | bk t=>rw [z] at h; exact h.elim
   | ct t=>rw [z] at h; exact h.elim
   | ex C t=>rw [z] at h; exact h.elim
   | bad=>rw [z] at h; exact h.elim
  ·rw [if_neg hl] at h; exact h.elim
theorem cal_of {P:Program}{w:World}{mg:Str->Option Value}{base:Heap}{x:Str}{st:Stmt}{N ps:List Str}{k:Nat}{g:SF} (D:Dfn K mg x st ps) (S:FnScope N ps (defScope st))
  (hbody:∀ (f:Addr) (cdv:Value) (A:Around) (outer:List Env) (s:Shared) (H:Hp),Room k (A.deeper (envOfC x (defScope st) s.heap.objs.size f cdv)) ->
   PSs (cxOf CX0 P w K mg base N x (defScope st) f cdv A outer s H E0).nox (defBody st) (tMS K NoY g)):Cal P w K mg base (k + 1) x ps (spF K (runF ps.length N.length g)):=by
 obtain ⟨f,fd,F,hm,hb⟩:=D.ex
 exact ⟨f,fd,hm,F.kp,hb,fnok_of F S hbody⟩
end
mutual
def D.hasOwn:D->Bool
 | .tup xs=>hasOwnL xs
 | .lst t xs=>t.isOwn || hasOwnL xs
 | .dct t _ _ vs=>t.isOwn || hasOwnL vs
 | _=>false
def hasOwnL:List D->Bool
 | []=>false
 | d :: r=>d.hasOwn || hasOwnL r
end
mutual
theorem hasOwn_pure:∀ d:D,d.pure=true->d.hasOwn=false
 | .non,_=>rfl
 | .bl _,_=>rfl
 | .int _,_=>rfl
 | .str _,_=>rfl
 | .exc _,_=>rfl
 | .tup xs,h=>hasOwnL_pure xs h
 | .lst _ _,h=>by cases h
 | .dct _ _ _ _,h=>by cases h
theorem hasOwnL_pure:∀ xs:List D,pureL xs=true->hasOwnL xs=false
 | [],_=>rfl
 | d :: r,h=>by
  have h:(d.pure && pureL r)=true:=h
  rw [Bool.and_eq_true] at h
  show (d.hasOwn || hasOwnL r)=false
  rw [hasOwn_pure d h.1,hasOwnL_pure r h.2]
  rfl
end
section
variable {K:PySem.W.Frag}
mutual
theorem Rep.noOwn {B H:Hp}{S:Addr->Prop}:∀ {d:D}{v:V}{fp:List Addr},d.hasOwn=false->Rep K B S H d v fp->fp=[]
 | .non,_,_,_,h=>h.2
 | .bl _,_,_,_,h=>h.2
 | .int _,_,_,_,h=>h.2
 | .str _,_,_,_,h=>h.2
 | .exc _,_,_,_,h=>h.2
 | .tup xs,v,fp,p,h=>let ⟨a,vs,e,q,r⟩:=h; RepL.noOwn (ds:=xs) p r
 | .lst .own xs,v,fp,p,h=>by simp [D.hasOwn,Tg.isOwn] at p
 | .lst .bor xs,v,fp,p,h=>let ⟨a,vs,e,q,r,z⟩:=h; z
 | .lst .frz xs,v,fp,p,h=>let ⟨a,vs,e,q,r,z⟩:=h; z
 | .lst (.len _) _,_,_,_,h=>h.elim
 | .dct (.len a) kd ks xs,v,fp,p,h=>by simp [D.hasOwn,Tg.isOwn] at p
 | .dct .own kd ks xs,v,fp,p,h=>by simp [D.hasOwn,Tg.isOwn] at p
 | .dct .bor kd ks xs,v,fp,p,h=>let ⟨a,vs,e,q,r,z⟩:=h; z
 | .dct .frz kd ks xs,v,fp,p,h=>let ⟨a,vs,e,q,r,z⟩:=h; z
theorem RepL.noOwn {B H:Hp}{S:Addr->Prop}:∀ {ds:List D}{vs:List V}{fp:List Addr},hasOwnL ds=false->RepL K B S H ds vs fp->fp=[]
 | [],_,_,_,h=>h.2
 | d :: ds,vs,fp,p,h=>by
  obtain ⟨v,r,f,g,e,h1,h2,z⟩:=h
  have p:(d.hasOwn || hasOwnL ds)=false:=p
  rw [Bool.or_eq_false_iff] at p
  rw [z,Rep.noOwn p.1 h1,RepL.noOwn p.2 h2]
  rfl
end
def capD (τ:SD) (cap:List (Str × Nat)):SD:=cap.map fun p=>((τ[p.2]?).join).map D.frz
def capOwn (τ:SD) (cap:List (Str × Nat)):Bool:=cap.any fun p=>match (τ[p.2]?).join with | some d=>d.hasOwn | none=>false
def compD (tg:TGD) (tt:SD->Res Bool) (elt:SD->Res D):List D->SD->Res (List D)
 | [],_=>.ok []
 | d :: r,τ=>match tg d τ with
  | none=>.bad
  | some τ'=>(tt τ').bind fun b=>if b=true then (elt τ').bind fun x=>if x.hasBor=true then .bad else (compD tg tt elt r τ').bind fun xs=>.ok (x :: xs) else compD tg tt elt r τ'
def eComp (it:SD->Res (Bool × List D)) (tg:TGD) (tt:SD->Res Bool) (elt:SD->Res D) (k:Nat) (cap:List (Str × Nat)) (τ:SD):Res D:=(it τ).bind fun q =>
 match compD tg tt elt (frzL q.2) (List.replicate k none ++ capD τ cap) with
 | .ok xs=>if xs.length <= 16777216 then .ok (.lst .own (if (q.1 || capOwn τ cap)=true then toBorL xs else xs)) else .bad
 | _=>.bad
variable {Y:XY}{H0 B0 B H:Hp}{σ:L2.St}{τ:SD}{P:List Addr}{F:Addr->Prop}{X:Cx}
theorem repS_cap {Bx:Hp} (I:SI K H0 B0 B H σ τ P F) (sB:Same B Bx) (cap:List (Str × Nat)) (hx:capOwn τ cap=true->∀ a ∈ P,∀ o,H a=some o->Bx a=some o):RepS K Bx H (capD τ cap) (capV σ cap) []:=by
 induction cap with
 | nil=>exact ⟨rfl,rfl⟩
 | cons p r ih =>
  have ih:=ih fun z=>hx (by unfold capOwn at z ⊢; rw [List.any_cons,z,Bool.or_true])
  unfold capD capV at ih ⊢
  rw [List.map_cons,List.map_cons]
  cases e:(τ[p.2]?).join with
  | none=>exact ⟨_,_,rfl,ih⟩
  | some d =>
   have e':τ[p.2]?=some (some d):=by
    cases z:τ[p.2]? with
    | none=>rw [z] at e; cases e
    | some o=>rw [z] at e; exact congrArg some e
   obtain ⟨v,f,h1,h2,h3⟩:=I.rep.get e'
   refine ⟨v,_,[],[],?_,?_,ih,rfl⟩
   ·rw [h1]; rfl
   ·by_cases ho:d.hasOwn=true
    ·have hc:capOwn τ (p :: r)=true:=by
      unfold capOwn
      rw [List.any_cons,e]
      simp [ho]
     exact h2.frz sB (fun a o s=>s.elim) fun a m o h=>hx hc a (h3.subset m) o h
    ·have hf:=h2.noOwn (by simpa using ho)
     subst hf
     exact h2.frz sB (fun a o s=>s.elim) fun a m=>by cases m
theorem repS_none {Bx:Hp}:∀ (k:Nat) {τ:SD}{σ:L2.St},RepS K Bx H τ σ []->RepS K Bx H (List.replicate k none ++ τ) (List.replicate k none ++ σ) []
 | 0,_,_,h=>h
 | k + 1,_,_,h=>⟨none,_,rfl,repS_none k h⟩
theorem SI.writeF {F':Addr->Prop}{a:Addr}{o o':HO} (I:SI K H0 B0 B H σ τ P F') (hF:F' a) (hH0:H0 a=none) (ha:H a=some o) (mu:mutO o):SI K H0 B0 B (upd H a o') σ τ P F' := by
 have kp:Keep H (upd H a o') [a]:=⟨fun b u h n=>by rw [upd_ne (by simpa using n)]; exact h,fun b m=>by
  have:b=a:=by simpa using m
  subst this
  exact ⟨o,ha,mu⟩⟩
 have kr:∀ {τ:SD}{σ:L2.St}{P:List Addr},(∀ b ∈ P,b ≠ a)->RepS K B H τ σ P->RepS K B (upd H a o') τ σ P:=by
  intro τ
  induction τ with
  | nil=>intro σ P _ h; exact h
  | cons q r ih =>
   intro σ P hp h
   cases q with
   | none=>obtain ⟨x,t,e,h⟩:=h; exact ⟨x,t,e,ih hp h⟩
   | some d =>
    obtain ⟨v,t,f,g,e,h1,h2,z⟩:=h
    subst z
    exact ⟨v,t,f,g,e,h1.keep kp fun b m=>by
     have:=hp b (List.mem_append_left _ m)
     simpa using this,ih (fun b m=>hp b (List.mem_append_right _ m)) h2,rfl⟩
 refine ⟨fun b u e=>?_,fun b u e=>?_,I.b0,I.nb,kr (fun b m z=>(I.own b m).2.2 (z ▸ hF)) I.rep,I.nd,I.own,fun b m=>⟨(I.fr b m).1,?_⟩⟩
 ·rw [upd_ne]
  ·exact I.bh b u e
  ·intro z; subst z; rw [(I.fr b hF).1] at e; cases e
 ·rw [upd_ne]
  ·exact I.h0 b u e
  ·intro z; subst z; rw [hH0] at e; cases e
 ·by_cases z:b=a
  ·subst z; rw [upd_same]; exact Option.some_ne_none _
  ·rw [upd_ne z]; exact (I.fr b m).2
theorem bind_ok {α β:Type}{r:Res α}{f:α->Res β}{b:β} (h:r.bind f=.ok b):∃ a,r=.ok a/\f a=.ok b:=by
 cases r with
 | ok a=>exact ⟨a,rfl,h⟩
 | exn C=>cases h
 | bad=>cases h
theorem comp_main {it:SD->Res (Bool × List D)}{tgd:TGD}{tt:SD->Res Bool}{elt:SD->Res D}{k:Nat}{cap:List (Str × Nat)}{Q:VK} (I:SI K H0 B0 B H σ τ P F) (h:Goal K Y H0 B0 B H σ τ P F Q (eComp it tgd tt elt k cap τ)) :
  tComp (tMI K Y it) (tMG K tgd) (tMB K NoY tt) (tM K NoY elt) k cap σ H Q:=by
 refine ⟨H0,B0,B,τ,P,F,I,?_⟩
 unfold eComp at h
 cases z:it τ with
 | exn C=>rw [z] at h; exact h
 | bad=>rw [z] at h; exact h
 | ok q =>
  obtain ⟨fl,ds⟩:=q
  rw [z] at h
  simp only [Res.bind_ok] at h
  intro J H1 B1 fp I1 s1 b1 k1 JA acc hacc
  have h:=Goal.later h s1 b1
  cases zc:compD tgd tt elt (frzL ds) (List.replicate k none ++ capD τ cap) with
  | exn C=>rw [zc] at h; exact h.elim
  | bad=>rw [zc] at h; exact h.elim
  | ok xs =>
   rw [zc] at h
   simp only at h
   by_cases hxl:xs.length <= 16777216
   ·rw [if_pos hxl] at h
    let S:Addr->Prop:=fun a=>(fl || capOwn τ cap)=true/\a ∈ P
    let Bx:Hp:=atRest B1 H1 (fun a=>S a ∨ a ∈ fp)
    have sBx:Same B1 Bx:=rest_same I1.bh
    have uBx:Same Bx H1:=rest_up I1.bh
    have J1:ItD K J (frzL ds) Bx H1:=JA Bx sBx uBx (fun a m o e=>rest_in (.inr m) e) (fun hf a m o e=>rest_in (.inl ⟨by rw [hf]; rfl,m⟩) e)
    have c0:RepS K Bx H1 (List.replicate k none ++ capD τ cap) (List.replicate k none ++ capV σ cap) []:=repS_none k (repS_cap I1 sBx cap fun hc a m o e=>rest_in (.inl ⟨by rw [hc,Bool.or_true],m⟩) e)
    have sacc:Same H1 (upd H1 acc (.lst [])):=sameUpd' hacc
    have C0:SI K H1 Bx Bx (upd H1 acc (.lst [])) (List.replicate k none ++ capV σ cap) (List.replicate k none ++ capD τ cap) [] (fun a=>a=acc ∨ a ∈ ([]:List Addr)) :=
     ⟨uBx.trans sacc,sacc,Same.refl _,fun a n=>.inl n,c0.mono sacc (Same.refl _),List.nodup_nil,(fun a m=>by cases m),fun a m=>by
      have:a=acc:=m.elim id fun z=>by cases z
      subst this
      exact ⟨uBx.free hacc,by rw [upd_same]; exact Option.some_ne_none _⟩⟩
    refine ⟨fun i m τv ys H'=>m=(frzL ds).length - i/\i <= (frzL ds).length/\∃ B' τb Pb es fe rest,SI K H1 Bx B' H' τv τb Pb (fun a=>a=acc ∨ a ∈ fe)/\H' acc=some (.lst ys)/\RepL K B' No H' es ys fe/\fe.Nodup /\
      (∀ a ∈ fe,H1 a=none/\a ≠ acc)/\compD tgd tt elt ((frzL ds).drop i) τb=.ok rest/\xs=es ++ rest/\acc ∉ fe,⟨_,rfl,Nat.zero_le _,Bx,_,[],[],[],xs,C0,upd_same,⟨rfl,rfl⟩,List.nodup_nil,(fun a m=>by cases m),zc,rfl,by simp⟩,?_⟩
    rintro i m τv ys H' ⟨rfl,hle,B',τb,Pb,es,fe,rest,C,ha,re,ndf,own,ec,ex,hna⟩
    have im:Imm H1 H' := Imm.of C.h0
    by_cases hlt:i < (frzL ds).length
    ·obtain ⟨d,hd⟩:∃ d,(frzL ds)[i]?=some d:=⟨(frzL ds)[i],List.getElem?_eq_getElem hlt⟩
     have hdrop:(frzL ds).drop i=d :: (frzL ds).drop (i + 1):=by
      rw [List.drop_eq_getElem_cons hlt]
      congr 1
      rw [List.getElem?_eq_getElem hlt] at hd
      exact Option.some.inj hd
     rw [hdrop] at ec
     unfold compD at ec
     refine .inr ⟨J1.go B' H' i d C.b0 C.bh im hd,fun x H'' y=>?_⟩
     obtain ⟨sy,ry⟩:=J1.yld B' H' i d x H'' C.b0 C.bh im hd y
     cases w:tgd d τb with
     | none=>rw [w] at ec; cases ec
     | some τ2 =>
      rw [w] at ec
      simp only at ec
      refine ⟨H1,Bx,B',τb,Pb,_,d,[],C.grow sy,ry,Vok.nil,?_⟩
      rw [w]
      intro H3 σ3 P3 I3 e3
      subst e3
      obtain ⟨b,eb,ec⟩:=bind_ok ec
      refine ⟨H1,Bx,B',τ2,P3,_,I3,?_⟩
      rw [eb]
      intro H4 B4 I4 s4 b4
      have re4:RepL K B4 No H4 es ys fe:=re.mono (sy.trans s4) b4 fun _ x=>x
      have ha4:H4 acc=some (.lst ys):=s4 _ _ (sy _ _ ha)
      cases b with
      | false =>
       rw [if_neg Bool.false_ne_true] at ec ⊢
       exact ⟨_,by omega,rfl,hlt,B4,τ2,P3,es,fe,rest,I4,ha4,re4,ndf,own,ec,ex,hna⟩
      | true =>
       rw [if_pos rfl] at ec ⊢
       obtain ⟨x',ex',ec⟩:=bind_ok ec
       refine ⟨H1,Bx,B4,τ2,P3,_,I4,?_⟩
       rw [ex']
       intro v H5 B5 fv I5 s5 b5 r5 k5
       by_cases hb:x'.hasBor=true
       ·rw [if_pos hb] at ec; cases ec
       ·rw [if_neg hb] at ec
        obtain ⟨rest',er',ec⟩:=bind_ok ec
        cases ec
        have hb:x'.hasBor=false:=by simpa using hb
        have ha5:H5 acc=some (.lst ys):=s5 _ _ ha4
        have re5:RepL K B5 No H5 es ys fe:=re4.mono s5 b5 fun _ x=>x
        have hlen:ys.length < sizeLine:=by
         rw [<- re.length,sizeLine_eq]
         have:=congrArg List.length ex
         simp at this
         omega
        refine ⟨ha5,hlen,_,by omega,rfl,hlt,?_⟩
        have Ih:=I5.hold k5
        have fdis:∀ a ∈ fv,a ∉ fe/\a ≠ acc:=fun a m=>⟨fun z=>(k5.own a m).2.2.2.2 (.inr z),fun z=>(k5.own a m).2.2.2.2 (.inl z)⟩
        have Ih2:SI K H1 Bx B5 H5 σ3 τ2 P3 (fun a=>a=acc ∨ a ∈ fe ++ fv):=Ih.anti fun a m=>by
         rcases m with m | m
         ·exact .inr (.inl m)
         ·rcases List.mem_append.mp m with m | m
          ·exact .inr (.inr m)
          ·exact .inl m
        have Iw:=Ih2.writeF (o' := .lst (ys ++ [v])) (.inl rfl) hacc ha5 trivial
        have kp:Keep H5 (upd H5 acc (.lst (ys ++ [v]))) [acc]:=⟨fun b u h n=>by rw [upd_ne (by simpa using n)]; exact h,fun b m=>by
         have:b=acc:=by simpa using m
         subst this
         exact ⟨_,ha5,trivial⟩⟩
        refine ⟨B5,τ2,P3,es ++ [x'],fe ++ fv,rest',Iw,upd_same,?_,List.nodup_append.mpr ⟨ndf,k5.nd,fun a h1 b h2 e=>(fdis b h2).1 (e ▸ h1)⟩,fun a m=>?_,er',by rw [ex]; simp,fun m=>?_⟩
        ·refine RepL.append (re5.keep kp fun a m z=>?_) (RepL.one ((r5.noBor hb).keep kp fun a m z=>?_))
         ·have:a=acc:=by simpa using z
          exact hna (this ▸ m)
         ·have:a=acc:=by simpa using z
          exact (fdis a m).2 this
        ·rcases List.mem_append.mp m with m | m
         ·exact own a m
         ·exact ⟨(k5.own a m).2.1,(fdis a m).2⟩
        ·rcases List.mem_append.mp m with m | m
         ·exact hna m
         ·exact (fdis acc m).2 rfl
    ·have e:i=(frzL ds).length:=by omega
     subst e
     rw [List.drop_length] at ec
     unfold compD at ec
     cases ec
     rw [List.append_nil] at ex
     subst ex
     refine .inl ⟨J1.stop B' H' C.b0 C.bh im,?_⟩
     have ro:RetOk K H1 Bx B' H' (.lst .own xs) (.ref acc) (acc :: fe):=⟨C.h0,C.b0,C.bh,C.nb,⟨acc,ys,fe,rfl,ha,re,rfl⟩,List.nodup_cons.mpr ⟨hna,ndf⟩,fun a m=>by
      rcases List.mem_cons.mp m with m | m
      ·subst m; exact ⟨(C.fr a (.inl rfl)).1,hacc,(C.fr a (.inl rfl)).2⟩
      ·exact ⟨(C.fr a (.inr m)).1,(own a m).1,(C.fr a (.inr m)).2⟩⟩
     obtain ⟨B2,I2,s2,k2,hb⟩:=I1.called k1 (S:=S) (fun a s=>s.2) ro
     by_cases hl:(fl || capOwn τ cap)=true
     ·rw [if_pos hl] at h
      exact h (.ref acc) H' B2 _ I2 C.h0 s2 (ro.rep.toBor ro.bh fun a o e=>(hb a o e).imp id fun z=>z.2) k2
     ·rw [if_neg hl] at h
      have sb:Same B' B2:=fun a o e=>(hb a o e).resolve_right fun z=>hl z.1.1
      exact h (.ref acc) H' B2 _ I2 C.h0 s2 (ro.rep.mono (Same.refl _) sb fun _ x=>x.elim) k2
   ·rw [if_neg hxl] at h; exact h.elim
variable {tg elt iter:Expr}{ifs:List Expr}{scope:Scope}{pos:Pos}{own:List Str}{cap:List (Str × Nat)}{it:SD->Res (Bool × List D)}{tgd:TGD}{tt:SD->Res Bool}{fe:SD->Res D}
theorem q_comp (ok:CompOk X scope own cap) (hc:X.calm=true) (hi:PI X tg iter (tMI X.K Y it)) (Bl:BlockOk X scope own cap tg ifs elt (tMG X.K tgd) (tMB X.K NoY tt) (tM X.K NoY fe)) (hs:∀ x,foldedSetIterable iter X.env x=pure x:=by intro _; rfl) :
  PE X (.ListComp elt [⟨tg,iter,ifs,0⟩] scope pos) (tM X.K Y (eComp it tgd tt fe own.length cap)) :=
 PE.imp (pe_comp ok hc hi Bl hs) fun σ H Q hq=>ex8 hq fun H0 B0 B τ P F I h=>comp_main I h
theorem s_setComp {i:Nat}{y:Str}{py spos:Pos} (hN:X.N.Nodup) (hi':X.N[i]?=some y) (hy:Loc X.env.scope y) (ok:CompOk X scope own cap) (hc:X.calm=true) (hi:PI X tg iter (tMI X.K Y it)) (Bl:BlockOk X scope own cap tg ifs elt (tMG X.K tgd) (tMB X.K NoY tt) (tM X.K NoY fe))
  (hsw:swapsWith (.ListComp elt [⟨tg,iter,ifs,0⟩] scope pos) (some (.Name y py)) spos.line X.env=pure true:=by rfl)
  (hf:X.fn y=true ∨ X.env.scope.names.lookup y=some .local:=by first | exact .inl rfl | exact .inr rfl) (hs:∀ x,foldedSetIterable iter X.env x=pure x:=by intro _; rfl) :
  PS X (.Assign [.Name y py] (.ListComp elt [⟨tg,iter,ifs,0⟩] scope pos) spos) (tMS X.K Y (sSet i (eComp it tgd tt fe own.length cap))):=by
 refine PS.imp (ps_setComp hN hi' hy ok hc hi Bl hsw hf hs) fun E σ H hq=>ex7 hq fun H0 B0 B τ P I h=>?_
 have key:tM X.K Y (eComp it tgd tt fe own.length cap) σ H (fun x H1=>gName i x σ H1 E.nx):=exprS I h fun d v H1 B1 fp _ I1 _ _ r1 k1 h1=>by
  unfold setD at h1
  split at h1
  ·exact h1.elim
  ·rename_i hb
   obtain ⟨P',I',_⟩:=I1.set i (r1.noBor (by simpa using hb)) k1
   exact h1 B1 H1 _ P' ⟨I',Same.refl _,Imm.refl _⟩
 obtain ⟨H0',B0',B',τ',P',F',I',h'⟩:=key
 exact comp_main I' h'
def bTrue (_:SD):Res Bool := .ok true
theorem qif_nil:PIf X [] (tMB X.K Y bTrue):=fun pins s σ H Q I ⟨H0,B0,B,τ,P,F,I',h⟩=>pif_nil pins s σ H Q I (h H B I' (Same.refl _) (Same.refl _))
theorem qif_one {c:Expr}{gc:SD->Res Bool} (h:PT X c (tMB X.K Y gc)):PIf X [c] (tMB X.K Y gc):=pif_one h
end
section
variable {K:PySem.W.Frag}{Y:XY}{H0 B0 B H:Hp}{σ:L2.St}{τ:SD}{P:List Addr}{F:Addr->Prop}{X:Cx}{pos p:Pos}{e:Expr}{fe:SD->Res D}
def tyN:D->String | .non=>"NoneType" | .bl _=>"bool" | .int _=>"int" | .str _=>"str" | .tup _=>"tuple" | .lst _ _=>"list" | .dct _ _ _ _=>"dict" | .exc _=>""
def D.isExc:D->Bool | .exc _=>true | _=>false
theorem call_isinstS {T:String}:CallR X (.builtin "isinstance") (fun xs H Q=>∃ x t b,xs=[x,.ty T]/\(TyOf X.K H x t ∨ (∃ a vs,x=.ref a/\SqT X.K H a vs/\t=.type "tuple") ∨ (∃ a vs,x=.ref a/\SqL X.K H a vs/\t=.type "list"))/\PySem.W.kitOne X.K t (.type T)=some b/\Q (.bl b) H):=by
 intro pins s σ H xs us Q I r h
 obtain ⟨x,t,b,rfl,ty,e,q⟩:=h
 obtain ⟨u,v,rfl,ru,rv⟩:=vals2 r
 cases rv
 rcases ty with ty | ⟨a,vs,rfl,hq,rfl⟩ | ⟨a,vs,rfl,hq,rfl⟩
 ·exact isinst_ok I ru ty e fun tk=>⟨.bl b,H,I.tok tk,rfl,q⟩
 ·cases ru
  obtain ⟨its,_,⟨o,h1,h2,_⟩,_⟩:=I.tuple hq
  exact PySem.W.kia_one PySem.W.kitx_tuple I.kIn ⟨o,h1,h2⟩ e (fun z=>nomatch z) fun tk=>⟨.bl b,H,I.tok tk,rfl,q⟩
 ·cases ru
  obtain ⟨its,_,pl,_⟩:=I.list hq
  obtain ⟨o,h1,h2,_⟩:=pl.isList
  exact PySem.W.kia_one PySem.W.kitx_list I.kIn ⟨o,h1,h2⟩ e (fun z=>nomatch z) fun tk=>⟨.bl b,H,I.tok tk,rfl,q⟩
theorem tyOf_rep {d:D}{v:V}{f:List Addr} (I:SI K H0 B0 B H σ τ P F) (r:Rep K B (· ∈ P) H d v f) (ne:d.isExc=false):TyOf K H v (.type (tyN d)) ∨ (∃ a vs,v=.ref a/\SqT K H a vs/\(Value.type (tyN d))=.type "tuple") ∨ (∃ a vs,v=.ref a/\SqL K H a vs/\(Value.type (tyN d))=.type "list"):=by
 cases d with
 | non=>rw [r.1]; exact .inl .non
 | bl b=>rw [r.1]; exact .inl (.bl b)
 | int b=>rw [r.1]; exact .inl (.int b)
 | str b=>rw [r.1]; exact .inl (.str b)
 | exc _=>cases ne
 | tup xs=>obtain ⟨a,vs,rfl,q,_⟩:=r; exact .inr (.inl ⟨a,vs,rfl,SqT.of q,rfl⟩)
 | lst t xs =>
  obtain ⟨a,vs,g,rfl,q,_⟩:=r.lst I
  exact .inr (.inr ⟨a,vs,rfl,q,rfl⟩)
 | dct t k ks xs =>
  have:∃ a vs,v=.ref a/\DictAt H a k ks vs:=by
   cases t with
   | len a=>obtain ⟨vs,g,e,q,_⟩:=r; exact ⟨a,vs,e,q⟩
   | own=>obtain ⟨a,vs,g,e,q,_⟩:=r; exact ⟨a,vs,e,q⟩
   | bor=>obtain ⟨a,vs,e,q,_⟩:=r; exact ⟨a,vs,e,q.elim (fun y=>y.2) fun y=>y.mono I.bh⟩
   | frz=>obtain ⟨a,vs,e,q,_⟩:=r; exact ⟨a,vs,e,q.mono I.bh⟩
  obtain ⟨a,vs,rfl,⟨_,kvs,q,_⟩ | ⟨_,kvs,q,_⟩⟩:=this
  ·exact .inl (.dK q)
  ·exact .inl (.dT q)
def isB:D->Bool | .bl _=>true | _=>false
def isI:D->Bool | .bl _=>true | .int _=>true | _=>false
def isTp:D->Bool | .tup _=>true | _=>false
def InstOf (T:String) (g:D->Bool):Prop := ∀ (K:PySem.W.Frag) (d:D),d.isExc=false->PySem.W.kitOne K (.type (tyN d)) (.type T)=some (g d)
theorem inst_bool:InstOf "bool" isB:=fun K d h=>by cases d <;> first | rfl | cases h
theorem inst_int:InstOf "int" isI:=fun K d h=>by cases d <;> first | rfl | cases h
theorem inst_tuple:InstOf "tuple" isTp:=fun K d h=>by cases d <;> first | rfl | cases h
def instD (g:D->Bool) (d:D):Res D:=if d.isExc=true then .bad else .ok (.bl (g d))
theorem q_inst {T:String}{g:D->Bool}{ty:Expr}{pt:Pos}{x:Str} (hI:InstOf T g) (hg:Gl X "isinstance") (hm:X.mg "isinstance" = none) (he:PE X e (tM X.K Y fe)) (hgT:Gl X x) (hmT:X.mg x=none) (hbT:bootBuiltins x=some (.type T))
  (hs:starEach [e,.Name x pt] X.env=(false,eval e X.env) :: starEach [.Name x pt] X.env:=by rfl) (hs2:starEach [.Name x pt] X.env=(false,eval (.Name x pt) X.env) :: starEach [] X.env:=by rfl) (hpl:(backTo pos (starEach [.Name x pt] X.env)).any (·.1)=false:=by rfl) (hn:x ≠ "__name__" := by decide) (hdb:(x == ("__debug__" : Str))=false:=by decide) :
  PE X (.Call (.Name "isinstance" p) [e,.Name x pt] [] pos) (tM X.K Y (eUn (instD g) fe)):=by
 refine PE.imp (pe_callB (call_isinstS (T:=T)) hg hm (by decide +kernel) (pa_cons he (pa_cons (pe_bltn hgT hmT hbT (show RelV (.ty T) _ from rfl) hn hdb) pa_nil hs2) hs) (he:=hs) (hpl:=hpl)) fun σ H Q hq=>ex8 hq fun H0 B0 B τ P F I h=>?_
 refine tM.seq (g:=instD g) I h fun d v H1 B1 fp _ I1 s1 b1 r1 k1 h1=>?_
 unfold instD at h1
 split at h1
 ·exact h1.elim
 ·rename_i hx
  have hx:d.isExc=false:=by simpa using hx
  exact ⟨v,_,_,rfl,tyOf_rep I1 r1 hx,hI _ d hx,Out.here h1 I1 ⟨rfl,rfl⟩⟩
def intsOf:List D->Option (List Int)
 | []=>some []
 | .int i :: r=>(intsOf r).map (i :: ·)
 | _ :: _=>none
theorem intsOf_map (ns:List Int):intsOf (ns.map D.int)=some ns:=by
 induction ns with
 | nil=>rfl
 | cons n r ih=>rw [List.map_cons,intsOf,ih]; rfl
theorem intsOf_eq:∀ {xs:List D}{ns:List Int},intsOf xs=some ns->xs=ns.map D.int
 | [],ns,h=>by cases h; rfl
 | .int i :: r,ns,h=>by
  unfold intsOf at h
  cases e:intsOf r with
  | none=>rw [e] at h; cases h
  | some m=>rw [e] at h; cases h; rw [List.map_cons,<- intsOf_eq e]
 | .non :: _,_,h=>by cases h
 | .bl _ :: _,_,h=>by cases h
 | .str _ :: _,_,h=>by cases h
 | .tup _ :: _,_,h=>by cases h
 | .lst _ _ :: _,_,h=>by cases h
 | .dct _ _ _ _ :: _,_,h=>by cases h
 | .exc _ :: _,_,h=>by cases h
theorem repL_ints {S:Addr->Prop}:∀ {ns:List Int}{vs:List V}{f:List Addr},RepL K B S H (ns.map D.int) vs f->vs=ns.map V.int/\f=[]
 | [],vs,f,r=>r
 | n :: ns,vs,f,r=>by
  obtain ⟨v,w,f1,f2,rfl,⟨rfl,rfl⟩,r2,rfl⟩:=r
  obtain ⟨rfl,rfl⟩:=repL_ints r2
  exact ⟨rfl,rfl⟩
theorem ints_repL {S:Addr->Prop}:∀ (ns:List Int),RepL K B S H (ns.map D.int) (ns.map V.int) []
 | []=>⟨rfl,rfl⟩
 | n :: ns=>⟨_,_,[],[],rfl,⟨rfl,rfl⟩,ints_repL ns,rfl⟩
def sortI (ns:List Int):List Int:=ns.mergeSort (fun a b=>decide (a <= b))
theorem sortI_perm (ns:List Int):(sortI ns).Perm ns:=List.mergeSort_perm ns _
theorem sortI_sorted (ns:List Int):(sortI ns).Pairwise (· <= ·):=by
 have h:=List.pairwise_mergeSort (le:=fun a b:Int=>decide (a <= b)) (fun a b c h1 h2=>by simp at *; omega) (fun a b=>by simp; omega) ns
 exact h.imp fun h=>by simpa using h
theorem sorted_unique:∀ {l m:List Int},l.Perm m->l.Pairwise (· <= ·)->m.Pairwise (· <= ·)->l=m
 | [],m,hp,_,_=>(List.Perm.nil_eq hp)
 | x :: r,m,hp,h1,h2=>by
  match m,hp,h2 with
  | [],hp,_=>exact absurd hp.length_eq (by simp)
  | y :: r',hp,h2 =>
   obtain ⟨a1,a2⟩:=List.pairwise_cons.mp h1
   obtain ⟨b1,b2⟩:=List.pairwise_cons.mp h2
   have e:x=y:=by
    have m1:x ∈ y :: r' := hp.mem_iff.mp List.mem_cons_self
    have m2:y ∈ x :: r:=hp.mem_iff.mpr List.mem_cons_self
    rcases List.mem_cons.mp m1 with q | q
    ·exact q
    ·rcases List.mem_cons.mp m2 with q' | q'
     ·exact q'.symm
     ·have:=b1 x q
      have:=a1 y q'
      omega
   subst e
   rw [sorted_unique ((List.perm_cons _).mp hp) a2 b2]
def sortedD:List D->Res D
 | [.lst _ xs]=>match intsOf xs with | some ns=>if ns.length < 64 then .ok (.lst .own ((sortI ns).map D.int)) else .bad | none=>.bad
 | _=>.bad
end
def keyF:D->Option Key | .int i=>some (.inl i) | .str x=>some (.inr x) | _=>none
def keyFs:List D->Option (List Key)
 | []=>some []
 | d :: r=>(keyF d).bind fun k=>(keyFs r).map (k :: ·)
def keyK:D->Option KT
 | .int i=>some (.inl (.inl i))
 | .str x=>some (.inl (.inr x))
 | .tup ds=>(keyFs ds).map .inr
 | _=>none
def KT.kind:KT->Bool | .inl _=>false | .inr _=>true
def lookD:List KT->List D->KT->Option D
 | k :: ks,d :: ds,q=>if k=q then some d else lookD ks ds q
 | _,_,_=>none
def hasK (ks:List KT) (q:KT):Bool:=ks.any fun k=>decide (k=q)
def putKs (ks:List KT) (q:KT):List KT:=if hasK ks q=true then ks else ks ++ [q]
def replD:List KT->List D->KT->D->List D
 | k :: ks,d :: ds,q,x=>(if k=q then x else d) :: replD ks ds q x
 | _,ds,_,_=>ds
def putVs (ks:List KT) (ds:List D) (q:KT) (d:D):List D:=if hasK ks q=true then replD ks ds q d else ds ++ [d]
section
variable {K:PySem.W.Frag}{Y:XY}{H0 B0 B H:Hp}{σ:L2.St}{τ:SD}{P:List Addr}{F:Addr->Prop}{X:Cx}{pos:Pos}
theorem Rep.dc (I:SI K H0 B0 B H σ τ P F) {t:Tg}{k:Bool}{ks:List KT}{xs:List D}{v:V}{f:List Addr} (r:Rep K B (· ∈ P) H (.dct t k ks xs) v f):∃ a vs g,v=.ref a/\DictAt H a k ks vs/\RepL K B (· ∈ P) H xs vs g/\List.Sublist g f:=by
 cases t with
 | len a =>
  obtain ⟨vs,g,e,q,r,z⟩:=r
  subst z
  exact ⟨a,vs,g,e,q,r,List.sublist_cons_self _ _⟩
 | own =>
  obtain ⟨a,vs,g,e,q,r,z⟩:=r
  subst z
  exact ⟨a,vs,g,e,q,r,List.sublist_cons_self _ _⟩
 | bor =>
  obtain ⟨a,vs,e,q,r,z⟩:=r
  subst z
  exact ⟨a,vs,[],e,q.elim (fun y=>y.2) fun y=>y.mono I.bh,r,List.Sublist.refl _⟩
 | frz =>
  obtain ⟨a,vs,e,q,r,z⟩:=r
  subst z
  exact ⟨a,vs,[],e,q.mono I.bh,r.mono (Same.refl _) (Same.refl _) (fun _ x=>x.elim),List.Sublist.refl _⟩
theorem keyFs_rep {S:Addr->Prop}:∀ {ds:List D}{k:List Key}{vs:List V}{f:List Addr},keyFs ds=some k->RepL K B S H ds vs f->vs=k.map kV
 | [],k,vs,f,h,r=>by cases h; exact r.1
 | d :: ds,k,vs,f,h,r=>by
  obtain ⟨v,w,f1,f2,rfl,r1,r2,_⟩:=r
  unfold keyFs at h
  cases e1:keyF d with
  | none=>rw [e1] at h; cases h
  | some q =>
   rw [e1] at h
   cases e2:keyFs ds with
   | none=>rw [e2] at h; cases h
   | some m =>
    rw [e2] at h
    cases h
    rw [keyFs_rep e2 r2,List.map_cons]
    congr 1
    cases d <;> first | (cases e1; exact r1.1) | cases e1
theorem keyK_l {S:Addr->Prop}{d:D}{k:Key}{v:V}{f:List Addr} (h:keyK d=some (.inl k)) (r:Rep K B S H d v f):v=kV k:=by
 cases d with
 | int i=>cases h; exact r.1
 | str i=>cases h; exact r.1
 | tup ds =>
  have h:(keyFs ds).map Sum.inr=some (Sum.inl k):=h
  cases e:keyFs ds <;> rw [e] at h <;> cases h
 | _=>cases h
theorem keyK_r {S:Addr->Prop}{d:D}{k:List Key}{v:V}{f:List Addr} (h:keyK d=some (.inr k)) (r:Rep K B S H d v f):∃ b,v=.ref b/\H b=some (.tup (k.map kV)):=by
 cases d with
 | tup ds =>
  have h:(keyFs ds).map Sum.inr=some (Sum.inr k):=h
  cases e:keyFs ds with
  | none=>rw [e] at h; cases h
  | some m =>
   rw [e] at h
   cases h
   obtain ⟨a,vs,rfl,q,rl⟩:=r
   rw [keyFs_rep e rl] at q
   exact ⟨a,rfl,q⟩
 | int i=>cases h
 | str i=>cases h
 | _=>cases h
theorem look_some {κ:Type} [DecidableEq κ] (ι:κ->KT) (inj:∀ a b,ι a=ι b->a=b) {S:Addr->Prop}:∀ {kvs:List (κ × V)}{xs:List D}{f:List Addr}{k:κ},RepL K B S H xs (kvs.map (·.2)) f ->
  match lookD (kvs.map fun p=>ι p.1) xs (ι k) with
  | some d=>∃ v g,valV kvs k=some v/\Rep K B S H d v g/\List.Sublist g f
  | none=>valV kvs k=none
 | [],xs,f,k,r=>by cases xs <;> rfl
 | p :: kvs,[],f,k,r=>by obtain ⟨h,_⟩:=r; cases h
 | p :: kvs,d :: ds,f,k,r=>by
  obtain ⟨v,w,f1,f2,e,r1,r2,rfl⟩:=r
  rw [List.map_cons] at e
  cases e
  rw [List.map_cons,lookD]
  by_cases h:p.1=k
  ·rw [if_pos (congrArg ι h)]
   exact ⟨_,f1,valV_pos h,r1,List.sublist_append_left _ _⟩
  ·rw [if_neg fun z=>h (inj _ _ z)]
   have ih:=look_some ι inj (k:=k) r2
   split at ih
   ·rename_i d' e'
    obtain ⟨v',g,h1,h2,h3⟩:=ih
    exact ⟨v',g,by rw [valV_neg h]; exact h1,h2,h3.trans (List.sublist_append_right _ _)⟩
   ·rename_i e'
    rw [valV_neg h]
    exact ih
theorem dget_ok {a:Addr}{k:Bool}{ks:List KT}{xs:List D}{vs:List V}{g:List Addr}{q:KT}{dk:D}{y:V}{f:List Addr} (hd:DictAt H a k ks vs) (r:RepL K B (· ∈ P) H xs vs g) (hk:keyK dk=some q) (rk:Rep K B (· ∈ P) H dk y f) (hq:q.kind=k) :
  match lookD ks xs q with
  | some d=>∃ v g',DGet H a y (some v)/\Rep K B (· ∈ P) H d v g'/\List.Sublist g' g
  | none=>DGet H a y none:=by
 rcases hd with ⟨rfl,kvs,ha,rfl,rfl⟩ | ⟨rfl,kvs,ha,rfl,rfl⟩
 ·cases q with
  | inr q=>cases hq
  | inl q =>
   have ev:=keyK_l hk rk
   subst ev
   have ih:=look_some Sum.inl (fun a b h=>Sum.inl.inj h) (k:=q) r
   split at ih
   ·rename_i d e
    rw [e]
    obtain ⟨v,g',h1,h2,h3⟩:=ih
    exact ⟨v,g',h1 ▸ DGet.k ha,h2,h3⟩
   ·rename_i e
    rw [e]
    exact ih ▸ DGet.k ha
 ·cases q with
  | inl q=>cases hq
  | inr q =>
   obtain ⟨b,rfl,hb⟩:=keyK_r hk rk
   have ih:=look_some Sum.inr (fun a b h=>Sum.inr.inj h) (k:=q) r
   split at ih
   ·rename_i d e
    rw [e]
    obtain ⟨v,g',h1,h2,h3⟩:=ih
    exact ⟨v,g',h1 ▸ DGet.t ha hb,h2,h3⟩
   ·rename_i e
    rw [e]
    exact ih ▸ DGet.t ha hb
def eDict (k:Bool) (_:SD):Res D := .ok (.dct .own k [] [])
theorem newDict {Q:VK}{k:Bool}{o:HO}{pa:Addr} (h:Out K H0 B0 B H σ τ P F Q (.dct .own k [] [])) (I:SI K H0 B0 B H σ τ P F) (hp:H pa=none) (ho:DictAt (upd H pa o) pa k [] []):Q (.ref pa) (upd H pa o):=by
 have s:=sameUpd' (o:=o) hp
 obtain ⟨n1,n2,n3,n4⟩:=I.newAt hp
 refine h (.ref pa) _ B [pa] (I.grow s) s (Same.refl _) ⟨pa,[],[],rfl,ho,⟨rfl,rfl⟩,rfl⟩ ⟨by simp,fun a m=>?_⟩
 have e:a=pa:=by simpa using m
 subst e
 exact ⟨n1,n2,(by rw [upd_same]; exact Option.some_ne_none _),n3,n4⟩
theorem q_dictT:PE X (.Dict [] [] pos) (tM X.K Y (eDict true)):=PE.imp pe_dnewT fun σ H Q ⟨H0,B0,B,τ,P,F,I,h⟩ p hp=>newDict h I hp (.inr ⟨rfl,[],upd_same,rfl,rfl⟩)
variable {o i:Expr}{fo fi:SD->Res D}
def dgetD (dd dk:D):Res D:=match dd with
 | .dct _ k ks vs=>match keyK dk with
  | some q=>if q.kind=k then (match lookD ks vs q with | some d=>.ok d | none=>.bad) else .bad
  | none=>.bad
 | _=>.bad
theorem q_dget (hu:X.A.units + 1 < cLine) (ho:PE X o (tM X.K Y fo)) (hi:PE X i (tM X.K Y fi)) (hs:NoSl i):PE X (.Subscript o i pos) (tM X.K Y (eBin dgetD fo fi)) :=
 PE.imp (pe_dget hu ho hi hs) fun σ H Q hq=>ex8 hq fun H0 B0 B τ P F I h=>tM.seq2 I h fun d1 d2 v1 v2 H2 B2 f1 f2 _ _ I2 _ _ r1 r2 k h2=>by
  unfold dgetD at h2
  split at h2
  ·split at h2
   ·rename_i q hk
    split at h2
    ·rename_i hq
     obtain ⟨a,vs,g,rfl,hd,rl,sg⟩:=r1.dc I2
     have key:=dget_ok hd rl hk r2 hq
     split at key
     ·rename_i d e
      rw [e] at h2
      obtain ⟨v,g',k1,k2,k3⟩:=key
      exact ⟨a,v,rfl,k1,Out.hereO h2 I2 k2 (k.left.sub (k3.trans sg))⟩
     ·rename_i e
      rw [e] at h2
      exact h2.elim
    ·exact h2.elim
   ·exact h2.elim
  ·exact h2.elim
theorem Rep.ownD {t:Tg}{k:Bool}{ks:List KT}{xs:List D}{v:V}{fp:List Addr}{S:Addr->Prop} (ht:t.isOwn=true) (r:Rep K B S H (.dct t k ks xs) v fp) :
  ∃ a vs f,v=.ref a/\DictAt H a k ks vs/\RepL K B S H xs vs f/\fp=a :: f/\∀ {B' H':Hp}{S':Addr->Prop}{ks':List KT}{xs':List D}{vs':List V}{f':List Addr},DictAt H' a k ks' vs'->RepL K B' S' H' xs' vs' f'->Rep K B' S' H' (.dct t k ks' xs') (.ref a) (a :: f'):=by
 cases t with
 | own=>obtain ⟨a,vs,f,e,q,r,z⟩:=r; exact ⟨a,vs,f,e,q,r,z,fun q' r'=>⟨a,_,_,rfl,q',r',rfl⟩⟩
 | len a=>obtain ⟨vs,f,e,q,r,z⟩:=r; exact ⟨a,vs,f,e,q,r,z,fun q' r'=>⟨_,_,rfl,q',r',rfl⟩⟩
 | bor=>cases ht
 | frz=>cases ht
def ownDc (τ:SD) (i:Nat):Option (Tg × Bool × List KT × List D):=match τ[i]? with | some (some (.dct t k ks xs))=>if t.isOwn=true then some (t,k,ks,xs) else none | _=>none
theorem ownDc_some {τ:SD}{i:Nat}{t:Tg}{k:Bool}{ks:List KT}{xs:List D} (h:ownDc τ i=some (t,k,ks,xs)):τ[i]?=some (some (.dct t k ks xs))/\t.isOwn=true:=by
 unfold ownDc at h
 split at h
 ·rename_i e
  split at h
  ·rename_i ht; cases h; exact ⟨e,ht⟩
  ·cases h
 ·cases h
theorem hasK_map {κ:Type} [DecidableEq κ] (ι:κ->KT) (inj:∀ a b,ι a=ι b->a=b) (k:κ):∀ kvs:List (κ × V),hasK (kvs.map fun p=>ι p.1) (ι k)=kvs.any fun kv=>decide (kv.1=k)
 | []=>rfl
 | p :: r=>by
  have ih:=hasK_map ι inj k r
  unfold hasK at ih ⊢
  rw [List.map_cons,List.any_cons,List.any_cons,ih]
  congr 1
  by_cases h:p.1=k
  ·simp [h]
  ·rw [decide_eq_false h,decide_eq_false fun z=>h (inj _ _ z)]
theorem put_ok {κ:Type} [DecidableEq κ] (ι:κ->KT) (inj:∀ a b,ι a=ι b->a=b) {kvs:List (κ × V)}{xs:List D}{f fp:List Addr}{k:κ}{d:D}{v:V} (r:RepL K B No H xs (kvs.map (·.2)) f) (rv:Rep K B No H d v fp) (hp:hasK (kvs.map fun p=>ι p.1) (ι k)=true->d.pure=true) :
  putKs (kvs.map fun p=>ι p.1) (ι k)=(putK kvs k v).map (fun p=>ι p.1)/\∃ f',RepL K B No H (putVs (kvs.map fun p=>ι p.1) xs (ι k) d) ((putK kvs k v).map (·.2)) f'/\(∀ b ∈ f',b ∈ f ∨ b ∈ fp)/\(f.Nodup->fp.Nodup->(∀ b ∈ fp,b ∉ f)->f'.Nodup):=by
 unfold putKs putVs putK
 rw [hasK_map ι inj k kvs] at hp ⊢
 by_cases h:(kvs.any fun kv=>decide (kv.1=k))=true
 ·rw [if_pos h,if_pos h,if_pos h]
  have hpu:=hp h
  have hfp:fp=[]:=pure_fp.1 d hpu rv
  subst hfp
  refine ⟨?_,?_⟩
  ·rw [List.map_map]
   refine List.map_congr_left fun p _=>?_
   show _=ι (if p.1=k then (p.1,v) else p).1
   split <;> rfl
  ·have key:∀ {kvs:List (κ × V)}{xs:List D}{f:List Addr},RepL K B No H xs (kvs.map (·.2)) f->∃ f',RepL K B No H (replD (kvs.map fun p=>ι p.1) xs (ι k) d) ((kvs.map fun kv=>if kv.1=k then (kv.1,v) else kv).map (·.2)) f'/\List.Sublist f' f:=by
    intro kvs
    induction kvs with
    | nil=>intro xs f r; cases xs with
     | nil=>exact ⟨f,r,List.Sublist.refl _⟩
     | cons x xs=>obtain ⟨_,_,_,_,e,_⟩:=r; cases e
    | cons p kvs ih =>
     intro xs f r
     cases xs with
     | nil=>obtain ⟨e,_⟩:=r; cases e
     | cons x xs =>
      obtain ⟨u,w,f1,f2,e,r1,r2,rfl⟩:=r
      rw [List.map_cons] at e
      cases e
      obtain ⟨g,h1,h2⟩:=ih r2
      rw [List.map_cons,List.map_cons,List.map_cons,replD]
      by_cases hk:p.1=k
      ·rw [if_pos hk,if_pos (congrArg ι hk)]
       exact ⟨g,⟨v,_,[],g,rfl,rv,h1,rfl⟩,h2.trans (List.sublist_append_right _ _)⟩
      ·rw [if_neg hk,if_neg fun z=>hk (inj _ _ z)]
       exact ⟨f1 ++ g,⟨_,_,f1,g,rfl,r1,h1,rfl⟩,List.Sublist.append (List.Sublist.refl _) h2⟩
   obtain ⟨g,h1,h2⟩:=key r
   exact ⟨g,h1,fun b m=>.inl (h2.subset m),fun n _ _=>n.sublist h2⟩
 ·rw [if_neg h,if_neg h,if_neg h]
  refine ⟨by rw [List.map_append]; rfl,f ++ fp,?_,fun b m=>List.mem_append.mp m,fun n1 n2 n3=>List.nodup_append.mpr ⟨n1,n2,fun a ha b hb e=>n3 b hb (e ▸ ha)⟩⟩
  rw [List.map_append]
  exact r.append (RepL.one rv)
theorem SI.mutD {i:Nat}{t:Tg} (ht:t.isOwn=true) {k:Bool}{ks ks':List KT}{xs xs':List D}{gp:List Addr}{a:Addr}{o':HO} (I:SI K H0 B0 B H σ τ P No) (hi:τ[i]?=some (some (.dct t k ks xs))) (ev:σ[i]?=some (some (.ref a))) (kv:Vok H0 B H P No gp) (mu:∃ o,H a=some o/\mutO o)
  (items:∀ vs f,DictAt H a k ks vs->RepL K B No H xs vs f->∃ vs' f',DictAt (upd H a o') a k ks' vs'/\RepL K B No H xs' vs' f'/\(∀ b ∈ f',b ∈ f ∨ b ∈ gp)/\(f.Nodup->(∀ b ∈ gp,b ∉ f)->f'.Nodup)) :
  ∃ P',Aft K H0 B0 B H B (upd H a o') σ (τ.set i (some (.dct t k ks' xs'))) P' := by
 have hi':i < τ.length:=(List.getElem?_eq_some_iff.mp hi).1
 obtain ⟨A,f,C,e,h1,h2⟩:=I.rep.cut hi'
 obtain ⟨v,e1,r1⟩:=h1 _ hi
 rw [ev] at e1
 cases e1
 obtain ⟨a',ws,g,ea,hq,rl,ef,back⟩:=r1.ownD ht
 cases ea
 subst ef
 have nd0:=I.nd
 rw [e] at nd0
 have ndf:(a :: g).Nodup:=(nd0.sublist (List.sublist_append_left _ _)).sublist (List.sublist_append_right _ _)
 have gdis:∀ b ∈ gp,b ∉ a :: g:=fun b m z=>(kv.own b m).2.2.2.1 (by rw [e]; exact sublist_mid _ _ _ b z)
 obtain ⟨vs',f',dq',r',s',n'⟩:=items ws g hq rl
 obtain ⟨na,ng⟩:=List.nodup_cons.mp ndf
 have hna:a ∉ f' := fun m=>(s' a m).elim na fun z=>gdis a z List.mem_cons_self
 have es:σ.set i (some (.ref a))=σ:=by
  refine List.ext_getElem? fun k=>?_
  by_cases hk:k=i
  ·subst hk
   rw [List.getElem?_set_self (List.getElem?_eq_some_iff.mp ev).1,ev]
  ·rw [List.getElem?_set_ne (Ne.symm hk)]
 have kp:Keep H (upd H a o') [a]:=⟨fun b o h n=>by rw [upd_ne (by simpa using n)]; exact h,fun b m=>by
  have:b=a:=by simpa using m
  subst this
  exact mu⟩
 have kpf:Keep H (upd H a o') (a :: g):=⟨fun b o h n=>kp.keep b o h (fun z=>n (List.mem_cons.mpr (.inl (List.mem_singleton.mp z)))),fun b m=>I.rep.own b (by rw [e]; exact sublist_mid _ _ _ b m)⟩
 have key:=I.put (i:=i) (H1:=upd H a o') (d' := .dct t k ks' xs') (v' := .ref a) (f' := a :: f') hi' e h2 kpf (back dq' (r'.keep kp fun b m=>by
   have:b ≠ a:=fun z=>hna (z ▸ m)
   simpa using this)) (List.nodup_cons.mpr ⟨hna,n' ng fun b m z=>gdis b m (List.mem_cons_of_mem _ z)⟩) fun b m=>?_
 ·rw [es] at key
  exact ⟨_,key,Same.refl _,fun b o h n=>kp.imm h n⟩
 ·rcases List.mem_cons.mp m with q | q
  ·exact .inl (by simp [q])
  ·rcases s' b q with z | z
   ·exact .inl (List.mem_cons_of_mem _ z)
   ·obtain ⟨a1,a2,a3,a4,a5⟩:=kv.own b z
    exact .inr (.inr ⟨a4,a1,a2,a5⟩)
def sDput (i:Nat) (fk fv:SD->Res D) (τ:SD):Fl:=(fv τ).toFl τ fun d=>match ownDc τ i with
 | some (t,k,ks,xs)=>(fk τ).toFl τ fun dk=>match keyK dk with
  | some q=>if q.kind=k/\d.hasBor=false/\ks.length < 16777216/\(hasK ks q=true->d.pure=true) then .nx (τ.set i (some (.dct t k (putKs ks q) (putVs ks xs q d)))) else .bad
  | none=>.bad
 | none=>.bad
theorem s_dput (i:Nat) {x:Str}{p1 pos':Pos}{ke value:Expr}{fk fv:SD->Res D} (hu:X.A.units + 1 < cLine) (hk:PE X ke (tM X.K Y fk)) (hv:PE X value (tM X.K Y fv)) (hN:X.N[i]?=some x:=by rfl) (hvi:Vis X.env.scope x:=by first | exact Or.inl rfl | exact Or.inr (Or.inl rfl) | exact Or.inr (Or.inr rfl)) (hd:(x == ("__debug__" : Str))=false:=by decide) (hcd:(x == ("__classdict__" : Str))=false:=by decide)
  (hs:swapsWith value (some (.Subscript (.Name x p1) ke pos')) pos.line X.env=pure false:=by rfl):PS X (.Assign [.Subscript (.Name x p1) ke pos'] value pos) (tMS X.K Y (sDput i fk fv)):=by
 refine PS.imp (ps_dput hu (pe_var hN hvi hd hcd) hk hv hs) fun E σ H hq=>ex7 hq fun H0 B0 B τ P I h=>?_
 refine exprS I h fun d v H1 B1 fp _ I1 s1 b1 r1 k1 h1=>?_
 cases z:ownDc τ i with
 | none=>rw [z] at h1; exact h1.elim
 | some t =>
  obtain ⟨t,k,ks,xs⟩:=t
  rw [z] at h1
  obtain ⟨hi,ht⟩:=ownDc_some z
  obtain ⟨w,f,e1,r2,sf⟩:=I1.rep.get hi
  obtain ⟨a,ws,g,rfl,dq,rl,ef,_⟩:=r2.ownD ht
  refine ⟨.ref a,e1,?_⟩
  refine ⟨H0,B0,B1,τ,P,_,I1.hold k1,?_⟩
  simp only at h1
  cases y:fk τ with
  | exn C=>rw [y] at h1; exact fun H2 B2 I2 s2 b2=>h1 B2 H2 σ P (Aft.grow (I2.anti fun _ x=>x.elim) b2 s2)
  | bad=>rw [y] at h1; exact h1
  | ok dk =>
   rw [y] at h1
   intro vk H2 B2 fq I2 s2 b2 rk kk
   have I3:SI X.K H0 B0 B2 H2 σ τ P No:=I2.anti fun _ x=>x.elim
   have h2:=GoalS.later h1 (Aft.grow I3 b2 s2)
   simp only [Res.toFl] at h2
   cases hkk:keyK dk with
   | none=>rw [hkk] at h2; exact h2.elim
   | some q =>
    rw [hkk] at h2
    simp only at h2
    split at h2
    ·rename_i hc
     obtain ⟨c1,c2,c3,c4⟩:=hc
     have kv:Vok H0 B2 H2 P No fp:=⟨k1.nd,fun a m=>let ⟨_,a2,_,a4,a5⟩:=k1.own a m; ⟨(I2.fr a (.inl m)).1,a2,(I2.fr a (.inl m)).2,a4,a5⟩⟩
     have rd:=(r1.noBor c2).mono s2 b2 fun _ x=>x
     have dq2:=dq.mono s2
     have rl2:=rl.mono s2 b2 fun _ x=>x
     have mu:∃ o,H2 a=some o/\mutO o:=by
      rcases dq2 with ⟨_,kvs,q,_⟩ | ⟨_,kvs,q,_⟩
      ·exact ⟨_,q,trivial⟩
      ·exact ⟨_,q,trivial⟩
     rcases dq2 with ⟨rfl,kvs,ha,hks,hws⟩ | ⟨rfl,kvs,ha,hks,hws⟩
     ·cases q with
      | inr q=>cases c1
      | inl q =>
       have ev:=keyK_l hkk rk
       subst ev
       subst hks hws
       obtain ⟨P',A'⟩:=I3.mutD ht (o' := .dK (putK kvs q v)) (ks' := putKs (kvs.map fun p=>Sum.inl p.1) (.inl q)) (xs' := putVs (kvs.map fun p=>Sum.inl p.1) xs (.inl q) d) hi e1 kv mu fun vs f hda hr=>by
        rcases hda with ⟨_,kvs',q1,q2,q3⟩ | ⟨q0,_⟩
        ·rw [ha] at q1
         cases q1
         subst q3
         obtain ⟨p1,f',p2,p3,p4⟩:=put_ok Sum.inl (fun a b h=>Sum.inl.inj h) (k:=q) hr rd c4
         exact ⟨_,f',.inl ⟨rfl,_,upd_same,p1,rfl⟩,p2,p3,fun n1 n2=>p4 n1 kv.nd n2⟩
        ·cases q0
       exact ⟨a,_,rfl,DPut.k ha (by rw [sizeLine_eq]; simpa using c3),h2 B2 _ σ P' A'⟩
     ·cases q with
      | inl q=>cases c1
      | inr q =>
       obtain ⟨b,rfl,hb⟩:=keyK_r hkk rk
       subst hks hws
       obtain ⟨P',A'⟩:=I3.mutD ht (o' := .dT (putK kvs q v)) (ks' := putKs (kvs.map fun p=>Sum.inr p.1) (.inr q)) (xs' := putVs (kvs.map fun p=>Sum.inr p.1) xs (.inr q) d) hi e1 kv mu fun vs f hda hr=>by
        rcases hda with ⟨q0,_⟩ | ⟨_,kvs',q1,q2,q3⟩
        ·cases q0
        ·rw [ha] at q1
         cases q1
         subst q3
         obtain ⟨p1,f',p2,p3,p4⟩:=put_ok Sum.inr (fun a b h=>Sum.inr.inj h) (k:=q) hr rd c4
         exact ⟨_,f',.inr ⟨rfl,_,upd_same,p1,rfl⟩,p2,p3,fun n1 n2=>p4 n1 kv.nd n2⟩
       exact ⟨a,_,rfl,DPut.t ha hb (by rw [sizeLine_eq]; simpa using c3),h2 B2 _ σ P' A'⟩
    ·exact h2.elim
end
section
variable {P:Program}{w:World}{K:PySem.W.Frag}{mg:Str->Option Value}{base:Heap}
theorem cal_bad {x:Str}{st:Stmt}{ps:List Str}{k:Nat} (D:Dfn K mg x st ps):Cal P w K mg base k x ps (spF K fun _=>.bad):=by
 obtain ⟨f,fd,F,hm,hb⟩:=D.ex
 exact ⟨f,fd,hm,F.kp,hb,fun vs H Q E h=>by obtain ⟨_,_,_,_,h⟩:=h; exact h.elim,fun A outer s H args us vs Q E hr he hbd hv h=>by obtain ⟨_,_,_,_,h⟩:=h; exact h.elim⟩
theorem cal_of2 {x:Str}{st:Stmt}{N ps:List Str}{k n m:Nat}{g:SF} (D:Dfn K mg x st ps) (S:FnScope N ps (defScope st)) (hn:ps.length=n) (hm:N.length=m)
  (hbody:∀ (f:Addr) (cdv:Value) (A:Around) (outer:List Env) (s:Shared) (H:Hp),Room k (A.deeper (envOfC x (defScope st) s.heap.objs.size f cdv)) ->
   PSs (cxOf CX0 P w K mg base N x (defScope st) f cdv A outer s H E0).nox (defBody st) (tMS K NoY g)):Cal P w K mg base (k + 1) x ps (spF K (runF n m g)):=by
 subst hn hm
 exact cal_of D S hbody
theorem fnok_of2 {x:Str}{st:Stmt}{N ps:List Str}{k n m:Nat}{g:SF}{f:Addr}{fd:FuncData} (D:Fun K x x st f fd) (S:FnScope N ps (defScope st)) (hn:ps.length=n) (hm:N.length=m)
  (hbody:∀ (f:Addr) (cdv:Value) (A:Around) (outer:List Env) (s:Shared) (H:Hp),Room k (A.deeper (envOfC x (defScope st) s.heap.objs.size f cdv)) ->
   PSs (cxOf CX0 P w K mg base N x (defScope st) f cdv A outer s H E0).nox (defBody st) (tMS K NoY g)):FnOk P w K mg base CX0 (k + 1) f fd ps (spF K (runF n m g)):=by
 subst hn hm
 exact fnok_of D S hbody
theorem dfn_mk {h:Heap}{x:Str}{st:Stmt}{ps:List Str}{f:Addr}{oc:Value}{od an:Option Addr}{osl:Array (Option Value)}{kV doc pm cdv ct:Value} (KX:K.In h) (G:h.Ns mainGlobals mg) (a:PySem.W.nsIn K mainGlobals x=some (some (.ref f)))
  (l:K.lookup f=some ⟨oc,od,.func (PySem.W.fnOf x x (defArgs st) (defBody st) (defScope st) .none kV doc pm an cdv ct),osl⟩) (c:PySem.W.codeIn K cdv x=true) (k:PySem.W.keepIn K (.ref f)=true)
  (hb:∀ (kV doc pm:Value) (an:Option Addr) (cdv ct:Value) (us:List Value),us.length=ps.length->bindArgs (PySem.W.fnOf x x (defArgs st) (defBody st) (defScope st) .none kV doc pm an cdv ct) ⟨us,[]⟩=pure (ps.zip us)):Dfn K mg x st ps :=
 ⟨f,_,fun_mk l c k,PySem.W.mg_of KX G a,(fun_mk l c k).binds hb⟩
theorem law_sp {G:DF}{H:Hp}{a:Addr}{ns:List Int} (hS:SqL K H a (ns.map V.int)) (h:G [.lst .frz (ns.map D.int)]=.ok (.bl true)):spF K G [.ref a] H (fun v _=>v=.bl true) fun _ _ _=>False:=by
 refine ⟨H,[.lst .frz (ns.map D.int)],Same.refl _,RepL.one ⟨a,_,rfl,hS,ints_repL ns,rfl⟩,?_⟩
 rw [h]
 exact fun B' H' v fp r=>r.rep.1
end
theorem pure_ints (ns:List Int):pureL (ns.map D.int)=true:=pureL_of fun d hd=>by obtain ⟨n,_,rfl⟩:=List.mem_map.mp hd; rfl
@[simp] theorem view_ints (ns:List Int):viewL (ns.map D.int)=ns.map D.int:=viewL_pure _ (pure_ints ns)
@[simp] theorem frz_ints (ns:List Int):frzL (ns.map D.int)=ns.map D.int:=frzL_pure _ (pure_ints ns)
@[simp] theorem bor_ints (ns:List Int):hasBorL (ns.map D.int)=false:=hasBorL_pure _ (pure_ints ns)
@[simp] theorem own_ints (ns:List Int):hasOwnL (ns.map D.int)=false:=hasOwnL_pure _ (pure_ints ns)
@[simp] theorem toBor_ints (ns:List Int):toBorL (ns.map D.int)=ns.map D.int:=toBorL_pure _ (pure_ints ns)
@[simp] theorem unbor_ints (ns:List Int):unborL (ns.map D.int)=ns.map D.int:=unborL_id _ (bor_ints ns)
@[simp] theorem ints_map (ns:List Int):intsOf (ns.map D.int)=some ns:=intsOf_map ns
@[simp] theorem andThen_nx (τ:SD) (s:SF):(Fl.nx τ).andThen s=s τ:=rfl
@[simp] theorem andThen_rt (d:D) (s:SF):(Fl.rt d).andThen s=.rt d:=rfl
@[simp] theorem andThen_bk (τ:SD) (s:SF):(Fl.bk τ).andThen s=.bk τ:=rfl
@[simp] theorem andThen_ct (τ:SD) (s:SF):(Fl.ct τ).andThen s=.ct τ:=rfl
@[simp] theorem andThen_ex (C:PySem.Addr) (τ:SD) (s:SF):(Fl.ex C τ).andThen s=.ex C τ:=rfl
@[simp] theorem andThen_bad (s:SF):Fl.bad.andThen s=.bad:=rfl
@[simp] theorem toFl_ok (τ:SD) (d:D) (k:D->Fl):(Res.ok d).toFl τ k=k d:=rfl
@[simp] theorem toFl_exn (τ:SD) (C:PySem.Addr) (k:D->Fl):(Res.exn C:Res D).toFl τ k=.ex C τ:=rfl
@[simp] theorem toFl_bad (τ:SD) (k:D->Fl):(Res.bad:Res D).toFl τ k=.bad:=rfl
@[simp] theorem toFlB_ok (τ:SD) (d:Bool) (k:Bool->Fl):(Res.ok d).toFlB τ k=k d:=rfl
@[simp] theorem toFlB_exn (τ:SD) (C:PySem.Addr) (k:Bool->Fl):(Res.exn C:Res Bool).toFlB τ k=.ex C τ:=rfl
@[simp] theorem toFlB_bad (τ:SD) (k:Bool->Fl):(Res.bad:Res Bool).toFlB τ k=.bad:=rfl
@[simp] theorem noX_bad:(Res.bad:Res D).noX=.bad:=rfl
@[simp] theorem out_rt (d:D):(Fl.rt d).out=.ok d:=rfl
@[simp] theorem out_nx (τ:SD):(Fl.nx τ).out=.ok .non:=rfl
@[simp] theorem out_ex (C:PySem.Addr) (τ:SD):(Fl.ex C τ).out=.exn C:=rfl
@[simp] theorem out_bad:Fl.bad.out=.bad:=rfl
theorem eBin_ok {g:D->D->Res D}{a b:SD->Res D}{τ:SD}{x y:D} (ha:a τ=.ok x) (hb:b τ=.ok y):eBin g a b τ=g x y:=by unfold eBin; rw [ha,hb]; rfl
theorem if_nx {c:SD->Res Bool}{a b:SF}{τ:SD}{t:Bool} (h:c τ=.ok t):sIf c a b τ=if t=true then a τ else b τ:=by unfold sIf; rw [h]; rfl
theorem range1_nat {n:Nat} (h:n <= 1000000000):range1D [.int n]=.ok (false,(List.range n).map fun k:Nat=>.int k):=by
 have h1 : -1000000000 <= (n:Int)/\(n:Int) <= 1000000000:=by omega
 simp [range1D,h1]
theorem range2_nat {m n:Nat} (hm:m <= 1000000000) (h:n <= 1000000000):range2D [.int m,.int n]=.ok (false,(List.range (n - m)).map fun k:Nat=>.int (m + k)):=by
 have h1 : -1000000000 <= (m:Int)/\(m:Int) <= 1000000000 /\ -1000000000 <= (n:Int)/\(n:Int) <= 1000000000:=by omega
 have h2:((n:Int) - m).toNat=n - m:=by omega
 simp [range2D,h1,h2]
theorem seq_nx {a b:SF}{τ τ':SD} (h:a τ=.nx τ'):sSeq a b τ=b τ' := by unfold sSeq; rw [h]; rfl
theorem set_nx {i:Nat}{e:SD->Res D}{τ:SD}{d:D} (h:e τ=.ok d) (hb:d.hasBor=false):sSet i e τ=.nx (τ.set i (some d)):=by
 unfold sSet setD
 rw [h,toFl_ok,hb]
 rfl
theorem atI_of {α:Type}{xs:List α}{i:Int}{j:Nat}{v:α} (hi:i=j) (h:xs[j]?=some v):atI xs i=some v:=by subst hi; exact atI_nat h
theorem forD_inv {tg:TGD}{body:SF} (Pv:Nat->SD->Prop):∀ {ds:List D} (i:Nat) (τ:SD),Pv i τ->(∀ j d τ,ds[j]?=some d->Pv (i + j) τ->∃ τ' t,tg d τ=some τ'/\(body τ'=.nx t ∨ body τ'=.ct t)/\Pv (i + j + 1) t)->∃ t,forD tg body ds τ=.nx t/\Pv (i + ds.length) t
 | [],i,τ,h0,_=>⟨τ,rfl,h0⟩
 | d :: r,i,τ,h0,h=>by
  obtain ⟨τ',t,h1,h2,h3⟩:=h 0 d τ rfl h0
  have ih:=forD_inv Pv (ds:=r) (i + 1) t h3 fun j e τ he hp=>by
   have:=h (j + 1) e τ (by simpa using he) (by rw [show i + (j + 1)=i + 1 + j by omega]; exact hp)
   rw [show i + (j + 1)=i + 1 + j by omega] at this
   exact this
  obtain ⟨u,h4,h5⟩:=ih
  refine ⟨u,?_,by rw [List.length_cons,show i + (r.length + 1)=i + 1 + r.length by omega]; exact h5⟩
  unfold forD
  rw [h1]
  rcases h2 with h2 | h2 <;> (simp only [h2]; exact h4)
theorem compD_one {tt:SD->Res Bool}{elt:SD->Res D}{caps:SD} (p:D->Bool) (f:D->D):∀ {ds:List D} (o:Option D),(∀ d ∈ ds,tt (some d :: caps)=.ok (p d))->(∀ d ∈ ds,p d=true->elt (some d :: caps)=.ok (f d)/\(f d).hasBor=false)->compD (gN 0) tt elt ds (o :: caps)=.ok ((ds.filter p).map f)
 | [],o,_,_=>rfl
 | d :: r,o,ht,he=>by
  have ih:=compD_one p f (ds:=r) (some d) (fun e m=>ht e (List.mem_cons_of_mem _ m)) fun e m=>he e (List.mem_cons_of_mem _ m)
  unfold compD
  simp only [gN,List.set_cons_zero]
  rw [ht d List.mem_cons_self]
  simp only [Res.bind_ok]
  by_cases hp:p d=true
  ·obtain ⟨h1,h2⟩:=he d List.mem_cons_self hp
   simp only [hp,if_true,h1,Res.bind_ok,h2,Bool.false_eq_true,if_false,ih]
   rw [List.filter_cons_of_pos hp,List.map_cons]
  ·simp only [hp,if_false,ih,Bool.false_eq_true]
   rw [List.filter_cons_of_neg hp]
theorem compD_all {elt:SD->Res D}{caps:SD} (f:D->D) {ds:List D} (o:Option D) (he:∀ d ∈ ds,elt (some d :: caps)=.ok (f d)/\(f d).hasBor=false):compD (gN 0) bTrue elt ds (o :: caps)=.ok (ds.map f):=by
 have:=compD_one (tt:=bTrue) (fun _=>true) f o (fun d _=>rfl) fun d m _=>he d m
 rw [List.filter_eq_self.mpr fun _ _=>rfl] at this
 exact this
theorem callD_pure {G:DF}{ds:List D}{d:D} (h:G (frzL ds)=.ok d) (hp:d.pure=true):callD G ds=.ok d:=by
 unfold callD
 rw [h]
 split
 ·simp [toBor_pure d hp]
 ·rfl
theorem callD_own {G:DF}{ds:List D}{d:D} (h:G (frzL ds)=.ok d) (hb:hasBorL ds=false):callD G ds=.ok d:=by
 unfold callD
 rw [h,hb]
 rfl
theorem eCall_pure {G:DF}{fs:SD->Res (List D)}{τ:SD}{ds:List D}{d:D} (ha:fs τ=.ok ds) (h:G (frzL ds)=.ok d) (hp:d.pure=true):eCall G fs τ=.ok d:=by
 unfold eCall; rw [ha]; exact callD_pure h hp
theorem eCall_own {G:DF}{fs:SD->Res (List D)}{τ:SD}{ds:List D}{d:D} (ha:fs τ=.ok ds) (h:G (frzL ds)=.ok d) (hb:hasBorL ds=false):eCall G fs τ=.ok d:=by
 unfold eCall; rw [ha]; exact callD_own h hb
theorem eComp_all {it:SD->Res (Bool × List D)}{elt:SD->Res D}{cap:List (PySem.Str × Nat)}{τ:SD}{fl:Bool}{ds:List D} (f:D->D) (hit:it τ=.ok (fl,ds)) (he:∀ d ∈ frzL ds,elt (some d :: capD τ cap)=.ok (f d)/\(f d).pure=true) (hl:ds.length <= 16777216) :
  eComp it (gN 0) bTrue elt 1 cap τ=.ok (.lst .own ((frzL ds).map f)):=by
 have hp:pureL ((frzL ds).map f)=true:=pureL_of fun d m=>by
  obtain ⟨x,hx,rfl⟩:=List.mem_map.mp m
  exact (he x hx).2
 have hl':((frzL ds).map f).length <= 16777216:=by rw [List.length_map,frzL_eq,List.length_map]; exact hl
 have hc:compD (gN 0) bTrue elt (frzL ds) (List.replicate 1 none ++ capD τ cap)=.ok ((frzL ds).map f):=compD_all f none fun d m=>⟨(he d m).1,hasBor_pure _ (he d m).2⟩
 unfold eComp
 rw [hit,Res.bind_ok]
 simp only [hc,if_pos hl',toBorL_pure _ hp,ite_self]
theorem eComp_if {it:SD->Res (Bool × List D)}{tt:SD->Res Bool}{elt:SD->Res D}{cap:List (PySem.Str × Nat)}{τ:SD}{fl:Bool}{ds:List D} (p:D->Bool) (f:D->D) (hit:it τ=.ok (fl,ds)) (ht:∀ d ∈ frzL ds,tt (some d :: capD τ cap)=.ok (p d)) (he:∀ d ∈ frzL ds,p d=true->elt (some d :: capD τ cap)=.ok (f d)/\(f d).pure=true) (hl:ds.length <= 16777216) :
  eComp it (gN 0) tt elt 1 cap τ=.ok (.lst .own (((frzL ds).filter p).map f)):=by
 have hp:pureL (((frzL ds).filter p).map f)=true:=pureL_of fun d m=>by
  obtain ⟨x,hx,rfl⟩:=List.mem_map.mp m
  obtain ⟨h1,h2⟩:=List.mem_filter.mp hx
  exact (he x h1 h2).2
 have hl':(((frzL ds).filter p).map f).length <= 16777216:=by
  rw [List.length_map]
  refine Nat.le_trans (List.length_filter_le _ _) ?_
  rw [frzL_eq,List.length_map]; exact hl
 have hc:compD (gN 0) tt elt (frzL ds) (List.replicate 1 none ++ capD τ cap)=.ok (((frzL ds).filter p).map f):=compD_one p f none ht fun d m hp=>⟨(he d m hp).1,hasBor_pure _ (he d m hp).2⟩
 unfold eComp
 rw [hit,Res.bind_ok]
 simp only [hc,if_pos hl',toBorL_pure _ hp,ite_self]
theorem sIx_nat (n d a:Nat):HT.sIx n d (some (a:Int))=min a n:=by
 unfold HT.sIx
 have h:¬ (a:Int) < 0:=by omega
 simp only [h,if_false]
 omega
theorem cut_from {α:Type} (xs:List α) (a:Nat):cut xs (some (a:Int)) none=xs.drop a:=by
 unfold cut
 rw [sIx_nat,show HT.sIx xs.length xs.length none=xs.length from rfl]
 by_cases h:a <= xs.length
 ·rw [Nat.min_eq_left h,List.take_of_length_le (by simp)]
 ·rw [List.drop_eq_nil_of_le (by omega:xs.length <= a),List.drop_eq_nil_of_le (by omega),List.take_nil]
theorem cut_to {α:Type} (xs:List α) (a:Nat):cut xs none (some (a:Int))=xs.take a:=by
 unfold cut
 rw [sIx_nat,show HT.sIx xs.length 0 none=0 from rfl,List.drop_zero,Nat.sub_zero]
 by_cases h:a <= xs.length
 ·rw [Nat.min_eq_left h]
 ·rw [Nat.min_eq_right (by omega),List.take_of_length_le (Nat.le_refl _),List.take_of_length_le (by omega)]
theorem bor_own {xs:List D} (h:pureL xs=true):(D.lst .own xs).hasBor=false:=by
 show (false || hasBorL xs)=false
 rw [hasBorL_pure xs h]; rfl
theorem eA_ok {g:List D->Res D}{f:SD->Res (List D)}{τ:SD}{ds:List D} (h:f τ=.ok ds):eA g f τ=g ds:=by unfold eA; rw [h]; rfl
theorem aCons_ok {f:SD->Res D}{g:SD->Res (List D)}{τ:SD}{d:D}{ds:List D} (h1:f τ=.ok d) (h2:g τ=.ok ds):aCons f g τ=.ok (d :: ds):=by unfold aCons; rw [h1,h2]; rfl
theorem aOne {f:SD->Res D}{τ:SD}{d:D} (h1:f τ=.ok d):aCons f aNil τ=.ok [d]:=aCons_ok h1 rfl
theorem ret_rt {e:SD->Res D}{τ:SD}{d:D} (h:e τ=.ok d) (hb:d.hasBor=false):sRet e τ=.rt d:=by unfold sRet; rw [h,toFl_ok,unbor_id d hb]
theorem var_frz {i:Nat}{τ:SD}{xs:List D} (h:τ[i]?=some (some (.lst .frz xs))) (hp:pureL xs=true):eVar i τ=.ok (.lst .frz xs):=by unfold eVar; rw [h]; simp [D.view,Tg.view,viewL_pure xs hp]
theorem var_own {i:Nat}{τ:SD}{xs:List D} (h:τ[i]?=some (some (.lst .own xs))) (hp:pureL xs=true):eVar i τ=.ok (.lst .bor xs):=by unfold eVar; rw [h]; simp [D.view,Tg.view,viewL_pure xs hp]
section
variable {K:PySem.W.Frag}{Y:XY}{H0 B0 B H:Hp}{σ:L2.St}{τ:SD}{P:List Addr}{F:Addr->Prop}{X:Cx}{pos:Pos}
end
section
variable {K:PySem.W.Frag}{Y:XY}{H0 B0 B H:Hp}{σ:L2.St}{τ:SD}{P:List Addr}{F:Addr->Prop}{X:Cx}{pos:Pos}{e:Expr}{fe:SD->Res D}
end
section
variable {K:PySem.W.Frag}{Y:XY}{X:Cx}{o e:Expr}{fo fe:SD->Res D}{apos cpos:Pos}
end
end DL
namespace L2
open PySem PySem.Spec PyProof.Rows
section
variable {X:Cx}
def rExtA (K:PySem.W.Frag):V->List V->Hp->VK->Prop:=fun x vs H Q=>∃ l b xs zs,x=.ref l/\vs=[.ref b]/\H l=some (.lst xs)/\(H b=some (.lst zs) ∨ H b=some (.tup zs))/\xs.length + zs.length <= sizeLine/\Q .non (upd H l (.lst (xs ++ zs)))
theorem mt_extA:MtM X "list.extend" (rExtA X.K):=by
 intro pins s σ H x vs v us Q I rx rv h
 obtain ⟨l,b,xs,zs,rfl,rfl,hH,hB,hz,q⟩:=h
 rcases hB with hB | hB
 ·exact mt_extend pins s σ H _ _ v us Q I rx rv ⟨l,b,xs,zs,rfl,rfl,hH,hB,hz,q⟩
 cases rx
 obtain ⟨u,rfl,ru⟩:=rv.one
 cases ru
 obtain ⟨z,its,n,r,hl,e⟩:=I.lstM hH
 obtain ⟨_,its2,r2,n2,e2⟩:=(show ObjOk X.prog X.w H s.heap b (.tup zs) from I.hok b _ hB)
 have hl2:=r2.length
 have hsz:its.toArray.size + its2.toArray.size <= sizeLine:=by rw [List.size_toArray,List.size_toArray]; omega
 have hlong:¬ (!its.toArray.isEmpty && Builtin.List.listTooLong (its.toArray.size + its2.toArray.size))=true:=by
  rw [notLongL hsz,Bool.and_false]
  exact Bool.false_ne_true
 refine call_meets F.slot_list_extend ⟨_,e,rfl⟩ F.entry_list_extend (F.args_list_extend_2 _ _)
  (AutoSeq1.list_extend_list_tuple_0 l its.toArray n b its2.toArray n2 hlong (by rw [List.size_toArray]; omega) (by omega)) ⟨e,e2,?_⟩
 refine ⟨.non,_,I.lset (its' := its ++ its2) hH e (by simp) (r.append r2) ?_,rfl,q⟩
 rw [List.length_append]
 omega
end
end L2
namespace DL
open PySem PySem.Spec PyProof.Rows L2
section
variable {K:PySem.W.Frag}{Y:XY}{H0 B0 B H:Hp}{σ:L2.St}{τ:SD}{P:List Addr}{F:Addr->Prop}{X:Cx}{pos:Pos}{e:Expr}{fe:SD->Res D}
mutual
def D.plain:D->Bool
 | .tup xs=>plainL xs
 | .lst _ _=>false
 | .dct _ _ _ _=>false
 | .exc _=>false
 | _=>true
def plainL:List D->Bool
 | []=>true
 | d :: r=>d.plain && plainL r
end
mutual
theorem Rep.plainI {B' H':Hp}{S S':Addr->Prop} (m:Imm H H'):∀ {d:D}{v:V}{f:List Addr},d.plain=true->Rep K B S H d v f->f=[]/\Rep K B' S' H' d v []
 | .non,v,f,_,r=>by obtain ⟨h1,h2⟩:=r; exact ⟨h2,h1,rfl⟩
 | .bl b,v,f,_,r=>by obtain ⟨h1,h2⟩:=r; exact ⟨h2,h1,rfl⟩
 | .int i,v,f,_,r=>by obtain ⟨h1,h2⟩:=r; exact ⟨h2,h1,rfl⟩
 | .str x,v,f,_,r=>by obtain ⟨h1,h2⟩:=r; exact ⟨h2,h1,rfl⟩
 | .tup xs,v,f,p,r=>by
  obtain ⟨a,vs,e,h,rl⟩:=r
  obtain ⟨e2,r2⟩:=RepL.plainI m (d:=xs) p rl
  exact ⟨e2,a,vs,e,m a _ h (fun z=>z),r2⟩
 | .lst _ _,_,_,p,_=>by cases p
 | .dct _ _ _ _,_,_,p,_=>by cases p
 | .exc _,_,_,p,_=>by cases p
theorem RepL.plainI {B' H':Hp}{S S':Addr->Prop} (m:Imm H H'):∀ {d:List D}{v:List V}{f:List Addr},plainL d=true->RepL K B S H d v f->f=[]/\RepL K B' S' H' d v []
 | [],v,f,_,r=>by obtain ⟨h1,h2⟩:=r; exact ⟨h2,h1,rfl⟩
 | d :: ds,v,f,p,r=>by
  obtain ⟨x,w,f1,f2,e,r1,r2,ef⟩:=r
  have p:(d.plain && plainL ds)=true:=p
  rw [Bool.and_eq_true] at p
  obtain ⟨e1,q1⟩:=Rep.plainI m p.1 r1
  obtain ⟨e2,q2⟩:=RepL.plainI m p.2 r2
  subst e1 e2
  exact ⟨ef,x,w,[],[],e,q1,q2,rfl⟩
end
theorem RepL.dropLast {S:Addr->Prop}{xs:List D}{vs:List V}{f:List Addr} (r:RepL K B S H xs vs f):∃ g,RepL K B S H xs.dropLast vs.dropLast g/\List.Sublist g f:=by
 obtain ⟨g,h1,h2⟩:=r.take (xs.length - 1)
 have hl:=r.length
 rw [List.dropLast_eq_take,List.dropLast_eq_take,<- hl]
 exact ⟨g,h1,h2⟩
def popF (j i:Nat) (xs:List D) (τ:SD):Option D->Fl
 | some d=>if d.plain=true then .nx ((τ.set i (some (.lst .own xs.dropLast))).set j (some d)) else .bad
 | none=>.bad
def sPop (j i:Nat) (τ:SD):Fl:=match ownL τ i with
 | some xs=>popF j i xs τ xs[xs.length - 1]?
 | none=>.bad
theorem s_pop (j i:Nat) {x y:Str}{p0 p1 apos cpos:Pos} (hN:X.N.Nodup) (hj:X.N[j]?=some y) (hx:Loc X.env.scope y) (hi:X.N[i]?=some x:=by rfl) (hv:Vis X.env.scope x:=by first | exact Or.inl rfl | exact Or.inr (Or.inl rfl) | exact Or.inr (Or.inr rfl)) (hd:(x == ("__debug__" : Str))=false:=by decide) (hcd:(x == ("__classdict__" : Str))=false:=by decide)
  (hbase:attributeBase (.Name x p1) "pop" X.env (eval (.Name x p1) X.env)=eval (.Name x p1) X.env:=by rfl) (hline:(apos.endLine == cpos.line)=true:=by rfl)
  (hsw:swapsWith (.Call (.Attribute (.Name x p1) "pop" apos) [] [] cpos) (some (.Name y p0)) pos.line X.env=pure false:=by rfl) (hf:X.fn y=true ∨ X.env.scope.names.lookup y=some .local:=by first | exact .inl rfl | exact .inr rfl) :
  PS X (.Assign [.Name y p0] (.Call (.Attribute (.Name x p1) "pop" apos) [] [] cpos) pos) (tMS X.K Y (sPop j i)):=by
 refine PS.imp (ps_set hN hj hx (pe_bm0 PySem.F.plainAttrs_list PySem.F.slot_list_pop PySem.F.type_list_pop mt_pop (pe_var hi hv hd hcd) hbase hline) hsw hf) fun E σ H hq=>ex7 hq fun H0 B0 B τ P I h=>?_
 unfold sPop at h
 cases z:ownL τ i with
 | none=>rw [z] at h; exact h.elim
 | some xs =>
  rw [z] at h
  replace h:GoalS X.K Y H0 B0 B H E (popF j i xs τ xs[xs.length - 1]?):=h
  have hi:=ownL_some z
  obtain ⟨a,vs,ea,ha,hl⟩:=I.listAt hi
  cases hd:xs[xs.length - 1]? with
  | none=>rw [hd] at h; exact h.elim
  | some d =>
   rw [hd] at h
   unfold popF at h
   split at h
   ·rename_i d' hp
    cases hp
    split at h
    ·rename_i hpl
     obtain ⟨v0,f0,g1,r0,_⟩:=I.rep.get hi
     obtain ⟨a',ws,g,ea',q',rl,_⟩:=r0
     rw [ea] at g1
     cases g1
     cases ea'
     have hw:ws=vs:=by
      rw [ha] at q'
      cases q'
      rfl
     subst hw
     obtain ⟨v,f,hv',rv,_⟩:=rl.get hd
     have hlast:ws[ws.length - 1]?=some v:=by rw [<- hl]; exact hv'
     refine ⟨.ref a,ea,.inl ⟨rfl,ws,SqL.of ha⟩,a,ws,v,rfl,rfl,ha,hlast,?_⟩
     obtain ⟨P',I'⟩:=I.mutL (xs' := xs.dropLast) (vs' := ws.dropLast) (gp := []) hi ea Vok.nil (fun f _ rl=>by
      obtain ⟨g,h1,h2⟩:=rl.dropLast
      exact ⟨g,h1,fun b m=>.inl (h2.subset m),fun nf _=>nf.sublist h2⟩) ha
     obtain ⟨_,rv'⟩:=Rep.plainI (B' := B) (S' := No) I'.imm hpl rv
     obtain ⟨P'',I'',_⟩:=I'.si.set j rv' Vok.nil
     exact h B _ _ P'' ⟨I'',I'.b,I'.imm⟩
    ·exact h.elim
   ·exact h.elim
def extPF (i:Nat) (xs:List D) (τ:SD):D->Fl
 | .lst .own ys=>if plainL ys=true/\xs.length + ys.length <= 16777216 then .nx (τ.set i (some (.lst .own (xs ++ ys)))) else .bad
 | .tup ys=>if plainL ys=true/\xs.length + ys.length <= 16777216 then .nx (τ.set i (some (.lst .own (xs ++ ys)))) else .bad
 | _=>.bad
def sExtP (i:Nat) (f:SD->Res D) (τ:SD):Fl:=match ownL τ i with
 | some xs=>(f τ).toFl τ (extPF i xs τ)
 | none=>.bad
theorem s_extP (i:Nat) {x:Str}{p1 apos cpos:Pos} (he:PE X e (tM X.K Y fe)) (hN:X.N[i]?=some x:=by rfl) (hv:Vis X.env.scope x:=by first | exact Or.inl rfl | exact Or.inr (Or.inl rfl) | exact Or.inr (Or.inr rfl)) (hd:(x == ("__debug__" : Str))=false:=by decide) (hcd:(x == ("__classdict__" : Str))=false:=by decide)
  (hbase:attributeBase (.Name x p1) "extend" X.env (eval (.Name x p1) X.env)=eval (.Name x p1) X.env:=by rfl)
  (hfew:((backTo cpos (starEach [e] X.env)).all (fun x=>!x.1) && (backToKw cpos (keywordEach [] X.env)).all (fun x=>x.1.isSome)
   && decide ([e].length + ([]:List Keyword).length + (if ([]:List Keyword).isEmpty then 0 else 1) < 30))=true:=by rfl)
  (hline:(apos.endLine == cpos.line)=true:=by rfl) (hs:starEach [e] X.env=(false,eval e X.env) :: starEach [] X.env:=by rfl) (hplain:(backTo cpos (starEach [] X.env)).any (·.1)=false:=by rfl)
  (hsw:swapsWith (.Call (.Attribute (.Name x p1) "extend" apos) [e] [] cpos) none pos.line X.env=pure false:=by rfl) :
  PS X (.Expr (.Call (.Attribute (.Name x p1) "extend" apos) [e] [] cpos) pos) (tMS X.K Y (sExtP i fe)):=by
 refine PS.imp (ps_expr (pe_bm PySem.F.plainAttrs_list PySem.F.slot_list_extend PySem.F.type_list_extend mt_extA (pe_var hN hv hd hcd) (pa_cons he pa_nil hs) hbase hfew hline hs hplain) hsw) fun E σ H hq=>ex7 hq fun H0 B0 B τ P I h=>?_
 unfold sExtP at h
 cases z:ownL τ i with
 | none=>rw [z] at h; exact h.elim
 | some xs =>
  rw [z] at h
  have hi:=ownL_some z
  obtain ⟨a,vs,ea,ha,hl⟩:=I.listAt hi
  refine ⟨.ref a,ea,.inl ⟨rfl,vs,SqL.of ha⟩,exprS I h fun d v H1 B1 fp _ I1 s1 b1 r1 k1 h1=>?_⟩
  have ha1:=s1 a _ ha
  have fin:∀ (ys:List D) (b:Addr) (ws:List V) (f:List Addr),(H1 b=some (.lst ws) ∨ H1 b=some (.tup ws))->RepL X.K B1 (· ∈ P) H1 ys ws f->plainL ys=true->xs.length + ys.length <= 16777216->GoalS X.K Y H0 B0 B1 H1 E (.nx (τ.set i (some (.lst .own (xs ++ ys)))))->rExtA X.K (.ref a) [.ref b] H1 fun _ H2=>E.nx σ H2:=by
   intro ys b ws f hb rl2 hp hz h2
   have hl2:=rl2.length
   refine ⟨a,b,vs,ws,rfl,rfl,ha1,hb,by rw [<- hl,<- hl2,sizeLine_eq]; exact hz,?_⟩
   obtain ⟨_,rl3⟩:=RepL.plainI (B' := B1) (S' := No) (Imm.refl H1) hp rl2
   obtain ⟨P',I'⟩:=I1.mutL (xs' := xs ++ ys) (vs' := vs ++ ws) (gp := []) hi ea Vok.nil (fun g _ rl=>⟨g ++ [],rl.append rl3,fun b m=>by rw [List.append_nil] at m; exact .inl m,fun nf _=>by rw [List.append_nil]; exact nf⟩) ha1
   exact h2 B1 _ σ P' I'
  unfold extPF at h1
  split at h1
  ·obtain ⟨b,ws,f,rfl,hb,rl2,rfl⟩:=r1
   split at h1
   ·rename_i hc
    exact fin _ b ws f (.inl hb) rl2 hc.1 hc.2 h1
   ·exact h1.elim
  ·obtain ⟨b,ws,rfl,hb,rl2⟩:=r1
   split at h1
   ·rename_i hc
    exact fin _ b ws _ (.inr hb) rl2 hc.1 hc.2 h1
   ·exact h1.elim
  ·exact h1.elim
def truD:D->Res Bool
 | .bl b=>.ok b
 | .lst _ xs=>.ok (!xs.isEmpty)
 | .tup xs=>.ok (!xs.isEmpty)
 | _=>.bad
def eTr (f:SD->Res D) (τ:SD):Res Bool:=(f τ).bind truD
theorem empty_of {S:Addr->Prop}{xs:List D}{vs:List V}{f:List Addr} (r:RepL K B S H xs vs f):(!vs.isEmpty) = !xs.isEmpty:=by
 have:=r.length
 cases xs <;> cases vs <;> simp_all
theorem qt_tru {a:Expr}{fa:SD->Res D} (ha:PE X a (tM X.K Y fa)) (he:∀ whole,isTrue a X.env whole=(do let v <- whole; standAt a.pos; holding [v] (truthy v)):=by intro _; rfl):PT X a (tMB X.K Y (eTr fa)) :=
 PT.imp (pt_truth ha he) fun σ H Q hq=>ex8 hq fun H0 B0 B τ P F I h=>by
  refine ⟨H0,B0,B,τ,P,F,I,?_⟩
  unfold eTr at h
  cases e:fa τ with
  | bad=>rw [e] at h; exact h.elim
  | exn C=>rw [e] at h; exact h
  | ok d =>
   rw [e] at h
   intro v H' B' fp I' s b r k
   cases d with
   | bl c=>obtain ⟨rfl,rfl⟩:=r; exact ⟨c,rfl,h H' B' I' s b⟩
   | lst t xs =>
    obtain ⟨p,ws,g,rfl,q,l,_⟩:=Rep.lst I' r
    exact ⟨_,.inl ⟨ws,q,rfl⟩,by rw [empty_of l]; exact h H' B' I' s b⟩
   | tup xs =>
    obtain ⟨p,ws,rfl,q,l⟩:=Rep.tp r
    exact ⟨_,.inr (.inl ⟨ws,q,rfl⟩),by rw [empty_of l]; exact h H' B' I' s b⟩
   | non=>exact h.elim
   | int i=>exact h.elim
   | str x=>exact h.elim
   | dct t k2 ks vs=>exact h.elim
   | exc C=>exact h.elim
def intD:List D->Res D
 | [.int i]=>.ok (.int i)
 | [.bl b]=>.ok (.int (if b=true then 1 else 0))
 | _=>.bad
theorem d_int:CallD K Y (fun xs H Q=>(∃ i,xs=[V.int i]/\Q (V.int i) H) ∨ ∃ k,xs=[V.bl k]/\Q (V.int (if k=true then 1 else 0)) H) intD:=by
 intro H0 B0 B H σ τ P F ds vs f Q I r k h
 unfold intD at h
 split at h
 ·obtain ⟨v,rfl,r'⟩:=repL1 r
  obtain ⟨rfl,rfl⟩:=r'
  exact .inl ⟨_,rfl,Out.here h I ⟨rfl,rfl⟩⟩
 ·obtain ⟨v,rfl,r'⟩:=repL1 r
  obtain ⟨rfl,rfl⟩:=r'
  exact .inr ⟨_,rfl,Out.here h I ⟨rfl,rfl⟩⟩
 ·exact h.elim
end
section
variable {Y:XY}{X:Cx}{pos:Pos}{a b c:Expr}{fa fb fc:SD->Res D}
def lt3 (r:Res D) (i j:Int):Res Bool:=if i < j then r.bind fun z=>match z with | .int k=>.ok (decide (j < k)) | _=>.bad else .ok false
def bLt3 (fa fb fc:SD->Res D) (τ:SD):Res Bool:=(fa τ).bind fun x=>match x with
 | .int i=>(fb τ).bind fun y=>match y with
  | .int j=>lt3 (fc τ) i j
  | _=>.bad
 | _=>.bad
theorem qt_lt3 (ha:PE X a (tM X.K Y fa)) (hb:PE X b (tM X.K Y fb)) (hc:PE X c (tM X.K Y fc)) (hm:lastMarks [.Lt,.Lt] [b,c]=false:=by with_unfolding_all rfl):PT X (.Compare a [.Lt,.Lt] [b,c] pos) (tMB X.K Y (bLt3 fa fb fc)) :=
 PT.imp (pt_chain op_lt op_lt ha hb hc hm) fun σ H Q hq=>ex8 hq fun H0 B0 B τ P F I h=>by
  unfold bLt3 at h
  refine ⟨H0,B0,B,τ,P,F,I,?_⟩
  cases e1:fa τ with
  | bad=>rw [e1] at h; exact h.elim
  | exn C=>rw [e1] at h; exact h
  | ok x =>
   rw [e1] at h
   intro v1 H1 B1 f1 I1 s1 b1 r1 k1
   cases x with
   | int i =>
    obtain ⟨rfl,rfl⟩:=r1
    refine ⟨H0,B0,B1,τ,P,F,I1,?_⟩
    cases e2:fb τ with
    | bad=>rw [e2] at h; exact h.elim
    | exn C=>rw [e2] at h; exact fun H' B' I' sH sB=>h H' B' I' (s1.trans sH) (b1.trans sB)
    | ok y =>
     rw [e2] at h
     intro v2 H2 B2 f2 I2 s2 b2 r2 k2
     cases y with
     | int j =>
      obtain ⟨rfl,rfl⟩:=r2
      replace h:GoalB X.K Y H0 B0 B H σ τ P F Q (lt3 (fc τ) i j):=h
      unfold lt3 at h
      refine ⟨i,j,rfl,rfl,decide (i < j),rfl,?_⟩
      by_cases hl:i < j
      ·rw [if_pos hl] at h
       rw [decide_eq_true hl,if_pos rfl]
       refine ⟨H0,B0,B2,τ,P,F,I2,?_⟩
       cases e3:fc τ with
       | bad=>rw [e3] at h; exact h.elim
       | exn C=>rw [e3] at h; exact fun H' B' I' sH sB=>h H' B' I' ((s1.trans s2).trans sH) ((b1.trans b2).trans sB)
       | ok z =>
        rw [e3] at h
        intro v3 H3 B3 f3 I3 s3 b3 r3 k3
        cases z with
        | int k =>
         obtain ⟨rfl,rfl⟩:=r3
         exact ⟨j,k,rfl,rfl,decide (j < k),rfl,h H3 B3 I3 ((s1.trans s2).trans s3) ((b1.trans b2).trans b3)⟩
        | _=>exact h.elim
      ·rw [if_neg hl] at h
       rw [decide_eq_false hl,if_neg Bool.false_ne_true]
       exact ⟨false,rfl,h H2 B2 I2 (s1.trans s2) (b1.trans b2)⟩
     | _=>exact h.elim
   | _=>exact h.elim
end
end DL
namespace SR
open PySem PySem.Spec PyProof.Rows PySem.W
def AllT {α:Type} (n:Nat) (L:α->Prop):KasT α->Prop
 | .ret a=>L a
 | .ask i j k=>i < n/\j < n/\∀ b,AllT n L (k b)
theorem AllT.bind {α β:Type}{n:Nat}{L:α->Prop}{L':β->Prop}{f:α->KasT β} (hf:∀ a,L a->AllT n L' (f a)):∀ {t:KasT α},AllT n L t->AllT n L' (t.bind f)
 | .ret a,x=>by unfold KasT.bind; exact hf a x
 | .ask i j k,x=>by unfold KasT.bind; exact ⟨x.1,x.2.1,fun b=>AllT.bind hf (x.2.2 b)⟩
def runT {α:Type} (c:Nat->Nat->Bool):KasT α->α
 | .ret a=>a
 | .ask i j k=>runT c (k (c i j))
theorem AllT.run {α:Type}{n:Nat}{L:α->Prop} (c:Nat->Nat->Bool):∀ {t:KasT α},AllT n L t->L (runT c t)
 | .ret a,x=>x
 | .ask i j k,x=>show L (runT c (k (c i j))) from AllT.run (n:=n) c (x.2.2 (c i j))
theorem AllT.wp {α:Type}{n:Nat}{L:α->Prop}{c:Nat->Nat->Bool}{cmp:Nat->Nat->(Bool->Shared->Prop)->Shared->Prop}{Q:α->Shared->Prop}{s:Shared} (hc:∀ i j C,i < n->j < n->C (c i j) s->cmp i j C s):∀ {t:KasT α},AllT n L t->Q (runT c t) s->KasT.kasWp cmp t Q s
 | .ret a,x,h=>by unfold KasT.kasWp; exact h
 | .ask i j k,x,h=>by unfold KasT.kasWp; exact hc i j _ x.1 x.2.1 (AllT.wp hc (x.2.2 (c i j)) h)
abbrev Pm (n:Nat) (p:Array Nat):Prop:=p.Perm (List.range n).toArray
theorem Pm.get {n:Nat}{p:Array Nat} (h:Pm n p) (hn:0 < n) (i:Nat):p.getD i 0 < n:=by
 rw [Array.getD_eq_getD_getElem?]
 cases e:p[i]? with
 | none=>exact hn
 | some x =>
  have m:x ∈ p:=Array.mem_of_getElem? e
  have m':x ∈ (List.range n).toArray:=h.mem_iff.mp m
  have:x ∈ List.range n:=by simpa using m'
  exact List.mem_range.mp this
section
variable {n:Nat} (hn:0 < n)
include hn
theorem asc_all {p:Array Nat} (h:Pm n p):∀ f k,AllT n (fun _=>True) (kas_asc p f k)
 | 0,k=>by unfold kas_asc; exact trivial
 | f + 1,k=>by
  unfold kas_asc
  refine ⟨h.get hn _,h.get hn _,fun b=>?_⟩
  cases b
  ·exact asc_all h f (k + 1)
  ·exact trivial
theorem desc_all:∀ f {p:Array Nat} k a,Pm n p->AllT n (fun r=>Pm n r.1) (kas_desc f p k a)
 | 0,p,k,a,h=>by unfold kas_desc; exact h
 | f + 1,p,k,a,h=>by
  unfold kas_desc
  refine ⟨h.get hn _,h.get hn _,fun b=>?_⟩
  cases b
  ·refine ⟨h.get hn _,h.get hn _,fun b=>?_⟩
   cases b
   ·exact desc_all f _ _ h
   ·exact h
  ·show AllT n _ (if a > 0 then kas_desc f (kas_rev p (k - (a + 1)) k) (k + 1) 0 else kas_desc f p (k + 1) 0)
   split
   ·exact desc_all f _ _ ((mirror_perm p _ _ _).trans h)
   ·exact desc_all f _ _ h
theorem tail_all {p:Array Nat} (h:Pm n p) (m r:Nat):AllT n (fun r=>Pm n r.2) (kas_tail3 m r p):=by
 have h2:Pm n (kas_rev p 0 m):=(mirror_perm p _ _ _).trans h
 unfold kas_tail3
 exact AllT.bind (L' := fun r:Nat × Array Nat=>Pm n r.2) (fun a _=>(show AllT n _ (KasT.ret (a,kas_rev p 0 m)) from h2)) (asc_all hn h2 _ _)
theorem descPart_all {p:Array Nat} (h:Pm n p) (m r:Nat):AllT n (fun r=>Pm n r.2) (kas_descPart m r p):=by
 unfold kas_descPart
 refine AllT.bind (fun a ha=>?_) (desc_all hn _ _ _ h)
 split
 ·exact tail_all hn ((mirror_perm a.1 _ _ _).trans ha) _ _
 ·exact tail_all hn ha _ _
theorem count_all {p:Array Nat} (h:Pm n p) (r:Nat):AllT n (fun r=>Pm n r.2) (kas_count r p):=by
 unfold kas_count
 refine AllT.bind (fun a _=>?_) (asc_all hn h _ _)
 split
 ·exact h
 ·split
  ·refine ⟨h.get hn _,h.get hn _,fun b=>?_⟩
   cases b
   ·exact descPart_all hn ((mirror_perm p _ _ _).trans h) _ _
   ·exact h
  ·exact descPart_all hn h _ _
theorem place_all {p:Array Nat} (h:Pm n p) (k:Nat):∀ f a b,AllT n (fun _=>True) (kas_place p k f a b)
 | 0,a,b=>by unfold kas_place; exact trivial
 | f + 1,a,b=>by
  unfold kas_place
  split
  ·exact trivial
  ·refine ⟨h.get hn _,h.get hn _,fun c=>?_⟩
   cases c
   ·exact place_all h k f _ _
   ·exact place_all h k f _ _
theorem bin_all:∀ f {p:Array Nat} k,Pm n p->AllT n (Pm n) (kas_bin f p k)
 | 0,p,k,h=>by unfold kas_bin; exact h
 | f + 1,p,k,h=>by
  unfold kas_bin
  exact AllT.bind (fun l _=>bin_all f _ ((bubble_perm p _ _).trans h)) (place_all hn h k _ _ _)
theorem sort_all:AllT n (Pm n) (kas_sort n):=by
 unfold kas_sort
 refine AllT.bind (fun r hr=>?_) (count_all hn (Array.Perm.refl _) n)
 split
 ·exact bin_all hn _ _ hr
 ·exact hr
end
def ordered {α:Type} (d:α) (c:Nat->Nat->Bool) (vs:List α):List α:=if vs.length < 2 then vs else (runT c (kas_sort vs.length)).toList.map fun i=>vs.getD i d
theorem ordered_perm {α:Type} (d:α) (c:Nat->Nat->Bool) (vs:List α):(ordered d c vs).Perm vs:=by
 unfold ordered
 split
 ·exact List.Perm.refl _
 ·rename_i h
  have hp:=Array.perm_iff_toList_perm.mp (AllT.run (L:=Pm vs.length) c (sort_all (n:=vs.length) (by omega)))
  have hp':(runT c (kas_sort vs.length)).toList.Perm (List.range vs.length):=by simpa using hp
  refine (hp'.map _).trans ?_
  have e3:(List.range vs.length).map (fun i=>vs.getD i d)=vs:=by
   refine List.ext_getElem (by simp) fun i h1 h2=>?_
   simp
   rw [List.getElem?_eq_getElem h2]
   rfl
  rw [e3]
theorem ordered_map {α β:Type} (f:α->β) (d:α) (e:β) (c:Nat->Nat->Bool) (vs:List α):(ordered d c vs).map f=ordered e c (vs.map f):=by
 unfold ordered
 rw [List.length_map]
 split
 ·rfl
 ·rename_i h
  rw [List.map_map]
  refine List.map_congr_left fun i hi=>?_
  have hp:=Array.perm_iff_toList_perm.mp (AllT.run (L:=Pm vs.length) c (sort_all (n:=vs.length) (by omega)))
  have hp':(runT c (kas_sort vs.length)).toList.Perm (List.range vs.length):=by simpa using hp
  have hlt:i < vs.length:=List.mem_range.mp (hp'.mem_iff.mp hi)
  show f (vs.getD i d)=(vs.map f).getD i e
  rw [List.getD_eq_getElem?_getD,List.getD_eq_getElem?_getD,List.getElem?_map,List.getElem?_eq_getElem hlt]
  rfl
def KeysOk (M:Model) (h:Heap) (ks:List Value) (c:Nat->Nat->Bool):Prop:=2 <= ks.length->∃ κ,Looks M h (keyKind' ks.toArray) κ/\∀ i j,i < ks.length->j < ks.length->Looks M h (keyLt' κ (ks.getD i .none) (ks.getD j .none)) (c i j)
section
variable {prog:Program}{w:World}{A:Around}{E:Value->Shared->Prop}{s:Shared}{a:Addr}{vs:List Value}{n:Nat}{h:Heap}{P:Fin->Shared->Prop}
theorem list_sort_any (ho:s.heap.get? a=some (seqObj "list" vs.toArray n)) (hl:vs.length < 64) {c:Nat->Nat->Bool} (K:KeysOk (model prog w) h vs c) (hx:∀ b o,h.get? b=some o->b ≠ a/\s.heap.get? b=some o)
  (hP:P (.done (.ret .none)) { s with heap:=sortedHeap s.heap a vs (ordered .none c vs).toArray }) :
  wpAny (model prog w) A (Builtin.«list.sort» ⟨[.ref a],[]⟩) P E s:=by
 rw [list_sort_plain]
 refine wpAny_bind (listItems_at ho rfl ?_)
 refine wpAny_bind ?_
 show wpAny _ _ (updateSeq a fun _=>#[]) _ _ _
 refine wpAny_updateSeq ho rfl ?_ (by simp [sizeLine_eq]; omega) (by simp)
 have ho1:=Heap.get?_update_self (Obj.mapSeq fun _=>(#[]:Array Value)) ho rfl
 refine wpAny_bind (seqEpoch_at ho1 rfl ?_)
 refine wpAny_bind (wpAny_newTuple ?_ (by simp [sizeLine_eq]; omega))
 refine wpAny_bind (wpAny_newList ?_ (by simp))
 refine wpAny_holding ?_
 have ho3:((((s.heap.update a (Obj.mapSeq fun _=>(#[]:Array Value))).push (seqObj "tuple" vs.toArray 0)).push (seqObj "list" #[] 0))).get? a=some (Obj.mapSeq (fun _=>#[]) (seqObj "list" vs.toArray n)):=Heap.get?_push_of_some _ (Heap.get?_push_of_some _ ho1)
 have hx3:∀ b o,h.get? b=some o->((((s.heap.update a (Obj.mapSeq fun _=>(#[]:Array Value))).push (seqObj "tuple" vs.toArray 0)).push (seqObj "list" #[] 0))).get? b=some o:=fun b o e=>by
  obtain ⟨h1,h2⟩:=hx b o e
  exact Heap.get?_push_of_some _ (Heap.get?_push_of_some _ ((Heap.get?_update_other _ _ (Ne.symm h1)).trans h2))
 dsimp only
 have zs:(vs.toArray.zip vs.toArray).map (fun x=>x.2)=vs.toArray:=by
  apply Array.ext
  ·simp
  ·intro i h1 h2
   simp
 have fin:∀ (st:SortSt) (k:Nat->Sem PySem.Fin),failedOf st=none->(arrOf st).map (fun x=>x.2)=(ordered Value.none c vs).toArray->(∀ Q:PySem.Fin->Shared->Prop,∀ s',Q (.done (.ret .none)) s'->wpAny (model prog w) A (k (if ((#[]:Array Value).size == vs.toArray.size)=true then n else n + 1)) Q E s') ->
   wpAny (model prog w) A (do let e <- seqEpoch a; Builtin.List.listUpdate (.ref a) fun _=>(arrOf st).map (fun x=>x.2); k e) P E { s with heap:=(((s.heap.update a (Obj.mapSeq fun _=>(#[]:Array Value))).push (seqObj "tuple" vs.toArray 0)).push (seqObj "list" #[] 0)) }:=by
  intro st k hf hp hk
  refine wpAny_bind (seqEpoch_at ho3 rfl ?_)
  refine wpAny_bind ?_
  show wpAny _ _ (updateSeq a fun _=>(arrOf st).map (fun x=>x.2)) _ _ _
  rw [hp]
  have hlen:(ordered Value.none c vs).toArray.size=vs.length:=by rw [List.size_toArray,(ordered_perm _ _ _).length_eq]
  refine wpAny_updateSeq ho3 rfl ?_ (by simp) (by simp only [hlen,sizeLine_eq]; omega)
  exact hk _ _ hP
 by_cases h2:vs.toArray.size < 2
 ·rw [if_pos h2]
  refine wpAny_bind (wpAny_pure ?_)
  rw [if_pos h2]
  refine wpAny_bind (show wpAny _ _ (pure ((),SortSt.mk' general' (vs.toArray.zip vs.toArray) #[] 7 none)) _ _ _ from wpAny_pure ?_)
  refine fin (SortSt.mk' general' (vs.toArray.zip vs.toArray) #[] 7 none) _ rfl ?_ fun Q s' hQ=>?_
  ·show (vs.toArray.zip vs.toArray).map (fun x=>x.2)=_
   rw [zs]
   unfold ordered
   rw [if_pos (by simpa using h2)]
  ·show wpAny _ _ (if _ then _ else ret Value.none) _ _ _
   rw [if_neg (by simp)]
   exact wpAny_pure hQ
 ·have h2':2 <= vs.length:=by simpa using h2
  obtain ⟨κ,k1,k2⟩:=K h2'
  rw [if_neg h2]
  refine wpAny_bind (k1 _ _ _ _ hx3 ?_)
  rw [if_neg h2]
  have hn:0 < vs.length:=by omega
  have run:=kat_run (prog:=prog) (w:=w) (A:=A) (E:=E) (s := { s with heap:=(((s.heap.update a (Obj.mapSeq fun _=>(#[]:Array Value))).push (seqObj "tuple" vs.toArray 0)).push (seqObj "list" #[] 0)) }) (κ:=κ) (ks:=vs) (vs:=vs) (Q:=fun st s'=>failedOf st=none/\s' = { s with heap:=(((s.heap.update a (Obj.mapSeq fun _=>(#[]:Array Value))).push (seqObj "tuple" vs.toArray 0)).push (seqObj "list" #[] 0)) }/\(arrOf st).map (fun x=>x.2)=(ordered Value.none c vs).toArray) (G:=fun p s'=>p=runT c (kas_sort vs.length)/\s' = { s with heap:=(((s.heap.update a (Obj.mapSeq fun _=>(#[]:Array Value))).push (seqObj "tuple" vs.toArray 0)).push (seqObj "list" #[] 0)) }) rfl h2' hl (fun p st' s' hs he hf hG=>by
   obtain ⟨hp,hs'⟩:=hG
   refine ⟨hf,hs',?_⟩
   have e1:(arrOf st').map (fun x=>x.2)=p.map fun i=>vs.getD i .none:=by
    rw [he,Array.map_map]
    refine Array.map_congr_left fun i hi=>?_
    have:=kas_item_eq vs i
    show (kas_item (vs.toArray.zip vs.toArray) i).2=_
    have e:vs.toArray.zip vs.toArray=pairsOf vs:=rfl
    rw [e,this]
   rw [e1,hp]
   unfold ordered
   rw [if_neg (by omega)]
   exact Array.toList_inj.mp (by rw [Array.toList_map])) (AllT.wp (n:=vs.length) (c:=c) (fun i j C hi hj hC=>k2 i j hi hj _ _ _ _ hx3 hC) (sort_all hn) ⟨rfl,rfl⟩)
  refine wpAny_bind (wpAny_mono run (fun r s' hr=>?_) fun _ _ x=>x)
  obtain ⟨hf,rfl,hp⟩:=hr
  refine fin r.2 _ hf hp fun Q s' hQ=>?_
  rw [hf]
  show wpAny _ _ (if _ then _ else ret Value.none) _ _ _
  rw [if_neg (by simp)]
  exact wpAny_pure hQ
theorem sorted_any {vs:List Value} (hL:s.heap.IsList a vs.toArray) (hl:vs.length < 64) {c:Nat->Nat->Bool} (K:KeysOk (model prog w) s.heap vs c) {Q:Value->Shared->Prop}
  (hQ:∀ (h':Heap) (q:Addr),(∀ b o,s.heap.get? b=some o->h'.get? b=some o)->s.heap.objs.size <= q->(∃ e,h'.get? q=some (seqObj "list" (ordered .none c vs).toArray e))->Q (.ref q) { s with heap:=h' }) :
  wpAny (model prog w) A (call (.builtin "sorted") [.ref a]) Q E s:=by
 refine Calls.call_function_entry kind_sorted plain_sorted entry_sorted (args_sorted1 _) ?_
 unfold Builtin.«sorted»
 refine wpAny_bind (m:=checkCount "sorted" 1 1 _) (wpAny_pure ?_)
 refine wpAny_bind (collect_list (A:=A.in1) hL ?_ (by rw [sizeLine_eq]; omega))
 have hlt:a < s.heap.objs.size:=by obtain ⟨o,ho,_⟩:=hL; exact Heap.lt_size ho
 generalize hh1:(s.heap.push (seqObj "list" #[] 0)).update s.heap.objs.size (Obj.mapSeq fun x=>x ++ vs.toArray)=h1
 have kp:∀ b o,s.heap.get? b=some o->h1.get? b=some o:=fun b o e=>by
  rw [<- hh1]
  exact (Heap.get?_update_other _ _ (Ne.symm (Nat.ne_of_lt (Heap.lt_size e)))).trans (Heap.get?_push_of_some _ e)
 have hsz:s.heap.objs.size <= h1.objs.size:=by
  obtain ⟨o,ho,_⟩:=hL
  have e0:(s.heap.push (seqObj "list" #[] 0)).get? s.heap.objs.size=some (seqObj "list" #[] 0):=Heap.get?_push_size _ rfl
  have e1:=Heap.get?_update_self (Obj.mapSeq fun x=>x ++ vs.toArray) e0 rfl
  rw [hh1] at e1
  exact Nat.le_of_lt (Heap.lt_size e1)
 refine wpAny_bind (wpAny_newList ?_ (by rw [sizeLine_eq]; omega))
 have hoL:(h1.push (seqObj "list" vs.toArray 0)).get? h1.objs.size=some (seqObj "list" vs.toArray 0):=Heap.get?_push_size _ rfl
 show wpAny _ _ _ _ _ ({ s with heap:=h1.push (seqObj "list" vs.toArray 0) }:Shared)
 refine wpAny_bind (wpAny_holding (wpAny_call_entry slot_list_sort ⟨_,hoL,rfl⟩ entry_list_sort (list_sort_any (h:=s.heap) hoL hl K (fun b o e=>⟨Nat.ne_of_lt (Heap.lt_size (kp b o e)),Heap.get?_push_of_some _ (kp b o e)⟩) ⟨_,rfl,?_⟩) (args_list_sort _)))
 refine wpAny_pure ⟨_,rfl,hQ _ h1.objs.size (fun b o e=>?_) hsz (sortedHeap_at hoL)⟩
 have hlt:=Heap.lt_size (kp b o e)
 have hne:b ≠ h1.objs.size:=Nat.ne_of_lt hlt
 have sh:(sortedHeap (h1.push (seqObj "list" vs.toArray 0)) h1.objs.size vs (ordered Value.none c vs).toArray).get? b=(h1.push (seqObj "list" vs.toArray 0)).get? b:=sortedHeap_old hne (by rw [Heap.size_push]; exact Nat.lt_succ_of_lt hlt)
 show (sortedHeap (h1.push (seqObj "list" vs.toArray 0)) h1.objs.size vs (ordered Value.none c vs).toArray).get? b=some o
 rw [sh]
 exact Heap.get?_push_of_some _ (kp b o e)
end
def pairLt (p q:Int × Int):Bool:=if p.1=q.1 then (if p.2=q.2 then false else decide (p.2 < q.2)) else decide (p.1 < q.1)
def PairAt (h:Heap) (v:Value) (p:Int × Int):Prop := ∃ a t u n,v=.ref a/\h.get? a=some { cls := .type "tuple",data := .seq #[.int p.1 t,.int p.2 u] n }
theorem PairAt.keep {h h':Heap}{v:Value}{p:Int × Int} (k:∀ b o,h.get? b=some o->h'.get? b=some o) (x:PairAt h v p):PairAt h' v p:=by
 obtain ⟨a,t,u,n,rfl,e⟩:=x
 exact ⟨a,t,u,n,rfl,k _ _ e⟩
inductive Prs (h:Heap):List Value->List (Int × Int)->Prop
 | nil:Prs h [] []
 | cons {v:Value}{p:Int × Int}{vs:List Value}{ps:List (Int × Int)}:PairAt h v p->Prs h vs ps->Prs h (v :: vs) (p :: ps)
theorem Prs.keep {h h':Heap} (k:∀ b o,h.get? b=some o->h'.get? b=some o) {vs:List Value}{ps:List (Int × Int)} (x:Prs h vs ps):Prs h' vs ps:=by
 induction x with
 | nil=>exact .nil
 | cons a _ ih=>exact .cons (a.keep k) ih
theorem Prs.at {h:Heap}{vs:List Value}{ps:List (Int × Int)} (x:Prs h vs ps):∀ i,i < vs.length->PairAt h (vs.getD i .none) (ps.getD i (0,0)):=by
 induction x with
 | nil=>intro i hi; exact absurd hi (Nat.not_lt_zero _)
 | cons a _ ih =>
  intro i hi
  cases i with
  | zero=>exact a
  | succ i=>exact ih i (by rw [List.length_cons] at hi; omega)
section
variable {prog:Program}{w:World}{h:Heap}
theorem lt_false {A:Around}{E:Value->Shared->Prop}{s:Shared}{x y:Int}{t u:Tok}{Q:Bool->Shared->Prop} (hQ:Q (decide (x < y)) s):wpAny (model prog w) A (oneLt' false (.int x t) (.int y u)) Q E s:=by
 rw [oneLt'_eq]
 show wpAny _ _ (compareOp .Lt (.int x t) (.int y u) >>= fun r=>truthOfDropped r) _ _ _
 refine wpAny_bind (lt_int ?_)
 exact wpAny_pure hQ
theorem lt_pair {v1 v2:Value}{p q:Int × Int} (h1:PairAt h v1 p) (h2:PairAt h v2 q):Looks (model prog w) h (keyLt' (tuples' true) v1 v2) (pairLt p q):=by
 intro A Q E s k hQ
 obtain ⟨a,t1,u1,n1,rfl,e1⟩:=h1.keep k
 obtain ⟨b,t2,u2,n2,rfl,e2⟩:=h2.keep k
 rw [kat_lt_eq]
 refine wpAny_bind (listItems_at e1 rfl ?_)
 refine wpAny_bind (listItems_at e2 rfl ?_)
 refine wpAny_bind ?_
 show wpAny _ _ (forIn [((Value.int p.1 t1,Value.int q.1 t2),0),((Value.int p.2 u1,Value.int q.2 u2),1)] _ _) _ _ _
 rw [List.forIn_cons]
 refine wpAny_bind (wpAny_bind (wpAny_eqBool_int ?_))
 unfold pairLt at hQ
 by_cases c1:p.1=q.1
 ·rw [if_pos c1] at hQ
  have b1:(p.1 == q.1)=true:=by simpa using c1
  rw [b1]
  refine wpAny_pure ?_
  dsimp only
  rw [List.forIn_cons]
  refine wpAny_bind (wpAny_bind (wpAny_eqBool_int ?_))
  by_cases c2:p.2=q.2
  ·rw [if_pos c2] at hQ
   have b2:(p.2 == q.2)=true:=by simpa using c2
   rw [b2]
   refine wpAny_pure ?_
   dsimp only
   rw [List.forIn_nil]
   exact wpAny_pure (wpAny_pure hQ)
  ·rw [if_neg c2] at hQ
   have b2:(p.2 == q.2)=false:=by simpa using c2
   rw [b2]
   refine wpAny_bind (lt_false ?_)
   exact wpAny_pure (wpAny_pure (wpAny_pure hQ))
 ·rw [if_neg c1] at hQ
  have b1:(p.1 == q.1)=false:=by simpa using c1
  rw [b1]
  refine wpAny_bind (oneLt_int ?_)
  exact wpAny_pure (wpAny_pure (wpAny_pure hQ))
theorem tups_of {h:Heap}{vs:List Value}{ps:List (Int × Int)} (x:Prs h vs ps):∃ fs,KatTups h vs fs/\fs.length=vs.length/\∀ v ∈ fs,∃ i t,v=Value.int i t:=by
 induction x with
 | nil=>exact ⟨[],by unfold KatTups; trivial,rfl,fun v m=>by cases m⟩
 | cons x _ ih =>
  rename_i v p vs ps _
  obtain ⟨fs,h1,h2,h3⟩:=ih
  obtain ⟨a,t,u,n,rfl,e⟩:=x
  refine ⟨.int p.1 t :: fs,?_,by rw [List.length_cons,List.length_cons,h2],fun v m=>?_⟩
  ·unfold KatTups
   exact ⟨⟨a,_,_,n,rfl,e,rfl,rfl,rfl⟩,h1⟩
  ·rcases List.mem_cons.mp m with rfl | m
   ·exact ⟨_,_,rfl⟩
   ·exact h3 v m
theorem keys_pairs {vs:List Value}{ps:List (Int × Int)} (hv:Prs h vs ps):KeysOk (model prog w) h vs fun i j=>pairLt (ps.getD i (0,0)) (ps.getD j (0,0)):=by
 intro h2
 refine ⟨tuples' true,fun A Q E s k hQ=>?_,fun i j hi hj=>?_⟩
 ·obtain ⟨fs,h1,hl,h3⟩:=tups_of (hv.keep k)
  refine kat_kind (T := .type "int") h1 (by omega) (fun v m=>?_) (by decide) hQ
  obtain ⟨i,t,rfl⟩:=h3 v m
  exact fun A Q E s _ hQ=>wpAny_typeOf (T := "int") rfl hQ
 ·exact lt_pair (hv.at i hi) (hv.at j hj)
end
end SR
namespace L2
open PySem PySem.Spec PyProof.Rows
section
variable {X:Cx}
inductive PrsH (H:Hp):List V->List (Int × Int)->Prop
 | nil:PrsH H [] []
 | cons {a:Addr}{p:Int × Int}{vs:List V}{ps:List (Int × Int)}:H a=some (.tup [.int p.1,.int p.2])->PrsH H vs ps->PrsH H (.ref a :: vs) (p :: ps)
theorem PrsH.len {H:Hp}{vs:List V}{ps:List (Int × Int)} (x:PrsH H vs ps):vs.length=ps.length:=by
 induction x with
 | nil=>rfl
 | cons _ _ ih=>rw [List.length_cons,List.length_cons,ih]
theorem Inv.prs {pins:List (Addr × Obj)}{σ:St}{H:Hp}{s:Shared} (I:Inv X pins σ H s):∀ {vs:List V}{ps:List (Int × Int)},PrsH H vs ps->∀ {its:List Value},Vals vs its->SR.Prs s.heap its ps
 | _,_,.nil,its,r=>by cases r; exact .nil
 | _,_,.cons (a:=a) (p:=p) e x,its,r=>by
  cases r with
  | cons r1 r2 =>
   cases r1
   refine .cons ?_ (I.prs x r2)
   obtain ⟨_,us,ru,n,e2⟩:=(show ObjOk X.prog X.w H s.heap a (.tup [.int p.1,.int p.2]) from I.hok a _ e)
   obtain ⟨u,v,rfl,h1,h2⟩:=ru.two
   obtain ⟨t1,rfl⟩:=h1
   obtain ⟨t2,rfl⟩:=h2
   exact ⟨a,t1,t2,n,rfl,e2⟩
theorem vals_map {f:Nat->V}{g:Nat->Value}:∀ {is:List Nat},(∀ i ∈ is,RelV (f i) (g i))->Vals (is.map f) (is.map g)
 | [],_=>.nil
 | i :: r,h=>.cons (h i List.mem_cons_self) (vals_map fun j m=>h j (List.mem_cons_of_mem _ m))
theorem Vals.getD {ws:List V}{its:List Value} (r:Vals ws its):∀ i,i < ws.length->RelV (ws.getD i .non) (its.getD i .none):=fun i hi=>by
 have e:ws[i]?=some (ws[i]):=List.getElem?_eq_getElem hi
 obtain ⟨u,hu,ru⟩:=r.get e
 rw [List.getD_eq_getElem?_getD,List.getD_eq_getElem?_getD,e,hu]
 exact ru
theorem Vals.ordered {ws:List V}{its:List Value} (r:Vals ws its) (c:Nat->Nat->Bool):Vals (SR.ordered .non c ws) (SR.ordered .none c its):=by
 have hl:=r.length
 unfold SR.ordered
 rw [<- hl]
 split
 ·exact r
 ·rename_i h
  refine vals_map fun i m=>r.getD i ?_
  have hp:=Array.perm_iff_toList_perm.mp (SR.AllT.run (L:=SR.Pm ws.length) c (SR.sort_all (n:=ws.length) (by omega)))
  have hp':(SR.runT c (PySem.W.kas_sort ws.length)).toList.Perm (List.range ws.length):=by simpa using hp
  exact List.mem_range.mp (hp'.mem_iff.mp m)
abbrev prLt (ps:List (Int × Int)) (i j:Nat):Bool:=SR.pairLt (ps.getD i (0,0)) (ps.getD j (0,0))
theorem call_sortedP:CallR X (.builtin "sorted") (fun xs H Q=>∃ (a:Addr) (ws:List V) (ps:List (Int × Int)),xs=[.ref a]/\SqL X.K H a ws/\PrsH H ws ps/\ps.length < 64/\∀ p:Addr,H p=none->Q (.ref p) (upd H p (.lst (SR.ordered .non (prLt ps) ws)))):=by
 intro pins s σ H xs us Q I r h
 obtain ⟨a,ws,ps,rfl,hq,hp,hl,q⟩:=h
 obtain ⟨u,rfl,ru⟩:=vals1 r
 cases ru
 obtain ⟨its,rv,pl,hz⟩:=I.list hq
 have hlen:=rv.length
 have hpl:=hp.len
 refine SR.sorted_any pl.isList (by omega) (SR.keys_pairs (I.prs hp rv)) fun h' p kp hsz he=>?_
 obtain ⟨e,he⟩:=he
 refine ⟨.ref p,_,I.laid (t' := s.toks) kp hsz ?_,rfl,q _ (I.hok.fresh hsz)⟩
 refine ⟨?_,_,e,rv.ordered (prLt ps),he⟩
 rw [(SR.ordered_perm _ _ _).length_eq]
 exact hz
end
end L2
namespace DL
open PySem PySem.Spec PyProof.Rows L2
section
variable {K:PySem.W.Frag}{Y:XY}{H0 B0 B H:Hp}{σ:L2.St}{τ:SD}{P:List Addr}{F:Addr->Prop}
def prOf:D->Option (Int × Int)
 | .tup [.int i,.int j]=>some (i,j)
 | _=>none
def prsOf:List D->Option (List (Int × Int))
 | []=>some []
 | d :: r=>(prOf d).bind fun p=>(prsOf r).map fun ps=>p :: ps
def prD (p:Int × Int):D := .tup [.int p.1,.int p.2]
theorem prOf_eq {d:D}{p:Int × Int} (h:prOf d=some p):d=prD p:=by
 unfold prOf at h
 split at h
 ·cases h; rfl
 ·cases h
theorem prsOf_eq:∀ {xs:List D}{ps:List (Int × Int)},prsOf xs=some ps->xs=ps.map prD
 | [],ps,h=>by cases h; rfl
 | d :: r,ps,h=>by
  unfold prsOf at h
  cases e1:prOf d with
  | none=>rw [e1] at h; cases h
  | some p =>
   rw [e1] at h
   cases e2:prsOf r with
   | none=>rw [e2] at h; cases h
   | some qs =>
    rw [e2] at h
    cases h
    rw [prOf_eq e1,prsOf_eq e2]
    rfl
theorem prsOf_map:∀ ps:List (Int × Int),prsOf (ps.map prD)=some ps
 | []=>rfl
 | p :: r=>by
  show ((prOf (prD p)).bind fun p=>(prsOf (r.map prD)).map fun ps=>p :: ps)=_
  rw [prsOf_map r]
  rfl
theorem plain_prs:∀ ps:List (Int × Int),plainL (ps.map prD)=true
 | []=>rfl
 | p :: r=>by
  show ((prD p).plain && plainL (r.map prD))=true
  rw [plain_prs r]
  rfl
theorem prsH_of {S:Addr->Prop}:∀ {ps:List (Int × Int)}{vs:List V}{f:List Addr},RepL K B S H (ps.map prD) vs f->PrsH H vs ps
 | [],vs,f,r=>by obtain ⟨rfl,_⟩:=r; exact .nil
 | p :: ps,vs,f,r=>by
  obtain ⟨v,w,f1,f2,rfl,r1,r2,_⟩:=r
  obtain ⟨a,us,rfl,h,rl⟩:=r1
  obtain ⟨v1,w1,g1,g2,rfl,q1,q2,_⟩:=rl
  obtain ⟨v2,w2,g3,g4,rfl,q3,q4,_⟩:=q2
  obtain ⟨rfl,_⟩:=q1
  obtain ⟨rfl,_⟩:=q3
  obtain ⟨rfl,_⟩:=q4
  exact .cons h (prsH_of r2)
theorem repL_map {S:Addr->Prop}{f:Nat->D}{g:Nat->V}:∀ {is:List Nat},(∀ i ∈ is,Rep K B S H (f i) (g i) [])->RepL K B S H (is.map f) (is.map g) []
 | [],_=>⟨rfl,rfl⟩
 | i :: r,h=>⟨_,_,[],[],rfl,h i List.mem_cons_self,repL_map fun j m=>h j (List.mem_cons_of_mem _ m),rfl⟩
theorem RepL.ordered {S:Addr->Prop}{xs:List D}{vs:List V}{f:List Addr} (hp:plainL xs=true) (r:RepL K B S H xs vs f) (c:Nat->Nat->Bool):RepL K B S H (SR.ordered .non c xs) (SR.ordered .non c vs) []:=by
 obtain ⟨rfl,r⟩:=RepL.plainI (B' := B) (S' := S) (Imm.refl H) hp r
 have hl:=r.length
 unfold SR.ordered
 rw [<- hl]
 split
 ·exact r
 ·rename_i h
  refine repL_map fun i m=>?_
  have hq:=Array.perm_iff_toList_perm.mp (SR.AllT.run (L:=SR.Pm xs.length) c (SR.sort_all (n:=xs.length) (by omega)))
  have hq':(SR.runT c (PySem.W.kas_sort xs.length)).toList.Perm (List.range xs.length):=by simpa using hq
  have hi:=List.mem_range.mp (hq'.mem_iff.mp m)
  have e:xs[i]?=some (xs[i]):=List.getElem?_eq_getElem hi
  obtain ⟨v,g,hv,rv,sg⟩:=r.get e
  have eg:g=[]:=List.sublist_nil.mp sg
  subst eg
  rw [List.getD_eq_getElem?_getD,List.getD_eq_getElem?_getD,e,hv]
  exact rv
def sortedPD:List D->Res D
 | [.lst _ xs]=>match prsOf xs with | some ps=>if ps.length < 64 then .ok (.lst .own (SR.ordered .non (prLt ps) xs)) else .bad | none=>.bad
 | _=>.bad
theorem d_sortedP:CallD K Y (fun xs H Q=>∃ (a:Addr) (ws:List V) (ps:List (Int × Int)),xs=[.ref a]/\SqL K H a ws/\PrsH H ws ps/\ps.length < 64/\∀ p:Addr,H p=none->Q (.ref p) (upd H p (.lst (SR.ordered .non (prLt ps) ws)))) sortedPD:=by
 intro H0 B0 B H σ τ P F ds vs f Q I r k h
 unfold sortedPD at h
 split at h
 ·obtain ⟨v,rfl,r'⟩:=repL1 r
  obtain ⟨a,ws,g,rfl,q,l,s⟩:=r'.lst I
  split at h
  ·rename_i ps e
   split at h
   ·rename_i hl
    have ex:=prsOf_eq e
    subst ex
    exact ⟨a,ws,ps,rfl,sqL_of q,prsH_of l,hl,fun p hp=>Out.newL h I (l.ordered (plain_prs ps) (prLt ps)) Vok.nil hp⟩
   ·exact h.elim
  ·exact h.elim
 ·exact h.elim
end
end DL
namespace L2
open PySem PySem.Spec PyProof.Rows
section
variable {X:Cx}
def least (ns:List Int):Int:=ns.getD (argBest (fun i j=>decide (ns.getD i 0 < ns.getD j 0)) (ns.length - 1)) 0
theorem items_of:∀ {ns:List Int}{its:List Value},Vals (ns.map V.int) its->∃ xs:Array (Int × Tok),intItems xs=its.toArray/\xs.size=ns.length/\∀ i,numAt xs i=ns.getD i 0:=by
 intro ns its r
 have h:∃ ts:List Tok,its=(ns.zip ts).map (fun p=>Value.int p.1 p.2)/\ts.length=ns.length:=by
  induction ns generalizing its with
  | nil=>cases r; exact ⟨[],rfl,rfl⟩
  | cons n ns ih =>
   cases r with
   | cons r1 r2 =>
    obtain ⟨t,rfl⟩:=r1
    obtain ⟨ts,rfl,hl⟩:=ih r2
    exact ⟨t :: ts,rfl,by rw [List.length_cons,List.length_cons,hl]⟩
 obtain ⟨ts,rfl,hl⟩:=h
 refine ⟨(ns.zip ts).toArray,?_,by simp [hl],fun i=>?_⟩
 ·unfold intItems
  simp
 ·unfold numAt
  by_cases hi:i < ns.length
  ·simp [hi,hl]
  ·simp [hi,hl]
theorem call_min1 (hc:X.calm=true):CallR X (.builtin "min") (fun xs H Q=>∃ (a:Addr) (ns:List Int),xs=[.ref a]/\SqL X.K H a (ns.map V.int)/\0 < ns.length/\Q (.int (least ns)) H):=by
 intro pins s σ H xs us Q I r h
 obtain ⟨a,ns,rfl,hq,hn,q⟩:=h
 obtain ⟨u,rfl,ru⟩:=vals1 r
 cases ru
 obtain ⟨its,rv,pl,hz⟩:=I.list hq
 obtain ⟨ys,e1,e2,e3⟩:=items_of rv
 refine min_intList (xs:=ys) (I.ok.hd hc) (by rw [e1]; exact pl.isList) (by omega) fun v h' tk hv kp=>?_
 obtain ⟨t,rfl⟩:=intItems_at hv
 have e:numAt ys (argBest (fun i j=>decide (numAt ys i < numAt ys j)) (ys.size - 1))=least ns:=by
  unfold least
  rw [e3,e2]
  simp only [e3]
 rw [e]
 exact ⟨.int (least ns),H,I.kept (t' := tk) kp,⟨t,rfl⟩,q⟩
end
end L2
namespace DL
open PySem PySem.Spec PyProof.Rows L2
section
variable {K:PySem.W.Frag}{Y:XY}
def min1D:List D->Res D
 | [.lst _ xs]=>match intsOf xs with | some ns=>if 0 < ns.length then .ok (.int (least ns)) else .bad | none=>.bad
 | _=>.bad
theorem d_min1:CallD K Y (fun xs H Q=>∃ (a:Addr) (ns:List Int),xs=[.ref a]/\SqL K H a (ns.map V.int)/\0 < ns.length/\Q (.int (least ns)) H) min1D:=by
 intro H0 B0 B H σ τ P F ds vs f Q I r k h
 unfold min1D at h
 split at h
 ·obtain ⟨v,rfl,r'⟩:=repL1 r
  obtain ⟨a,ws,g,rfl,q,l,s⟩:=r'.lst I
  split at h
  ·rename_i ns e
   split at h
   ·rename_i hl
    have ex:=intsOf_eq e
    subst ex
    obtain ⟨rfl,rfl⟩:=repL_ints l
    exact ⟨a,ns,rfl,sqL_of q,hl,Out.here h I ⟨rfl,rfl⟩⟩
   ·exact h.elim
  ·exact h.elim
 ·exact h.elim
end
end DL
namespace SR
open PySem PySem.Spec PyProof.Rows PySem.W
abbrev emptied (vs:List Value) (n:Nat):Obj:=Obj.mapSeq (fun _=>#[]) (seqObj "list" vs.toArray n)
abbrev keyed (h:Heap) (a:Addr) (vs:List Value):Heap:=((h.update a (Obj.mapSeq fun _=>(#[]:Array Value))).push (seqObj "tuple" vs.toArray 0)).push (seqObj "list" #[] 0)
abbrev keyAt (h:Heap) (a:Addr) (vs:List Value):Addr:=((h.update a (Obj.mapSeq fun _=>(#[]:Array Value))).push (seqObj "tuple" vs.toArray 0)).objs.size
abbrev kzLt (kz:List Int) (i j:Nat):Bool:=decide (kz.getD i 0 < kz.getD j 0)
section
variable {prog:Program}{w:World}{A:Around}{E:Value->Shared->Prop}{s:Shared}{a:Addr}{vs:List Value}{n:Nat}{f:Value}{kz:List Int}{P:Fin->Shared->Prop}{Base:List Int->Shared->Prop}
theorem ints_at {ks:List Value}{kz:List Int} (h:IntsAre ks kz):∀ i,i < ks.length->∃ t,ks.getD i .none=.int (kz.getD i 0) t:=by
 induction h with
 | nil=>intro i hi; exact absurd hi (Nat.not_lt_zero _)
 | cons k t _ ih =>
  intro i hi
  cases i with
  | zero=>exact ⟨t,rfl⟩
  | succ i=>exact ih i (by rw [List.length_cons] at hi; omega)
theorem keys_ints {h:Heap}{ks:List Value} (hI:IntsAre ks kz):KeysOk (model prog w) h ks (kzLt kz):=by
 intro h2
 refine ⟨oneType',fun A Q E s k hQ=>?_,fun i j hi hj=>?_⟩
 ·rw [ksk_kind (kz:=kz) (by simpa using hI) (by simpa using h2)]
  exact wpAny_pure hQ
 ·obtain ⟨t,e1⟩:=ints_at hI i hi
  obtain ⟨u,e2⟩:=ints_at hI j hj
  rw [e1,e2]
  exact fun A Q E s k hQ=>kat_lt_int hQ
theorem list_sort_key (ho:s.heap.get? a=some (seqObj "list" vs.toArray n)) (hl:vs.length < 64)
  (h0:Base [] { s with heap:=keyed s.heap a vs })
  (hcall:∀ zs x s' ks e,vs[zs.length]?=some x->Base zs s'->s'.heap.get? a=some (emptied vs n)->s'.heap.get? (keyAt s.heap a vs)=some (seqObj "list" ks e)->wpAny (model prog w) A (call f [x]) (fun k s''=>∃ z t,k=.int z t/\Base (zs ++ [z]) s''/\s''.heap.get? a=some (emptied vs n)/\s''.heap.get? (keyAt s.heap a vs)=some (seqObj "list" ks e)) (fun _ _=>False) s')
  (hupd:∀ zs s' g ks e,Base zs s'->s'.heap.get? (keyAt s.heap a vs)=some (seqObj "list" ks e)->Base zs { s' with heap:=s'.heap.update (keyAt s.heap a vs) (Obj.mapSeq g) })
  (hP:∀ zs s',zs.length=vs.length->Base zs s'->s'.heap.get? a=some (emptied vs n)->P (.done (.ret .none)) { s' with heap:=s'.heap.update a (Obj.mapSeq fun _=>(ordered .none (kzLt zs) vs).toArray) }) :
  wpAny (model prog w) A (ksk_tree a f false) P E s:=by
 unfold ksk_tree
 refine wpAny_bind (listItems_at ho rfl ?_)
 refine wpAny_bind ?_
 show wpAny _ _ (updateSeq a fun _=>#[]) _ _ _
 refine wpAny_updateSeq ho rfl ?_ (by simp [sizeLine_eq]; omega) (by simp)
 have ho1:=Heap.get?_update_self (Obj.mapSeq fun _=>(#[]:Array Value)) ho rfl
 refine wpAny_bind (seqEpoch_at ho1 rfl ?_)
 refine wpAny_bind (wpAny_newTuple ?_ (by simp [sizeLine_eq]; omega))
 refine wpAny_bind (wpAny_newList ?_ (by simp))
 refine wpAny_holding ?_
 have ho3:(keyed s.heap a vs).get? a=some (emptied vs n):=Heap.get?_push_of_some _ (Heap.get?_push_of_some _ ho1)
 have hk3:(keyed s.heap a vs).get? (keyAt s.heap a vs)=some (seqObj "list" #[] 0):=Heap.get?_push_size _ rfl
 have hne:a ≠ keyAt s.heap a vs:=by
  have:=Heap.lt_size (Heap.get?_push_of_some (seqObj "tuple" vs.toArray 0) ho1)
  exact Nat.ne_of_lt this
 show wpAny _ A (ksk_rest a f false vs.toArray _ (.ref (keyAt s.heap a vs))) P E { s with heap:=keyed s.heap a vs }
 unfold ksk_rest
 refine wpAny_bind (wpAny_rule ?_)
 refine wpAny_bind ?_
 rw [show ∀ body:Value->PUnit->Sem (ForInStep PUnit),forIn vs.toArray PUnit.unit body=forIn vs PUnit.unit body from fun body=>by simp]
 refine ksk_fold (fun i s'=>∃ zs:List Int,zs.length=i/\Base zs s'/\s'.heap.get? a=some (emptied vs n)/\∃ ks e,s'.heap.get? (keyAt s.heap a vs)=some (seqObj "list" ks.toArray e)/\IntsAre ks zs) vs 0 _ ⟨[],rfl,h0,ho3,[],0,hk3,.nil⟩ (fun j x s' hx hI=>?_) fun s' hI=>?_
 ·obtain ⟨zs,hzl,b,ha,ks,e,hk,hi⟩:=hI
  rw [Nat.zero_add] at *
  subst hzl
  have hj:zs.length < vs.length:=(List.getElem?_eq_some_iff.mp hx).1
  refine wpAny_bind (wpAny_attempt ?_)
  refine wpAny_mono (hcall zs x s' ks.toArray e hx b ha hk) (fun k s'' hq=>?_) fun _ _ x=>x.elim
  obtain ⟨z,t,rfl,b',ha',hk'⟩:=hq
  refine wpAny_bind ?_
  show wpAny _ _ (updateSeq (keyAt s.heap a vs) fun x=>x.push (.int z t)) _ _ _
  have hlen:ks.length=zs.length:=hi.length
  refine wpAny_updateSeq hk' rfl ?_ (by simp [sizeLine_eq]; omega) (by simp [sizeLine_eq]; omega)
  refine wpAny_pure ⟨rfl,zs ++ [z],by simp,hupd _ _ _ _ _ b' hk',(Heap.get?_update_other _ _ (Ne.symm hne)).trans ha',ks ++ [.int z t],(if (ks.toArray.push (Value.int z t)).size == ks.toArray.size then e else e + 1),?_,ksk_snoc hi⟩
  have q:=get?_update_seq hk' (fun x=>x.push (Value.int z t))
  rw [q]
  simp
 ·obtain ⟨kz,hzl,b,ha,ks,e,hk,hi⟩:=hI
  rw [Nat.zero_add] at hzl
  have hlen:ks.length=vs.length:=by rw [hi.length]; exact hzl
  refine wpAny_bind (listItems_at hk rfl ?_)
  unfold ksk_end
  dsimp only
  have hb:=hupd kz s' (fun _=>#[]) ks.toArray e b hk
  have ha2:(s'.heap.update (keyAt s.heap a vs) (Obj.mapSeq fun _=>(#[]:Array Value))).get? a=some (emptied vs n):=(Heap.get?_update_other _ _ (Ne.symm hne)).trans ha
  have fin:∀ st:SortSt,failedOf st=none->(arrOf st).map (fun x=>x.2)=(ordered Value.none (kzLt kz) vs).toArray->wpAny (model prog w) A (ksk_tail a false (if ((#[]:Array Value).size == vs.toArray.size)=true then n else n + 1) (.ref (keyAt s.heap a vs)) st) P E s' := by
   intro st hf hp
   unfold ksk_tail
   dsimp only
   refine wpAny_bind (listUpdate_at hk rfl ?_ (by simp [sizeLine_eq]; omega) (Nat.zero_le _))
   refine wpAny_bind (wpAny_letGo ?_)
   refine wpAny_bind (seqEpoch_at ha2 rfl ?_)
   rw [hp]
   have hsz:(ordered Value.none (kzLt kz) vs).toArray.size=vs.length:=by rw [List.size_toArray,(ordered_perm _ _ _).length_eq]
   refine wpAny_bind (listUpdate_at ha2 rfl ?_ (by simp) (by simp only [hsz,sizeLine_eq,Bool.false_eq_true,if_false]; omega))
   rw [hf]
   simp only [bne_self_eq_false,Bool.false_eq_true,if_false]
   exact wpAny_pure (hP kz _ hzl hb ha2)
  rw [if_neg (by simp)]
  by_cases h2:vs.toArray.size < 2
  ·rw [if_pos h2,if_pos h2]
   refine wpAny_bind (wpAny_pure ?_)
   rw [StateT.run_pure]
   refine wpAny_bind (wpAny_pure ?_)
   refine fin (SortSt.mk' general' (ks.toArray.zip vs.toArray) #[] 7 none) rfl ?_
   show (ks.toArray.zip vs.toArray).map (fun x=>x.2)=_
   unfold ordered
   rw [if_pos (by simpa using h2)]
   apply Array.ext
   ·simp [hlen]
   ·intro i h1 h2
    simp
  ·have h2':2 <= vs.length:=by simpa using h2
   obtain ⟨κ,k1,k2⟩:=keys_ints (prog:=prog) (w:=w) (h:=s'.heap) hi (by omega)
   rw [if_neg h2,if_neg h2]
   refine wpAny_bind (k1 _ _ _ _ (fun b o e=>e) ?_)
   rw [if_neg (by simp)]
   have run:=kat_run (prog:=prog) (w:=w) (A:=A) (E:=E) (s:=s') (κ:=κ) (ks:=ks) (vs:=vs) (Q:=fun st s''=>failedOf st=none/\s''=s'/\(arrOf st).map (fun x=>x.2)=(ordered Value.none (kzLt kz) vs).toArray) (G:=fun p s''=>p=runT (kzLt kz) (kas_sort vs.length)/\s''=s') hlen h2' hl (fun p st' s'' hs he hf hG=>by
    obtain ⟨hp,hs'⟩:=hG
    refine ⟨hf,hs',?_⟩
    rw [kat_snds hlen he,hp]
    unfold ordered
    rw [if_neg (by omega)]) (AllT.wp (n:=vs.length) (c:=kzLt kz) (fun i j C hi hj hC=>k2 i j (by omega) (by omega) _ _ _ _ (fun b o e=>e) hC) (sort_all (by omega)) ⟨rfl,rfl⟩)
   refine wpAny_bind (wpAny_mono run (fun r s'' hr=>?_) fun _ _ x=>x)
   obtain ⟨hf,rfl,hp⟩:=hr
   exact fin r.2 hf hp
end
section
variable {prog:Program}{w:World}{A:Around}{E:Value->Shared->Prop}{s:Shared}{vs:List Value}{l q:Addr}
theorem sorted_key (hL:s.heap.IsList l vs.toArray) (hl:vs.length < 64) {Q:Value->Shared->Prop}
  (hQ:∀ (h1:Heap) (a:Addr),(∀ b o,s.heap.get? b=some o->h1.get? b=some o)->s.heap.objs.size <= a->h1.get? a=some (seqObj "list" vs.toArray 0) ->
   wpAny (model prog w) A.in1.in1 (ksk_tree a (.ref q) false) (fun fin s'=>fin=.done (.ret .none)/\Q (.ref a) s') E { s with heap:=h1 }) :
  wpAny (model prog w) A (call (.builtin "sorted") [.ref l] [(Str.ofString "key",.ref q)]) Q E s:=by
 refine call_function_entry_kw kind_sorted plain_sorted entry_sorted (ksk_s1 _ _) ?_
 unfold Builtin.«sorted»
 refine wpAny_bind (m:=checkCount "sorted" 1 1 _) (wpAny_pure ?_)
 refine wpAny_bind (collect_list (A:=A.in1) hL ?_ (by rw [sizeLine_eq]; omega))
 have hlt:l < s.heap.objs.size:=by obtain ⟨o,ho,_⟩:=hL; exact Heap.lt_size ho
 generalize hh1:(s.heap.push (seqObj "list" #[] 0)).update s.heap.objs.size (Obj.mapSeq fun x=>x ++ vs.toArray)=h1
 have kp:∀ b o,s.heap.get? b=some o->h1.get? b=some o:=fun b o e=>by
  rw [<- hh1]
  exact (Heap.get?_update_other _ _ (Ne.symm (Nat.ne_of_lt (Heap.lt_size e)))).trans (Heap.get?_push_of_some _ e)
 have hsz:s.heap.objs.size <= h1.objs.size:=by
  have e0:(s.heap.push (seqObj "list" #[] 0)).get? s.heap.objs.size=some (seqObj "list" #[] 0):=Heap.get?_push_size _ rfl
  have e1:=Heap.get?_update_self (Obj.mapSeq fun x=>x ++ vs.toArray) e0 rfl
  rw [hh1] at e1
  exact Nat.le_of_lt (Heap.lt_size e1)
 refine wpAny_bind (wpAny_newList ?_ (by rw [sizeLine_eq]; omega))
 have hoL:(h1.push (seqObj "list" vs.toArray 0)).get? h1.objs.size=some (seqObj "list" vs.toArray 0):=Heap.get?_push_size _ rfl
 show wpAny _ _ _ _ _ ({ s with heap:=h1.push (seqObj "list" vs.toArray 0) }:Shared)
 refine wpAny_bind (wpAny_holding (wpAny_call_entry_kw slot_list_sort ⟨_,hoL,rfl⟩ entry_list_sort ?_ (ksk_l1 _ _)))
 show wpAny (model prog w) A.in1.in1 (Builtin.«list.sort» ⟨[.ref h1.objs.size],[(Str.ofString "key",.ref q)]⟩) _ _ _
 rw [ksk_t1]
 refine wpAny_mono (hQ (h1.push (seqObj "list" vs.toArray 0)) h1.objs.size (fun b o e=>Heap.get?_push_of_some _ (kp b o e)) hsz hoL) (fun fin s' h=>?_) fun _ _ x=>x
 obtain ⟨rfl,hq⟩:=h
 exact ⟨_,rfl,wpAny_pure ⟨_,rfl,hq⟩⟩
end
end SR
namespace L2
open PySem PySem.Spec PyProof.Rows
section
variable {X:Cx}{k:Nat}{f l:Addr}{fd:FuncData}{ps:List Str}{sp:Sp}{pins:List (Addr × Obj)}{s:Shared}{σ:St}{H:Hp}{ws:List V}{Q:VK}
theorem Inv.track {a:Addr}{o:HO}{h':Heap}{t':Nat} (I:Inv X pins σ H s) (fo:FpOk X pins H a) (kp:∀ b u,b ≠ a->s.heap.get? b=some u->h'.get? b=some u) (new:ObjOk X.prog X.w (upd H a o) h' a o) :
  Inv X pins σ (upd H a o) { s with heap:=h',toks:=t' }:=by
 obtain ⟨f0,f1,f2,f3,f4,f5⟩:=fo
 have na:∀ b u,H b=some u->b ≠ a:=fun b u e z=>by rw [z,f0] at e; cases e
 refine I.step (g' := s.gens) (d' := s.drawn) (ch := [a]) (fun b hb=>?_) (fun b o _ _ hc e _=>kp b o (fun z=>hc (by simp [z])) e) (fun b o _ _ hc e _=>⟨o.slots,kp b o (fun z=>hc (by simp [z])) e⟩) (fun b o hc e n=>?_)
  (fun b o hc e=>⟨o,kp b o (fun z=>hc (by simp [z])) e⟩) (fun b _ e=>?_) (fun b _ _ e=>?_) (fun b ps e=>⟨#[],?_⟩) (fun m hm=>?_) (fun b u e=>?_) I.bare
 ·have e:b=a:=by simpa using hb
  subst e
  exact ⟨f3,f1,f4,f5⟩
 ·rw [upd_ne (fun z=>hc (by simp [z]))]; exact n
 ·rw [upd_ne (na b _ e)]; exact e
 ·rw [upd_ne (na b _ e)]; exact e
 ·rw [upd_ne (na b _ e),e]; simp
 ·obtain ⟨o,es,ep,ho,r⟩:=hm
  exact ⟨o,es,ep,kp _ o (Ne.symm f1) ho,r⟩
 ·by_cases hb:b=a
  ·subst hb; rw [upd_same] at e; cases e; exact new
  ·rw [upd_ne hb] at e
   refine (I.hok b u e).stay (fun c v hc q=>kp c v ?_ q) (fun c q=>by rw [upd_ne (na c _ q)]; exact q) fun c xs q=>by rw [upd_ne (na c _ q)]; exact q
   rcases hc with z | z
   ·rw [z]; exact hb
   ·exact na c _ z
def chainK (sp:Sp):List V->Hp->(List Int->Hp->Prop)->Prop
 | [],H,Q=>Q [] H
 | w :: ws,H,Q=>sp [w] H (fun v H'=>∃ k,v=.int k/\chainK sp ws H' (fun ks H''=>Q (k :: ks) H'')) E0
theorem run_sortK (F:FnOk X.prog X.w X.K X.mg X.base CX0 k f fd ps sp) (hr:Room (k + 2) X.A) (hb:Binds X.K fd ps []) (I:Inv X pins σ H s) (hq:SqL X.K H l ws) (hl:ws.length < 64)
  (h:chainK sp ws H fun ks H'=>∀ p,H' p=none->Q (.ref p) (upd H' p (.lst (SR.ordered .non (SR.kzLt ks) ws)))) :
  wpAny (model X.prog X.w) X.A (call (.builtin "sorted") [.ref l] [(Str.ofString "key",.ref f)]) (EP X pins σ Q) X.xe s:=by
 obtain ⟨vs,rv,pl,hz⟩:=I.list hq
 have hlen:=rv.length
 refine SR.sorted_key pl.isList (by omega) fun h1 a kp hsz ho=>?_
 have ha0:H a=none:=I.hok.fresh hsz
 have hk1:a < SR.keyAt h1 a vs:=by
  have:=Heap.lt_size (Heap.get?_push_of_some (seqObj "tuple" vs.toArray 0) (Heap.get?_update_self (Obj.mapSeq fun _=>(#[]:Array Value)) ho rfl))
  exact this
 have hk2:s.heap.objs.size <= SR.keyAt h1 a vs:=Nat.le_trans hsz (Nat.le_of_lt hk1)
 have kp3:∀ b o,s.heap.get? b=some o->(SR.keyed h1 a vs).get? b=some o:=fun b o e =>
  Heap.get?_push_of_some _ (Heap.get?_push_of_some _ ((Heap.get?_update_other _ _ (Ne.symm (Nat.ne_of_lt (Nat.lt_of_lt_of_le (Heap.lt_size e) hsz)))).trans (kp b o e)))
 refine SR.list_sort_key (s := { s with heap:=h1 }) (Base:=fun zs s'=>∃ H',Inv X pins σ H' s'/\FpOk X pins H' a/\FpOk X pins H' (SR.keyAt h1 a vs)/\chainK sp (ws.drop zs.length) H' fun ks H''=>∀ p,H'' p=none->Q (.ref p) (upd H'' p (.lst (SR.ordered .non (SR.kzLt (zs ++ ks)) ws)))) ho (by omega)
  ⟨H,I.kept (t' := s.toks) kp3,I.fpOk hsz ha0,I.fpOk hk2 (I.hok.fresh hk2),h⟩ (fun zs x s' ks e hx hB ha hk=>?_) (fun zs s' g ks e hB hk=>?_) fun zs s' hzl hB ha=>?_
 ·obtain ⟨H',I',f1,f2,c⟩:=hB
  have hj:zs.length < ws.length:=by rw [hlen]; exact (List.getElem?_eq_some_iff.mp hx).1
  obtain ⟨u,hu,ru⟩:=rv.get (List.getElem?_eq_getElem hj)
  rw [hx] at hu
  cases hu
  rw [List.drop_eq_getElem_cons hj] at c
  have I2:Inv X (pins ++ [(a,SR.emptied vs 0),(SR.keyAt h1 a vs,seqObj "list" ks e)]) σ H' s' := I'.pins_of fun p hp=>by
   rcases List.mem_append.mp hp with z | z
   ·exact I'.pin p (List.mem_append_right _ z)
   ·rcases List.mem_cons.mp z with rfl | z
    ·exact ⟨ha,f1.1,f1.2.1,f1.2.2.1,fun v z=>by cases z⟩
    ·rw [List.mem_singleton.mp z]
     exact ⟨hk,f2.1,f2.2.1,f2.2.2.1,fun v z=>by cases z⟩
  have r1:Vals [ws[zs.length]] [x] := .cons ru .nil
  have hps:[x].length=ps.length:=by
   have:=F.len _ _ _ _ c
   simpa using this
  refine wpAny_call (codeAny_mono (F.run X.A.in1.in1 X.stack s' H' ⟨[x],[]⟩ [x] [ws[zs.length]] _ E0 hr.in1.in1 I2.env0.in1.in1 (by simpa using hb s' [x] I'.kIn (by simpa using hps)) r1 c) fun r s'' hq=>?_)
  cases r with
  | error e=>exact hq.elim
  | ok fl =>
   cases fl with
   | ret u =>
    obtain ⟨v,H'',I'',rr,kk,rfl,c'⟩:=I2.after hq
    obtain ⟨t,rfl⟩:=rr
    have p1:=I''.pin (a,SR.emptied vs 0) (List.mem_append_right _ (List.mem_append_right _ (.head _)))
    have p2:=I''.pin (SR.keyAt h1 a vs,seqObj "list" ks e) (List.mem_append_right _ (List.mem_append_right _ (.tail _ (.head _))))
    refine ⟨kk,t,rfl,⟨H'',I''.unpinned,⟨p1.2.1,f1.2⟩,⟨p2.2.1,f2.2⟩,?_⟩,p1.1,p2.1⟩
    have eq:(fun (ks:List Int) (H'':Hp)=>∀ p,H'' p=none->Q (.ref p) (upd H'' p (.lst (SR.ordered .non (SR.kzLt (zs ++ [kk] ++ ks)) ws))))=fun ks H''=>∀ p,H'' p=none->Q (.ref p) (upd H'' p (.lst (SR.ordered .non (SR.kzLt (zs ++ (kk :: ks))) ws))):=by
     funext ks H''
     rw [List.append_assoc]
     rfl
    rw [eq,List.length_append]
    exact c'
   | next=>exact False.elim hq
   | brk=>exact False.elim hq
   | cont=>exact False.elim hq
 ·obtain ⟨H',I',f1,f2,c⟩:=hB
  refine ⟨H',I'.turned (t' := s'.toks) (it:=SR.keyAt h1 a vs) (fun b o hne e=>(Heap.get?_update_other _ _ (Ne.symm hne)).trans e) f2.1 f2.2.1 f2.2.2.2.1 f2.2.2.2.2.1 f2.2.2.2.2.2,f1,f2,c⟩
 ·obtain ⟨H',I',f1,f2,c⟩:=hB
  rw [List.drop_eq_nil_of_le (by omega)] at c
  have c:∀ p,H' p=none->Q (.ref p) (upd H' p (.lst (SR.ordered .non (SR.kzLt (zs ++ [])) ws))):=c
  rw [List.append_nil] at c
  refine ⟨rfl,.ref a,_,I'.track (t' := s'.toks) f1 (fun b u hne e=>(Heap.get?_update_other _ _ (Ne.symm hne)).trans e) ?_,rfl,c a f1.1⟩
  refine ⟨?_,_,_,rv.ordered (SR.kzLt zs),get?_update_seq (c := "list") (xs := #[]) ha fun _=>(SR.ordered Value.none (SR.kzLt zs) vs).toArray⟩
  rw [(SR.ordered_perm _ _ _).length_eq]
  exact hz
end
section
variable {X:Cx}{k:Nat}{ps:List Str}{sp:Sp}
def tSortK (sp:Sp) (K:PySem.W.Frag) (te:TE):TE:=fun σ H Q=>te σ H fun v H1=>∃ l ws,v=.ref l/\SqL K H1 l ws/\ws.length < 64/\chainK sp ws H1 fun ks H'=>∀ p,H' p=none->Q (.ref p) (upd H' p (.lst (SR.ordered .non (SR.kzLt ks) ws)))
theorem pe_sortK {x y:Str}{p py pos kpos:Pos}{e:Expr}{te:TE} (C:Cal X.prog X.w X.K X.mg X.base k y ps sp) (hr:Room (k + 2) X.A) (hg:Gl X x) (hm:X.mg x=none) (hv:bootBuiltins x=some (.builtin "sorted")) (hgy:Gl X y) (he:PE X e te) (hn:x ≠ "__name__" := by decide) (hdb:(x == ("__debug__" : Str))=false:=by decide) (hdy:(y == ("__debug__" : Str))=false:=by decide) (hst:starEach [e] X.env=(false,eval e X.env) :: starEach [] X.env:=by rfl) :
  PE X (.Call (.Name x p) [e] [⟨some "key",.Name y py,kpos⟩] pos) (tSortK sp X.K te):=by
 obtain ⟨f,fd,hmy,hk,hb,F⟩:=C.ex
 intro pins s σ H Q I h
 refine wpAny_Call_Name_kw (ld_blt I hg hm hv ?_ hn hdb)
 refine PyProof.Rows.callWith_kw (e:=e) (rest := []) (kws := [⟨some "key",.Name y py,kpos⟩]) ?_ (by rw [hst]; rfl) (by rw [hst]; rfl) rfl rfl
 have h':tCons te tNil σ H fun vs H1=>(match vs with | [v]=>∃ l ws,v=.ref l/\SqL X.K H1 l ws/\ws.length < 64/\chainK sp ws H1 fun ks H'=>∀ p,H' p=none->Q (.ref p) (upd H' p (.lst (SR.ordered .non (SR.kzLt ks) ws))) | _=>False):=h
 refine thn (pa_cons he pa_nil hst pos pins s σ H _ I h') fun us s1 hq5=>L2.ex5 hq5 fun vs H1 I1 r1 q1=>?_
 refine thn (pk_cons (pe_glob (v := .ref f) hgy hmy rfl hdy) pk_nil pos pins s1 σ H1 (fun vs H2=>vs=[.ref f]/\H2=H1) I1 ⟨rfl,rfl⟩) fun zs s2 hq5=>L2.ex5 hq5 fun ws H2 I2 r2 q2=>?_
 obtain ⟨rfl,rfl⟩:=q2
 obtain ⟨v,rfl⟩:∃ v,vs=[v]:=by
  match vs,q1 with
  | [],q=>exact q.elim
  | [v],_=>exact ⟨v,rfl⟩
  | _ :: _ :: _,q=>exact q.elim
 obtain ⟨l,ws,rfl,hq,hl,c⟩:=q1
 obtain ⟨u,rfl,ru⟩:=r1.one
 obtain ⟨u',rfl,ru'⟩:=r2.one
 cases ru
 cases ru'
 exact run_sortK F hr hb I2 hq hl c
end
end L2
namespace DL
open PySem PySem.Spec PyProof.Rows L2
def keysD (G:DF):List D->Option (List Int)
 | []=>some []
 | x :: xs=>match G [x] with
  | .ok (.int k)=>(keysD G xs).map fun ks=>k :: ks
  | _=>none
def sortKD (G:DF):D->Res D
 | .lst _ xs=>if plainL xs=true/\xs.length < 64 then (match keysD G xs with | some ks=>.ok (.lst .own (SR.ordered .non (SR.kzLt ks) xs)) | none=>.bad) else .bad
 | _=>.bad
def eSortK (G:DF) (ge:SD->Res D) (τ:SD):Res D:=(ge τ).bind (sortKD G)
section
variable {K:PySem.W.Frag}{Y:XY}{H0 B0 B H:Hp}{σ:L2.St}{τ:SD}{P:List Addr}{F:Addr->Prop}{X:Cx}{G:DF}
theorem chain_of:∀ {xs:List D}{ws:List V}{B H:Hp}{ks:List Int}{Q:List Int->Hp->Prop},plainL xs=true->SI K H0 B0 B H σ τ P F->RepL K B (· ∈ P) H xs ws []->keysD G xs=some ks->(∀ B' H',SI K H0 B0 B' H' σ τ P F->Same H H'->Same B B'->Q ks H')->chainK (spF K G) ws H Q
 | [],ws,B,H,ks,Q,_,I,r,e,h=>by
  obtain ⟨rfl,_⟩:=r
  cases e
  exact h B H I (Same.refl _) (Same.refl _)
 | x :: xs,ws,B,H,ks,Q,hp,I,r,e,h=>by
  obtain ⟨v,w,f1,f2,rfl,r1,r2,ef⟩:=r
  have hp':(x.plain && plainL xs)=true:=hp
  rw [Bool.and_eq_true] at hp'
  obtain ⟨e1,r1'⟩:=Rep.plainI (B' := atRest B H (fun a=>No a ∨ a ∈ ([]:List Addr))) (S' := No) (Imm.refl H) hp'.1 r1
  obtain ⟨e2,r2'⟩:=RepL.plainI (B' := B) (S' := (· ∈ P)) (Imm.refl H) hp'.2 r2
  have e:(match G [x] with | .ok (.int k)=>(keysD G xs).map fun ks=>k :: ks | _=>none)=some ks:=e
  refine ⟨atRest B H (fun a=>No a ∨ a ∈ ([]:List Addr)),[x],rest_up I.bh,⟨v,[],[],[],rfl,r1',⟨rfl,rfl⟩,rfl⟩,?_⟩
  split at e
  ·rename_i k eg
   rw [eg]
   cases ek:keysD G xs with
   | none=>rw [ek] at e; cases e
   | some ks' =>
    rw [ek] at e
    cases e
    intro B' H' v' fq rr
    obtain ⟨B2,I2,s2,k2,hb⟩:=I.called Vok.nil (S:=No) (fun a s=>s.elim) rr
    obtain ⟨rv,_⟩:=rr.rep
    refine ⟨k,rv,chain_of hp'.2 I2 (r2'.mono rr.h0 s2 fun _ x=>x) ek fun B3 H3 I3 s3 b3=>h B3 H3 I3 (rr.h0.trans s3) (s2.trans b3)⟩
  ·cases e
theorem q_sortK {k:Nat}{x y:Str}{ps:List Str}{p py pos kpos:Pos}{e:Expr}{ge:SD->Res D} (C:Cal X.prog X.w X.K X.mg X.base k y ps (spF X.K G)) (hr:Room (k + 2) X.A) (hg:Gl X x) (hm:X.mg x=none) (hv:bootBuiltins x=some (.builtin "sorted")) (hgy:Gl X y) (he:PE X e (tM X.K Y ge)) (hn:x ≠ "__name__" := by decide) (hdb:(x == ("__debug__" : Str))=false:=by decide) (hdy:(y == ("__debug__" : Str))=false:=by decide) (hst:starEach [e] X.env=(false,eval e X.env) :: starEach [] X.env:=by rfl) :
  PE X (.Call (.Name x p) [e] [⟨some "key",.Name y py,kpos⟩] pos) (tM X.K Y (eSortK G ge)):=by
 refine PE.imp (pe_sortK C hr hg hm hv hgy he hn hdb hdy hst) fun σ H Q hq=>ex8 hq fun H0 B0 B τ P F I h=>tM.seq I h fun d v H1 B1 fp _ I1 s1 b1 r1 k1 h1=>?_
 unfold sortKD at h1
 split at h1
 ·rename_i t xs
  split at h1
  ·rename_i hc
   split at h1
   ·rename_i ks ek
    obtain ⟨a,ws,g,rfl,q,l,s⟩:=r1.lst I1
    obtain ⟨_,l'⟩:=RepL.plainI (B' := B1) (S' := (· ∈ P)) (Imm.refl H1) hc.1 l
    refine ⟨a,ws,rfl,q,by rw [<- l'.length]; exact hc.2,chain_of hc.1 I1 l' ek fun B' H' I' s' b' p hp=>?_⟩
    have h2:Out _ _ _ B' H' _ _ _ _ Q _:=fun v H2 B2 fp I2 s2 b2 r2 k2=>h1 v H2 B2 fp I2 (s'.trans s2) (b'.trans b2) r2 k2
    exact Out.newL h2 I' ((l'.mono s' b' fun _ x=>x).ordered hc.1 (SR.kzLt ks)) Vok.nil hp
   ·exact h1.elim
  ·exact h1.elim
 ·exact h1.elim
end
open Classical in
def less (H:Hp) (fp:List Addr):Hp:=fun a=>if a ∈ fp then none else H a
theorem less_in {H:Hp}{fp:List Addr}{a:Addr} (h:a ∈ fp):less H fp a=none:=by unfold less; rw [if_pos h]
theorem less_out {H:Hp}{fp:List Addr}{a:Addr} (h:a ∉ fp):less H fp a=H a:=by unfold less; rw [if_neg h]
theorem less_same {H:Hp}{fp:List Addr}:Same (less H fp) H:=fun a o e=>by
 by_cases h:a ∈ fp
 ·rw [less_in h] at e; cases e
 ·rw [less_out h] at e; exact e
def spO (K:PySem.W.Frag) (G:DF):Sp:=fun vs H Q _=>∃ B0 ds fp,Same B0 H/\RepL K B0 No H ds vs fp/\fp.Nodup/\(∀ a ∈ fp,B0 a=none)/\match G ds with
 | .ok d=>∀ B' H' v fq,RetOk K (less H fp) B0 B' H' d v fq->Q v H'
 | .exn _=>False
 | .bad=>False
def callO (G:DF) (ds:List D):Res D:=if hasBorL ds=true then .bad else (G ds).noX
def eCallO (G:DF) (fs:SD->Res (List D)) (τ:SD):Res D:=(fs τ).bind (callO G)
section
variable {K:PySem.W.Frag}{Y:XY}{H0 B0 B H:Hp}{σ:L2.St}{τ:SD}{P:List Addr}{F:Addr->Prop}{X:Cx}{pos p:Pos}{e:Expr}{es:List Expr}{fs:SD->Res (List D)}
theorem RepS.keepO {B H H':Hp}{M:List Addr} (k:Keep H H' M):∀ {τ:SD}{σ:L2.St}{P:List Addr},RepS K B H τ σ P->(∀ a ∈ P,a ∉ M)->RepS K B H' τ σ P
 | [],_,_,h,_=>h
 | none :: r,σ,P,h,hf=>let ⟨o,τ,e,h⟩:=h; ⟨o,τ,e,RepS.keepO k h hf⟩
 | some d :: r,σ,P,h,hf=>by
  obtain ⟨v,τ,f,g,e,h1,h2,z⟩:=h
  subst z
  exact ⟨v,τ,f,g,e,Rep.keep k h1 (fun b hb=>hf b (List.mem_append_left _ hb)),RepS.keepO k h2 (fun b hb=>hf b (List.mem_append_right _ hb)),rfl⟩
theorem SI.calledO {fp:List Addr}{B' H':Hp}{d:D}{v:V}{fq:List Addr} (I:SI K H0 B0 B H σ τ P F) (k:Vok H0 B H P F fp) (mu:∀ a ∈ fp,∃ o,H a=some o/\mutO o) (r:RetOk K (less H fp) B B' H' d v fq) :
  SI K H0 B0 B' H' σ τ P F/\Vok H0 B' H' P F fq:=by
 have pf:∀ a ∈ P,a ∉ fp:=fun a m z=>(k.own a z).2.2.2.1 m
 have ff:∀ a,F a->a ∉ fp:=fun a m z=>(k.own a z).2.2.2.2 m
 have up:∀ a,B a=none->H a ≠ none->a ∉ fp->B' a=none:=fun a h1 h2 h3=>by
  cases e:B' a with
  | none=>rfl
  | some o =>
   exfalso
   rcases r.nb a (by rw [e]; exact Option.some_ne_none _) with q | q
   ·exact q h1
   ·rw [less_out h3] at q; exact h2 q
 have kp:Keep H H' fp:=⟨fun a o e n=>r.h0 a o (by rw [less_out n]; exact e),mu⟩
 refine ⟨⟨r.bh,fun a o e=>?_,I.b0.trans r.b0,fun a n=>?_,(RepS.keepO kp I.rep pf).mono (Same.refl _) r.b0,I.nd,fun a m=>?_,fun a m=>?_⟩,r.nd,fun a m=>?_⟩
 ·refine kp.keep a o (I.h0 a o e) fun z=>?_
  rw [(k.own a z).2.1] at e; cases e
 ·rcases r.nb a n with q | q
  ·exact I.nb a q
  ·by_cases z:a ∈ fp
   ·exact .inr (k.own a z).2.1
   ·rw [less_out z] at q; exact .inr (I.h0.free q)
 ·exact ⟨up a (I.own a m).1 (I.stands m) (pf a m),(I.own a m).2⟩
 ·obtain ⟨a1,a2⟩:=I.fr a m
  refine ⟨up a a1 a2 (ff a m),?_⟩
  obtain ⟨o,e⟩:=Option.ne_none_iff_exists'.mp a2
  rw [kp.keep a o e (ff a m)]; exact Option.some_ne_none _
 ·obtain ⟨a1,a2,a3⟩:=r.own a m
  by_cases z:a ∈ fp
  ·obtain ⟨b1,b2,b3,b4,b5⟩:=k.own a z
   exact ⟨a1,b2,a3,b4,b5⟩
  ·rw [less_out z] at a2
   obtain ⟨n1,n2,n3,n4⟩:=I.newAt a2
   exact ⟨a1,n2,a3,n3,n4⟩
theorem q_calO {k:Nat}{x:Str}{ps:List Str}{G:DF} (C:Cal X.prog X.w X.K X.mg X.base k x ps (spO X.K G)) (hr:Room k X.A) (hg:Gl X x) (ha:PA X (e :: es) (tML X.K Y fs)) (hdb:(x == ("__debug__" : Str))=false:=by decide)
  (he:starEach (e :: es) X.env=(false,eval e X.env) :: starEach es X.env:=by rfl) (hpl:(backTo pos (starEach es X.env)).any (·.1)=false:=by rfl):PE X (.Call (.Name x p) (e :: es) [] pos) (tM X.K Y (eCallO G fs)):=by
 refine PE.imp (pe_cal C hr hg ha hdb he hpl) fun σ H Q hq=>ex8 hq fun H0 B0 B τ P F I h=>?_
 have I':SI X.K H0 B0 B H σ τ P (fun a=>F a ∨ (H a ≠ none/\B a=none/\a ∉ P)) :=
  ⟨I.bh,I.h0,I.b0,I.nb,I.rep,I.nd,fun a m=>⟨(I.own a m).1,(I.own a m).2.1,fun z=>z.elim (I.own a m).2.2 fun z=>z.2.2 m⟩,fun a m=>m.elim (I.fr a) fun z=>⟨z.2.1,z.1⟩⟩
 refine ⟨H0,B0,B,τ,P,_,I',?_⟩
 have h:Goal X.K Y H0 B0 B H σ τ P F Q ((fs τ).bind (callO G)):=h
 cases ef:fs τ with
 | bad=>rw [ef] at h; exact h
 | exn C=>rw [ef] at h; exact OutX.later h (Same.refl _) (Same.refl _) fun a z=>.inl z
 | ok ds =>
  rw [ef] at h
  intro vs H1 B1 fp I1 s1 b1 r1 k1
  have h:Goal X.K Y H0 B0 B H σ τ P F Q (callO G ds):=h
  have new:∀ a ∈ fp,H a=none:=fun a m=>by
   obtain ⟨b1',b2,b3,b4,b5⟩:=k1.own a m
   cases eh:H a with
   | none=>rfl
   | some o =>
    refine (b5 (.inr ⟨by rw [eh]; exact Option.some_ne_none _,?_,b4⟩)).elim
    cases eb:B a with
    | none=>rfl
    | some o'=>rw [b1 a o' eb] at b1'; cases b1'
  rw [List.append_nil]
  unfold callO at h
  split at h
  ·exact h.elim
  ·rename_i hb
   have hb:hasBorL ds=false:=by simpa using hb
   refine ⟨B1,ds,fp,I1.bh,r1.noBor hb,k1.nd,fun a m=>(k1.own a m).1,?_⟩
   cases z:G ds with
   | exn c=>rw [z] at h; exact h.elim
   | bad=>rw [z] at h; exact h.elim
   | ok d =>
    rw [z] at h
    intro B' H' v fq r
    obtain ⟨I2,k2⟩:=I1.calledO k1 r1.own r
    have I3:=I2.anti (F' := F) fun a z=>.inl z
    refine h v H' B' fq I3 (fun a o e=>?_) (b1.trans r.b0) (r.rep.mono (Same.refl _) (Same.refl _) fun _ x=>x.elim) ⟨k2.nd,fun a m=>?_⟩
    ·refine r.h0 a o ?_
     rw [less_out fun m=>by rw [new a m] at e; cases e]
     exact s1 a o e
    ·obtain ⟨b1,b2,b3,b4,b5⟩:=k2.own a m
     exact ⟨b1,b2,b3,b4,fun z=>b5 (.inl z)⟩
theorem repS_startO:∀ {ds:List D}{vs:List V}{fp:List Addr} (m:Nat),RepL K B No H ds vs fp->RepS K B H (ds.map some ++ List.replicate m none) (vs.map some ++ List.replicate m none) fp
 | [],vs,fp,m,r=>by
  obtain ⟨rfl,rfl⟩:=r
  induction m with
  | zero=>exact ⟨rfl,rfl⟩
  | succ m ih=>exact ⟨none,_,rfl,ih⟩
 | d :: ds,vs,fp,m,r=>by
  obtain ⟨v,w,f1,f2,rfl,r1,r2,z⟩:=r
  exact ⟨v,_,f1,f2,rfl,r1,repS_startO m r2,z⟩
theorem fnok_ofO {P:Program}{w:World}{mg:Str->Option Value}{base:Heap}{x:Str}{st:Stmt}{N ps:List Str}{k:Nat}{g:SF}{f:Addr}{fd:FuncData} (D:Fun K x x st f fd) (S:FnScope N ps (defScope st))
  (hbody:∀ (f:Addr) (cdv:Value) (A:Around) (outer:List Env) (s:Shared) (H:Hp),Room k (A.deeper (envOfC x (defScope st) s.heap.objs.size f cdv)) ->
   PSs (cxOf CX0 P w K mg base N x (defScope st) f cdv A outer s H E0).nox (defBody st) (tMS K NoY g)):FnOk P w K mg base CX0 (k + 1) f fd ps (spO K (runF ps.length N.length g)):=by
 refine D.ok S (fun vs H Q E h=>?_) fun cdv A outer s H vs Q E hr h=>?_
 ·obtain ⟨B0,ds,fp,_,r,_,_,h⟩:=h
  rw [<- r.length]
  unfold runF at h
  by_cases hl:ds.length=ps.length
  ·exact hl
  ·rw [if_neg hl] at h; exact h.elim
 ·obtain ⟨B0,ds,fp,sB,r,nd,ow,h⟩:=h
  unfold runF at h
  by_cases hl:ds.length=ps.length
  ·rw [if_pos hl] at h
   have e:L2.start N vs=vs.map some ++ List.replicate (N.length - ps.length) none:=by
    unfold L2.start
    rw [<- r.length,hl]
   refine ⟨_,hbody f cdv A outer s H hr,less H fp,B0,B0,ds.map some ++ List.replicate (N.length - ps.length) none,fp,⟨sB,less_same,Same.refl _,fun a n=>.inl n,by rw [e]; exact repS_startO _ r,nd,(fun a m=>⟨ow a m,less_in m,fun z=>z⟩),fun a m=>m.elim⟩,?_⟩
   cases z:g (ds.map some ++ List.replicate (N.length - ps.length) none) with
   | rt d=>rw [z] at h; exact fun B' H' v fp q=>h B' H' v fp q
   | nx t =>
    rw [z] at h
    intro B' H' σ' P' a
    exact h B' H' .non [] ⟨a.si.h0,a.si.b0,a.si.bh,a.si.nb,⟨rfl,rfl⟩,List.nodup_nil,fun a m=>by cases m⟩
   | bk t=>rw [z] at h; exact h.elim
   | ct t=>rw [z] at h; exact h.elim
   | ex C t=>rw [z] at h; exact h.elim
   | bad=>rw [z] at h; exact h.elim
  ·rw [if_neg hl] at h; exact h.elim
theorem cal_ofO {P:Program}{w:World}{mg:Str->Option Value}{base:Heap}{x:Str}{st:Stmt}{N ps:List Str}{k:Nat}{g:SF} (D:Dfn K mg x st ps) (S:FnScope N ps (defScope st))
  (hbody:∀ (f:Addr) (cdv:Value) (A:Around) (outer:List Env) (s:Shared) (H:Hp),Room k (A.deeper (envOfC x (defScope st) s.heap.objs.size f cdv)) ->
   PSs (cxOf CX0 P w K mg base N x (defScope st) f cdv A outer s H E0).nox (defBody st) (tMS K NoY g)):Cal P w K mg base (k + 1) x ps (spO K (runF ps.length N.length g)):=by
 obtain ⟨f,fd,F,hm,hb⟩:=D.ex
 exact ⟨f,fd,hm,F.kp,hb,fnok_ofO F S hbody⟩
end
end DL
namespace DL
open PySem PySem.Spec PyProof.Rows L2
section
variable {P:Program}{w:World}{K:PySem.W.Frag}{mg:Str->Option Value}{base:Heap}
theorem cal_of2O {x:Str}{st:Stmt}{N ps:List Str}{k n m:Nat}{g:SF} (D:Dfn K mg x st ps) (S:FnScope N ps (defScope st)) (hn:ps.length=n) (hm:N.length=m)
  (hbody:∀ (f:Addr) (cdv:Value) (A:Around) (outer:List Env) (s:Shared) (H:Hp),Room k (A.deeper (envOfC x (defScope st) s.heap.objs.size f cdv)) ->
   PSs (cxOf CX0 P w K mg base N x (defScope st) f cdv A outer s H E0).nox (defBody st) (tMS K NoY g)):Cal P w K mg base (k + 1) x ps (spO K (runF n m g)):=by
 subst hn hm
 exact cal_ofO D S hbody
end
section
variable {K:PySem.W.Frag}{Y:XY}{H0 B0 B H:Hp}{σ:L2.St}{τ:SD}{P:List Addr}{F:Addr->Prop}{X:Cx}{pos p:Pos}{e:Expr}{es:List Expr}{fe:SD->Res D}{fs:SD->Res (List D)}
def sRetR (f:SD->Res D) (τ:SD):Fl:=(f τ).toFl τ fun d=>if d.hasBor=true then .bad else match τ[0]? with | some (some x)=>.rt (.tup [d,x]) | _=>.bad
theorem s_retR (he:PE X e (tM X.K Y fe)) (hl:Y.ln=true:=by rfl):PS X (.Return (some e) pos) (tMS X.K Y (sRetR fe)) :=
 PS.imp (ps_ret he) fun E σ H hq=>ex7 hq fun H0 B0 B τ P I h=>exprS I h fun d v H1 B1 fp _ I1 _ _ r1 k1 h1=>by
  split at h1
  ·exact h1.elim
  ·rename_i hb
   have hb:d.hasBor=false:=by simpa using hb
   cases z:τ[0]? with
   | none=>rw [z] at h1; exact h1.elim
   | some o =>
    cases o with
    | none=>rw [z] at h1; exact h1.elim
    | some x =>
     rw [z] at h1
     obtain ⟨u,f,e1,r2,sf⟩:=I1.rep.get z
     refine (GoalS.rtL hl h1) B1 H1 v u fp f ⟨I1.h0,I1.b0,I1.bh,I1.nb,r1.noBor hb,k1.nd,fun a m=>⟨(k1.own a m).1,(k1.own a m).2.1,(k1.own a m).2.2.1⟩⟩ r2 ?_ fun b m=>⟨(I1.own b (sf.subset m)).1,(I1.own b (sf.subset m)).2.1,I1.stands (sf.subset m)⟩
     rw [List.nodup_append]
     exact ⟨k1.nd,I1.nd.sublist sf,fun a ma b mb z=>(k1.own a ma).2.2.2.1 (z ▸ sf.subset mb)⟩
def sRetVR (j:Nat) (τ:SD):Fl:=match τ with
 | some x :: r=>match r[j]? with | some (some d)=>.rt (.tup [d,x]) | _=>.bad
 | _=>.bad
theorem s_retVR (j:Nat) {x:Str}{pos':Pos} (hN:X.N[j + 1]?=some x:=by rfl) (hv:Vis X.env.scope x:=by first | exact Or.inl rfl | exact Or.inr (Or.inl rfl) | exact Or.inr (Or.inr rfl)) (hd:(x == ("__debug__" : Str))=false:=by decide)
  (hcd:(x == ("__classdict__" : Str))=false:=by decide) (hl:Y.ln=true:=by rfl):PS X (.Return (some (.Name x pos')) pos) (tMS X.K Y (sRetVR j)):=by
 refine PS.imp (ps_ret (pe_var hN hv hd hcd)) fun E σ H hq=>ex7 hq fun H0 B0 B τ P I h=>?_
 unfold sRetVR at h
 split at h
 ·rename_i y r
  split at h
  ·rename_i d e
   have rp:=I.rep
   obtain ⟨u,t,f0,g,es,r0,rr,eP⟩:=rp
   obtain ⟨v,f,h1,h2,h3⟩:=rr.get e
   have nd:=I.nd
   rw [eP,List.nodup_append] at nd
   have inP:∀ b,b ∈ f0 ∨ b ∈ f->b ∈ P:=fun b m=>by rw [eP]; exact m.elim (fun z=>List.mem_append_left _ z) fun z=>List.mem_append_right _ (h3.subset z)
   refine ⟨v,by rw [es]; exact h1,(GoalS.rtL hl h) B H v u f f0 ⟨I.h0,I.b0,I.bh,I.nb,h2,nd.2.1.sublist h3,fun a m=>?_⟩ r0 ?_ fun b m=>?_⟩
   ·exact ⟨(I.own a (inP a (.inr m))).1,(I.own a (inP a (.inr m))).2.1,I.stands (inP a (.inr m))⟩
   ·rw [List.nodup_append]
    exact ⟨nd.2.1.sublist h3,nd.1,fun a ma b mb z=>nd.2.2 b mb a (h3.subset ma) z.symm⟩
   ·exact ⟨(I.own b (inP b (.inl m))).1,(I.own b (inP b (.inl m))).2.1,I.stands (inP b (.inl m))⟩
  ·exact h.elim
 ·exact h.elim
def GivR (K:PySem.W.Frag) (H0 B0:Hp) (Q:VK):Res D->Prop
 | .ok (.tup [r,x])=>∀ B' H' v u f1 f2,RetOk K H0 B0 B' H' r v f1->Rep K B' No H' x u f2->(f1 ++ f2).Nodup->(∀ b ∈ f2,B' b=none/\H0 b=none/\H' b ≠ none)->Q v H'
 | _=>False
def spR (K:PySem.W.Frag) (G:DF):Sp:=fun vs H Q _=>∃ B0 a k ks xs fp ws ds,vs=.ref a :: ws/\Same B0 H/\Rep K B0 No H (.dct (.len a) k ks xs) (.ref a) fp/\RepL K B0 No H ds ws []/\fp.Nodup/\(∀ b ∈ fp,B0 b=none)/\GivR K (less H fp) B0 Q (G (.dct (.len a) k ks xs :: ds))
def Fl.outR:Fl->Res D
 | .rt d=>.ok d
 | .nx (some x :: _)=>.ok (.tup [.non,x])
 | _=>.bad
def runR (n N:Nat) (g:SF) (ds:List D):Res D:=if ds.length=n then (g (ds.map some ++ List.replicate (N - n) none)).outR else .bad
theorem fnok_ofR {P:Program}{w:World}{mg:Str->Option Value}{base:Heap}{x:Str}{st:Stmt}{N ps:List Str}{k:Nat}{g:SF}{f:Addr}{fd:FuncData} (Df:Fun K x x st f fd) (S:FnScope N ps (defScope st))
  (hbody:∀ (f:Addr) (cdv:Value) (A:Around) (outer:List Env) (s:Shared) (H:Hp),Room k (A.deeper (envOfC x (defScope st) s.heap.objs.size f cdv)) ->
   PSs (cxOf CX0 P w K mg base N x (defScope st) f cdv A outer s H E0).nox (defBody st) (tMS K LnY g)):FnOk P w K mg base CX0 (k + 1) f fd ps (spR K (runR ps.length N.length g)):=by
 refine Df.ok S (fun vs H Q E h=>?_) fun cdv A outer s H vs Q E hr h=>?_
 ·obtain ⟨B0,a,kd,ks,xs,fp,ws,ds,rfl,_,_,r,_,_,h⟩:=h
  have hl:=r.length
  unfold runR at h
  by_cases hl':(DL.D.dct (.len a) kd ks xs :: ds).length=ps.length
  ·rw [List.length_cons] at hl' ⊢
   omega
  ·rw [if_neg hl'] at h; exact h.elim
 ·obtain ⟨B0,a,kd,ks,xs,fp,ws,ds,rfl,sB,r0,r,nd,ow,h⟩:=h
  unfold runR at h
  by_cases hl:(DL.D.dct (.len a) kd ks xs :: ds).length=ps.length
  ·rw [if_pos hl] at h
   have hlr:=r.length
   have e:L2.start N (.ref a :: ws)=(V.ref a :: ws).map some ++ List.replicate (N.length - ps.length) none:=by
    unfold L2.start
    rw [<- hl,List.length_cons,List.length_cons,hlr]
   have rl:RepL K B0 No H (DL.D.dct (.len a) kd ks xs :: ds) (.ref a :: ws) fp:=⟨.ref a,ws,fp,[],rfl,r0,r,(List.append_nil _).symm⟩
   refine ⟨_,hbody f cdv A outer s H hr,less H fp,B0,B0,(DL.D.dct (.len a) kd ks xs :: ds).map some ++ List.replicate (N.length - ps.length) none,fp,⟨sB,less_same,Same.refl _,fun a n=>.inl n,by rw [e]; exact repS_startO _ rl,nd,(fun a m=>⟨ow a m,less_in m,fun z=>z⟩),fun a m=>m.elim⟩,?_⟩
   cases z:g ((DL.D.dct (.len a) kd ks xs :: ds).map some ++ List.replicate (N.length - ps.length) none) with
   | rt d =>
    rw [z] at h
    show RtL K (less H fp) B0 _ d
    have h:GivR K (less H fp) B0 Q (.ok d):=h
    unfold RtL
    unfold GivR at h
    split at h
    ·rename_i r x e
     cases e
     exact h
    ·exact h.elim
   | nx t =>
    rw [z] at h
    intro B' H' σ' P' af
    have h:GivR K (less H fp) B0 Q (Fl.outR (.nx t)):=h
    match t,h,af with
    | some y :: t',h,af =>
     obtain ⟨u,f,e1,r2,sf⟩:=af.si.rep.get (i:=0) (d:=y) rfl
     exact h B' H' .non u [] f ⟨af.si.h0,af.si.b0,af.si.bh,af.si.nb,⟨rfl,rfl⟩,List.nodup_nil,fun a m=>by cases m⟩ r2 (af.si.nd.sublist sf) fun b m=>⟨(af.si.own b (sf.subset m)).1,(af.si.own b (sf.subset m)).2.1,af.si.stands (sf.subset m)⟩
    | none :: t',h,_=>exact h.elim
    | [],h,_=>exact h.elim
   | bk t=>rw [z] at h; exact h.elim
   | ct t=>rw [z] at h; exact h.elim
   | ex C t=>rw [z] at h; exact h.elim
   | bad=>rw [z] at h; exact h.elim
  ·rw [if_neg hl] at h; exact h.elim
theorem cal_of2R {P:Program}{w:World}{mg:Str->Option Value}{base:Heap}{x:Str}{st:Stmt}{N ps:List Str}{k n m:Nat}{g:SF} (D:Dfn K mg x st ps) (S:FnScope N ps (defScope st)) (hn:ps.length=n) (hm:N.length=m)
  (hbody:∀ (f:Addr) (cdv:Value) (A:Around) (outer:List Env) (s:Shared) (H:Hp),Room k (A.deeper (envOfC x (defScope st) s.heap.objs.size f cdv)) ->
   PSs (cxOf CX0 P w K mg base N x (defScope st) f cdv A outer s H E0).nox (defBody st) (tMS K LnY g)):Cal P w K mg base (k + 1) x ps (spR K (runR n m g)):=by
 subst hn hm
 obtain ⟨f,fd,F,hm,hb⟩:=D.ex
 exact ⟨f,fd,hm,F.kp,hb,fnok_ofR F S hbody⟩
end
open Classical in
def callR (G:DF) (k:Bool) (ks:List KT) (xs ds:List D):Res (D × List KT × List D):=if h:∃ y:D × List KT × List D,∀ a,G (.dct (.len a) k ks xs :: ds)=.ok (.tup [y.1,.dct (.len a) k y.2.1 y.2.2]) then .ok h.choose else .bad
theorem callR_ok {G:DF}{k:Bool}{ks ks':List KT}{xs xs' ds:List D}{r:D} (h:∀ a,G (.dct (.len a) k ks xs :: ds)=.ok (.tup [r,.dct (.len a) k ks' xs'])):callR G k ks xs ds=.ok (r,ks',xs'):=by
 have h':∃ y:D × List KT × List D,∀ a,G (.dct (.len a) k ks xs :: ds)=.ok (.tup [y.1,.dct (.len a) k y.2.1 y.2.2]):=⟨(r,ks',xs'),h⟩
 unfold callR
 rw [dif_pos h']
 have e:=h'.choose_spec 0
 rw [h 0] at e
 generalize h'.choose=y at e
 obtain ⟨y1,y2,y3⟩:=y
 simp only [Res.ok.injEq,D.tup.injEq,List.cons.injEq,D.dct.injEq,and_true,true_and] at e
 obtain ⟨e1,e2,e3⟩:=e
 rw [e1,e2,e3]
theorem callR_some {G:DF}{k:Bool}{ks:List KT}{xs ds:List D}{y:D × List KT × List D} (h:callR G k ks xs ds=.ok y) (a:Addr):G (.dct (.len a) k ks xs :: ds)=.ok (.tup [y.1,.dct (.len a) k y.2.1 y.2.2]):=by
 unfold callR at h
 split at h
 ·rename_i h'
  cases h
  exact h'.choose_spec a
 ·cases h
def eCallR (i:Nat) (G:DF) (fs:SD->Res (List D)) (τ:SD):Res (D × SD):=match ownDc τ i with
 | some (t,k,ks,xs)=>(fs τ).bind fun ds=>if pureL ds=true then (callR G k ks xs ds).bind fun y=>if y.1.hasBor=true then .bad else .ok (y.1,τ.set i (some (.dct t k y.2.1 y.2.2))) else .bad
 | none=>.bad
section
variable (K:PySem.W.Frag) (H0 B0 B H:Hp) (σ:L2.St) (P:List Addr) (F:Addr->Prop)
def GoalW (Q:VK):Res (D × SD)->Prop
 | .ok (d,τ')=>∀ v H' B' P' fp,SI K H0 B0 B' H' σ τ' P' F->Same B B'->Imm H H'->(∀ b o,b ∉ P->H b=some o->H' b=some o)->Rep K B' No H' d v fp->Vok H0 B' H' P' F fp->Q v H'
 | _=>False
end
def tMW (K:PySem.W.Frag) (f:SD->Res (D × SD)):TE:=fun σ H Q=>∃ H0 B0 B τ P F,SI K H0 B0 B H σ τ P F/\GoalW K H0 B0 B H σ P F Q (f τ)
section
variable {K:PySem.W.Frag}{Y:XY}{H0 B0 B H:Hp}{σ:L2.St}{τ:SD}{P:List Addr}{F:Addr->Prop}{X:Cx}{pos p:Pos}{e:Expr}{es:List Expr}{fs:SD->Res (List D)}
theorem lentBack {t:Tg}{a:Addr}{k:Bool}{ks ks':List KT}{xs xs':List D}{B' H':Hp}{f f':List Addr}{u:V} (ht:t.isOwn=true) (r0:Rep K B No H (.dct t k ks xs) (.ref a) f) (r:Rep K B' No H' (.dct (.len a) k ks' xs') u f'):u=.ref a/\Rep K B' No H' (.dct t k ks' xs') (.ref a) f' := by
 obtain ⟨vs,g,rfl,q,rl,rfl⟩:=r
 obtain ⟨a',_,_,e,_,_,_,back⟩:=r0.ownD ht
 cases e
 exact ⟨rfl,back q rl⟩
theorem lentTo {t:Tg}{a:Addr}{k:Bool}{ks:List KT}{xs:List D}{f:List Addr} (ht:t.isOwn=true) (r0:Rep K B No H (.dct t k ks xs) (.ref a) f):Rep K B No H (.dct (.len a) k ks xs) (.ref a) f:=by
 obtain ⟨a',vs,g,e,q,rl,ef,_⟩:=r0.ownD ht
 cases e
 exact ⟨vs,g,rfl,q,rl,ef⟩
theorem SI.lent {i:Nat}{t:Tg}{k:Bool}{ks:List KT}{xs:List D} (I:SI K H0 B0 B H σ τ P F) (hi:τ[i]?=some (some (.dct t k ks xs))) (ht:t.isOwn=true) :
  ∃ a fp,σ[i]?=some (some (.ref a))/\Rep K B No H (.dct (.len a) k ks xs) (.ref a) fp/\fp.Nodup/\(∀ b ∈ fp,B b=none/\b ∈ P) /\
   ∀ {B' H':Hp}{r:D}{v u:V}{f1 f2:List Addr}{ks':List KT}{xs':List D},RetOk K (less H fp) B B' H' r v f1->Rep K B' No H' (.dct (.len a) k ks' xs') u f2->(f1 ++ f2).Nodup->(∀ b ∈ f2,B' b=none/\less H fp b=none/\H' b ≠ none) ->
    ∃ P',SI K H0 B0 B' H' σ (τ.set i (some (.dct t k ks' xs'))) P' F/\Same B B'/\Imm H H'/\Vok H0 B' H' P' F f1:=by
 have hi':i < τ.length:=(List.getElem?_eq_some_iff.mp hi).1
 obtain ⟨A,f,C,e,h1,h2⟩:=I.rep.cut hi'
 obtain ⟨v0,ev,r0⟩:=h1 _ hi
 have hv:∃ a,v0=.ref a:=by obtain ⟨a,_,_,z,_⟩:=r0.ownD ht; exact ⟨a,z⟩
 obtain ⟨a,rfl⟩:=hv
 have nd:=I.nd
 rw [e] at nd
 have inP:∀ b ∈ f,b ∈ P:=fun b m=>by rw [e]; exact sublist_mid A f C b m
 have ndf:f.Nodup:=(nd.sublist (List.sublist_append_left _ _)).sublist (List.sublist_append_right _ _)
 refine ⟨a,f,ev,lentTo ht r0,ndf,fun b m=>⟨(I.own b (inP b m)).1,inP b m⟩,?_⟩
 intro B' H' r v u f1 f2 ks' xs' ro rx nd2 ow
 have I0:SI K H0 B0 B H (σ.set i (some .non)) (τ.set i (some .non)) (A ++ [] ++ C) F:=I.put hi' e h2 (Keep.same fun a m=>I.rep.own a (inP a m)) (d' := .non) (v' := .non) (f' := []) ⟨rfl,rfl⟩ List.nodup_nil fun a m=>by cases m
 have nin:∀ b ∈ f,b ∉ A ++ [] ++ C:=fun b m z=>by
  rw [List.append_nil] at z
  rw [List.nodup_append,List.nodup_append] at nd
  rcases List.mem_append.mp z with z | z
  ·exact nd.1.2.2 b z b m rfl
  ·exact nd.2.2 b (List.mem_append_right _ m) b z rfl
 have k0:Vok H0 B H (A ++ [] ++ C) F f:=⟨ndf,fun b m=>⟨(I.own b (inP b m)).1,(I.own b (inP b m)).2.1,I.stands (inP b m),nin b m,(I.own b (inP b m)).2.2⟩⟩
 obtain ⟨I1,k1⟩:=I0.calledO k0 r0.own ro
 obtain ⟨_,k2⟩:=I0.calledO k0 r0.own (fq:=f2) ⟨ro.h0,ro.b0,ro.bh,ro.nb,rx,(nd2.sublist (List.sublist_append_right _ _)),ow⟩
 obtain ⟨rfl,rx'⟩:=lentBack ht r0 rx
 obtain ⟨P',I2,hP'⟩:=I1.set i rx' k2
 rw [List.set_set,List.set_set] at I2
 have es:σ.set i (some (.ref a))=σ:=by
  refine List.ext_getElem? fun k=>?_
  by_cases hk:k=i
  ·subst hk
   rw [List.getElem?_set_self (List.getElem?_eq_some_iff.mp ev).1,ev]
  ·rw [List.getElem?_set_ne (Ne.symm hk)]
 rw [es] at I2
 rw [List.nodup_append] at nd2
 refine ⟨P',I2,ro.b0,fun b o eb n=>ro.h0 b o ?_,⟨k1.nd,fun b m=>?_⟩⟩
 ·rw [less_out fun m=>?_]
  ·exact eb
  ·obtain ⟨o',eo,mo⟩:=r0.own b m
   rw [eb] at eo
   cases eo
   exact n mo
 ·obtain ⟨b1,b2,b3,b4,b5⟩:=k1.own b m
  exact ⟨b1,b2,b3,fun z=>(hP' b z).elim b4 fun z=>nd2.2.2 b m b z rfl,b5⟩
theorem q_calR {k:Nat}{x y:Str}{p1:Pos}{ps:List Str}{G:DF} (i:Nat) (C:Cal X.prog X.w X.K X.mg X.base k x ps (spR X.K G)) (hr:Room k X.A) (hg:Gl X x) (ha:PA X es (tML X.K NoY fs)) (hN:X.N[i]?=some y:=by rfl) (hv:Vis X.env.scope y:=by first | exact Or.inl rfl | exact Or.inr (Or.inl rfl) | exact Or.inr (Or.inr rfl)) (hd:(y == ("__debug__" : Str))=false:=by decide)
  (hcd:(y == ("__classdict__" : Str))=false:=by decide) (hdb:(x == ("__debug__" : Str))=false:=by decide)
  (he:starEach (.Name y p1 :: es) X.env=(false,eval (.Name y p1) X.env) :: starEach es X.env:=by rfl) (hpl:(backTo pos (starEach es X.env)).any (·.1)=false:=by rfl):PE X (.Call (.Name x p) (.Name y p1 :: es) [] pos) (tMW X.K (eCallR i G fs)):=by
 refine PE.imp (pe_cal C hr hg (pa_cons (pe_var hN hv hd hcd) ha he) hdb he hpl) fun σ H Q hq=>ex8 hq fun H0 B0 B τ P F I h=>?_
 unfold eCallR at h
 cases z:ownDc τ i with
 | none=>rw [z] at h; exact h.elim
 | some q =>
  obtain ⟨t,kd,ks,xs⟩:=q
  rw [z] at h
  obtain ⟨hi,ht⟩:=ownDc_some z
  obtain ⟨a,_,ev,_⟩:=I.lent hi ht
  refine ⟨.ref a,ev,H0,B0,B,τ,P,F,I,?_⟩
  have h:GoalW X.K H0 B0 B H σ P F Q ((fs τ).bind fun ds=>if pureL ds=true then (callR G kd ks xs ds).bind fun y=>if y.1.hasBor=true then .bad else .ok (y.1,τ.set i (some (.dct t kd y.2.1 y.2.2))) else .bad):=h
  cases ef:fs τ with
  | bad=>rw [ef] at h; exact h.elim
  | exn C=>rw [ef] at h; exact h.elim
  | ok ds =>
   rw [ef] at h
   intro vs H1 B1 fq I1 s1 b1 r1 k1
   show spR X.K G ((.ref a :: vs) ++ []) H1 Q E0
   rw [List.append_nil]
   have h:GoalW X.K H0 B0 B H σ P F Q (if pureL ds=true then (callR G kd ks xs ds).bind fun y=>if y.1.hasBor=true then .bad else .ok (y.1,τ.set i (some (.dct t kd y.2.1 y.2.2))) else .bad):=h
   split at h
   ·rename_i hp
    cases ec:callR G kd ks xs ds with
    | bad=>rw [ec] at h; exact h.elim
    | exn C=>rw [ec] at h; exact h.elim
    | ok y =>
     rw [ec] at h
     have h:GoalW X.K H0 B0 B H σ P F Q (if y.1.hasBor=true then .bad else .ok (y.1,τ.set i (some (.dct t kd y.2.1 y.2.2)))):=h
     split at h
     ·exact h.elim
     ·obtain ⟨a',fp,ev',rd,nd,ow,back⟩:=I1.lent hi ht
      rw [ev] at ev'
      cases ev'
      have ef0:fq=[]:=pure_fp.2 ds hp r1
      subst ef0
      refine ⟨B1,a,kd,ks,xs,fp,vs,ds,rfl,I1.bh,rd,r1.noBor (hasBorL_pure _ hp),nd,fun b m=>(ow b m).1,?_⟩
      rw [callR_some ec a]
      intro B' H' v u f1 f2 ro rx n2 o2
      obtain ⟨P',I2,sB,im,kv⟩:=back ro rx n2 o2
      exact h v H' B' P' f1 I2 (b1.trans sB) ((Imm.of s1).trans im) (fun b o nb eb=>ro.h0 b o (by rw [less_out fun m=>nb (ow b m).2]; exact s1 b o eb)) ro.rep kv
   ·exact h.elim
end
end DL
namespace DL
open PySem PySem.Spec PyProof.Rows L2
def sSetW (j:Nat) (f:SD->Res (D × SD)) (τ:SD):Fl:=match f τ with
 | .ok (d,τ')=>if d.hasBor=true then .bad else .nx (τ'.set j (some d))
 | _=>.bad
def sortedW (f:SD->Res (D × SD)) (τ:SD):Res (D × SD):=match f τ with
 | .ok (d,τ')=>(sortedD [d]).bind fun x=>.ok (x,τ')
 | _=>.bad
section
variable {K:PySem.W.Frag}{Y:XY}{H0 B0 B H:Hp}{σ:L2.St}{τ:SD}{P:List Addr}{F:Addr->Prop}{X:Cx}{pos p:Pos}{e:Expr}{f:SD->Res (D × SD)}
theorem s_setW {j:Nat}{x:Str}{pos':Pos} (hN:X.N.Nodup) (hi:X.N[j]?=some x) (hx:Loc X.env.scope x) (he:PE X e (tMW X.K f)) (hs:swapsWith e (some (.Name x pos')) pos.line X.env=pure false:=by rfl) (hf:X.fn x=true ∨ X.env.scope.names.lookup x=some .local:=by first | exact .inl rfl | exact .inr rfl) :
  PS X (.Assign [.Name x pos'] e pos) (tMS X.K Y (sSetW j f)) :=
 PS.imp (ps_set hN hi hx he hs hf) fun E σ H hq=>ex7 hq fun H0 B0 B τ P I h=>by
  refine ⟨H0,B0,B,τ,P,No,I,?_⟩
  unfold sSetW at h
  cases z:f τ with
  | bad=>rw [z] at h; exact h.elim
  | exn C=>rw [z] at h; exact h.elim
  | ok q =>
   obtain ⟨d,τ'⟩:=q
   rw [z] at h
   intro v H' B' P' fp I' sB im kp r k
   have h:GoalS X.K Y H0 B0 B H E (if d.hasBor=true then .bad else .nx (τ'.set j (some d))):=h
   split at h
   ·exact h.elim
   ·obtain ⟨P2,I2,_⟩:=I'.set j r k
    exact h B' H' _ P2 ⟨I2,sB,im⟩
theorem q_sortedW (hg:Gl X "sorted") (hm:X.mg "sorted" = none) (he:PE X e (tMW X.K f)) (hst:starEach [e] X.env=(false,eval e X.env) :: starEach [] X.env:=by rfl) (hpl:(backTo pos (starEach [] X.env)).any (·.1)=false:=by rfl) :
  PE X (.Call (.Name "sorted" p) [e] [] pos) (tMW X.K (sortedW f)):=by
 refine PE.imp (pe_callB call_sorted hg hm (by decide +kernel) (pa_cons he pa_nil hst) (he:=hst) (hpl:=hpl)) fun σ H Q hq=>ex8 hq fun H0 B0 B τ P F I h=>?_
 refine ⟨H0,B0,B,τ,P,F,I,?_⟩
 unfold sortedW at h
 cases z:f τ with
 | bad=>rw [z] at h; exact h.elim
 | exn C=>rw [z] at h; exact h.elim
 | ok q =>
  obtain ⟨d,τ'⟩:=q
  rw [z] at h
  intro v H' B' P' fp I' sB im kp r k
  replace h:GoalW X.K H0 B0 B H σ P F Q ((sortedD [d]).bind fun x=>.ok (x,τ')):=h
  cases d with
  | lst t xs =>
   have es:sortedD [.lst t xs]=(match intsOf xs with | some ns=>if ns.length < 64 then .ok (.lst .own ((sortI ns).map D.int)) else .bad | none=>.bad):=rfl
   cases e1:intsOf xs with
   | none =>
    rw [e1] at es
    rw [es] at h
    exact h.elim
   | some ns =>
    by_cases hl:ns.length < 64
    ·rw [e1] at es
     replace es:sortedD [.lst t xs]=(if ns.length < 64 then .ok (.lst .own ((sortI ns).map D.int)) else .bad):=es
     rw [if_pos hl] at es
     rw [es] at h
     have ex:=intsOf_eq e1
     subst ex
     have rl:∃ a vs,v=.ref a/\SqL X.K H' a vs/\vs=ns.map V.int:=by
      cases t with
      | own=>obtain ⟨a,vs,g,e2,q,l,_⟩:=r; exact ⟨a,vs,e2,SqL.of q,(repL_ints l).1⟩
      | bor=>obtain ⟨a,vs,e2,q,l,_⟩:=r; exact ⟨a,vs,e2,rd_mono I'.bh (q.resolve_left fun y=>y.1),(repL_ints l).1⟩
      | frz=>obtain ⟨a,vs,e2,q,l,_⟩:=r; exact ⟨a,vs,e2,rd_mono I'.bh q,(repL_ints l).1⟩
      | len a=>exact False.elim r
     obtain ⟨a,vs,rfl,q,rfl⟩:=rl
     refine ⟨a,ns,rfl,q,hl,fun p ns' hp h1 h2=>?_⟩
     have e2:ns'=sortI ns:=sorted_unique (h1.trans (sortI_perm ns).symm) h2 (sortI_sorted ns)
     subst e2
     have s:=sameUpd' (o := .lst ((sortI ns).map V.int)) hp
     obtain ⟨n1,n2,n3,n4⟩:=I'.newAt hp
     exact h (.ref p) _ B' P' [p] (I'.grow s) sB (im.trans (Imm.of s)) (fun b o nb eb=>s b o (kp b o nb eb)) ⟨p,_,[],rfl,upd_same,ints_repL _,rfl⟩ ⟨List.nodup_cons.mpr ⟨List.not_mem_nil,List.nodup_nil⟩,fun b m=>by
      rw [List.mem_singleton.mp m]
      exact ⟨n1,n2,(by rw [upd_same]; exact Option.some_ne_none _),n3,n4⟩⟩
    ·rw [e1] at es
     replace es:sortedD [.lst t xs]=(if ns.length < 64 then .ok (.lst .own ((sortI ns).map D.int)) else .bad):=es
     rw [if_neg hl] at es
     rw [es] at h
     exact h.elim
  | _=>exact h.elim
end
def compR (G:DF) (fs:SD->Res (List D)) (k:Bool):List D->List KT->List D->Res (List D × List KT × List D)
 | [],ks,xs=>.ok ([],ks,xs)
 | b :: r,ks,xs=>(fs [some b,none]).bind fun ds=>if pureL ds=true then (callR G k ks xs ds).bind fun y=>if y.1.hasBor=true then .bad else (compR G fs k r y.2.1 y.2.2).bind fun z=>.ok (y.1 :: z.1,z.2) else .bad
def sSetCompR (j i:Nat) (it:SD->Res (Bool × List D)) (G:DF) (fs:SD->Res (List D)) (τ:SD):Fl:=match ownDc τ i,it τ with
 | some (t,k,ks,xs),.ok (false,ds)=>if pureL ds=true then (match compR G fs k ds ks xs with
   | .ok (rs,ks',xs')=>if rs.length <= 16777216 then .nx ((τ.set i (some (.dct t k ks' xs'))).set j (some (.lst .own rs))) else .bad
   | _=>.bad) else .bad
 | _,_=>.bad
section
variable {K:PySem.W.Frag}{Y:XY}{H0 B0 B H:Hp}{σ:L2.St}{τ:SD}{P:List Addr}{F:Addr->Prop}{X:Cx}
theorem comp_lent {it:SD->Res (Bool × List D)}{G:DF}{fs:SD->Res (List D)}{i:Nat}{nm:Str}{t:Tg}{k:Bool}{ks ks':List KT}{xs xs' ds rs:List D}{Q:VK} (I:SI K H0 B0 B H σ τ P F) (hi:τ[i]?=some (some (.dct t k ks xs))) (ht:t.isOwn=true) (hit:it τ=.ok (false,ds)) (hp:pureL ds=true)
  (hfs:∀ b x y,fs [some b,x]=fs [some b,y]) (hc:compR G fs k ds ks xs=.ok (rs,ks',xs')) (hl:rs.length <= 16777216)
  (h:∀ v H' B' P' fp,SI K H0 B0 B' H' σ (τ.set i (some (.dct t k ks' xs'))) P' F->Same B B'->Imm H H'->Rep K B' No H' (.lst .own rs) v fp->Vok H0 B' H' P' F fp->Q v H') :
  tComp (tMI K Y it) (tMG K (gN 0)) (tMB K NoY bTrue) (tMW K (eCallR 1 G fs)) 1 [(nm,i)] σ H Q:=by
 refine ⟨H0,B0,B,τ,P,F,I,?_⟩
 rw [hit]
 intro J H1 B1 fpi I1 s1 b1 k1 JA acc hacc
 obtain ⟨Ix,sBx⟩:=I1.restV k1
 generalize hBx:atRest B1 H1 (· ∈ fpi)=Bx at Ix sBx
 have uBx:Same Bx H1:=Ix.bh
 have J1:ItD K J (frzL ds) Bx H1:=JA Bx sBx uBx (fun a m o e=>by rw [<- hBx]; exact rest_in m e) (fun hf=>by cases hf)
 rw [frzL_pure _ hp] at J1
 obtain ⟨a,fp,ev,rd,nd,ow,back⟩:=Ix.lent hi ht
 have sacc:Same H1 (upd H1 acc (.lst [])):=sameUpd' hacc
 have st:∀ b ∈ fp,∃ o,H1 b=some o/\mutO o:=rd.own
 have ecap:capV σ [(nm,i)]=[some (.ref a)]:=by
  show [(σ[i]?).join]=_
  rw [ev]
  rfl
 have C0:SI K (less H1 fp) Bx Bx (upd H1 acc (.lst [])) (List.replicate 1 none ++ capV σ [(nm,i)]) [none,some (.dct (.len a) k ks xs)] fp (fun b=>b=acc ∨ b ∈ ([]:List Addr)):=by
  rw [ecap]
  refine ⟨uBx.trans sacc,less_same.trans sacc,Same.refl _,fun b n=>.inl n,⟨none,_,rfl,.ref a,[],fp,[],rfl,rd.mono sacc (Same.refl _) (fun _ x=>x),⟨rfl,rfl⟩,(List.append_nil _).symm⟩,nd,fun b m=>⟨(ow b m).1,less_in m,fun z=>?_⟩,fun b m=>?_⟩
  ·obtain ⟨o,eo,_⟩:=st b m
   have:b=acc:=z.elim id fun z=>by cases z
   rw [this,hacc] at eo
   cases eo
  ·have:b=acc:=m.elim id fun z=>by cases z
   subst this
   exact ⟨uBx.free hacc,by rw [upd_same]; exact Option.some_ne_none _⟩
 refine ⟨fun n m τv ys H'=>m=ds.length - n/\n <= ds.length/\∃ B' o Pb es fe rest ksi xsi,SI K (less H1 fp) Bx B' H' τv [o,some (.dct (.len a) k ksi xsi)] Pb (fun b=>b=acc ∨ b ∈ fe)/\H' acc=some (.lst ys)/\RepL K B' No H' es ys fe/\fe.Nodup /\
   (∀ b ∈ fe,less H1 fp b=none)/\compR G fs k (ds.drop n) ksi xsi=.ok (rest,ks',xs')/\rs=es ++ rest/\acc ∉ fe,⟨_,rfl,Nat.zero_le _,Bx,none,fp,[],[],rs,ks,xs,C0,upd_same,⟨rfl,rfl⟩,List.nodup_nil,(fun a m=>by cases m),hc,rfl,by simp⟩,?_⟩
 rintro n m τv ys H' ⟨rfl,hle,B',o,Pb,es,fe,rest,ksi,xsi,C,ha,re,ndf,own,ec,ex,hna⟩
 have im:Imm H1 H' := fun b o eb nm=>C.h0 b o (by
  rw [less_out fun m=>?_]
  ·exact eb
  ·obtain ⟨o',eo,mo⟩:=st b m
   rw [eb] at eo
   cases eo
   exact nm mo)
 by_cases hlt:n < ds.length
 ·obtain ⟨d,hd⟩:∃ d,ds[n]?=some d:=⟨ds[n],List.getElem?_eq_getElem hlt⟩
  have hdrop:ds.drop n=d :: ds.drop (n + 1):=by
   rw [List.drop_eq_getElem_cons hlt]
   congr 1
   rw [List.getElem?_eq_getElem hlt] at hd
   exact Option.some.inj hd
  rw [hdrop] at ec
  unfold compR at ec
  refine .inr ⟨J1.go B' H' n d C.b0 C.bh im hd,fun x H'' y=>?_⟩
  obtain ⟨sy,ry⟩:=J1.yld B' H' n d x H'' C.b0 C.bh im hd y
  refine ⟨less H1 fp,Bx,B',_,Pb,_,d,[],C.grow sy,ry,Vok.nil,?_⟩
  show ∀ H' σ' P',SI K (less H1 fp) Bx B' H' σ' [some d,some (.dct (.len a) k ksi xsi)] P' _->H'=H''->_
  intro H3 σ3 P3 I3 e3
  subst e3
  refine ⟨less H1 fp,Bx,B',_,P3,_,I3,?_⟩
  show ∀ H' B'',SI K (less H1 fp) Bx B'' H' σ3 [some d,some (.dct (.len a) k ksi xsi)] P3 _->Same H3 H'->Same B' B''->_
  intro H4 B4 I4 s4 b4
  have re4:RepL K B4 No H4 es ys fe:=re.mono (sy.trans s4) b4 fun _ x=>x
  have ha4:H4 acc=some (.lst ys):=s4 _ _ (sy _ _ ha)
  rw [if_pos rfl]
  refine ⟨less H1 fp,Bx,B4,_,P3,_,I4,?_⟩
  obtain ⟨ds2,e2,ec⟩:=bind_ok ec
  split at ec
  ·rename_i hp2
   obtain ⟨y2,ey2,ec⟩:=bind_ok ec
   split at ec
   ·cases ec
   ·rename_i hb2
    obtain ⟨z2,ez2,ec⟩:=bind_ok ec
    obtain ⟨rest',ks2,xs2⟩:=z2
    cases ec
    have ecall:eCallR 1 G fs [some d,some (.dct (.len a) k ksi xsi)]=.ok (y2.1,[some d,some (.dct (.len a) k y2.2.1 y2.2.2)]):=by
     show ((fs [some d,some (.dct (.len a) k ksi xsi)]).bind fun ds=>if pureL ds=true then (callR G k ksi xsi ds).bind fun y=>if y.1.hasBor=true then .bad else .ok (y.1,[some d,some (.dct (.len a) k y.2.1 y.2.2)]) else .bad)=_
     rw [hfs d _ none,e2,Res.bind_ok,if_pos hp2,ey2,Res.bind_ok,if_neg hb2]
    rw [ecall]
    intro v H5 B5 P5 fv I5 b5 im5 kp5 r5 k5
    have outP:∀ b,b=acc ∨ b ∈ fe->b ∉ P3:=fun b m z=>(I4.own b z).2.2 m
    have ha5:H5 acc=some (.lst ys):=kp5 _ _ (outP acc (.inl rfl)) ha4
    have kp3:Keep H4 H5 P3:=⟨fun b o eb nb=>kp5 b o nb eb,fun b m=>I4.rep.own b m⟩
    have re5:RepL K B5 No H5 es ys fe:=(re4.keep kp3 fun b m=>outP b (.inr m)).mono (Same.refl _) b5 fun _ x=>x
    have hlen:ys.length < sizeLine:=by
     rw [<- re.length,sizeLine_eq]
     have:=congrArg List.length ex
     simp at this
     omega
    refine ⟨ha5,hlen,_,by omega,rfl,hlt,?_⟩
    have Ih:=I5.hold k5
    have fdis:∀ b ∈ fv,b ∉ fe/\b ≠ acc:=fun b m=>⟨fun z=>(k5.own b m).2.2.2.2 (.inr z),fun z=>(k5.own b m).2.2.2.2 (.inl z)⟩
    have Ih2:SI K (less H1 fp) Bx B5 H5 σ3 [some d,some (.dct (.len a) k y2.2.1 y2.2.2)] P5 (fun b=>b=acc ∨ b ∈ fe ++ fv):=Ih.anti fun b m=>by
     rcases m with m | m
     ·exact .inr (.inl m)
     ·rcases List.mem_append.mp m with m | m
      ·exact .inr (.inr m)
      ·exact .inl m
    have lacc:less H1 fp acc=none:=less_same.free hacc
    have Iw:=Ih2.writeF (o' := .lst (ys ++ [v])) (.inl rfl) lacc ha5 trivial
    have kp:Keep H5 (upd H5 acc (.lst (ys ++ [v]))) [acc]:=⟨fun b u h n=>by rw [upd_ne (by simpa using n)]; exact h,fun b m=>by
     have:b=acc:=by simpa using m
     subst this
     exact ⟨_,ha5,trivial⟩⟩
    refine ⟨B5,some d,P5,es ++ [y2.1],fe ++ fv,rest',y2.2.1,y2.2.2,Iw,upd_same,?_,List.nodup_append.mpr ⟨ndf,k5.nd,fun a h1 b h2 e=>(fdis b h2).1 (e ▸ h1)⟩,fun b m=>?_,ez2,by rw [ex]; simp,fun m=>?_⟩
    ·refine RepL.append (re5.keep kp fun b m z=>?_) (RepL.one (r5.keep kp fun b m z=>?_))
     ·have:b=acc:=by simpa using z
      exact hna (this ▸ m)
     ·have:b=acc:=by simpa using z
      exact (fdis b m).2 this
    ·rcases List.mem_append.mp m with m | m
     ·exact own b m
     ·exact (k5.own b m).2.1
    ·rcases List.mem_append.mp m with m | m
     ·exact hna m
     ·exact (fdis acc m).2 rfl
  ·cases ec
 ·have e:n=ds.length:=by omega
  subst e
  rw [List.drop_length] at ec
  cases ec
  rw [List.append_nil] at ex
  subst ex
  refine .inl ⟨J1.stop B' H' C.b0 C.bh im,?_⟩
  have lacc:less H1 fp acc=none:=less_same.free hacc
  have ro:RetOk K (less H1 fp) Bx B' H' (.lst .own rs) (.ref acc) (acc :: fe):=⟨C.h0,C.b0,C.bh,C.nb,⟨acc,ys,fe,rfl,ha,re,rfl⟩,List.nodup_cons.mpr ⟨hna,ndf⟩,fun b m=>by
   rcases List.mem_cons.mp m with m | m
   ·subst m; exact ⟨(C.fr b (.inl rfl)).1,lacc,(C.fr b (.inl rfl)).2⟩
   ·exact ⟨(C.fr b (.inr m)).1,own b m,(C.fr b (.inr m)).2⟩⟩
  obtain ⟨u,f2,_,rx,sf⟩:=C.rep.get (i:=1) (d := .dct (.len a) k ks' xs') rfl
  have hF:∀ b ∈ acc :: fe,b ∉ Pb:=fun b m z=>(C.own b z).2.2 ((List.mem_cons.mp m).imp id id)
  obtain ⟨P',I2,sB2,im2,kv⟩:=back ro rx (List.nodup_append.mpr ⟨ro.nd,C.nd.sublist sf,fun b m c m2 z=>hF b m (z ▸ sf.subset m2)⟩) fun b m=>⟨(C.own b (sf.subset m)).1,(C.own b (sf.subset m)).2.1,C.stands (sf.subset m)⟩
  exact h (.ref acc) H' B' P' (acc :: fe) I2 (b1.trans (sBx.trans sB2)) ((Imm.of s1).trans im2) ro.rep kv
theorem cal_badR {Pr:Program}{w:World}{mg:Str->Option Value}{base:Heap}{x:Str}{st:Stmt}{ps:List Str}{k:Nat} (Df:Dfn K mg x st ps):Cal Pr w K mg base k x ps (spR K fun _=>.bad):=by
 obtain ⟨f,fd,F,hm,hb⟩:=Df.ex
 exact ⟨f,fd,hm,F.kp,hb,fun vs H Q E h=>by obtain ⟨_,_,_,_,_,_,_,_,_,_,_,_,_,_,h⟩:=h; exact h.elim,fun A outer s H args us vs Q E hr he hbd hv h=>by obtain ⟨_,_,_,_,_,_,_,_,_,_,_,_,_,_,h⟩:=h; exact h.elim⟩
variable {tg elt iter:Expr}{scope:Scope}{pos:Pos}{own:List Str}{it:SD->Res (Bool × List D)}
theorem s_setCompR {j i:Nat}{y b nm:Str}{py spos pb:Pos}{G:DF}{fs:SD->Res (List D)} (hN:X.N.Nodup) (hi':X.N[j]?=some y) (hy:Loc X.env.scope y) (ok:CompOk X scope [b] [(nm,i)]) (hc:X.calm=true) (hi:PI X (.Name b pb) iter (tMI X.K Y it)) (Bl:BlockOk X scope [b] [(nm,i)] (.Name b pb) [] elt (tMG X.K (gN 0)) (tMB X.K NoY bTrue) (tMW X.K (eCallR 1 G fs)))
  (hfs:∀ b x y,fs [some b,x]=fs [some b,y]:=by intro _ _ _; rfl)
  (hsw:swapsWith (.ListComp elt [⟨.Name b pb,iter,[],0⟩] scope pos) (some (.Name y py)) spos.line X.env=pure true:=by rfl)
  (hf:X.fn y=true ∨ X.env.scope.names.lookup y=some .local:=by first | exact .inl rfl | exact .inr rfl) (hs:∀ x,foldedSetIterable iter X.env x=pure x:=by intro _; rfl) :
  PS X (.Assign [.Name y py] (.ListComp elt [⟨.Name b pb,iter,[],0⟩] scope pos) spos) (tMS X.K Y (sSetCompR j i it G fs)):=by
 refine PS.imp (ps_setComp hN hi' hy ok hc hi Bl hsw hf hs) fun E σ H hq=>ex7 hq fun H0 B0 B τ P I h=>?_
 unfold sSetCompR at h
 split at h
 ·rename_i t k ks xs ds z e
  obtain ⟨hi0,ht⟩:=ownDc_some z
  split at h
  ·rename_i hp
   split at h
   ·rename_i rs ks' xs' ec
    split at h
    ·rename_i hl
     refine comp_lent I hi0 ht e hp hfs ec hl fun v H' B' P' fp I' sB im r k=>?_
     obtain ⟨P2,I2,_⟩:=I'.set j r k
     exact h B' H' _ P2 ⟨I2,sB,im⟩
    ·exact h.elim
   ·exact h.elim
  ·exact h.elim
 ·exact h.elim
end
end DL
namespace L2
open PySem PySem.Spec PyProof.Rows
section
variable {X:Cx}
theorem preSum_of {ns:List Int}{xs:Array (Int × Tok)} (h:xs.size=ns.length) (h2:∀ i,numAt xs i=ns.getD i 0):preSum (numAt xs) xs.size=ns.sum:=by
 have:∀ n,n <= ns.length->preSum (numAt xs) n=(ns.take n).sum:=by
  intro n
  induction n with
  | zero=>intro _; rfl
  | succ n ih =>
   intro hn
   have e:preSum (numAt xs) (n + 1)=preSum (numAt xs) n + numAt xs n:=rfl
   rw [e,ih (by omega),h2,List.take_add_one,List.sum_append,List.getD_eq_getElem?_getD,List.getElem?_eq_getElem (by omega)]
   simp
 rw [h,this _ (Nat.le_refl _),List.take_length]
theorem call_sum1 (hc:X.calm=true):CallR X (.builtin "sum") (fun xs H Q=>∃ (a:Addr) (ns:List Int),xs=[.ref a]/\SqL X.K H a (ns.map V.int)/\Q (.int ns.sum) H):=by
 intro pins s σ H xs us Q I r h
 obtain ⟨a,ns,rfl,hq,q⟩:=h
 obtain ⟨u,rfl,ru⟩:=vals1 r
 cases ru
 obtain ⟨its,rv,pl,hz⟩:=I.list hq
 obtain ⟨ys,e1,e2,e3⟩:=items_of rv
 refine sum_intListG (xs:=ys) (I.ok.hd hc) (by rw [e1]; exact pl.isList) fun h' tk t' kp=>?_
 rw [preSum_of e2 e3]
 exact ⟨.int ns.sum,H,I.kept (t' := tk) kp,⟨t',rfl⟩,q⟩
def isN (n:Int):Value->Bool
 | .int m _=>m == n
 | _=>false
theorem count_vals {n:Int}:∀ {ns:List Int}{us:List Value},Vals (ns.map V.int) us->us.countP (isN n)=ns.countP (· == n)
 | [],_,.nil=>rfl
 | m :: ns,_,.cons r t=>by
  obtain ⟨k,rfl⟩:=r
  rw [List.countP_cons,List.countP_cons,count_vals t]
  rfl
theorem int_vals:∀ {ns:List Int}{us:List Value},Vals (ns.map V.int) us->∀ y ∈ us,∃ m t,y=.int m t
 | [],_,.nil,y,hy=>by cases hy
 | m :: ns,_,.cons r t,y,hy=>by
  rcases List.mem_cons.mp hy with rfl | hy
  ·obtain ⟨k,rfl⟩:=r
   exact ⟨m,k,rfl⟩
  ·exact int_vals t y hy
def rCnt (K:PySem.W.Frag):V->List V->Hp->VK->Prop:=fun x vs H Q=>∃ (a:Addr) (ns:List Int) (n:Int),x=.ref a/\vs=[.int n]/\SqL K H a (ns.map V.int)/\Q (.int (ns.countP (· == n):Nat)) H
theorem mt_cnt:MtR X "list.count" (rCnt X.K):=by
 intro pins s σ H x vs v us Q I rx rv h
 obtain ⟨a,ns,n,rfl,rfl,hH,q⟩:=h
 cases rx
 obtain ⟨u,rfl,ru⟩:=rv.one
 obtain ⟨tk,rfl⟩:=ru
 obtain ⟨its,r,⟨o,k,e,hc,hd,hda⟩,hz⟩:=I.list hH
 obtain ⟨oc,od,oda,osl⟩:=o
 cases hc
 cases hd
 cases hda
 refine call_meets F.slot_list_count ⟨_,e,rfl⟩ F.entry_list_count (F.args_list_count_2 _ _) (PySem.SeqAt.list_countAt a its.toArray k none osl (.int n tk) (isN n)) ⟨e,fun y hy=>?_,?_⟩
 ·have hy:y ∈ its:=by simpa using hy
  have:=int_vals r y hy
  obtain ⟨m,t,rfl⟩:=this
  exact PySem.SeqAt.EqAt.int_int m t n tk
 ·rw [show its.toArray.toList=its from rfl,count_vals r]
  exact ⟨.int _,H,I.tok (s.toks + 1),⟨_,rfl⟩,q⟩
end
end L2
namespace DL
open PySem PySem.Spec PyProof.Rows L2
section
variable {K:PySem.W.Frag}{Y:XY}
def sumD:List D->Res D
 | [.lst _ xs]=>match intsOf xs with | some ns=>.ok (.int ns.sum) | none=>.bad
 | _=>.bad
theorem d_sum:CallD K Y (fun xs H Q=>∃ (a:Addr) (ns:List Int),xs=[.ref a]/\SqL K H a (ns.map V.int)/\Q (.int ns.sum) H) sumD:=by
 intro H0 B0 B H σ τ P F ds vs f Q I r k h
 unfold sumD at h
 split at h
 ·obtain ⟨v,rfl,r'⟩:=repL1 r
  obtain ⟨a,ws,g,rfl,q,l,s⟩:=r'.lst I
  split at h
  ·rename_i ns e
   have ex:=intsOf_eq e
   subst ex
   obtain ⟨rfl,rfl⟩:=repL_ints l
   exact ⟨a,ns,rfl,sqL_of q,Out.here h I ⟨rfl,rfl⟩⟩
  ·exact h.elim
 ·exact h.elim
end
def cntD:D->D->Res D
 | .lst _ xs,.int n=>match intsOf xs with | some ns=>.ok (.int (ns.countP (· == n):Nat)) | none=>.bad
 | _,_=>.bad
def isLs (d:D):Bool:=match d with | .lst _ _=>true | _=>false
def eCnt (a b:SD->Res D) (τ:SD):Res D:=(a τ).bind fun x=>if isLs x=true then (b τ).bind (cntD x) else .bad
section
variable {X:Cx}{Y:XY}{o e:Expr}{fo fe:SD->Res D}{apos cpos:Pos}
theorem q_cnt (ho:PE X o (tM X.K Y fo)) (he:PE X e (tM X.K Y fe)) (hbase:attributeBase o "count" X.env (eval o X.env)=eval o X.env:=by rfl)
  (hfew:((backTo cpos (starEach [e] X.env)).all (fun x=>!x.1) && (backToKw cpos (keywordEach [] X.env)).all (fun x=>x.1.isSome)
   && decide ([e].length + ([]:List Keyword).length + (if ([]:List Keyword).isEmpty then 0 else 1) < 30))=true:=by rfl)
  (hline:(apos.endLine == cpos.line)=true:=by rfl) (hs:starEach [e] X.env=(false,eval e X.env) :: starEach [] X.env:=by rfl) (hplain:(backTo cpos (starEach [] X.env)).any (·.1)=false:=by rfl) :
  PE X (.Call (.Attribute o "count" apos) [e] [] cpos) (tM X.K Y (eCnt fo fe)):=by
 refine PE.imp (pe_bm PySem.F.plainAttrs_list PySem.F.slot_list_count PySem.F.type_list_count mt_cnt ho (pa_cons he pa_nil hs) hbase hfew hline hs hplain) fun σ H Q hq=>ex8 hq fun H0 B0 B τ P F I h=>?_
 refine tM.seq (g:=fun x=>if isLs x=true then (fe τ).bind (cntD x) else .bad) I h fun d1 v1 H1 B1 fp1 _ I1 s1 b1 r1 k1 h1=>?_
 by_cases hdc:isLs d1=true
 ·rw [if_pos hdc] at h1
  cases d1 with
  | lst t xs =>
   obtain ⟨a,ws,g,rfl,q,l,_⟩:=r1.lst I1
   refine ⟨.inl ⟨rfl,ws,q⟩,?_⟩
   have I1h:=I1.hold k1
   refine ⟨H0,B0,B1,τ,P,_,I1h,?_⟩
   cases z:fe τ with
   | exn C=>rw [z] at h1; exact OutX.later h1 (Same.refl _) (Same.refl _) fun a x=>.inr x
   | bad=>rw [z] at h1; exact h1
   | ok d2 =>
    rw [z] at h1
    intro v2 H2 B2 fp2 I2 s2 b2 r2 k2
    have I4:=I2.anti (F' := F) fun a x=>.inr x
    have h4:Goal X.K Y H0 B0 B2 H2 σ τ P F Q (cntD (.lst t xs) d2):=Goal.later h1 s2 b2
    cases d2 with
    | int n =>
     simp only [cntD] at h4
     split at h4
     ·rename_i ns e
      have ex:=intsOf_eq e
      subst ex
      obtain ⟨rfl,_⟩:=repL_ints l
      obtain ⟨rfl,_⟩:=r2
      exact ⟨a,ns,n,rfl,rfl,rd_mono s2 (sqL_of q),Out.here h4 I4 ⟨rfl,rfl⟩⟩
     ·exact h4.elim
    | _=>exact h4.elim
  | _=>cases hdc
 ·rw [if_neg hdc] at h1
  exact h1.elim
end
end DL
namespace KL
open PySem PySem.Spec PyProof.Rows L2 DL
def top (i:Nat):Stmt:=PySem.Challenge.pw_modulewood_k23_groups_counted.main.body.getD i (.Pass ⟨0,0,0,0⟩)
structure Txt (mg:Str->Option Value):Prop where
 b_bool:mg "bool" = none
 b_enumerate:mg "enumerate" = none
 b_int:mg "int" = none
 b_isinstance:mg "isinstance" = none
 b_len:mg "len" = none
 b_max:mg "max" = none
 b_min:mg "min" = none
 b_range:mg "range" = none
 b_sorted:mg "sorted" = none
 b_sum:mg "sum" = none
 b_tuple:mg "tuple" = none
section
variable {P:Program}{w:World}{K:PySem.W.Frag}{mg:Str->Option Value}{base:Heap}
abbrev s_is_leaf:Stmt:=top 1
theorem sc_is_leaf:FnScope ["knot"] ["knot"] (defScope s_is_leaf):=⟨rfl,rfl,rfl,by decide +kernel,rfl,by decide +kernel,by decide +kernel⟩
def g_is_leaf:SF:=sRet (eUn (instD isI) (eVar 0))
def G_is_leaf:DF:=runF 1 1 (g_is_leaf)
theorem ok_is_leaf (T:Txt mg)  (F:Dfn K mg "is_leaf" s_is_leaf ["knot"]):Cal P w K mg base 1 "is_leaf" ["knot"] (spF K (G_is_leaf)):=cal_of2 (k:=0) (n:=1) (m:=1) (g:=g_is_leaf) F sc_is_leaf rfl rfl fun f cdv A outer s H hr=>by
 have hu:=hu_of hr
 exact ss_one (s_ret (q_inst (ty := .Name "int" ⟨0,0,0,0⟩) inst_int rfl T.b_isinstance (qv 0) rfl T.b_int (by decide +kernel)))
abbrev s_is_flat:Stmt:=top 2
theorem sc_is_flat:FnScope ["knot"] ["knot"] (defScope s_is_flat):=⟨rfl,rfl,rfl,by decide +kernel,rfl,by decide +kernel,by decide +kernel⟩
def g_is_flat:SF:=sRet (eAnd (eNot (eCall G_is_leaf (aCons (eVar 0) aNil))) (eBin eqD (eBin ixD (eVar 0) (eC (.int 0))) (eC (.str "flat"))))
def G_is_flat:DF:=runF 1 1 (g_is_flat)
theorem ok_is_flat (T:Txt mg) (C_is_leaf:Cal P w K mg base 1 "is_leaf" ["knot"] (spF K G_is_leaf)) (F:Dfn K mg "is_flat" s_is_flat ["knot"]):Cal P w K mg base 2 "is_flat" ["knot"] (spF K (G_is_flat)):=cal_of2 (k:=1) (n:=1) (m:=1) (g:=g_is_flat) F sc_is_flat rfl rfl fun f cdv A outer s H hr=>by
 have hu:=hu_of hr
 exact ss_one (s_ret (q_and (q_not (q_cal C_is_leaf (hr.mono (by decide)) rfl (qa_cons (qv 0) qa_nil))) (q_one (q_cmp op_eq d_eq (q_ix ix_seq d_ix (qv 0) q_int (fun _ _=>rfl)) q_str (nomark _)))))
abbrev s_branches_of:Stmt:=top 3
theorem sc_branches_of:FnScope ["knot"] ["knot"] (defScope s_branches_of):=⟨rfl,rfl,rfl,by decide +kernel,rfl,by decide +kernel,by decide +kernel⟩
def g_branches_of:SF:=sRet (eIf (eT (eCall G_is_leaf (aCons (eVar 0) aNil))) (eA tupD aNil) (eBin ixD (eVar 0) (eC (.int 2))))
def G_branches_of:DF:=runF 1 1 (g_branches_of)
theorem ok_branches_of (T:Txt mg) (C_is_leaf:Cal P w K mg base 1 "is_leaf" ["knot"] (spF K G_is_leaf)) (F:Dfn K mg "branches_of" s_branches_of ["knot"]):Cal P w K mg base 2 "branches_of" ["knot"] (spF K (G_branches_of)):=cal_of2 (k:=1) (n:=1) (m:=1) (g:=g_branches_of) F sc_branches_of rfl rfl fun f cdv A outer s H hr=>by
 have hu:=hu_of hr
 exact ss_one (s_ret (q_if (qt_val (q_cal C_is_leaf (hr.mono (by decide)) rfl (qa_cons (qv 0) qa_nil))) (q_tup qa_nil) (q_ix ix_seq d_ix (qv 0) q_int (fun _ _=>rfl))))
abbrev s_knots_down:Stmt:=top 4
theorem sc_knots_down:FnScope ["wood","found","waiting","knot"] ["wood"] (defScope s_knots_down):=⟨rfl,rfl,rfl,by decide +kernel,rfl,by decide +kernel,by decide +kernel⟩
def g_knots_down_w1:SD->Res Bool:=eTr (eVar 2)
def g_knots_down_b2:SF:=sSeq (sPop 3 2) (sSeq (sApp 1 (eVar 3)) (sExtP 2 (eCall G_branches_of (aCons (eVar 3) aNil))))
def g_knots_down:SF:=sSeq (sSet 1 (eA lstD aNil)) (sSeq (sSet 2 (eA lstD (aCons (eVar 0) aNil))) (sSeq (sWhile g_knots_down_w1 g_knots_down_b2) (sRetV 1)))
def G_knots_down:DF:=runF 1 4 (g_knots_down)
theorem ok_knots_down (T:Txt mg) (C_branches_of:Cal P w K mg base 2 "branches_of" ["knot"] (spF K G_branches_of)) (F:Dfn K mg "knots_down" s_knots_down ["wood"]):Cal P w K mg base 3 "knots_down" ["wood"] (spF K (G_knots_down)):=cal_of2 (k:=2) (n:=1) (m:=4) (g:=g_knots_down) F sc_knots_down rfl rfl fun f cdv A outer s H hr=>by
 have hu:=hu_of hr
 exact ss_cons (s_set (i:=1) sc_knots_down.nd rfl (by first | exact Or.inl rfl | exact Or.inr rfl) (q_lst qa_nil))
    (ss_cons (s_set (i:=2) sc_knots_down.nd rfl (by first | exact Or.inl rfl | exact Or.inr rfl) (q_lst (qa_cons (qv 0) qa_nil)))
    (ss_cons (s_while PassesOwn.never (qt_tru (qv 2))
    (ss_cons (s_pop 3 2 sc_knots_down.nd rfl (by first | exact Or.inl rfl | exact Or.inr rfl))
    (ss_cons (s_app 1 (qv 3))
    (ss_one (s_extP 2 (q_cal C_branches_of (hr.mono (by decide)) rfl (qa_cons (qv 3) qa_nil)))))))
    (ss_one (s_retV 1))))
abbrev s_power_of_two:Stmt:=top 6
theorem sc_power_of_two:FnScope ["exponent","power","turn"] ["exponent"] (defScope s_power_of_two):=⟨rfl,rfl,rfl,by decide +kernel,rfl,by decide +kernel,by decide +kernel⟩
def g_power_of_two_b1:SF:=sSet 1 (eBin mulD (eVar 1) (eC (.int 2)))
def g_power_of_two:SF:=sSeq (sSet 1 (eC (.int 1))) (sSeq (sFor [] (eRng1 (aCons (eVar 0) aNil)) (gN 2) g_power_of_two_b1) (sRetV 1))
def G_power_of_two:DF:=runF 1 3 (g_power_of_two)
theorem ok_power_of_two (T:Txt mg)  (F:Dfn K mg "power_of_two" s_power_of_two ["exponent"]):Cal P w K mg base 1 "power_of_two" ["exponent"] (spF K (G_power_of_two)):=cal_of2 (k:=0) (n:=1) (m:=3) (g:=g_power_of_two) F sc_power_of_two rfl rfl fun f cdv A outer s H hr=>by
 have hu:=hu_of hr
 exact ss_cons (s_set (i:=1) sc_power_of_two.nd rfl (by first | exact Or.inl rfl | exact Or.inr rfl) q_int)
    (ss_cons (s_for [] PassesOwn.never rfl (qi_range1 rfl T.b_range (qa_cons (qv 0) qa_nil)) (g_name (i:=2) sc_power_of_two.nd rfl (by first | exact Or.inl rfl | exact Or.inr rfl))
    (ss_one (s_set (i:=1) sc_power_of_two.nd rfl (by first | exact Or.inl rfl | exact Or.inr rfl) (q_op op_mulD d_mul (qv 1) q_int))))
    (ss_one (s_retV 1)))
abbrev s_group_count:Stmt:=top 7
theorem sc_group_count:FnScope ["wood","found","widths"] ["wood"] (defScope s_group_count):=⟨rfl,rfl,rfl,by decide +kernel,rfl,by decide +kernel,by decide +kernel⟩
def g_group_count_e1:SD->Res D:=eBin subD (eBin subD (eCall G_power_of_two (aCons (eVar 0) aNil)) (eVar 0)) (eC (.int 2))
def g_group_count_c2:SD->Res Bool:=eT (eCall G_is_flat (aCons (eVar 0) aNil))
def g_group_count_e3:SD->Res D:=eA lenD (aCons (eCall G_branches_of (aCons (eVar 0) aNil)) aNil)
def g_group_count:SF:=sSeq (sSet 1 (eCall G_knots_down (aCons (eVar 0) aNil))) (sSeq (sSet 2 (eComp (eIt (eVar 1)) (gN 0) g_group_count_c2 g_group_count_e3 1 [])) (sRet (eBin addD (eA lenD (aCons (eVar 1) aNil)) (eA sumD (aCons (eComp (eIt (eVar 2)) (gN 0) bTrue g_group_count_e1 1 []) aNil)))))
def G_group_count:DF:=runF 1 3 (g_group_count)
theorem ok_group_count (T:Txt mg) (C_is_flat:Cal P w K mg base 2 "is_flat" ["knot"] (spF K G_is_flat)) (C_branches_of:Cal P w K mg base 2 "branches_of" ["knot"] (spF K G_branches_of)) (C_knots_down:Cal P w K mg base 3 "knots_down" ["wood"] (spF K G_knots_down)) (C_power_of_two:Cal P w K mg base 1 "power_of_two" ["exponent"] (spF K G_power_of_two)) (F:Dfn K mg "group_count" s_group_count ["wood"]):Cal P w K mg base 4 "group_count" ["wood"] (spF K (G_group_count)):=cal_of2 (k:=3) (n:=1) (m:=3) (g:=g_group_count) F sc_group_count rfl rfl fun f cdv A outer s H hr=>by
 have hu:=hu_of hr
 exact ss_cons (s_set (i:=1) sc_group_count.nd rfl (by first | exact Or.inl rfl | exact Or.inr rfl) (q_cal C_knots_down (hr.mono (by decide)) rfl (qa_cons (qv 0) qa_nil)))
    (ss_cons (s_setComp (i:=2) sc_group_count.nd rfl (by first | exact Or.inl rfl | exact Or.inr rfl) (own := ["knot"]) (cap := []) (compOk_mk _ rfl _ rfl (by kernel_rfl)) rfl (qi_seq (qv 1)) ⟨fun _ _ _ _ _=>g_name (i:=0) (show (["knot"]:List Str).Nodup by decide +kernel) rfl (by first | exact Or.inl rfl | exact Or.inr rfl),fun _ _ _ _ _=>qif_one (qt_val (q_cal C_is_flat (hr.mono (by decide)) rfl (qa_cons (qv 0) qa_nil))),fun _ _ _ _ _=>q_callB call_lenA d_len rfl T.b_len PySem.boot_len (qa_cons (q_cal C_branches_of (hr.mono (by decide)) rfl (qa_cons (qv 0) qa_nil)) qa_nil)⟩)
    (ss_one (s_ret (q_op op_addA d_add (q_callB call_lenA d_len rfl T.b_len PySem.boot_len (qa_cons (qv 1) qa_nil)) (q_callB (call_sum1 rfl) d_sum rfl T.b_sum (by decide +kernel) (qa_cons (q_comp (own := ["width"]) (cap := []) (compOk_mk _ rfl _ rfl (by kernel_rfl)) rfl (qi_seq (qv 2)) ⟨fun _ _ _ _ _=>g_name (i:=0) (show (["width"]:List Str).Nodup by decide +kernel) rfl (by first | exact Or.inl rfl | exact Or.inr rfl),fun _ _ _ _ _=>qif_nil,fun _ _ _ _ _=>q_op op_sub d_sub (q_op op_sub d_sub (q_cal C_power_of_two (hr.mono (by decide)) rfl (qa_cons (qv 0) qa_nil)) (qv 0)) q_int⟩) qa_nil))))))
abbrev s_Lcell_at:Stmt:=top 9
theorem sc_Lcell_at:FnScope ["_law_script","_law_k"] ["_law_script","_law_k"] (defScope s_Lcell_at):=⟨rfl,rfl,rfl,by decide +kernel,rfl,by decide +kernel,by decide +kernel⟩
def g_Lcell_at:SF:=sSeq (sIf (eT (eBin ltD (eVar 1) (eA lenD (aCons (eVar 0) aNil)))) (sRet (eBin ixD (eVar 0) (eVar 1))) sNext) (sRet (eC (.int 0)))
def G_Lcell_at:DF:=runF 2 2 (g_Lcell_at)
theorem ok_Lcell_at (T:Txt mg)  (F:Dfn K mg "_law_cell_at" s_Lcell_at ["_law_script","_law_k"]):Cal P w K mg base 1 "_law_cell_at" ["_law_script","_law_k"] (spF K (G_Lcell_at)):=cal_of2 (k:=0) (n:=2) (m:=2) (g:=g_Lcell_at) F sc_Lcell_at rfl rfl fun f cdv A outer s H hr=>by
 have hu:=hu_of hr
 exact ss_cons (s_if (qt_cmp op_lt d_lt (qv 1) (q_callB call_lenA d_len rfl T.b_len PySem.boot_len (qa_cons (qv 0) qa_nil)) (nomark _))
    (ss_one (s_ret (q_ix ix_seq d_ix (qv 0) (qv 1) (fun _ _=>rfl))))
    (ss_nil))
    (ss_one (s_ret q_int))
abbrev s_Lmix:Stmt:=top 10
theorem sc_Lmix:FnScope ["_law_cell","_law_k","_law_many","_law_prime_here"] ["_law_cell","_law_k","_law_many"] (defScope s_Lmix):=⟨rfl,rfl,rfl,by decide +kernel,rfl,by decide +kernel,by decide +kernel⟩
def g_Lmix:SF:=sSeq (sSet 3 (eBin ixD (eA lstD (aCons (eC (.int 7919)) (aCons (eC (.int 6007)) (aCons (eC (.int 5003)) (aCons (eC (.int 9973)) (aCons (eC (.int 8009)) (aCons (eC (.int 4999)) (aCons (eC (.int 7793)) aNil)))))))) (eBin modD (eVar 1) (eC (.int 7))))) (sRet (eBin modD (eBin modD (eBin mulD (eBin addD (eBin modD (eVar 0) (eVar 3)) (eC (.int 1))) (eC (.int 48271))) (eVar 3)) (eVar 2)))
def G_Lmix:DF:=runF 3 4 (g_Lmix)
theorem ok_Lmix (T:Txt mg)  (F:Dfn K mg "_law_mix" s_Lmix ["_law_cell","_law_k","_law_many"]):Cal P w K mg base 1 "_law_mix" ["_law_cell","_law_k","_law_many"] (spF K (G_Lmix)):=cal_of2 (k:=0) (n:=3) (m:=4) (g:=g_Lmix) F sc_Lmix rfl rfl fun f cdv A outer s H hr=>by
 have hu:=hu_of hr
 exact ss_cons (s_set (i:=3) sc_Lmix.nd rfl (by first | exact Or.inl rfl | exact Or.inr rfl) (q_ix ix_seq d_ix (q_lst (qa_cons q_int (qa_cons q_int (qa_cons q_int (qa_cons q_int (qa_cons q_int (qa_cons q_int (qa_cons q_int qa_nil)))))))) (q_op op_mod d_mod (qv 1) q_int) (fun _ _=>rfl)))
    (ss_one (s_ret (q_op op_mod d_mod (q_op op_mod d_mod (q_op op_mulD d_mul (q_op op_addA d_add (q_op op_mod d_mod (qv 0) (qv 3)) q_int) q_int) (qv 3)) (qv 2))))
abbrev s_Lleaves:Stmt:=top 11
theorem sc_Lleaves:FnScope ["_law_wood_here","_law_row","_law_branch"] ["_law_wood_here"] (defScope s_Lleaves):=⟨rfl,rfl,rfl,by decide +kernel,rfl,by decide +kernel,by decide +kernel⟩
def g_Lleaves_b1 (R_Lleaves:DF):SF:=sSet 1 (eBin addD (eVar 1) (eCall R_Lleaves (aCons (eVar 2) aNil)))
def g_Lleaves (R_Lleaves:DF):SF:=sSeq (sIf (bNot (eT (eUn (instD isTp) (eVar 0)))) (sRet (eA lstD (aCons (eVar 0) aNil))) sNext) (sSeq (sSet 1 (eA lstD aNil)) (sSeq (sFor [0] (eIt (eBin ixD (eVar 0) (eC (.int 2)))) (gN 2) ((g_Lleaves_b1 R_Lleaves))) (sRetV 1)))
def G_Lleaves:Nat->DF
 | 0=>fun _=>.bad
 | n + 1=>runF 1 3 (g_Lleaves (G_Lleaves n))
theorem ok_Lleaves (T:Txt mg)  (F:Dfn K mg "_law_leaves" s_Lleaves ["_law_wood_here"]):∀ n:Nat,Cal P w K mg base (n + 1) "_law_leaves" ["_law_wood_here"] (spF K (G_Lleaves n))
 | 0=>cal_bad F
 | n + 1=>cal_of2 (k:=n + 1) (n:=1) (m:=3) (g:=g_Lleaves (G_Lleaves n)) F sc_Lleaves rfl rfl fun f cdv A outer s H hr=>by
  have C_Lleaves:=ok_Lleaves T  F n
  have hu:=hu_of hr
  exact ss_cons (s_if (qt_not (qt_val (q_inst (ty := .Name "tuple" ⟨0,0,0,0⟩) inst_tuple rfl T.b_isinstance (qv 0) rfl T.b_tuple (by decide +kernel))))
    (ss_one (s_ret (q_lst (qa_cons (qv 0) qa_nil))))
    (ss_nil))
    (ss_cons (s_set (i:=1) sc_Lleaves.nd rfl (by first | exact Or.inl rfl | exact Or.inr rfl) (q_lst qa_nil))
    (ss_cons (s_for [0] PassesOwn.never rfl (qi_seq (q_ix ix_seq d_ix (qv 0) q_int (fun _ _=>rfl))) (g_name (i:=2) sc_Lleaves.nd rfl (by first | exact Or.inl rfl | exact Or.inr rfl))
    (ss_one (s_set (i:=1) sc_Lleaves.nd rfl (by first | exact Or.inl rfl | exact Or.inr rfl) (q_op op_addA d_add (qv 1) (q_cal C_Lleaves (hr.mono (by omega)) rfl (qa_cons (qv 2) qa_nil))))))
    (ss_one (s_retV 1))))
abbrev s_Lhead:Stmt:=top 12
theorem sc_Lhead:FnScope ["_law_wood_here"] ["_law_wood_here"] (defScope s_Lhead):=⟨rfl,rfl,rfl,by decide +kernel,rfl,by decide +kernel,by decide +kernel⟩
def g_Lhead:SF:=sRet (eA min1D (aCons (eCall (G_Lleaves 26) (aCons (eVar 0) aNil)) aNil))
def G_Lhead:DF:=runF 1 1 (g_Lhead)
theorem ok_Lhead (T:Txt mg) (C_Lleaves:Cal P w K mg base 27 "_law_leaves" ["_law_wood_here"] (spF K (G_Lleaves 26))) (F:Dfn K mg "_law_head" s_Lhead ["_law_wood_here"]):Cal P w K mg base 28 "_law_head" ["_law_wood_here"] (spF K (G_Lhead)):=cal_of2 (k:=27) (n:=1) (m:=1) (g:=g_Lhead) F sc_Lhead rfl rfl fun f cdv A outer s H hr=>by
 have hu:=hu_of hr
 exact ss_one (s_ret (q_callB (call_min1 rfl) d_min1 rfl T.b_min (by decide +kernel) (qa_cons (q_cal C_Lleaves (hr.mono (by decide)) rfl (qa_cons (qv 0) qa_nil)) qa_nil)))
abbrev s_Lflat:Stmt:=top 13
theorem sc_Lflat:FnScope ["_law_shade","_law_woods","_law_parts","_law_wood_here"] ["_law_shade","_law_woods"] (defScope s_Lflat):=⟨rfl,rfl,rfl,by decide +kernel,rfl,by decide +kernel,by decide +kernel⟩
def g_Lflat_b1:SF:=sIf (bAnd (eT (eUn (instD isTp) (eVar 3))) (bAnd (eT (eBin eqD (eBin ixD (eVar 3) (eC (.int 0))) (eC (.str "flat")))) (eT (eBin eqD (eBin ixD (eVar 3) (eC (.int 1))) (eVar 0))))) (sExtP 2 (eBin ixD (eVar 3) (eC (.int 2)))) (sApp 2 (eVar 3))
def g_Lflat:SF:=sSeq (sSet 2 (eA lstD aNil)) (sSeq (sFor [1] (eIt (eVar 1)) (gN 3) g_Lflat_b1) (sRet (eA tupD (aCons (eC (.str "flat")) (aCons (eVar 0) (aCons (eA tupleD (aCons (eSortK G_Lhead (eVar 2)) aNil)) aNil))))))
def G_Lflat:DF:=runF 2 4 (g_Lflat)
theorem ok_Lflat (T:Txt mg) (C_Lhead:Cal P w K mg base 28 "_law_head" ["_law_wood_here"] (spF K G_Lhead)) (F:Dfn K mg "_law_flat" s_Lflat ["_law_shade","_law_woods"]):Cal P w K mg base 31 "_law_flat" ["_law_shade","_law_woods"] (spF K (G_Lflat)):=cal_of2 (k:=30) (n:=2) (m:=4) (g:=g_Lflat) F sc_Lflat rfl rfl fun f cdv A outer s H hr=>by
 have hu:=hu_of hr
 exact ss_cons (s_set (i:=2) sc_Lflat.nd rfl (by first | exact Or.inl rfl | exact Or.inr rfl) (q_lst qa_nil))
    (ss_cons (s_for [1] PassesOwn.never rfl (qi_seq (qv 1)) (g_name (i:=3) sc_Lflat.nd rfl (by first | exact Or.inl rfl | exact Or.inr rfl))
    (ss_one (s_if (L2.PW.pt (qw_and (qt_val (q_inst (ty := .Name "tuple" ⟨0,0,0,0⟩) inst_tuple rfl T.b_isinstance (qv 3) rfl T.b_tuple (by decide +kernel))) (qw_and (qt_cmp op_eq d_eq (q_ix ix_seq d_ix (qv 3) q_int (fun _ _=>rfl)) q_str (nomark _)) (qw_and1 (qt_cmp op_eq d_eq (q_ix ix_seq d_ix (qv 3) q_int (fun _ _=>rfl)) (qv 0) (nomark _))))))
    (ss_one (s_extP 2 (q_ix ix_seq d_ix (qv 3) q_int (fun _ _=>rfl))))
    (ss_one (s_app 2 (qv 3))))))
    (ss_one (s_ret (q_tup (qa_cons q_str (qa_cons (qv 0) (qa_cons (q_callTy call_tuple_of d_tuple rfl T.b_tuple (by decide +kernel) (qa_cons (q_sortK C_Lhead (hr.mono (by decide)) rfl T.b_sorted (by decide +kernel) rfl (qv 2)) qa_nil)) qa_nil)))))))
abbrev s_Lgrown:Stmt:=top 14
theorem sc_Lgrown:FnScope ["_law_rows","_law_got","_law_out","_law_at","_law_left","_law_x"] ["_law_rows","_law_got"] (defScope s_Lgrown):=⟨rfl,rfl,rfl,by decide +kernel,rfl,by decide +kernel,by decide +kernel⟩
def g_Lgrown_b1:SF:=sIf (eT (eBin neD (eBin ixD (eBin ixD (eVar 0) (eA max2D (aCons (eVar 5) (aCons (eBin ixD (eVar 1) (eVar 3)) aNil)))) (eA min2D (aCons (eVar 5) (aCons (eBin ixD (eVar 1) (eVar 3)) aNil)))) (eBin ixD (eBin ixD (eVar 0) (eA max2D (aCons (eVar 5) (aCons (eBin ixD (eVar 1) (eC (.int 0))) aNil)))) (eA min2D (aCons (eVar 5) (aCons (eBin ixD (eVar 1) (eC (.int 0))) aNil)))))) (sApp 1 (eVar 5)) (sApp 4 (eVar 5))
def g_Lgrown_w2:SD->Res Bool:=eT (eBin ltD (eVar 3) (eA lenD (aCons (eVar 1) aNil)))
def g_Lgrown_b3:SF:=sSeq (sSet 4 (eA lstD aNil)) (sSeq (sFor [2] (eIt (eVar 2)) (gN 5) g_Lgrown_b1) (sSeq (sFrz [4] (sSet 2 (eVar 4))) (sSet 3 (eBin addD (eVar 3) (eC (.int 1))))))
def g_Lgrown_c4:SD->Res Bool:=eT (eBin (inD true) (eVar 0) (eVar 1))
def g_Lgrown_e5:SD->Res D:=eVar 0
def g_Lgrown:SF:=sSeq (sSet 2 (eComp (eRng1 (aCons (eA lenD (aCons (eVar 0) aNil)) aNil)) (gN 0) g_Lgrown_c4 g_Lgrown_e5 1 [("_law_got",1)])) (sSeq (sSet 3 (eC (.int 1))) (sSeq (sWhile g_Lgrown_w2 g_Lgrown_b3) (sRetV 1)))
def G_Lgrown:DF:=runF 2 6 (g_Lgrown)
theorem ok_Lgrown (T:Txt mg)  (F:Dfn K mg "_law_grown" s_Lgrown ["_law_rows","_law_got"]):Cal P w K mg base 1 "_law_grown" ["_law_rows","_law_got"] (spO K (G_Lgrown)):=cal_of2O (k:=0) (n:=2) (m:=6) (g:=g_Lgrown) F sc_Lgrown rfl rfl fun f cdv A outer s H hr=>by
 have hu:=hu_of hr
 exact ss_cons (s_setComp (i:=2) sc_Lgrown.nd rfl (by first | exact Or.inl rfl | exact Or.inr rfl) (own := ["_law_x"]) (cap := [("_law_got",1)]) (compOk_mk _ rfl _ rfl (by kernel_rfl)) rfl (qi_range1 rfl T.b_range (qa_cons (q_callB call_lenA d_len rfl T.b_len PySem.boot_len (qa_cons (qv 0) qa_nil)) qa_nil)) ⟨fun _ _ _ _ _=>g_name (i:=0) (show (["_law_x","_law_got"]:List Str).Nodup by decide +kernel) rfl (by first | exact Or.inl rfl | exact Or.inr rfl),fun _ _ _ _ _=>qif_one (qt_cmp op_notIn_seq (d_in true) (qv 0) (qv 1) (by with_unfolding_all rfl)),fun _ _ _ _ _=>qv 0⟩)
    (ss_cons (s_set (i:=3) sc_Lgrown.nd rfl (by first | exact Or.inl rfl | exact Or.inr rfl) q_int)
    (ss_cons (s_while PassesOwn.never (qt_cmp op_lt d_lt (qv 3) (q_callB call_lenA d_len rfl T.b_len PySem.boot_len (qa_cons (qv 1) qa_nil)) (nomark _))
    (ss_cons (s_set (i:=4) sc_Lgrown.nd rfl (by first | exact Or.inl rfl | exact Or.inr rfl) (q_lst qa_nil))
    (ss_cons (s_for [2] PassesOwn.never rfl (qi_seq (qv 2)) (g_name (i:=5) sc_Lgrown.nd rfl (by first | exact Or.inl rfl | exact Or.inr rfl))
    (ss_one (s_if (qt_cmp op_ne d_ne (q_ix ix_seq d_ix (q_ix ix_seq d_ix (qv 0) (q_callB (call_max2 rfl) d_max2 rfl T.b_max (by decide +kernel) (qa_cons (qv 5) (qa_cons (q_ix ix_seq d_ix (qv 1) (qv 3) (fun _ _=>rfl)) qa_nil))) (fun _ _=>rfl)) (q_callB (call_min2 rfl) d_min2 rfl T.b_min (by decide +kernel) (qa_cons (qv 5) (qa_cons (q_ix ix_seq d_ix (qv 1) (qv 3) (fun _ _=>rfl)) qa_nil))) (fun _ _=>rfl)) (q_ix ix_seq d_ix (q_ix ix_seq d_ix (qv 0) (q_callB (call_max2 rfl) d_max2 rfl T.b_max (by decide +kernel) (qa_cons (qv 5) (qa_cons (q_ix ix_seq d_ix (qv 1) q_int (fun _ _=>rfl)) qa_nil))) (fun _ _=>rfl)) (q_callB (call_min2 rfl) d_min2 rfl T.b_min (by decide +kernel) (qa_cons (qv 5) (qa_cons (q_ix ix_seq d_ix (qv 1) q_int (fun _ _=>rfl)) qa_nil))) (fun _ _=>rfl)) (nomark _))
    (ss_one (s_app 1 (qv 5)))
    (ss_one (s_app 4 (qv 5))))))
    (ss_cons (s_frz [4] (s_set (i:=2) sc_Lgrown.nd rfl (by first | exact Or.inl rfl | exact Or.inr rfl) (qv 4)))
    (ss_one (s_set (i:=3) sc_Lgrown.nd rfl (by first | exact Or.inl rfl | exact Or.inr rfl) (q_op op_addA d_add (qv 3) q_int)))))))
    (ss_one (s_retV 1))))
abbrev s_Lnone_together:Stmt:=top 15
theorem sc_Lnone_together:FnScope ["_law_rows","_law_k","_law_j"] ["_law_rows"] (defScope s_Lnone_together):=⟨rfl,rfl,rfl,by decide +kernel,rfl,by decide +kernel,by decide +kernel⟩
def g_Lnone_together_b1:SF:=sIf (eT (eBin ltD (eA lenD (aCons (eCallO G_Lgrown (aCons (eVar 0) (aCons (eA lstD (aCons (eVar 2) (aCons (eVar 1) aNil))) aNil))) aNil)) (eA lenD (aCons (eVar 0) aNil)))) (sRet (eC (.bl false))) sNext
def g_Lnone_together_b2:SF:=sFor [] (eRng1 (aCons (eVar 1) aNil)) (gN 2) g_Lnone_together_b1
def g_Lnone_together:SF:=sSeq (sFor [] (eRng1 (aCons (eA lenD (aCons (eVar 0) aNil)) aNil)) (gN 1) g_Lnone_together_b2) (sRet (eC (.bl true)))
def G_Lnone_together:DF:=runF 1 3 (g_Lnone_together)
theorem ok_Lnone_together (T:Txt mg) (C_Lgrown:Cal P w K mg base 1 "_law_grown" ["_law_rows","_law_got"] (spO K G_Lgrown)) (F:Dfn K mg "_law_none_together" s_Lnone_together ["_law_rows"]):Cal P w K mg base 2 "_law_none_together" ["_law_rows"] (spF K (G_Lnone_together)):=cal_of2 (k:=1) (n:=1) (m:=3) (g:=g_Lnone_together) F sc_Lnone_together rfl rfl fun f cdv A outer s H hr=>by
 have hu:=hu_of hr
 exact ss_cons (s_for [] PassesOwn.never rfl (qi_range1 rfl T.b_range (qa_cons (q_callB call_lenA d_len rfl T.b_len PySem.boot_len (qa_cons (qv 0) qa_nil)) qa_nil)) (g_name (i:=1) sc_Lnone_together.nd rfl (by first | exact Or.inl rfl | exact Or.inr rfl))
    (ss_one (s_for [] PassesOwn.never rfl (qi_range1 rfl T.b_range (qa_cons (qv 1) qa_nil)) (g_name (i:=2) sc_Lnone_together.nd rfl (by first | exact Or.inl rfl | exact Or.inr rfl))
    (ss_one (s_if (qt_cmp op_lt d_lt (q_callB call_lenA d_len rfl T.b_len PySem.boot_len (qa_cons (q_calO C_Lgrown (hr.mono (by decide)) rfl (qa_cons (qv 0) (qa_cons (q_lst (qa_cons (qv 2) (qa_cons (qv 1) qa_nil))) qa_nil))) qa_nil)) (q_callB call_lenA d_len rfl T.b_len PySem.boot_len (qa_cons (qv 0) qa_nil)) (nomark _))
    (ss_one (s_ret q_bl))
    (ss_nil))))))
    (ss_one (s_ret q_bl))
abbrev s_Lprime_rows:Stmt:=top 16
theorem sc_Lprime_rows:FnScope ["_law_cell","_law_many","_law_shades_here","_law_rows","_law_k"] ["_law_cell","_law_many","_law_shades_here"] (defScope s_Lprime_rows):=⟨rfl,rfl,rfl,by decide +kernel,rfl,by decide +kernel,by decide +kernel⟩
def g_Lprime_rows_e1:SD->Res D:=eBin ixD (eVar 1) (eA intD (aCons (eBin ltD (eBin addD (eVar 0) (eC (.int 1))) (eVar 2)) aNil))
def g_Lprime_rows_b2:SF:=sApp 3 (eComp (eRng1 (aCons (eVar 4) aNil)) (gN 0) bTrue g_Lprime_rows_e1 1 [("_law_shades_here",2),("_law_k",4)])
def g_Lprime_rows_e3:SD->Res D:=eBin ixD (eVar 1) (eCall G_Lmix (aCons (eBin addD (eBin addD (eVar 2) (eBin mulD (eBin mulD (eC (.int 17)) (eVar 3)) (eVar 3))) (eVar 0)) (aCons (eC (.int 5)) (aCons (eC (.int 3)) aNil))))
def g_Lprime_rows_b4:SF:=sApp 3 (eComp (eRng1 (aCons (eVar 4) aNil)) (gN 0) bTrue g_Lprime_rows_e3 1 [("_law_shades_here",2),("_law_cell",0),("_law_k",4)])
def g_Lprime_rows:SF:=sSeq (sSet 3 (eA lstD aNil)) (sSeq (sFor [] (eRng1 (aCons (eVar 1) aNil)) (gN 4) g_Lprime_rows_b4) (sSeq (sIf (bAnd (bLt3 (eC (.int 3)) (eVar 1) (eC (.int 17))) (bAnd (eT (eBin eqD (eBin modD (eVar 0) (eC (.int 2))) (eC (.int 0)))) (eT (eCall G_Lnone_together (aCons (eVar 3) aNil))))) (sRetV 3) sNext) (sSeq (sIf (eT (eBin eqD (eVar 1) (eC (.int 3)))) (sRet (eA lstD (aCons (eA lstD aNil) (aCons (eA lstD (aCons (eBin ixD (eVar 2) (eC (.int 0))) aNil)) (aCons (eA lstD (aCons (eBin ixD (eVar 2) (eC (.int 1))) (aCons (eBin ixD (eVar 2) (eC (.int 2))) aNil))) aNil))))) sNext) (sSeq (sSet 3 (eA lstD aNil)) (sSeq (sFor [] (eRng1 (aCons (eVar 1) aNil)) (gN 4) g_Lprime_rows_b2) (sRetV 3))))))
def G_Lprime_rows:DF:=runF 3 5 (g_Lprime_rows)
theorem ok_Lprime_rows (T:Txt mg) (C_Lmix:Cal P w K mg base 1 "_law_mix" ["_law_cell","_law_k","_law_many"] (spF K G_Lmix)) (C_Lnone_together:Cal P w K mg base 2 "_law_none_together" ["_law_rows"] (spF K G_Lnone_together)) (F:Dfn K mg "_law_prime_rows" s_Lprime_rows ["_law_cell","_law_many","_law_shades_here"]):Cal P w K mg base 3 "_law_prime_rows" ["_law_cell","_law_many","_law_shades_here"] (spF K (G_Lprime_rows)):=cal_of2 (k:=2) (n:=3) (m:=5) (g:=g_Lprime_rows) F sc_Lprime_rows rfl rfl fun f cdv A outer s H hr=>by
 have hu:=hu_of hr
 exact ss_cons (s_set (i:=3) sc_Lprime_rows.nd rfl (by first | exact Or.inl rfl | exact Or.inr rfl) (q_lst qa_nil))
    (ss_cons (s_for [] PassesOwn.never rfl (qi_range1 rfl T.b_range (qa_cons (qv 1) qa_nil)) (g_name (i:=4) sc_Lprime_rows.nd rfl (by first | exact Or.inl rfl | exact Or.inr rfl))
    (ss_one (s_app 3 (q_comp (own := ["_law_j"]) (cap := [("_law_shades_here",2),("_law_cell",0),("_law_k",4)]) (compOk_mk _ rfl _ rfl (by kernel_rfl)) rfl (qi_range1 rfl T.b_range (qa_cons (qv 4) qa_nil)) ⟨fun _ _ _ _ _=>g_name (i:=0) (show (["_law_j","_law_shades_here","_law_cell","_law_k"]:List Str).Nodup by decide +kernel) rfl (by first | exact Or.inl rfl | exact Or.inr rfl),fun _ _ _ _ _=>qif_nil,fun _ _ _ _ _=>q_ix ix_seq d_ix (qv 1) (q_cal C_Lmix (hr.mono (by decide)) rfl (qa_cons (q_op op_addA d_add (q_op op_addA d_add (qv 2) (q_op op_mulD d_mul (q_op op_mulD d_mul q_int (qv 3)) (qv 3))) (qv 0)) (qa_cons q_int (qa_cons q_int qa_nil)))) (fun _ _=>rfl)⟩))))
    (ss_cons (s_if (L2.PW.pt (qw_and (qt_lt3 q_int (qv 1) q_int) (qw_and (qt_cmp op_eq d_eq (q_op op_mod d_mod (qv 0) q_int) q_int (nomark _)) (qw_and1 (qt_val (q_cal C_Lnone_together (hr.mono (by decide)) rfl (qa_cons (qv 3) qa_nil)))))))
    (ss_one (s_retV 3))
    (ss_nil))
    (ss_cons (s_if (qt_cmp op_eq d_eq (qv 1) q_int (nomark _))
    (ss_one (s_ret (q_lst (qa_cons (q_lst qa_nil) (qa_cons (q_lst (qa_cons (q_ix ix_seq d_ix (qv 2) q_int (fun _ _=>rfl)) qa_nil)) (qa_cons (q_lst (qa_cons (q_ix ix_seq d_ix (qv 2) q_int (fun _ _=>rfl)) (qa_cons (q_ix ix_seq d_ix (qv 2) q_int (fun _ _=>rfl)) qa_nil))) qa_nil))))))
    (ss_nil))
    (ss_cons (s_set (i:=3) sc_Lprime_rows.nd rfl (by first | exact Or.inl rfl | exact Or.inr rfl) (q_lst qa_nil))
    (ss_cons (s_for [] PassesOwn.never rfl (qi_range1 rfl T.b_range (qa_cons (qv 1) qa_nil)) (g_name (i:=4) sc_Lprime_rows.nd rfl (by first | exact Or.inl rfl | exact Or.inr rfl))
    (ss_one (s_app 3 (q_comp (own := ["_law_j"]) (cap := [("_law_shades_here",2),("_law_k",4)]) (compOk_mk _ rfl _ rfl (by kernel_rfl)) rfl (qi_range1 rfl T.b_range (qa_cons (qv 4) qa_nil)) ⟨fun _ _ _ _ _=>g_name (i:=0) (show (["_law_j","_law_shades_here","_law_k"]:List Str).Nodup by decide +kernel) rfl (by first | exact Or.inl rfl | exact Or.inr rfl),fun _ _ _ _ _=>qif_nil,fun _ _ _ _ _=>q_ix ix_seq d_ix (qv 1) (q_callTy call_int1 d_int rfl T.b_int (by decide +kernel) (qa_cons (q_cmp op_lt d_lt (q_op op_addA d_add (qv 0) q_int) (qv 2) (nomark _)) qa_nil)) (fun _ _=>rfl)⟩))))
    (ss_one (s_retV 3)))))))
abbrev s_Lprime:Stmt:=top 17
theorem sc_Lprime:FnScope ["_law_cell","_law_woods","_law_shades_here","_law_rows","_law_order","_law_made","_law_at","_law_row","_law_to","_law_one","_law_other"] ["_law_cell","_law_woods","_law_shades_here"] (defScope s_Lprime):=⟨rfl,rfl,rfl,by decide +kernel,rfl,by decide +kernel,by decide +kernel⟩
def g_Lprime_e1:SD->Res D:=eBin ixD (eVar 2) (eVar 1)
def g_Lprime_b2:SF:=sSeq (sSet 9 (eBin ixD (eBin ixD (eVar 4) (eVar 6)) (eC (.int 1)))) (sSeq (sSet 10 (eBin ixD (eBin ixD (eVar 4) (eVar 8)) (eC (.int 1)))) (sApp 7 (eBin ixD (eBin ixD (eVar 3) (eA max2D (aCons (eVar 9) (aCons (eVar 10) aNil)))) (eA min2D (aCons (eVar 9) (aCons (eVar 10) aNil))))))
def g_Lprime_b3:SF:=sSeq (sSet 7 (eA lstD aNil)) (sSeq (sFor [] (eRng1 (aCons (eVar 6) aNil)) (gN 8) g_Lprime_b2) (sApp 5 (eA tupleD (aCons (eVar 7) aNil))))
def g_Lprime_e4:SD->Res D:=eA tupD (aCons (eCall G_Lhead (aCons (eVar 1) aNil)) (aCons (eVar 0) aNil))
def g_Lprime:SF:=sSeq (sSet 3 (eCall G_Lprime_rows (aCons (eVar 0) (aCons (eA lenD (aCons (eVar 1) aNil)) (aCons (eVar 2) aNil))))) (sSeq (sSet 4 (eA sortedPD (aCons (eComp (eEnum (aCons (eVar 1) aNil)) (gT 2 (gsCons 0 (gsCons 1 gsNil))) bTrue g_Lprime_e4 2 []) aNil))) (sSeq (sSet 5 (eA lstD aNil)) (sSeq (sFor [] (eRng1 (aCons (eA lenD (aCons (eVar 4) aNil)) aNil)) (gN 6) g_Lprime_b3) (sRet (eA tupD (aCons (eC (.str "prime")) (aCons (eA tupleD (aCons (eVar 5) aNil)) (aCons (eA tupleD (aCons (eComp (eIt (eVar 4)) (gT 2 (gsCons 0 (gsCons 1 gsNil))) bTrue g_Lprime_e1 2 [("_law_woods",1)]) aNil)) aNil))))))))
def G_Lprime:DF:=runF 3 11 (g_Lprime)
theorem ok_Lprime (T:Txt mg) (C_Lhead:Cal P w K mg base 28 "_law_head" ["_law_wood_here"] (spF K G_Lhead)) (C_Lprime_rows:Cal P w K mg base 3 "_law_prime_rows" ["_law_cell","_law_many","_law_shades_here"] (spF K G_Lprime_rows)) (F:Dfn K mg "_law_prime" s_Lprime ["_law_cell","_law_woods","_law_shades_here"]):Cal P w K mg base 29 "_law_prime" ["_law_cell","_law_woods","_law_shades_here"] (spF K (G_Lprime)):=cal_of2 (k:=28) (n:=3) (m:=11) (g:=g_Lprime) F sc_Lprime rfl rfl fun f cdv A outer s H hr=>by
 have hu:=hu_of hr
 exact ss_cons (s_set (i:=3) sc_Lprime.nd rfl (by first | exact Or.inl rfl | exact Or.inr rfl) (q_cal C_Lprime_rows (hr.mono (by decide)) rfl (qa_cons (qv 0) (qa_cons (q_callB call_lenA d_len rfl T.b_len PySem.boot_len (qa_cons (qv 1) qa_nil)) (qa_cons (qv 2) qa_nil)))))
    (ss_cons (s_set (i:=4) sc_Lprime.nd rfl (by first | exact Or.inl rfl | exact Or.inr rfl) (q_callB call_sortedP d_sortedP rfl T.b_sorted (by decide +kernel) (qa_cons (q_comp (own := ["_law_k","_law_wood_here"]) (cap := []) (compOk_mk _ rfl _ rfl (by kernel_rfl)) rfl (qi_enum rfl T.b_enumerate (qa_cons (qv 1) qa_nil)) ⟨fun _ _ _ _ _=>g_tup rfl (gs_cons (i:=0) (show (["_law_k","_law_wood_here"]:List Str).Nodup by decide +kernel) rfl (by first | exact Or.inl rfl | exact Or.inr rfl) (gs_cons (i:=1) (show (["_law_k","_law_wood_here"]:List Str).Nodup by decide +kernel) rfl (by first | exact Or.inl rfl | exact Or.inr rfl) gs_nil)),fun _ _ _ _ _=>qif_nil,fun _ _ _ _ _=>q_tup (qa_cons (q_cal C_Lhead (hr.mono (by decide)) rfl (qa_cons (qv 1) qa_nil)) (qa_cons (qv 0) qa_nil))⟩) qa_nil)))
    (ss_cons (s_set (i:=5) sc_Lprime.nd rfl (by first | exact Or.inl rfl | exact Or.inr rfl) (q_lst qa_nil))
    (ss_cons (s_for [] PassesOwn.never rfl (qi_range1 rfl T.b_range (qa_cons (q_callB call_lenA d_len rfl T.b_len PySem.boot_len (qa_cons (qv 4) qa_nil)) qa_nil)) (g_name (i:=6) sc_Lprime.nd rfl (by first | exact Or.inl rfl | exact Or.inr rfl))
    (ss_cons (s_set (i:=7) sc_Lprime.nd rfl (by first | exact Or.inl rfl | exact Or.inr rfl) (q_lst qa_nil))
    (ss_cons (s_for [] PassesOwn.never rfl (qi_range1 rfl T.b_range (qa_cons (qv 6) qa_nil)) (g_name (i:=8) sc_Lprime.nd rfl (by first | exact Or.inl rfl | exact Or.inr rfl))
    (ss_cons (s_set (i:=9) sc_Lprime.nd rfl (by first | exact Or.inl rfl | exact Or.inr rfl) (q_ix ix_seq d_ix (q_ix ix_seq d_ix (qv 4) (qv 6) (fun _ _=>rfl)) q_int (fun _ _=>rfl)))
    (ss_cons (s_set (i:=10) sc_Lprime.nd rfl (by first | exact Or.inl rfl | exact Or.inr rfl) (q_ix ix_seq d_ix (q_ix ix_seq d_ix (qv 4) (qv 8) (fun _ _=>rfl)) q_int (fun _ _=>rfl)))
    (ss_one (s_app 7 (q_ix ix_seq d_ix (q_ix ix_seq d_ix (qv 3) (q_callB (call_max2 rfl) d_max2 rfl T.b_max (by decide +kernel) (qa_cons (qv 9) (qa_cons (qv 10) qa_nil))) (fun _ _=>rfl)) (q_callB (call_min2 rfl) d_min2 rfl T.b_min (by decide +kernel) (qa_cons (qv 9) (qa_cons (qv 10) qa_nil))) (fun _ _=>rfl)))))))
    (ss_one (s_app 5 (q_callTy call_tuple_of d_tuple rfl T.b_tuple (by decide +kernel) (qa_cons (qv 7) qa_nil)))))))
    (ss_one (s_ret (q_tup (qa_cons q_str (qa_cons (q_callTy call_tuple_of d_tuple rfl T.b_tuple (by decide +kernel) (qa_cons (qv 5) qa_nil)) (qa_cons (q_callTy call_tuple_of d_tuple rfl T.b_tuple (by decide +kernel) (qa_cons (q_comp (own := ["_law_head_here","_law_k"]) (cap := [("_law_woods",1)]) (compOk_mk _ rfl _ rfl (by kernel_rfl)) rfl (qi_seq (qv 4)) ⟨fun _ _ _ _ _=>g_tup rfl (gs_cons (i:=0) (show (["_law_head_here","_law_k","_law_woods"]:List Str).Nodup by decide +kernel) rfl (by first | exact Or.inl rfl | exact Or.inr rfl) (gs_cons (i:=1) (show (["_law_head_here","_law_k","_law_woods"]:List Str).Nodup by decide +kernel) rfl (by first | exact Or.inl rfl | exact Or.inr rfl) gs_nil)),fun _ _ _ _ _=>qif_nil,fun _ _ _ _ _=>q_ix ix_seq d_ix (qv 2) (qv 1) (fun _ _=>rfl)⟩) qa_nil)) qa_nil)))))))))
abbrev s_Lwood:Stmt:=top 18
theorem sc_Lwood:FnScope ["_law_cells","_law_places_here","_law_shades_here","_law_order","_law_woods","_law_turn","_law_cell","_law_many","_law_some","_law_knot","_law_shade"] ["_law_cells","_law_places_here","_law_shades_here"] (defScope s_Lwood):=⟨rfl,rfl,rfl,by decide +kernel,rfl,by decide +kernel,by decide +kernel⟩
def g_Lwood_w1:SD->Res Bool:=eT (eBin gtD (eA lenD (aCons (eVar 4) aNil)) (eC (.int 1)))
def g_Lwood_b2:SF:=sSeq (sSet 6 (eBin addD (eBin ixD (eVar 0) (eBin modD (eVar 5) (eA lenD (aCons (eVar 0) aNil)))) (eBin mulD (eC (.int 7)) (eVar 5)))) (sSeq (sSet 7 (eBin addD (eC (.int 2)) (eCall G_Lmix (aCons (eVar 6) (aCons (eC (.int 0)) (aCons (eC (.int 4)) aNil)))))) (sSeq (sIf (eT (eBin eqD (eCall G_Lmix (aCons (eVar 6) (aCons (eC (.int 5)) (aCons (eC (.int 4)) aNil)))) (eC (.int 0)))) (sSet 7 (eBin addD (eC (.int 2)) (eCall G_Lmix (aCons (eVar 6) (aCons (eC (.int 6)) (aCons (eC (.int 23)) aNil)))))) sNext) (sSeq (sSet 7 (eA min2D (aCons (eVar 7) (aCons (eA lenD (aCons (eVar 4) aNil)) aNil)))) (sSeq (sSet 8 (eCut (eVar 4) eP0 (eP (eVar 7)))) (sSeq (sSet 4 (eCut (eVar 4) (eP (eVar 7)) eP0)) (sSeq (sIf (bAnd (eT (eBin gtD (eVar 7) (eC (.int 2)))) (eT (eBin ltD (eCall G_Lmix (aCons (eVar 6) (aCons (eC (.int 1)) (aCons (eC (.int 5)) aNil)))) (eC (.int 3))))) (sSet 9 (eCall G_Lprime (aCons (eVar 6) (aCons (eVar 8) (aCons (eVar 2) aNil))))) (sSeq (sSet 10 (eBin ixD (eBin addD (eVar 2) (eA lstD (aCons (eBin addD (eBin mulD (eVar 5) (eBin powD (eC (.int 10)) (eC (.int 9)))) (eBin modD (eVar 6) (eBin powD (eC (.int 10)) (eC (.int 9))))) aNil))) (eCall G_Lmix (aCons (eVar 6) (aCons (eC (.int 2)) (aCons (eC (.int 4)) aNil)))))) (sSet 9 (eCall G_Lflat (aCons (eVar 10) (aCons (eVar 8) aNil)))))) (sSeq (sIf (eT (eBin eqD (eCall G_Lmix (aCons (eVar 6) (aCons (eC (.int 3)) (aCons (eC (.int 2)) aNil)))) (eC (.int 0)))) (sSet 4 (eBin addD (eA lstD (aCons (eVar 9) aNil)) (eVar 4))) (sApp 4 (eVar 9))) (sSet 5 (eBin addD (eVar 5) (eC (.int 1)))))))))))
def g_Lwood_e3:SD->Res D:=eBin ixD (eVar 2) (eVar 1)
def g_Lwood_e4:SD->Res D:=eA tupD (aCons (eCall G_Lmix (aCons (eBin addD (eBin ixD (eVar 1) (eBin modD (eVar 0) (eA lenD (aCons (eVar 1) aNil)))) (eBin mulD (eC (.int 31)) (eVar 0))) (aCons (eC (.int 4)) (aCons (eC (.int 997)) aNil)))) (aCons (eVar 0) aNil))
def g_Lwood:SF:=sSeq (sSet 3 (eA sortedPD (aCons (eComp (eRng1 (aCons (eA lenD (aCons (eVar 1) aNil)) aNil)) (gN 0) bTrue g_Lwood_e4 1 [("_law_cells",0)]) aNil))) (sSeq (sSet 4 (eComp (eIt (eVar 3)) (gT 2 (gsCons 0 (gsCons 1 gsNil))) bTrue g_Lwood_e3 2 [("_law_places_here",1)])) (sSeq (sSet 5 (eC (.int 0))) (sSeq (sWhile g_Lwood_w1 g_Lwood_b2) (sRet (eBin ixD (eVar 4) (eC (.int 0)))))))
def G_Lwood:DF:=runF 3 11 (g_Lwood)
theorem ok_Lwood (T:Txt mg) (C_Lmix:Cal P w K mg base 1 "_law_mix" ["_law_cell","_law_k","_law_many"] (spF K G_Lmix)) (C_Lflat:Cal P w K mg base 31 "_law_flat" ["_law_shade","_law_woods"] (spF K G_Lflat)) (C_Lprime:Cal P w K mg base 29 "_law_prime" ["_law_cell","_law_woods","_law_shades_here"] (spF K G_Lprime)) (F:Dfn K mg "_law_wood" s_Lwood ["_law_cells","_law_places_here","_law_shades_here"]):Cal P w K mg base 32 "_law_wood" ["_law_cells","_law_places_here","_law_shades_here"] (spF K (G_Lwood)):=cal_of2 (k:=31) (n:=3) (m:=11) (g:=g_Lwood) F sc_Lwood rfl rfl fun f cdv A outer s H hr=>by
 have hu:=hu_of hr
 exact ss_cons (s_set (i:=3) sc_Lwood.nd rfl (by first | exact Or.inl rfl | exact Or.inr rfl) (q_callB call_sortedP d_sortedP rfl T.b_sorted (by decide +kernel) (qa_cons (q_comp (own := ["_law_k"]) (cap := [("_law_cells",0)]) (compOk_mk _ rfl _ rfl (by kernel_rfl)) rfl (qi_range1 rfl T.b_range (qa_cons (q_callB call_lenA d_len rfl T.b_len PySem.boot_len (qa_cons (qv 1) qa_nil)) qa_nil)) ⟨fun _ _ _ _ _=>g_name (i:=0) (show (["_law_k","_law_cells"]:List Str).Nodup by decide +kernel) rfl (by first | exact Or.inl rfl | exact Or.inr rfl),fun _ _ _ _ _=>qif_nil,fun _ _ _ _ _=>q_tup (qa_cons (q_cal C_Lmix (hr.mono (by decide)) rfl (qa_cons (q_op op_addA d_add (q_ix ix_seq d_ix (qv 1) (q_op op_mod d_mod (qv 0) (q_callB call_lenA d_len rfl T.b_len PySem.boot_len (qa_cons (qv 1) qa_nil))) (fun _ _=>rfl)) (q_op op_mulD d_mul q_int (qv 0))) (qa_cons q_int (qa_cons q_int qa_nil)))) (qa_cons (qv 0) qa_nil))⟩) qa_nil)))
    (ss_cons (s_setComp (i:=4) sc_Lwood.nd rfl (by first | exact Or.inl rfl | exact Or.inr rfl) (own := ["_law_mark","_law_k"]) (cap := [("_law_places_here",1)]) (compOk_mk _ rfl _ rfl (by kernel_rfl)) rfl (qi_seq (qv 3)) ⟨fun _ _ _ _ _=>g_tup rfl (gs_cons (i:=0) (show (["_law_mark","_law_k","_law_places_here"]:List Str).Nodup by decide +kernel) rfl (by first | exact Or.inl rfl | exact Or.inr rfl) (gs_cons (i:=1) (show (["_law_mark","_law_k","_law_places_here"]:List Str).Nodup by decide +kernel) rfl (by first | exact Or.inl rfl | exact Or.inr rfl) gs_nil)),fun _ _ _ _ _=>qif_nil,fun _ _ _ _ _=>q_ix ix_seq d_ix (qv 2) (qv 1) (fun _ _=>rfl)⟩)
    (ss_cons (s_set (i:=5) sc_Lwood.nd rfl (by first | exact Or.inl rfl | exact Or.inr rfl) q_int)
    (ss_cons (s_while PassesOwn.never (qt_cmp op_gt d_gt (q_callB call_lenA d_len rfl T.b_len PySem.boot_len (qa_cons (qv 4) qa_nil)) q_int (nomark _))
    (ss_cons (s_set (i:=6) sc_Lwood.nd rfl (by first | exact Or.inl rfl | exact Or.inr rfl) (q_op op_addA d_add (q_ix ix_seq d_ix (qv 0) (q_op op_mod d_mod (qv 5) (q_callB call_lenA d_len rfl T.b_len PySem.boot_len (qa_cons (qv 0) qa_nil))) (fun _ _=>rfl)) (q_op op_mulD d_mul q_int (qv 5))))
    (ss_cons (s_set (i:=7) sc_Lwood.nd rfl (by first | exact Or.inl rfl | exact Or.inr rfl) (q_op op_addA d_add q_int (q_cal C_Lmix (hr.mono (by decide)) rfl (qa_cons (qv 6) (qa_cons q_int (qa_cons q_int qa_nil))))))
    (ss_cons (s_if (qt_cmp op_eq d_eq (q_cal C_Lmix (hr.mono (by decide)) rfl (qa_cons (qv 6) (qa_cons q_int (qa_cons q_int qa_nil)))) q_int (nomark _))
    (ss_one (s_set (i:=7) sc_Lwood.nd rfl (by first | exact Or.inl rfl | exact Or.inr rfl) (q_op op_addA d_add q_int (q_cal C_Lmix (hr.mono (by decide)) rfl (qa_cons (qv 6) (qa_cons q_int (qa_cons q_int qa_nil)))))))
    (ss_nil))
    (ss_cons (s_set (i:=7) sc_Lwood.nd rfl (by first | exact Or.inl rfl | exact Or.inr rfl) (q_callB (call_min2 rfl) d_min2 rfl T.b_min (by decide +kernel) (qa_cons (qv 7) (qa_cons (q_callB call_lenA d_len rfl T.b_len PySem.boot_len (qa_cons (qv 4) qa_nil)) qa_nil))))
    (ss_cons (s_set (i:=8) sc_Lwood.nd rfl (by first | exact Or.inl rfl | exact Or.inr rfl) (q_slice (qv 4) qo_none (qo_some (qv 7))))
    (ss_cons (s_set (i:=4) sc_Lwood.nd rfl (by first | exact Or.inl rfl | exact Or.inr rfl) (q_slice (qv 4) (qo_some (qv 7)) qo_none))
    (ss_cons (s_if (L2.PW.pt (qw_and (qt_cmp op_gt d_gt (qv 7) q_int (nomark _)) (qw_and1 (qt_cmp op_lt d_lt (q_cal C_Lmix (hr.mono (by decide)) rfl (qa_cons (qv 6) (qa_cons q_int (qa_cons q_int qa_nil)))) q_int (nomark _)))))
    (ss_one (s_set (i:=9) sc_Lwood.nd rfl (by first | exact Or.inl rfl | exact Or.inr rfl) (q_cal C_Lprime (hr.mono (by decide)) rfl (qa_cons (qv 6) (qa_cons (qv 8) (qa_cons (qv 2) qa_nil))))))
    (ss_cons (s_set (i:=10) sc_Lwood.nd rfl (by first | exact Or.inl rfl | exact Or.inr rfl) (q_ix ix_seq d_ix (q_op op_addA d_add (qv 2) (q_lst (qa_cons (q_op op_addA d_add (q_op op_mulD d_mul (qv 5) (q_op op_pow d_pow q_int q_int)) (q_op op_mod d_mod (qv 6) (q_op op_pow d_pow q_int q_int))) qa_nil))) (q_cal C_Lmix (hr.mono (by decide)) rfl (qa_cons (qv 6) (qa_cons q_int (qa_cons q_int qa_nil)))) (fun _ _=>rfl)))
    (ss_one (s_set (i:=9) sc_Lwood.nd rfl (by first | exact Or.inl rfl | exact Or.inr rfl) (q_cal C_Lflat (hr.mono (by decide)) rfl (qa_cons (qv 10) (qa_cons (qv 8) qa_nil)))))))
    (ss_cons (s_if (qt_cmp op_eq d_eq (q_cal C_Lmix (hr.mono (by decide)) rfl (qa_cons (qv 6) (qa_cons q_int (qa_cons q_int qa_nil)))) q_int (nomark _))
    (ss_one (s_set (i:=4) sc_Lwood.nd rfl (by first | exact Or.inl rfl | exact Or.inr rfl) (q_op op_addA d_add (q_lst (qa_cons (qv 9) qa_nil)) (qv 4))))
    (ss_one (s_app 4 (qv 9))))
    (ss_one (s_set (i:=5) sc_Lwood.nd rfl (by first | exact Or.inl rfl | exact Or.inr rfl) (q_op op_addA d_add (qv 5) q_int))))))))))))
    (ss_one (s_ret (q_ix ix_seq d_ix (qv 4) q_int (fun _ _=>rfl)))))))
abbrev s_Lplaces:Stmt:=top 19
theorem sc_Lplaces:FnScope ["_law_cell","_law_many","_law_places_here","_law_k"] ["_law_cell","_law_many"] (defScope s_Lplaces):=⟨rfl,rfl,rfl,by decide +kernel,rfl,by decide +kernel,by decide +kernel⟩
def g_Lplaces_b1:SF:=sApp 2 (eBin addD (eBin addD (eBin ixD (eVar 2) (eUn negD (eC (.int 1)))) (eC (.int 1))) (eCall G_Lmix (aCons (eBin addD (eVar 0) (eVar 3)) (aCons (eC (.int 6)) (aCons (eC (.int 3)) aNil)))))
def g_Lplaces:SF:=sSeq (sSet 2 (eA lstD (aCons (eBin modD (eVar 0) (eBin powD (eC (.int 10)) (eC (.int 30)))) aNil))) (sSeq (sFor [] (eRng1 (aCons (eBin subD (eVar 1) (eC (.int 1))) aNil)) (gN 3) g_Lplaces_b1) (sRetV 2))
def G_Lplaces:DF:=runF 2 4 (g_Lplaces)
theorem ok_Lplaces (T:Txt mg) (C_Lmix:Cal P w K mg base 1 "_law_mix" ["_law_cell","_law_k","_law_many"] (spF K G_Lmix)) (F:Dfn K mg "_law_places" s_Lplaces ["_law_cell","_law_many"]):Cal P w K mg base 2 "_law_places" ["_law_cell","_law_many"] (spF K (G_Lplaces)):=cal_of2 (k:=1) (n:=2) (m:=4) (g:=g_Lplaces) F sc_Lplaces rfl rfl fun f cdv A outer s H hr=>by
 have hu:=hu_of hr
 exact ss_cons (s_set (i:=2) sc_Lplaces.nd rfl (by first | exact Or.inl rfl | exact Or.inr rfl) (q_lst (qa_cons (q_op op_mod d_mod (qv 0) (q_op op_pow d_pow q_int q_int)) qa_nil)))
    (ss_cons (s_for [] PassesOwn.never rfl (qi_range1 rfl T.b_range (qa_cons (q_op op_sub d_sub (qv 1) q_int) qa_nil)) (g_name (i:=3) sc_Lplaces.nd rfl (by first | exact Or.inl rfl | exact Or.inr rfl))
    (ss_one (s_app 2 (q_op op_addA d_add (q_op op_addA d_add (q_ix ix_seq d_ix (qv 2) (q_neg q_int) (fun _ _=>rfl)) q_int) (q_cal C_Lmix (hr.mono (by decide)) rfl (qa_cons (q_op op_addA d_add (qv 0) (qv 3)) (qa_cons q_int (qa_cons q_int qa_nil))))))))
    (ss_one (s_retV 2)))
abbrev s_Lshades:Stmt:=top 20
theorem sc_Lshades:FnScope ["_law_cell","_law_one"] ["_law_cell"] (defScope s_Lshades):=⟨rfl,rfl,rfl,by decide +kernel,rfl,by decide +kernel,by decide +kernel⟩
def g_Lshades:SF:=sSeq (sSet 1 (eBin addD (eC (.int 1)) (eBin modD (eVar 0) (eBin powD (eC (.int 10)) (eC (.int 30)))))) (sRet (eBin ixD (eA lstD (aCons (eA lstD (aCons (eC (.int 0)) (aCons (eVar 1) (aCons (eBin addD (eVar 1) (eC (.int 1))) aNil)))) (aCons (eA lstD (aCons (eVar 1) (aCons (eC (.int 0)) (aCons (eBin mulD (eC (.int 2)) (eVar 1)) aNil)))) (aCons (eA lstD (aCons (eC (.int 1)) (aCons (eC (.int 0)) (aCons (eC (.int 2)) aNil)))) aNil)))) (eBin modD (eVar 0) (eC (.int 3)))))
def G_Lshades:DF:=runF 1 2 (g_Lshades)
theorem ok_Lshades (T:Txt mg)  (F:Dfn K mg "_law_shades" s_Lshades ["_law_cell"]):Cal P w K mg base 1 "_law_shades" ["_law_cell"] (spF K (G_Lshades)):=cal_of2 (k:=0) (n:=1) (m:=2) (g:=g_Lshades) F sc_Lshades rfl rfl fun f cdv A outer s H hr=>by
 have hu:=hu_of hr
 exact ss_cons (s_set (i:=1) sc_Lshades.nd rfl (by first | exact Or.inl rfl | exact Or.inr rfl) (q_op op_addA d_add q_int (q_op op_mod d_mod (qv 0) (q_op op_pow d_pow q_int q_int))))
    (ss_one (s_ret (q_ix ix_seq d_ix (q_lst (qa_cons (q_lst (qa_cons q_int (qa_cons (qv 1) (qa_cons (q_op op_addA d_add (qv 1) q_int) qa_nil)))) (qa_cons (q_lst (qa_cons (qv 1) (qa_cons q_int (qa_cons (q_op op_mulD d_mul q_int (qv 1)) qa_nil)))) (qa_cons (q_lst (qa_cons q_int (qa_cons q_int (qa_cons q_int qa_nil)))) qa_nil)))) (q_op op_mod d_mod (qv 0) q_int) (fun _ _=>rfl))))
abbrev s_Lfill:Stmt:=top 21
theorem sc_Lfill:FnScope ["_law_shade_of","_law_wood_here","_law_parts","_law_row","_law_k","_law_j","_law_shade","_law_one","_law_other"] ["_law_shade_of","_law_wood_here"] (defScope s_Lfill):=⟨rfl,rfl,rfl,by decide +kernel,rfl,by decide +kernel,by decide +kernel⟩
def g_Lfill_b1 (R_Lfill:DF):SF:=sDput 0 (eA tupD (aCons (eA max2D (aCons (eVar 7) (aCons (eVar 8) aNil))) (aCons (eA min2D (aCons (eVar 7) (aCons (eVar 8) aNil))) aNil))) (eVar 6)
def g_Lfill_b2 (R_Lfill:DF):SF:=sFor [2,5] (eIt (eBin ixD (eVar 2) (eVar 5))) (gN 8) ((g_Lfill_b1 R_Lfill))
def g_Lfill_b3 (R_Lfill:DF):SF:=sSeq (sSet 6 (eBin ixD (eVar 1) (eC (.int 1)))) (sSeq (sIf (eT (eBin eqD (eBin ixD (eVar 1) (eC (.int 0))) (eC (.str "prime")))) (sSet 6 (eBin ixD (eBin ixD (eBin ixD (eVar 1) (eC (.int 1))) (eVar 4)) (eVar 5))) sNext) (sFor [2,4] (eIt (eBin ixD (eVar 2) (eVar 4))) (gN 7) ((g_Lfill_b2 R_Lfill))))
def g_Lfill_b4 (R_Lfill:DF):SF:=sSeq (sFor [] (eRng1 (aCons (eVar 4) aNil)) (gN 5) ((g_Lfill_b3 R_Lfill))) (sSet 3 (eBin addD (eVar 3) (eBin ixD (eVar 2) (eVar 4))))
def g_Lfill (R_Lfill:DF):SF:=sSeq (sIf (bNot (eT (eUn (instD isTp) (eVar 1)))) (sRetR (eA lstD (aCons (eVar 1) aNil))) sNext) (sSeq (sSetCompR 2 0 (eIt (eBin ixD (eVar 1) (eC (.int 2)))) R_Lfill (aCons (eVar 0) aNil)) (sSeq (sSet 3 (eA lstD aNil)) (sSeq (sFor [] (eRng1 (aCons (eA lenD (aCons (eVar 2) aNil)) aNil)) (gN 4) ((g_Lfill_b4 R_Lfill))) (sRetVR 2))))
def G_Lfill:Nat->DF
 | 0=>fun _=>.bad
 | n + 1=>runR 2 9 (g_Lfill (G_Lfill n))
theorem ok_Lfill (T:Txt mg)  (F:Dfn K mg "_law_fill" s_Lfill ["_law_shade_of","_law_wood_here"]):∀ n:Nat,Cal P w K mg base (n + 1) "_law_fill" ["_law_shade_of","_law_wood_here"] (spR K (G_Lfill n))
 | 0=>cal_badR F
 | n + 1=>cal_of2R (k:=n + 1) (n:=2) (m:=9) (g:=g_Lfill (G_Lfill n)) F sc_Lfill rfl rfl fun f cdv A outer s H hr=>by
  have C_Lfill:=ok_Lfill T  F n
  have hu:=hu_of hr
  exact ss_cons (s_if (qt_not (qt_val (q_inst (ty := .Name "tuple" ⟨0,0,0,0⟩) inst_tuple rfl T.b_isinstance (qv 1) rfl T.b_tuple (by decide +kernel))))
    (ss_one (s_retR (q_lst (qa_cons (qv 1) qa_nil))))
    (ss_nil))
    (ss_cons (s_setCompR (j:=2) (i:=0) sc_Lfill.nd rfl (by first | exact Or.inl rfl | exact Or.inr rfl) (compOk_mk _ rfl _ rfl (by kernel_rfl)) rfl (qi_seq (q_ix ix_seq d_ix (qv 1) q_int (fun _ _=>rfl))) ⟨fun _ _ _ _ _=>g_name (i:=0) (show (["_law_branch","_law_shade_of"]:List Str).Nodup by decide +kernel) rfl (by first | exact Or.inl rfl | exact Or.inr rfl),fun _ _ _ _ _=>qif_nil,fun _ _ _ _ _=>q_calR 1 C_Lfill (hr.mono (by omega)) rfl (qa_cons (qv 0) qa_nil)⟩)
    (ss_cons (s_set (i:=3) sc_Lfill.nd rfl (by first | exact Or.inl rfl | exact Or.inr rfl) (q_lst qa_nil))
    (ss_cons (s_for [] PassesOwn.never rfl (qi_range1 rfl T.b_range (qa_cons (q_callB call_lenA d_len rfl T.b_len PySem.boot_len (qa_cons (qv 2) qa_nil)) qa_nil)) (g_name (i:=4) sc_Lfill.nd rfl (by first | exact Or.inl rfl | exact Or.inr rfl))
    (ss_cons (s_for [] PassesOwn.never rfl (qi_range1 rfl T.b_range (qa_cons (qv 4) qa_nil)) (g_name (i:=5) sc_Lfill.nd rfl (by first | exact Or.inl rfl | exact Or.inr rfl))
    (ss_cons (s_set (i:=6) sc_Lfill.nd rfl (by first | exact Or.inl rfl | exact Or.inr rfl) (q_ix ix_seq d_ix (qv 1) q_int (fun _ _=>rfl)))
    (ss_cons (s_if (qt_cmp op_eq d_eq (q_ix ix_seq d_ix (qv 1) q_int (fun _ _=>rfl)) q_str (nomark _))
    (ss_one (s_set (i:=6) sc_Lfill.nd rfl (by first | exact Or.inl rfl | exact Or.inr rfl) (q_ix ix_seq d_ix (q_ix ix_seq d_ix (q_ix ix_seq d_ix (qv 1) q_int (fun _ _=>rfl)) (qv 4) (fun _ _=>rfl)) (qv 5) (fun _ _=>rfl))))
    (ss_nil))
    (ss_one (s_for [2,4] PassesOwn.never rfl (qi_seq (q_ix ix_seq d_ix (qv 2) (qv 4) (fun _ _=>rfl))) (g_name (i:=7) sc_Lfill.nd rfl (by first | exact Or.inl rfl | exact Or.inr rfl))
    (ss_one (s_for [2,5] PassesOwn.never rfl (qi_seq (q_ix ix_seq d_ix (qv 2) (qv 5) (fun _ _=>rfl))) (g_name (i:=8) sc_Lfill.nd rfl (by first | exact Or.inl rfl | exact Or.inr rfl))
    (ss_one (s_dput 0 hu (q_tup (qa_cons (q_callB (call_max2 rfl) d_max2 rfl T.b_max (by decide +kernel) (qa_cons (qv 7) (qa_cons (qv 8) qa_nil))) (qa_cons (q_callB (call_min2 rfl) d_min2 rfl T.b_min (by decide +kernel) (qa_cons (qv 7) (qa_cons (qv 8) qa_nil))) qa_nil))) (qv 6))))))))))
    (ss_one (s_set (i:=3) sc_Lfill.nd rfl (by first | exact Or.inl rfl | exact Or.inr rfl) (q_op op_addA d_add (qv 3) (q_ix ix_seq d_ix (qv 2) (qv 4) (fun _ _=>rfl)))))))
    (ss_one (s_retVR 2)))))
abbrev s_Lnet:Stmt:=top 22
theorem sc_Lnet:FnScope ["_law_wood_here","_law_shade_of","_law_places_here","_law_rows","_law_k"] ["_law_wood_here"] (defScope s_Lnet):=⟨rfl,rfl,rfl,by decide +kernel,rfl,by decide +kernel,by decide +kernel⟩
def g_Lnet_e1:SD->Res D:=eBin dgetD (eVar 1) (eA tupD (aCons (eBin ixD (eVar 2) (eVar 3)) (aCons (eBin ixD (eVar 2) (eVar 0)) aNil)))
def g_Lnet_b2:SF:=sApp 3 (eA tupleD (aCons (eComp (eRng1 (aCons (eVar 4) aNil)) (gN 0) bTrue g_Lnet_e1 1 [("_law_shade_of",1),("_law_places_here",2),("_law_k",4)]) aNil))
def g_Lnet:SF:=sSeq (sSet 1 (eDict true)) (sSeq (sSetW 2 (sortedW (eCallR 1 ((G_Lfill 26)) (aCons (eVar 0) aNil)))) (sSeq (sSet 3 (eA lstD aNil)) (sSeq (sFor [] (eRng1 (aCons (eA lenD (aCons (eVar 2) aNil)) aNil)) (gN 4) g_Lnet_b2) (sRet (eA tupD (aCons (eA tupleD (aCons (eVar 2) aNil)) (aCons (eA tupleD (aCons (eVar 3) aNil)) aNil)))))))
def G_Lnet:DF:=runF 1 5 (g_Lnet)
theorem ok_Lnet (T:Txt mg) (C_Lfill:Cal P w K mg base 27 "_law_fill" ["_law_shade_of","_law_wood_here"] (spR K (G_Lfill 26))) (F:Dfn K mg "_law_net" s_Lnet ["_law_wood_here"]):Cal P w K mg base 28 "_law_net" ["_law_wood_here"] (spF K (G_Lnet)):=cal_of2 (k:=27) (n:=1) (m:=5) (g:=g_Lnet) F sc_Lnet rfl rfl fun f cdv A outer s H hr=>by
 have hu:=hu_of hr
 exact ss_cons (s_set (i:=1) sc_Lnet.nd rfl (by first | exact Or.inl rfl | exact Or.inr rfl) q_dictT)
    (ss_cons (s_setW (j:=2) sc_Lnet.nd rfl (by first | exact Or.inl rfl | exact Or.inr rfl) (q_sortedW rfl T.b_sorted (q_calR 1 C_Lfill (hr.mono (by decide)) rfl (qa_cons (qv 0) qa_nil))))
    (ss_cons (s_set (i:=3) sc_Lnet.nd rfl (by first | exact Or.inl rfl | exact Or.inr rfl) (q_lst qa_nil))
    (ss_cons (s_for [] PassesOwn.never rfl (qi_range1 rfl T.b_range (qa_cons (q_callB call_lenA d_len rfl T.b_len PySem.boot_len (qa_cons (qv 2) qa_nil)) qa_nil)) (g_name (i:=4) sc_Lnet.nd rfl (by first | exact Or.inl rfl | exact Or.inr rfl))
    (ss_one (s_app 3 (q_callTy call_tuple_of d_tuple rfl T.b_tuple (by decide +kernel) (qa_cons (q_comp (own := ["_law_j"]) (cap := [("_law_shade_of",1),("_law_places_here",2),("_law_k",4)]) (compOk_mk _ rfl _ rfl (by kernel_rfl)) rfl (qi_range1 rfl T.b_range (qa_cons (qv 4) qa_nil)) ⟨fun _ _ _ _ _=>g_name (i:=0) (show (["_law_j","_law_shade_of","_law_places_here","_law_k"]:List Str).Nodup by decide +kernel) rfl (by first | exact Or.inl rfl | exact Or.inr rfl),fun _ _ _ _ _=>qif_nil,fun _ _ _ _ _=>q_dget hu (qv 1) (q_tup (qa_cons (q_ix ix_seq d_ix (qv 2) (qv 3) (fun _ _=>rfl)) (qa_cons (q_ix ix_seq d_ix (qv 2) (qv 0) (fun _ _=>rfl)) qa_nil))) (fun _ _=>rfl)⟩) qa_nil)))))
    (ss_one (s_ret (q_tup (qa_cons (q_callTy call_tuple_of d_tuple rfl T.b_tuple (by decide +kernel) (qa_cons (qv 2) qa_nil)) (qa_cons (q_callTy call_tuple_of d_tuple rfl T.b_tuple (by decide +kernel) (qa_cons (qv 3) qa_nil)) qa_nil))))))))
abbrev s_Lalike:Stmt:=top 23
theorem sc_Lalike:FnScope ["_law_net_here","_law_some","_law_places_here","_law_x","_law_seen","_law_y"] ["_law_net_here","_law_some"] (defScope s_Lalike):=⟨rfl,rfl,rfl,by decide +kernel,rfl,by decide +kernel,by decide +kernel⟩
def g_Lalike_b1:SF:=sIf (eT (eBin (inD false) (eBin ixD (eVar 2) (eVar 5)) (eVar 1))) (sApp 4 (eBin ixD (eBin ixD (eBin ixD (eVar 0) (eC (.int 1))) (eA max2D (aCons (eVar 3) (aCons (eVar 5) aNil)))) (eA min2D (aCons (eVar 3) (aCons (eVar 5) aNil))))) sNext
def g_Lalike_b2:SF:=sIf (eT (eBin (inD true) (eBin ixD (eVar 2) (eVar 3)) (eVar 1))) (sSeq (sSet 4 (eA lstD aNil)) (sSeq (sFor [] (eRng1 (aCons (eA lenD (aCons (eVar 2) aNil)) aNil)) (gN 5) g_Lalike_b1) (sIf (eT (eBin ltD (eCnt (eVar 4) (eBin ixD (eVar 4) (eC (.int 0)))) (eA lenD (aCons (eVar 4) aNil)))) (sRet (eC (.bl false))) sNext))) sNext
def g_Lalike:SF:=sSeq (sSet 2 (eBin ixD (eVar 0) (eC (.int 0)))) (sSeq (sFor [] (eRng1 (aCons (eA lenD (aCons (eVar 2) aNil)) aNil)) (gN 3) g_Lalike_b2) (sRet (eC (.bl true))))
def G_Lalike:DF:=runF 2 6 (g_Lalike)
theorem ok_Lalike (T:Txt mg)  (F:Dfn K mg "_law_alike" s_Lalike ["_law_net_here","_law_some"]):Cal P w K mg base 1 "_law_alike" ["_law_net_here","_law_some"] (spF K (G_Lalike)):=cal_of2 (k:=0) (n:=2) (m:=6) (g:=g_Lalike) F sc_Lalike rfl rfl fun f cdv A outer s H hr=>by
 have hu:=hu_of hr
 exact ss_cons (s_set (i:=2) sc_Lalike.nd rfl (by first | exact Or.inl rfl | exact Or.inr rfl) (q_ix ix_seq d_ix (qv 0) q_int (fun _ _=>rfl)))
    (ss_cons (s_for [] PassesOwn.never rfl (qi_range1 rfl T.b_range (qa_cons (q_callB call_lenA d_len rfl T.b_len PySem.boot_len (qa_cons (qv 2) qa_nil)) qa_nil)) (g_name (i:=3) sc_Lalike.nd rfl (by first | exact Or.inl rfl | exact Or.inr rfl))
    (ss_one (s_if (qt_cmp op_notIn_seq (d_in true) (q_ix ix_seq d_ix (qv 2) (qv 3) (fun _ _=>rfl)) (qv 1) (by with_unfolding_all rfl))
    (ss_cons (s_set (i:=4) sc_Lalike.nd rfl (by first | exact Or.inl rfl | exact Or.inr rfl) (q_lst qa_nil))
    (ss_cons (s_for [] PassesOwn.never rfl (qi_range1 rfl T.b_range (qa_cons (q_callB call_lenA d_len rfl T.b_len PySem.boot_len (qa_cons (qv 2) qa_nil)) qa_nil)) (g_name (i:=5) sc_Lalike.nd rfl (by first | exact Or.inl rfl | exact Or.inr rfl))
    (ss_one (s_if (qt_cmp op_in_seq (d_in false) (q_ix ix_seq d_ix (qv 2) (qv 5) (fun _ _=>rfl)) (qv 1) (by with_unfolding_all rfl))
    (ss_one (s_app 4 (q_ix ix_seq d_ix (q_ix ix_seq d_ix (q_ix ix_seq d_ix (qv 0) q_int (fun _ _=>rfl)) (q_callB (call_max2 rfl) d_max2 rfl T.b_max (by decide +kernel) (qa_cons (qv 3) (qa_cons (qv 5) qa_nil))) (fun _ _=>rfl)) (q_callB (call_min2 rfl) d_min2 rfl T.b_min (by decide +kernel) (qa_cons (qv 3) (qa_cons (qv 5) qa_nil))) (fun _ _=>rfl))))
    (ss_nil))))
    (ss_one (s_if (qt_cmp op_lt d_lt (q_cnt (qv 4) (q_ix ix_seq d_ix (qv 4) q_int (fun _ _=>rfl))) (q_callB call_lenA d_len rfl T.b_len PySem.boot_len (qa_cons (qv 4) qa_nil)) (nomark _))
    (ss_one (s_ret q_bl))
    (ss_nil)))))
    (ss_nil))))
    (ss_one (s_ret q_bl)))
abbrev s_Lcounted:Stmt:=top 24
theorem sc_Lcounted:FnScope ["_law_wood_here","_law_total","_law_doubled","_law_branch"] ["_law_wood_here"] (defScope s_Lcounted):=⟨rfl,rfl,rfl,by decide +kernel,rfl,by decide +kernel,by decide +kernel⟩
def g_Lcounted_b1 (R_Lcounted:DF):SF:=sSet 1 (eBin addD (eVar 1) (eCall R_Lcounted (aCons (eVar 3) aNil)))
def g_Lcounted_b2 (R_Lcounted:DF):SF:=sSet 2 (eBin addD (eVar 2) (eVar 2))
def g_Lcounted (R_Lcounted:DF):SF:=sSeq (sSet 1 (eC (.int 1))) (sSeq (sIf (eT (eUn (instD isTp) (eVar 0))) (sSeq (sIf (eT (eBin eqD (eBin ixD (eVar 0) (eC (.int 0))) (eC (.str "flat")))) (sSeq (sSet 2 (eC (.int 1))) (sSeq (sFor [0] (eIt (eBin ixD (eVar 0) (eC (.int 2)))) (gN 3) ((g_Lcounted_b2 R_Lcounted))) (sSet 1 (eBin subD (eBin subD (eBin addD (eVar 1) (eVar 2)) (eA lenD (aCons (eBin ixD (eVar 0) (eC (.int 2))) aNil))) (eC (.int 2)))))) sNext) (sFor [0] (eIt (eBin ixD (eVar 0) (eC (.int 2)))) (gN 3) ((g_Lcounted_b1 R_Lcounted)))) sNext) (sRetV 1))
def G_Lcounted:Nat->DF
 | 0=>fun _=>.bad
 | n + 1=>runF 1 4 (g_Lcounted (G_Lcounted n))
theorem ok_Lcounted (T:Txt mg)  (F:Dfn K mg "_law_counted" s_Lcounted ["_law_wood_here"]):∀ n:Nat,Cal P w K mg base (n + 1) "_law_counted" ["_law_wood_here"] (spF K (G_Lcounted n))
 | 0=>cal_bad F
 | n + 1=>cal_of2 (k:=n + 1) (n:=1) (m:=4) (g:=g_Lcounted (G_Lcounted n)) F sc_Lcounted rfl rfl fun f cdv A outer s H hr=>by
  have C_Lcounted:=ok_Lcounted T  F n
  have hu:=hu_of hr
  exact ss_cons (s_set (i:=1) sc_Lcounted.nd rfl (by first | exact Or.inl rfl | exact Or.inr rfl) q_int)
    (ss_cons (s_if (qt_val (q_inst (ty := .Name "tuple" ⟨0,0,0,0⟩) inst_tuple rfl T.b_isinstance (qv 0) rfl T.b_tuple (by decide +kernel)))
    (ss_cons (s_if (qt_cmp op_eq d_eq (q_ix ix_seq d_ix (qv 0) q_int (fun _ _=>rfl)) q_str (nomark _))
    (ss_cons (s_set (i:=2) sc_Lcounted.nd rfl (by first | exact Or.inl rfl | exact Or.inr rfl) q_int)
    (ss_cons (s_for [0] PassesOwn.never rfl (qi_seq (q_ix ix_seq d_ix (qv 0) q_int (fun _ _=>rfl))) (g_name (i:=3) sc_Lcounted.nd rfl (by first | exact Or.inl rfl | exact Or.inr rfl))
    (ss_one (s_set (i:=2) sc_Lcounted.nd rfl (by first | exact Or.inl rfl | exact Or.inr rfl) (q_op op_addA d_add (qv 2) (qv 2)))))
    (ss_one (s_set (i:=1) sc_Lcounted.nd rfl (by first | exact Or.inl rfl | exact Or.inr rfl) (q_op op_sub d_sub (q_op op_sub d_sub (q_op op_addA d_add (qv 1) (qv 2)) (q_callB call_lenA d_len rfl T.b_len PySem.boot_len (qa_cons (q_ix ix_seq d_ix (qv 0) q_int (fun _ _=>rfl)) qa_nil))) q_int)))))
    (ss_nil))
    (ss_one (s_for [0] PassesOwn.never rfl (qi_seq (q_ix ix_seq d_ix (qv 0) q_int (fun _ _=>rfl))) (g_name (i:=3) sc_Lcounted.nd rfl (by first | exact Or.inl rfl | exact Or.inr rfl))
    (ss_one (s_set (i:=1) sc_Lcounted.nd rfl (by first | exact Or.inl rfl | exact Or.inr rfl) (q_op op_addA d_add (qv 1) (q_cal C_Lcounted (hr.mono (by omega)) rfl (qa_cons (qv 3) qa_nil))))))))
    (ss_nil))
    (ss_one (s_retV 1)))
abbrev s_Llooked:Stmt:=top 25
theorem sc_Llooked:FnScope ["_law_wood_here","_law_net_here","_law_many","_law_total","_law_mask"] ["_law_wood_here"] (defScope s_Llooked):=⟨rfl,rfl,rfl,by decide +kernel,rfl,by decide +kernel,by decide +kernel⟩
def g_Llooked_c1:SD->Res Bool:=eT (eBin eqD (eBin andD (eBin shrD (eVar 2) (eVar 0)) (eC (.int 1))) (eC (.int 1)))
def g_Llooked_e2:SD->Res D:=eBin ixD (eBin ixD (eVar 1) (eC (.int 0))) (eVar 0)
def g_Llooked_b3:SF:=sIf (eT (eCall G_Lalike (aCons (eVar 1) (aCons (eComp (eRng1 (aCons (eVar 2) aNil)) (gN 0) g_Llooked_c1 g_Llooked_e2 1 [("_law_net_here",1),("_law_mask",4)]) aNil)))) (sSet 3 (eBin addD (eVar 3) (eC (.int 1)))) sNext
def g_Llooked:SF:=sSeq (sSet 1 (eCall G_Lnet (aCons (eVar 0) aNil))) (sSeq (sSet 2 (eA lenD (aCons (eBin ixD (eVar 1) (eC (.int 0))) aNil))) (sSeq (sSet 3 (eC (.int 0))) (sSeq (sFor [] (eRng2 (aCons (eC (.int 1)) (aCons (eBin shlD (eC (.int 1)) (eVar 2)) aNil))) (gN 4) g_Llooked_b3) (sRetV 3))))
def G_Llooked:DF:=runF 1 5 (g_Llooked)
theorem ok_Llooked (T:Txt mg) (C_Lnet:Cal P w K mg base 28 "_law_net" ["_law_wood_here"] (spF K G_Lnet)) (C_Lalike:Cal P w K mg base 1 "_law_alike" ["_law_net_here","_law_some"] (spF K G_Lalike)) (F:Dfn K mg "_law_looked" s_Llooked ["_law_wood_here"]):Cal P w K mg base 29 "_law_looked" ["_law_wood_here"] (spF K (G_Llooked)):=cal_of2 (k:=28) (n:=1) (m:=5) (g:=g_Llooked) F sc_Llooked rfl rfl fun f cdv A outer s H hr=>by
 have hu:=hu_of hr
 exact ss_cons (s_set (i:=1) sc_Llooked.nd rfl (by first | exact Or.inl rfl | exact Or.inr rfl) (q_cal C_Lnet (hr.mono (by decide)) rfl (qa_cons (qv 0) qa_nil)))
    (ss_cons (s_set (i:=2) sc_Llooked.nd rfl (by first | exact Or.inl rfl | exact Or.inr rfl) (q_callB call_lenA d_len rfl T.b_len PySem.boot_len (qa_cons (q_ix ix_seq d_ix (qv 1) q_int (fun _ _=>rfl)) qa_nil)))
    (ss_cons (s_set (i:=3) sc_Llooked.nd rfl (by first | exact Or.inl rfl | exact Or.inr rfl) q_int)
    (ss_cons (s_for [] PassesOwn.never rfl (qi_range2 rfl T.b_range (qa_cons q_int (qa_cons (q_op op_shl d_shl q_int (qv 2)) qa_nil))) (g_name (i:=4) sc_Llooked.nd rfl (by first | exact Or.inl rfl | exact Or.inr rfl))
    (ss_one (s_if (qt_val (q_cal C_Lalike (hr.mono (by decide)) rfl (qa_cons (qv 1) (qa_cons (q_comp (own := ["_law_k"]) (cap := [("_law_net_here",1),("_law_mask",4)]) (compOk_mk _ rfl _ rfl (by kernel_rfl)) rfl (qi_range1 rfl T.b_range (qa_cons (qv 2) qa_nil)) ⟨fun _ _ _ _ _=>g_name (i:=0) (show (["_law_k","_law_net_here","_law_mask"]:List Str).Nodup by decide +kernel) rfl (by first | exact Or.inl rfl | exact Or.inr rfl),fun _ _ _ _ _=>qif_one (qt_cmp op_eq d_eq (q_op op_and d_and (q_op op_shr d_shr (qv 2) (qv 0)) q_int) q_int (nomark _)),fun _ _ _ _ _=>q_ix ix_seq d_ix (q_ix ix_seq d_ix (qv 1) q_int (fun _ _=>rfl)) (qv 0) (fun _ _=>rfl)⟩) qa_nil))))
    (ss_one (s_set (i:=3) sc_Llooked.nd rfl (by first | exact Or.inl rfl | exact Or.inr rfl) (q_op op_addA d_add (qv 3) q_int)))
    (ss_nil))))
    (ss_one (s_retV 3)))))
abbrev s_Lwhole:Stmt:=top 26
theorem sc_Lwhole:FnScope ["_law_found","_law_due"] ["_law_found","_law_due"] (defScope s_Lwhole):=⟨rfl,rfl,rfl,by decide +kernel,rfl,by decide +kernel,by decide +kernel⟩
def g_Lwhole:SF:=sRet (eAnd (eUn (instD isI) (eVar 0)) (eAnd (eNot (eUn (instD isB) (eVar 0))) (eBin eqD (eVar 0) (eVar 1))))
def G_Lwhole:DF:=runF 2 2 (g_Lwhole)
theorem ok_Lwhole (T:Txt mg)  (F:Dfn K mg "_law_whole" s_Lwhole ["_law_found","_law_due"]):Cal P w K mg base 1 "_law_whole" ["_law_found","_law_due"] (spF K (G_Lwhole)):=cal_of2 (k:=0) (n:=2) (m:=2) (g:=g_Lwhole) F sc_Lwhole rfl rfl fun f cdv A outer s H hr=>by
 have hu:=hu_of hr
 exact ss_one (s_ret (q_and (q_inst (ty := .Name "int" ⟨0,0,0,0⟩) inst_int rfl T.b_isinstance (qv 0) rfl T.b_int (by decide +kernel)) (q_and (q_not (q_inst (ty := .Name "bool" ⟨0,0,0,0⟩) inst_bool rfl T.b_isinstance (qv 0) rfl T.b_bool (by decide +kernel))) (q_one (q_cmp op_eq d_eq (qv 0) (qv 1) (nomark _))))))
abbrev s_law:Stmt:=top 27
theorem sc_law:FnScope ["_law_script","_law_many","_law_places_here","_law_shades_here","_law_wood_here","_law_more","_law_small"] ["_law_script"] (defScope s_law):=⟨rfl,rfl,rfl,by decide +kernel,rfl,by decide +kernel,by decide +kernel⟩
def g_law:SF:=sSeq (sSet 1 (eBin addD (eC (.int 1)) (eBin modD (eCall G_Lcell_at (aCons (eVar 0) (aCons (eC (.int 0)) aNil))) (eC (.int 9))))) (sSeq (sIf (eT (eBin eqD (eBin modD (eBin fdivD (eCall G_Lcell_at (aCons (eVar 0) (aCons (eC (.int 0)) aNil))) (eC (.int 9))) (eC (.int 8))) (eC (.int 1)))) (sSet 1 (eBin addD (eC (.int 10)) (eBin modD (eBin fdivD (eCall G_Lcell_at (aCons (eVar 0) (aCons (eC (.int 0)) aNil))) (eC (.int 72))) (eC (.int 15))))) sNext) (sSeq (sSet 2 (eCall G_Lplaces (aCons (eCall G_Lcell_at (aCons (eVar 0) (aCons (eC (.int 1)) aNil))) (aCons (eVar 1) aNil)))) (sSeq (sSet 3 (eCall G_Lshades (aCons (eCall G_Lcell_at (aCons (eVar 0) (aCons (eC (.int 2)) aNil))) aNil))) (sSeq (sSet 4 (eCall G_Lwood (aCons (eBin addD (eCut (eVar 0) (eP (eC (.int 3))) eP0) (eA lstD (aCons (eCall G_Lcell_at (aCons (eVar 0) (aCons (eC (.int 3)) aNil))) aNil))) (aCons (eVar 2) (aCons (eVar 3) aNil))))) (sSeq (sIf (bNot (eT (eCall G_Lwhole (aCons (eCall G_group_count (aCons (eVar 4) aNil)) (aCons (eCall (G_Lcounted 26) (aCons (eVar 4) aNil)) aNil))))) (sRet (eC (.bl false))) sNext) (sSeq (sSet 5 (eCall G_Lplaces (aCons (eCall G_Lcell_at (aCons (eVar 0) (aCons (eC (.int 3)) aNil))) (aCons (eC (.int 6)) aNil)))) (sSeq (sSet 6 (eCall G_Lwood (aCons (eBin addD (eCut (eVar 0) (eP (eC (.int 4))) eP0) (eA lstD (aCons (eCall G_Lcell_at (aCons (eVar 0) (aCons (eC (.int 4)) aNil))) aNil))) (aCons (eCut (eVar 5) eP0 (eP (eBin addD (eC (.int 2)) (eBin modD (eCall G_Lcell_at (aCons (eVar 0) (aCons (eC (.int 4)) aNil))) (eC (.int 5)))))) (aCons (eVar 3) aNil))))) (sSeq (sIf (bNot (eT (eCall G_Lwhole (aCons (eCall G_group_count (aCons (eVar 6) aNil)) (aCons (eCall G_Llooked (aCons (eVar 6) aNil)) aNil))))) (sRet (eC (.bl false))) sNext) (sSeq (sIf (eT (eBin eqD (eVar 1) (eC (.int 1)))) (sRet (eCall G_Lwhole (aCons (eCall G_group_count (aCons (eBin ixD (eVar 2) (eC (.int 0))) aNil)) (aCons (eC (.int 1)) aNil)))) sNext) (sRet (eCall G_Lwhole (aCons (eCall G_group_count (aCons (eA tupD (aCons (eC (.str "flat")) (aCons (eBin ixD (eVar 3) (eC (.int 0))) (aCons (eA tupleD (aCons (eVar 2) aNil)) aNil)))) aNil)) (aCons (eBin subD (eBin shlD (eC (.int 1)) (eVar 1)) (eC (.int 1))) aNil)))))))))))))
def G_law:DF:=runF 1 7 (g_law)
theorem fn_law {f:Addr}{fd:FuncData} (T:Txt mg) (C_group_count:Cal P w K mg base 4 "group_count" ["wood"] (spF K G_group_count)) (C_Lcell_at:Cal P w K mg base 1 "_law_cell_at" ["_law_script","_law_k"] (spF K G_Lcell_at)) (C_Lwood:Cal P w K mg base 32 "_law_wood" ["_law_cells","_law_places_here","_law_shades_here"] (spF K G_Lwood)) (C_Lplaces:Cal P w K mg base 2 "_law_places" ["_law_cell","_law_many"] (spF K G_Lplaces)) (C_Lshades:Cal P w K mg base 1 "_law_shades" ["_law_cell"] (spF K G_Lshades)) (C_Lcounted:Cal P w K mg base 27 "_law_counted" ["_law_wood_here"] (spF K (G_Lcounted 26))) (C_Llooked:Cal P w K mg base 29 "_law_looked" ["_law_wood_here"] (spF K G_Llooked)) (C_Lwhole:Cal P w K mg base 1 "_law_whole" ["_law_found","_law_due"] (spF K G_Lwhole)) (F:Fun K "law" "law" s_law f fd):FnOk P w K mg base CX0 33 f fd ["_law_script"] (spF K (G_law)):=fnok_of2 (k:=32) (n:=1) (m:=7) (g:=g_law) F sc_law rfl rfl fun f cdv A outer s H hr=>by
 have hu:=hu_of hr
 exact ss_cons (s_set (i:=1) sc_law.nd rfl (by first | exact Or.inl rfl | exact Or.inr rfl) (q_op op_addA d_add q_int (q_op op_mod d_mod (q_cal C_Lcell_at (hr.mono (by decide)) rfl (qa_cons (qv 0) (qa_cons q_int qa_nil))) q_int)))
    (ss_cons (s_if (qt_cmp op_eq d_eq (q_op op_mod d_mod (q_op op_fdiv d_fdiv (q_cal C_Lcell_at (hr.mono (by decide)) rfl (qa_cons (qv 0) (qa_cons q_int qa_nil))) q_int) q_int) q_int (nomark _))
    (ss_one (s_set (i:=1) sc_law.nd rfl (by first | exact Or.inl rfl | exact Or.inr rfl) (q_op op_addA d_add q_int (q_op op_mod d_mod (q_op op_fdiv d_fdiv (q_cal C_Lcell_at (hr.mono (by decide)) rfl (qa_cons (qv 0) (qa_cons q_int qa_nil))) q_int) q_int))))
    (ss_nil))
    (ss_cons (s_set (i:=2) sc_law.nd rfl (by first | exact Or.inl rfl | exact Or.inr rfl) (q_cal C_Lplaces (hr.mono (by decide)) rfl (qa_cons (q_cal C_Lcell_at (hr.mono (by decide)) rfl (qa_cons (qv 0) (qa_cons q_int qa_nil))) (qa_cons (qv 1) qa_nil))))
    (ss_cons (s_set (i:=3) sc_law.nd rfl (by first | exact Or.inl rfl | exact Or.inr rfl) (q_cal C_Lshades (hr.mono (by decide)) rfl (qa_cons (q_cal C_Lcell_at (hr.mono (by decide)) rfl (qa_cons (qv 0) (qa_cons q_int qa_nil))) qa_nil)))
    (ss_cons (s_set (i:=4) sc_law.nd rfl (by first | exact Or.inl rfl | exact Or.inr rfl) (q_cal C_Lwood (hr.mono (by decide)) rfl (qa_cons (q_op op_addA d_add (q_slice (qv 0) (qo_some q_int) qo_none) (q_lst (qa_cons (q_cal C_Lcell_at (hr.mono (by decide)) rfl (qa_cons (qv 0) (qa_cons q_int qa_nil))) qa_nil))) (qa_cons (qv 2) (qa_cons (qv 3) qa_nil)))))
    (ss_cons (s_if (qt_not (qt_val (q_cal C_Lwhole (hr.mono (by decide)) rfl (qa_cons (q_cal C_group_count (hr.mono (by decide)) rfl (qa_cons (qv 4) qa_nil)) (qa_cons (q_cal C_Lcounted (hr.mono (by decide)) rfl (qa_cons (qv 4) qa_nil)) qa_nil)))))
    (ss_one (s_ret q_bl))
    (ss_nil))
    (ss_cons (s_set (i:=5) sc_law.nd rfl (by first | exact Or.inl rfl | exact Or.inr rfl) (q_cal C_Lplaces (hr.mono (by decide)) rfl (qa_cons (q_cal C_Lcell_at (hr.mono (by decide)) rfl (qa_cons (qv 0) (qa_cons q_int qa_nil))) (qa_cons q_int qa_nil))))
    (ss_cons (s_set (i:=6) sc_law.nd rfl (by first | exact Or.inl rfl | exact Or.inr rfl) (q_cal C_Lwood (hr.mono (by decide)) rfl (qa_cons (q_op op_addA d_add (q_slice (qv 0) (qo_some q_int) qo_none) (q_lst (qa_cons (q_cal C_Lcell_at (hr.mono (by decide)) rfl (qa_cons (qv 0) (qa_cons q_int qa_nil))) qa_nil))) (qa_cons (q_slice (qv 5) qo_none (qo_some (q_op op_addA d_add q_int (q_op op_mod d_mod (q_cal C_Lcell_at (hr.mono (by decide)) rfl (qa_cons (qv 0) (qa_cons q_int qa_nil))) q_int)))) (qa_cons (qv 3) qa_nil)))))
    (ss_cons (s_if (qt_not (qt_val (q_cal C_Lwhole (hr.mono (by decide)) rfl (qa_cons (q_cal C_group_count (hr.mono (by decide)) rfl (qa_cons (qv 6) qa_nil)) (qa_cons (q_cal C_Llooked (hr.mono (by decide)) rfl (qa_cons (qv 6) qa_nil)) qa_nil)))))
    (ss_one (s_ret q_bl))
    (ss_nil))
    (ss_cons (s_if (qt_cmp op_eq d_eq (qv 1) q_int (nomark _))
    (ss_one (s_ret (q_cal C_Lwhole (hr.mono (by decide)) rfl (qa_cons (q_cal C_group_count (hr.mono (by decide)) rfl (qa_cons (q_ix ix_seq d_ix (qv 2) q_int (fun _ _=>rfl)) qa_nil)) (qa_cons q_int qa_nil)))))
    (ss_nil))
    (ss_one (s_ret (q_cal C_Lwhole (hr.mono (by decide)) rfl (qa_cons (q_cal C_group_count (hr.mono (by decide)) rfl (qa_cons (q_tup (qa_cons q_str (qa_cons (q_ix ix_seq d_ix (qv 3) q_int (fun _ _=>rfl)) (qa_cons (q_callTy call_tuple_of d_tuple rfl T.b_tuple (by decide +kernel) (qa_cons (qv 2) qa_nil)) qa_nil)))) qa_nil)) (qa_cons (q_op op_sub d_sub (q_op op_shl d_shl q_int (qv 1)) q_int) qa_nil))))))))))))))
end
end KL
namespace KL
open DL
theorem mod_ok {f:SD->Res D}{τ:SD}{a b:Int} (h:f τ=.ok (.int a)) (hb:0 < b):eBin modD f (eC (.int b)) τ=.ok (.int (a % b)):=by
 rw [eBin_ok h (show eC (.int b) τ=.ok (.int b) from rfl)]
 simp [iiD,hb]
theorem fdiv_ok {f:SD->Res D}{τ:SD}{a b:Int} (h:f τ=.ok (.int a)) (hb:0 < b/\b < 1073741824):eBin fdivD f (eC (.int b)) τ=.ok (.int (a / b)):=by
 rw [eBin_ok h (show eC (.int b) τ=.ok (.int b) from rfl)]
 simp [iiD,L2.CDiv,hb]
theorem add_ok {f g:SD->Res D}{τ:SD}{a b:Int} (h:f τ=.ok (.int a)) (h2:g τ=.ok (.int b)):eBin addD f g τ=.ok (.int (a + b)):=by rw [eBin_ok h h2]; rfl
theorem eqi_ok {f g:SD->Res D}{τ:SD}{a b:Int} (h:f τ=.ok (.int a)) (h2:g τ=.ok (.int b)):eT (eBin eqD f g) τ=.ok (decide (a=b)):=by
 unfold eT
 rw [eBin_ok h h2]
 show Res.ok (xor false (decide (a=b)))=_
 rw [Bool.false_xor]
theorem gti_ok {f g:SD->Res D}{τ:SD}{a b:Int} (h:f τ=.ok (.int a)) (h2:g τ=.ok (.int b)):eT (eBin gtD f g) τ=.ok (decide (b < a)):=by
 unfold eT
 rw [eBin_ok h h2]
 rfl
theorem lti_ok {f g:SD->Res D}{τ:SD}{a b:Int} (h:f τ=.ok (.int a)) (h2:g τ=.ok (.int b)):eT (eBin ltD f g) τ=.ok (decide (a < b)):=by
 unfold eT
 rw [eBin_ok h h2]
 rfl
theorem run_rt {n N:Nat}{g:SF}{ds:List D}{τ:SD}{d:D} (hl:ds.length=n) (ht:ds.map some ++ List.replicate (N - n) none=τ) (h:g τ=.rt d):runF n N g ds=.ok d:=by
 unfold runF
 rw [if_pos hl,ht,h]
 rfl
theorem ix_ok {f g:SD->Res D}{τ:SD}{x y:D}{r:Res D} (h1:f τ=.ok x) (h2:g τ=.ok y) (h3:ixD x y=r):eBin ixD f g τ=r:=(eBin_ok h1 h2).trans h3
theorem ix_tup {xs:List D}{i:Int}{j:Nat}{d:D} (hi:i=j) (h:xs[j]?=some d):ixD (.tup xs) (.int i)=.ok d:=by
 simp [ixD,atI_of hi h]
theorem ix_lst {t:Tg}{xs:List D}{i:Int}{j:Nat}{d:D} (hi:i=j) (h:xs[j]?=some d):ixD (.lst t xs) (.int i)=.ok d:=by
 simp [ixD,atI_of hi h]
theorem app_nx {i:Nat}{f:SD->Res D}{τ:SD}{xs:List D}{d:D} (h1:τ[i]?=some (some (.lst .own xs))) (h2:f τ=.ok d) (hp:d.hasBor=false) (hl:xs.length < 16777216):sApp i f τ=.nx (τ.set i (some (.lst .own (xs ++ [d])))):=by
 unfold sApp
 have e:ownL τ i=some xs:=by unfold ownL; rw [h1]
 rw [e]
 simp [h2,hp,hl]
theorem len_ok {f:SD->Res D}{τ:SD}{t:Tg}{xs:List D} (h:f τ=.ok (.lst t xs)):eA lenD (aCons f aNil) τ=.ok (.int xs.length):=by
 rw [eA_ok (aOne h)]
 rfl
theorem eT_ok {f:SD->Res D}{τ:SD}{b:Bool} (h:f τ=.ok (.bl b)):eT f τ=.ok b:=by
 unfold eT
 rw [h]
 rfl
theorem if_f {c:SD->Res Bool}{a b:SF}{τ:SD} (h:c τ=.ok false):sIf c a b τ=b τ:=by rw [if_nx h]; rfl
theorem if_t {c:SD->Res Bool}{a b:SF}{τ:SD} (h:c τ=.ok true):sIf c a b τ=a τ:=by rw [if_nx h]; rfl
theorem and_f {f g:SD->Res Bool}{τ:SD} (h:f τ=.ok false):bAnd f g τ=.ok false:=by unfold bAnd; rw [h]; rfl
theorem and_t {f g:SD->Res Bool}{τ:SD}{b:Bool} (h:f τ=.ok true) (h2:g τ=.ok b):bAnd f g τ=.ok b:=by unfold bAnd; rw [h,Res.bind_ok,if_pos rfl,h2]
theorem not_ok {f:SD->Res Bool}{τ:SD}{b:Bool} (h:f τ=.ok b):bNot f τ=.ok (!b):=by unfold bNot; rw [h]; rfl
theorem if_rt {c:SD->Res Bool}{a b s:SF}{τ:SD}{d:D} (h:c τ=.ok true) (h2:a τ=.rt d):sSeq (sIf c a b) s τ=.rt d:=by
 unfold sSeq
 rw [if_t h,h2]
 rfl
theorem if_go {c:SD->Res Bool}{a s:SF}{τ:SD} (h:c τ=.ok false):sSeq (sIf c a sNext) s τ=s τ:=by
 refine seq_nx ?_
 rw [if_f h]
 rfl
theorem seq_rt {a b:SF}{τ:SD}{d:D} (h:a τ=.rt d):sSeq a b τ=.rt d:=by
 unfold sSeq
 rw [h]
 rfl
theorem for_at {js:List Nat}{it:SD->Res (Bool × List D)}{tg:TGD}{body:SF}{τ τ':SD}{ds:List D} (hf:frzAt js τ=τ') (h:it τ'=.ok (false,ds)):sFor js it tg body τ=forD tg body (frzL ds) τ' := by
 unfold sFor
 rw [hf,h]
theorem var_p {i:Nat}{τ:SD}{d:D} (h:τ[i]?=some (some d)) (hp:d.pure=true):eVar i τ=.ok d:=by
 unfold eVar
 rw [h]
 show Res.ok d.view=_
 rw [view_pure d hp]
theorem addL_ok {f g:SD->Res D}{τ:SD}{t u:Tg}{xs ys:List D} (h:f τ=.ok (.lst t xs)) (h2:g τ=.ok (.lst u ys)) (hl:xs.length + ys.length <= 16777216):eBin addD f g τ=.ok (.lst .own (xs ++ ys)):=by
 rw [eBin_ok h h2]
 show (if xs.length + ys.length <= 16777216 then Res.ok (D.lst .own (xs ++ ys)) else .bad)=_
 rw [if_pos hl]
theorem it_tup {f:SD->Res D}{τ:SD}{xs:List D} (h:f τ=.ok (.tup xs)) (hp:pureL xs=true):eIt f τ=.ok (false,xs):=by
 unfold eIt
 rw [h]
 show Res.ok (hasBorL xs,xs)=_
 rw [hasBorL_pure _ hp]
theorem it_lst {f:SD->Res D}{τ:SD}{t:Tg}{xs:List D} (h:f τ=.ok (.lst t xs)) (ht:t ≠ .bor) (hp:pureL xs=true):eIt f τ=.ok (false,xs):=by
 unfold eIt
 rw [h]
 show Res.ok ((decide (t=.bor) || hasBorL xs),xs)=_
 rw [hasBorL_pure _ hp,decide_eq_false ht]
 rfl
inductive Wd
 | leaf (p:Int)
 | flat (c:Int) (bs:List Wd)
 | prime (rows:List (List Int)) (bs:List Wd)
mutual
def Wd.d:Wd->D
 | .leaf p=>.int p
 | .flat c bs=>.tup [.str "flat",.int c,.tup (dL bs)]
 | .prime rows bs=>.tup [.str "prime",.tup (rows.map fun r=>.tup (r.map .int)),.tup (dL bs)]
def dL:List Wd->List D
 | []=>[]
 | b :: r=>b.d :: dL r
end
mutual
def Wd.leaves:Wd->List Int
 | .leaf p=>[p]
 | .flat _ bs=>leavesL bs
 | .prime _ bs=>leavesL bs
def leavesL:List Wd->List Int
 | []=>[]
 | b :: r=>b.leaves ++ leavesL r
end
mutual
def Wd.deep:Wd->Nat
 | .leaf _=>1
 | .flat _ bs=>deepL bs + 1
 | .prime _ bs=>deepL bs + 1
def deepL:List Wd->Nat
 | []=>0
 | b :: r=>max b.deep (deepL r)
end
def small (x:Int):Prop:=x.natAbs < 2 ^ 200
def col (rows:List (List Int)) (a b:Nat):Int:=(rows.getD (max a b) []).getD (min a b) 0
def Mdl (k:Nat) (t:Nat->Nat->Int) (M:Nat->Prop):Prop := ∀ x,x < k->¬ M x->∀ y z,y < k->z < k->M y->M z->t x y=t x z
def Prm (k:Nat) (t:Nat->Nat->Int):Prop:=3 <= k/\∀ M:Nat->Prop,(∃ i j,i < k/\j < k/\i ≠ j/\M i/\M j)->Mdl k t M->∀ x,x < k->M x
def Wd.isFC (c:Int):Wd->Prop
 | .flat d _=>d=c
 | _=>False
mutual
def Wd.good:Wd->Prop
 | .leaf p=>small p
 | .flat c bs=>2 <= bs.length/\goodL bs/\small c/\∀ b ∈ bs,¬ b.isFC c
 | .prime rows bs=>2 <= bs.length/\rows.length=bs.length/\(∀ (i:Nat) (r:List Int),rows[i]?=some r->r.length=i)/\goodL bs/\(∀ r ∈ rows,∀ x ∈ r,small x)/\Prm bs.length (col rows)
def goodL:List Wd->Prop
 | []=>True
 | b :: r=>b.good/\goodL r
end
theorem dL_map:∀ bs:List Wd,dL bs=bs.map Wd.d
 | []=>rfl
 | b :: r=>by show b.d :: dL r=_; rw [dL_map r]; rfl
theorem leavesL_map:∀ bs:List Wd,leavesL bs=bs.flatMap Wd.leaves
 | []=>rfl
 | b :: r=>by show b.leaves ++ leavesL r=_; rw [leavesL_map r,List.flatMap_cons]
theorem goodL_iff:∀ bs:List Wd,goodL bs ↔ ∀ b ∈ bs,b.good
 | []=>by simp [goodL]
 | b :: r=>by show b.good/\goodL r ↔ _; rw [goodL_iff r]; simp
mutual
theorem Wd.pure:∀ w:Wd,w.d.pure=true
 | .leaf p=>rfl
 | .flat c bs=>by show (true && (true && (pureL (dL bs) && true)))=true; rw [dL_pure bs]; rfl
 | .prime rows bs=>by
  show (true && (pureL (rows.map fun r=>D.tup (r.map .int)) && (pureL (dL bs) && true)))=true
  rw [dL_pure bs,pureL_of fun d m=>by obtain ⟨r,_,rfl⟩:=List.mem_map.mp m; exact pure_ints r]
  rfl
theorem dL_pure:∀ bs:List Wd,pureL (dL bs)=true
 | []=>rfl
 | b :: r=>by show (b.d.pure && pureL (dL r))=true; rw [Wd.pure b,dL_pure r]; rfl
end
mutual
theorem Wd.deep_le:∀ w:Wd,w.good->1 <= w.leaves.length/\w.deep <= w.leaves.length
 | .leaf p,_=>⟨Nat.le_refl _,Nat.le_refl _⟩
 | .flat c bs,h=>by
  have:=deepL_le bs h.2.1
  have h2:=h.1
  show 1 <= (leavesL bs).length/\deepL bs + 1 <= (leavesL bs).length
  omega
 | .prime rows bs,h=>by
  have:=deepL_le bs h.2.2.2.1
  have h2:=h.1
  show 1 <= (leavesL bs).length/\deepL bs + 1 <= (leavesL bs).length
  omega
theorem deepL_le:∀ bs:List Wd,goodL bs->bs.length <= (leavesL bs).length/\(1 <= bs.length->deepL bs + bs.length <= (leavesL bs).length + 1)
 | [],_=>⟨Nat.le_refl _,fun h=>by simp at h⟩
 | b :: r,h=>by
  have h1:=Wd.deep_le b h.1
  have h2:=deepL_le r h.2
  show r.length + 1 <= (b.leaves ++ leavesL r).length/\(1 <= r.length + 1->max b.deep (deepL r) + (r.length + 1) <= (b.leaves ++ leavesL r).length + 1)
  rw [List.length_append]
  refine ⟨by omega,fun _=>?_⟩
  rcases Nat.eq_zero_or_pos r.length with e | e
  ·have er:r=[]:=List.length_eq_zero_iff.mp e
   subst er
   show max b.deep 0 + (0 + 1) <= b.leaves.length + 0 + 1
   omega
  ·have:=h2.2 e
   omega
end
theorem deep_mem {bs:List Wd}{b:Wd} (h:b ∈ bs):b.deep <= deepL bs:=by
 induction bs with
 | nil=>cases h
 | cons c r ih =>
  show b.deep <= max c.deep (deepL r)
  rcases List.mem_cons.mp h with rfl | h
  ·omega
  ·have:=ih h; omega
theorem leaves_mem {bs:List Wd}{b:Wd} (h:b ∈ bs):b.leaves.length <= (leavesL bs).length:=by
 induction bs with
 | nil=>cases h
 | cons c r ih =>
  show b.leaves.length <= (c.leaves ++ leavesL r).length
  rw [List.length_append]
  rcases List.mem_cons.mp h with rfl | h
  ·omega
  ·have:=ih h; omega
theorem leaves_knot {n:Nat}{s:PySem.Str}{x:D}{bs:List Wd} (hx:x.pure=true) (hl:(leavesL bs).length <= 16777216) (h:∀ b ∈ bs,G_Lleaves n [b.d]=.ok (.lst .own (b.leaves.map .int))) :
  runF 1 3 (g_Lleaves (G_Lleaves n)) [.tup [.str s,x,.tup (dL bs)]]=.ok (.lst .own ((leavesL bs).map .int)):=by
 have hp:(D.tup [.str s,x,.tup (dL bs)]).pure=true:=by
  show (true && (x.pure && (pureL (dL bs) && true)))=true
  rw [hx,dL_pure bs]; rfl
 refine run_rt rfl rfl ?_
 unfold g_Lleaves
 have v0:∀ r:SD,eVar 0 (some (.tup [.str s,x,.tup (dL bs)]) :: r)=.ok (.tup [.str s,x,.tup (dL bs)]):=fun r=>var_p rfl hp
 have c1:bNot (eT (eUn (instD isTp) (eVar 0))) [some (.tup [.str s,x,.tup (dL bs)]),none,none]=.ok false:=by
  refine not_ok (b:=true) (eT_ok ?_)
  unfold eUn
  rw [v0]
  rfl
 rw [show ([D.tup [.str s,x,.tup (dL bs)]].map some ++ List.replicate (3 - 1) none:SD)=[some (.tup [.str s,x,.tup (dL bs)]),none,none] from rfl]
 rw [if_go c1]
 have s1:sSet 1 (eA lstD aNil) [some (.tup [.str s,x,.tup (dL bs)]),none,none]=.nx [some (.tup [.str s,x,.tup (dL bs)]),some (.lst .own []),none]:=set_nx rfl rfl
 rw [seq_nx s1]
 have hf:frzAt [0] [some (.tup [.str s,x,.tup (dL bs)]),some (.lst .own []),none]=[some (.tup [.str s,x,.tup (dL bs)]),some (.lst .own []),none]:=by
  show [some (D.tup [.str s,x,.tup (dL bs)]).frz,_,_]=_
  rw [frz_pure _ hp]
 have hi:eIt (eBin ixD (eVar 0) (eC (.int 2))) [some (.tup [.str s,x,.tup (dL bs)]),some (.lst .own []),none]=.ok (false,dL bs):=by
  exact it_tup (ix_ok (v0 _) (show eC (.int 2) _=.ok (.int 2) from rfl) (ix_tup (j:=2) rfl rfl)) (dL_pure bs)
 obtain ⟨t,e1,o,e2⟩:=forD_inv (tg:=gN 2) (body:=g_Lleaves_b1 (G_Lleaves n)) (ds:=dL bs) (fun i τ=>∃ o,τ=[some (.tup [.str s,x,.tup (dL bs)]),some (.lst .own ((leavesL (bs.take i)).map .int)),o]) 0 _ ⟨none,rfl⟩ fun j d τ hd hP=>by
  obtain ⟨o,rfl⟩:=hP
  rw [Nat.zero_add] at *
  rw [dL_map] at hd
  obtain ⟨b,hb,rfl⟩:∃ b,bs[j]?=some b/\d=b.d:=by
   rw [List.getElem?_map] at hd
   cases e:bs[j]? with
   | none=>rw [e] at hd; cases hd
   | some b=>rw [e] at hd; cases hd; exact ⟨b,rfl,rfl⟩
  have mem:b ∈ bs:=List.mem_of_getElem? hb
  have et:leavesL (bs.take (j + 1))=leavesL (bs.take j) ++ b.leaves:=by
   rw [leavesL_map,leavesL_map,List.take_add_one,hb,List.flatMap_append]
   simp
  have hlen:(leavesL (bs.take j)).length + b.leaves.length <= 16777216:=by
   rw [<- List.length_append,<- et]
   refine Nat.le_trans ?_ hl
   rw [leavesL_map,leavesL_map]
   conv=>rhs; rw [<- List.take_append_drop (j + 1) bs,List.flatMap_append,List.length_append]
   omega
  refine ⟨_,_,rfl,.inl ?_,some b.d,rfl⟩
  unfold g_Lleaves_b1
  have a1:eVar 1 [some (.tup [.str s,x,.tup (dL bs)]),some (.lst .own ((leavesL (bs.take j)).map .int)),some b.d]=.ok (.lst .bor ((leavesL (bs.take j)).map .int)):=by
   show Res.ok (D.lst .bor (viewL ((leavesL (bs.take j)).map .int)))=_
   rw [view_ints]
  have a2:eCall (G_Lleaves n) (aCons (eVar 2) aNil) [some (.tup [.str s,x,.tup (dL bs)]),some (.lst .own ((leavesL (bs.take j)).map .int)),some b.d]=.ok (.lst .own (b.leaves.map .int)):=by
   refine eCall_own (ds := [b.d]) (aOne (var_p rfl b.pure)) ?_ ?_
   ·rw [show frzL [b.d]=[b.d] by show [b.d.frz]=_; rw [frz_pure _ b.pure]]
    exact h b mem
   ·show (b.d.hasBor || false)=false
    rw [hasBor_pure _ b.pure]; rfl
  have a3:eBin addD (eVar 1) (eCall (G_Lleaves n) (aCons (eVar 2) aNil)) [some (.tup [.str s,x,.tup (dL bs)]),some (.lst .own ((leavesL (bs.take j)).map .int)),some b.d]=.ok (.lst .own ((leavesL (bs.take (j + 1))).map .int)):=by
   rw [addL_ok a1 a2 (by simpa using hlen),et,List.map_append]
  refine (set_nx a3 ?_).trans rfl
  show (decide (Tg.own=.bor) || hasBorL ((leavesL (bs.take (j + 1))).map .int))=false
  rw [bor_ints]; rfl
 have el:(dL bs).length=bs.length:=by rw [dL_map,List.length_map]
 rw [seq_nx ((for_at hf hi).trans (by rw [frzL_pure _ (dL_pure bs)]; exact e1)),e2,Nat.zero_add,el,List.take_length]
 rfl
theorem leaves_eq:∀ (n:Nat) (w:Wd),w.deep <= n->w.good->w.leaves.length <= 16777216->G_Lleaves n [w.d]=.ok (.lst .own (w.leaves.map .int))
 | 0,w,h,_,_=>by cases w <;> simp [Wd.deep] at h
 | n + 1,.leaf p,h,_,_=>rfl
 | n + 1,.flat c bs,h,hg,hl=>by
  have h:deepL bs + 1 <= n + 1:=h
  refine leaves_knot rfl hl fun b hb=>leaves_eq n b ?_ ((goodL_iff bs).mp hg.2.1 b hb) ?_
  ·have:=deep_mem hb; omega
  ·refine Nat.le_trans ?_ hl
   show b.leaves.length <= (leavesL bs).length
   exact leaves_mem hb
 | n + 1,.prime rows bs,h,hg,hl=>by
  have h:deepL bs + 1 <= n + 1:=h
  refine leaves_knot (pureL_of fun d m=>by obtain ⟨r,_,rfl⟩:=List.mem_map.mp m; exact pure_ints r) hl fun b hb=>leaves_eq n b ?_ ((goodL_iff bs).mp hg.2.2.2.1 b hb) ?_
  ·have:=deep_mem hb; omega
  ·refine Nat.le_trans ?_ hl
   show b.leaves.length <= (leavesL bs).length
   exact leaves_mem hb
theorem eqs_ok {f g:SD->Res D}{τ:SD}{a b:PySem.Str} (h:f τ=.ok (.str a)) (h2:g τ=.ok (.str b)):eT (eBin eqD f g) τ=.ok (decide (a=b)):=by
 unfold eT
 rw [eBin_ok h h2]
 show Res.ok (xor false (decide (a=b)))=_
 rw [Bool.false_xor]
theorem mul_r {i j:Int} (h : -(2 ^ 64) < j/\j < 2 ^ 64):CMulD i j := .inl (.inr h)
theorem modv_ok {f g:SD->Res D}{τ:SD}{a b:Int} (h:f τ=.ok (.int a)) (h2:g τ=.ok (.int b)) (hb:0 < b):eBin modD f g τ=.ok (.int (a % b)):=by
 rw [eBin_ok h h2]
 simp [iiD,hb]
theorem mulv_ok {f g:SD->Res D}{τ:SD}{a b:Int} (h:f τ=.ok (.int a)) (h2:g τ=.ok (.int b)) (hb:CMulD a b):eBin mulD f g τ=.ok (.int (a * b)):=by
 rw [eBin_ok h h2]
 simp [iiD,hb]
theorem mix_ok {c k m:Int} (hk:0 <= k/\k < 7) (hm:0 < m):∃ r,0 <= r/\r < m/\G_Lmix [.int c,.int k,.int m]=.ok (.int r):=by
 obtain ⟨p,hp0,hp1,hix⟩:∃ p:Int,0 < p/\p < 10000/\ixD (.lst .own [.int 7919,.int 6007,.int 5003,.int 9973,.int 8009,.int 4999,.int 7793]) (.int (k % 7))=.ok (.int p):=by
  have:k=0 ∨ k=1 ∨ k=2 ∨ k=3 ∨ k=4 ∨ k=5 ∨ k=6:=by omega
  rcases this with rfl | rfl | rfl | rfl | rfl | rfl | rfl <;> refine ⟨_,?_,?_,rfl⟩ <;> decide
 refine ⟨(c % p + 1) * 48271 % p % m,Int.emod_nonneg _ (Int.ne_of_gt hm),Int.emod_lt_of_pos _ hm,run_rt rfl rfl ?_⟩
 unfold g_Lmix
 have e1:eBin ixD (eA lstD (aCons (eC (.int 7919)) (aCons (eC (.int 6007)) (aCons (eC (.int 5003)) (aCons (eC (.int 9973)) (aCons (eC (.int 8009)) (aCons (eC (.int 4999)) (aCons (eC (.int 7793)) aNil)))))))) (eBin modD (eVar 1) (eC (.int 7))) [some (.int c),some (.int k),some (.int m),none]=.ok (.int p) :=
  ix_ok rfl (mod_ok rfl (by decide)) hix
 rw [show ([D.int c,.int k,.int m].map some ++ List.replicate (4 - 3) none:SD)=[some (.int c),some (.int k),some (.int m),none] from rfl,seq_nx (set_nx e1 rfl)]
 show sRet _ [some (.int c),some (.int k),some (.int m),some (.int p)]=_
 have e2:eBin modD (eBin modD (eBin mulD (eBin addD (eBin modD (eVar 0) (eVar 3)) (eC (.int 1))) (eC (.int 48271))) (eVar 3)) (eVar 2) [some (.int c),some (.int k),some (.int m),some (.int p)]=.ok (.int ((c % p + 1) * 48271 % p % m)) :=
  modv_ok (modv_ok (mulv_ok (add_ok (modv_ok rfl rfl hp0) rfl) rfl (mul_r (by decide))) rfl hp0) rfl hm
 unfold sRet
 rw [e2]
 rfl
theorem plainL_of:∀ {ds:List D},(∀ d ∈ ds,d.plain=true)->plainL ds=true
 | [],_=>rfl
 | d :: r,h=>by
  show (d.plain && plainL r)=true
  rw [h d List.mem_cons_self,plainL_of fun e m=>h e (List.mem_cons_of_mem _ m)]
  rfl
theorem plain_ints (ns:List Int):plainL (ns.map D.int)=true:=plainL_of fun d m=>by obtain ⟨n,_,rfl⟩:=List.mem_map.mp m; rfl
mutual
theorem Wd.plain:∀ w:Wd,w.d.plain=true
 | .leaf p=>rfl
 | .flat c bs=>by show (true && (true && (plainL (dL bs) && true)))=true; rw [dL_plain bs]; rfl
 | .prime rows bs=>by
  show (true && (plainL (rows.map fun r=>D.tup (r.map .int)) && (plainL (dL bs) && true)))=true
  rw [dL_plain bs,plainL_of fun d m=>by obtain ⟨r,_,rfl⟩:=List.mem_map.mp m; exact plain_ints r]
  rfl
theorem dL_plain:∀ bs:List Wd,plainL (dL bs)=true
 | []=>rfl
 | b :: r=>by show (b.d.plain && plainL (dL r))=true; rw [Wd.plain b,dL_plain r]; rfl
end
def Wd.head (w:Wd):Int:=L2.least w.leaves
theorem head_eq {w:Wd} (hg:w.good) (hl:w.leaves.length <= 24):G_Lhead [w.d]=.ok (.int w.head):=by
 have hd:=w.deep_le hg
 refine run_rt rfl rfl ?_
 unfold g_Lhead
 have e:eCall (G_Lleaves 26) (aCons (eVar 0) aNil) [some w.d]=.ok (.lst .own (w.leaves.map .int)):=by
  refine eCall_own (ds := [w.d]) (aOne (var_p rfl w.pure)) ?_ ?_
  ·rw [show frzL [w.d]=[w.d] by show [w.d.frz]=_; rw [frz_pure _ w.pure]]
   exact leaves_eq 26 w (by omega) hg (by omega)
  ·show (w.d.hasBor || false)=false
   rw [hasBor_pure _ w.pure]; rfl
 show sRet _ [some w.d]=_
 unfold sRet
 rw [eA_ok (aOne e)]
 show (min1D [.lst .own (w.leaves.map .int)]).toFl _ _=_
 unfold min1D
 simp only [ints_map]
 rw [if_pos (by omega)]
 rfl
def part (c:Int):Wd->List Wd
 | .leaf p=>[.leaf p]
 | .flat e bs=>if e=c then bs else [.flat e bs]
 | .prime r bs=>[.prime r bs]
theorem part_flat (c e:Int) (bs:List Wd):part c (.flat e bs)=if e=c then bs else [.flat e bs]:=rfl
theorem ret_ok {f:SD->Res D}{τ:SD}{d:D} (h:f τ=.ok d) (hp:d.pure=true):sRet f τ=.rt d:=by
 unfold sRet
 rw [h]
 show Fl.rt d.unbor=_
 rw [unbor_id d (hasBor_pure d hp)]
def parts (c:Int) (ws:List Wd):List Wd:=ws.flatMap (part c)
theorem part_leaves (c:Int) (w:Wd):leavesL (part c w)=w.leaves:=by
 cases w with
 | leaf p=>rfl
 | flat e bs =>
  rw [part_flat]
  split
  ·rfl
  ·show leavesL bs ++ []=leavesL bs
   rw [List.append_nil]
 | prime r bs =>
  show leavesL bs ++ []=leavesL bs
  rw [List.append_nil]
theorem leavesL_append (a b:List Wd):leavesL (a ++ b)=leavesL a ++ leavesL b:=by rw [leavesL_map,leavesL_map,leavesL_map,List.flatMap_append]
theorem parts_leaves (c:Int) (ws:List Wd):leavesL (parts c ws)=leavesL ws:=by
 induction ws with
 | nil=>rfl
 | cons w r ih =>
  show leavesL (part c w ++ parts c r)=w.leaves ++ leavesL r
  rw [leavesL_append,part_leaves,ih]
theorem part_good {c:Int}{w:Wd} (h:w.good):1 <= (part c w).length/\∀ b ∈ part c w,b.good/\¬ b.isFC c:=by
 cases w with
 | leaf p=>exact ⟨Nat.le_refl _,fun b m=>by rw [List.mem_singleton.mp m]; exact ⟨h,fun z=>z⟩⟩
 | flat e bs =>
  rw [part_flat]
  split
  ·rename_i e
   subst e
   exact ⟨Nat.le_trans (by decide) h.1,fun b m=>⟨(goodL_iff bs).mp h.2.1 b m,h.2.2.2 b m⟩⟩
  ·rename_i e
   exact ⟨Nat.le_refl _,fun b m=>by rw [List.mem_singleton.mp m]; exact ⟨h,e⟩⟩
 | prime r bs=>exact ⟨Nat.le_refl _,fun b m=>by rw [List.mem_singleton.mp m]; exact ⟨h,fun z=>z⟩⟩
theorem parts_good {c:Int}{ws:List Wd} (h:goodL ws):ws.length <= (parts c ws).length/\goodL (parts c ws)/\∀ b ∈ parts c ws,¬ b.isFC c:=by
 induction ws with
 | nil=>exact ⟨Nat.le_refl _,trivial,fun b m=>by cases m⟩
 | cons w r ih =>
  obtain ⟨i1,i2,i3⟩:=ih h.2
  obtain ⟨p1,p2⟩:=part_good (c:=c) h.1
  show r.length + 1 <= (part c w ++ parts c r).length/\goodL (part c w ++ parts c r)/\∀ b ∈ part c w ++ parts c r,¬ b.isFC c
  rw [List.length_append,goodL_iff]
  exact ⟨by omega,fun b m=>(List.mem_append.mp m).elim (fun m=>(p2 b m).1) ((goodL_iff _).mp i2 b),fun b m=>(List.mem_append.mp m).elim (fun m=>(p2 b m).2) (i3 b)⟩
theorem keys_heads:∀ {ws:List Wd},goodL ws->(∀ w ∈ ws,w.leaves.length <= 24)->keysD G_Lhead (dL ws)=some (ws.map Wd.head)
 | [],_,_=>rfl
 | w :: r,h,hl=>by
  show (match G_Lhead [w.d] with | .ok (.int k)=>(keysD G_Lhead (dL r)).map fun ks=>k :: ks | _=>none)=_
  rw [head_eq h.1 (hl w List.mem_cons_self),keys_heads h.2 fun b m=>hl b (List.mem_cons_of_mem _ m)]
  rfl
def flatW (c:Int) (ws:List Wd):Wd := .flat c (SR.ordered (.leaf 0) (SR.kzLt ((parts c ws).map Wd.head)) (parts c ws))
theorem flatW_leaves (c:Int) (ws:List Wd):(flatW c ws).leaves.Perm (leavesL ws):=by
 show (leavesL (SR.ordered _ _ _)).Perm _
 rw [<- parts_leaves c ws,leavesL_map,leavesL_map]
 exact (SR.ordered_perm _ _ _).flatMap_right _
theorem flatW_good {c:Int}{ws:List Wd} (hc:small c) (h:goodL ws) (h2:2 <= ws.length):(flatW c ws).good:=by
 obtain ⟨p1,p2,p3⟩:=parts_good (c:=c) h
 refine ⟨?_,(goodL_iff _).mpr fun b m=>(goodL_iff _).mp p2 b ((SR.ordered_perm _ _ _).mem_iff.mp m),hc,fun b m=>p3 b ((SR.ordered_perm _ _ _).mem_iff.mp m)⟩
 rw [(SR.ordered_perm _ _ _).length_eq]
 omega
def fSt (c:Int) (ws:List Wd) (ps:List Wd) (o:Option D):SD := [some (.int c),some (.lst .frz (dL ws)),some (.lst .own (dL ps)),o]
theorem dL_append (a b:List Wd):dL (a ++ b)=dL a ++ dL b:=by rw [dL_map,dL_map,dL_map,List.map_append]
theorem dL_len (a:List Wd):(dL a).length=a.length:=by rw [dL_map,List.length_map]
theorem flat_body (c:Int) (ws ps:List Wd) (w:Wd) (hl:ps.length + (part c w).length <= 16777216) (h1:ps.length < 16777216):g_Lflat_b1 (fSt c ws ps (some w.d))=.nx (fSt c ws (ps ++ part c w) (some w.d)):=by
 have v3:eVar 3 (fSt c ws ps (some w.d))=.ok w.d:=var_p rfl w.pure
 have app:sApp 2 (eVar 3) (fSt c ws ps (some w.d))=.nx (fSt c ws (ps ++ [w]) (some w.d)):=by
  rw [app_nx (xs:=dL ps) (d:=w.d) rfl v3 (hasBor_pure _ w.pure) (by rw [dL_len]; exact h1)]
  show Fl.nx [some (.int c),some (.lst .frz (dL ws)),some (.lst .own (dL ps ++ [w.d])),some w.d]=_
  unfold fSt
  rw [dL_append]
  rfl
 unfold g_Lflat_b1
 cases w with
 | leaf p =>
  rw [if_f (and_f (eT_ok (by unfold eUn; rw [v3]; rfl)))]
  exact app
 | prime r bs =>
  have i0:eBin ixD (eVar 3) (eC (.int 0)) (fSt c ws ps (some (Wd.prime r bs).d))=.ok (.str "prime"):=ix_ok v3 rfl rfl
  have z:eT (eBin eqD (eBin ixD (eVar 3) (eC (.int 0))) (eC (.str "flat"))) (fSt c ws ps (some (Wd.prime r bs).d))=.ok false:=(eqs_ok i0 rfl).trans (congrArg Res.ok (by decide +kernel))
  rw [if_f (and_t (eT_ok (by unfold eUn; rw [v3]; rfl)) (and_f z))]
  exact app
 | flat e bs =>
  have i0:eBin ixD (eVar 3) (eC (.int 0)) (fSt c ws ps (some (Wd.flat e bs).d))=.ok (.str "flat"):=ix_ok v3 rfl rfl
  have i1:eBin ixD (eVar 3) (eC (.int 1)) (fSt c ws ps (some (Wd.flat e bs).d))=.ok (.int e):=ix_ok v3 rfl rfl
  have i2:eBin ixD (eVar 3) (eC (.int 2)) (fSt c ws ps (some (Wd.flat e bs).d))=.ok (.tup (dL bs)):=ix_ok v3 rfl rfl
  have z:eT (eBin eqD (eBin ixD (eVar 3) (eC (.int 0))) (eC (.str "flat"))) (fSt c ws ps (some (Wd.flat e bs).d))=.ok true:=(eqs_ok i0 rfl).trans (congrArg Res.ok (by decide +kernel))
  have z2:eT (eBin eqD (eBin ixD (eVar 3) (eC (.int 1))) (eVar 0)) (fSt c ws ps (some (Wd.flat e bs).d))=.ok (decide (e=c)):=eqi_ok i1 rfl
  have cc:=and_t (eT_ok (show eUn (instD isTp) (eVar 3) (fSt c ws ps (some (Wd.flat e bs).d))=.ok (.bl true) by unfold eUn; rw [v3]; rfl)) (and_t z z2)
  by_cases he:e=c
  ·rw [decide_eq_true he] at cc
   rw [if_t cc]
   have ep:part c (Wd.flat e bs)=bs:=by rw [part_flat,if_pos he]
   rw [ep] at hl ⊢
   unfold sExtP
   rw [show ownL (fSt c ws ps (some (Wd.flat e bs).d)) 2=some (dL ps) from rfl]
   show (eBin ixD (eVar 3) (eC (.int 2)) (fSt c ws ps (some (Wd.flat e bs).d))).toFl _ _=_
   rw [i2,toFl_ok]
   show (if plainL (dL bs)=true/\(dL ps).length + (dL bs).length <= 16777216 then Fl.nx ((fSt c ws ps (some (Wd.flat e bs).d)).set 2 (some (.lst .own (dL ps ++ dL bs)))) else .bad)=_
   rw [if_pos ⟨dL_plain bs,by rw [dL_len,dL_len]; exact hl⟩,<- dL_append]
   rfl
  ·rw [decide_eq_false he] at cc
   rw [if_f cc]
   have ep:part c (Wd.flat e bs)=[Wd.flat e bs]:=by rw [part_flat,if_neg he]
   rw [ep]
   exact app
theorem flat_eq {c:Int}{ws:List Wd} (hg:goodL ws) (hl:(leavesL ws).length <= 24):G_Lflat [.int c,.lst .frz (dL ws)]=.ok (flatW c ws).d:=by
 obtain ⟨p1,p2,_⟩:=parts_good (c:=c) hg
 have pl:=(deepL_le _ p2).1
 rw [parts_leaves] at pl
 refine run_rt rfl rfl ?_
 unfold g_Lflat
 have s1:sSet 2 (eA lstD aNil) [some (.int c),some (.lst .frz (dL ws)),none,none]=.nx (fSt c ws [] none):=set_nx rfl rfl
 rw [show ([D.int c,.lst .frz (dL ws)].map some ++ List.replicate (4 - 2) none:SD)=[some (.int c),some (.lst .frz (dL ws)),none,none] from rfl,seq_nx s1]
 have v1:eVar 1 (fSt c ws [] none)=.ok (.lst .frz (dL ws)):=by
  show Res.ok (D.lst .frz (viewL (dL ws)))=_
  rw [viewL_pure _ (dL_pure ws)]
 have hf:frzAt [1] (fSt c ws [] none)=fSt c ws [] none:=by
  show [some (D.int c),some (D.lst .frz (frzL (dL ws))),some (.lst .own []),none]=_
  rw [frzL_pure _ (dL_pure ws)]
  rfl
 obtain ⟨t,e1,o,e2⟩:=forD_inv (tg:=gN 3) (body:=g_Lflat_b1) (ds:=dL ws) (fun i τ=>∃ o,τ=fSt c ws (parts c (ws.take i)) o) 0 _ ⟨none,rfl⟩ fun j d τ hd hP=>by
  obtain ⟨o,rfl⟩:=hP
  rw [Nat.zero_add] at *
  rw [dL_map] at hd
  obtain ⟨w,hw,rfl⟩:∃ b,ws[j]?=some b/\d=b.d:=by
   rw [List.getElem?_map] at hd
   cases e:ws[j]? with
   | none=>rw [e] at hd; cases hd
   | some b=>rw [e] at hd; cases hd; exact ⟨b,rfl,rfl⟩
  have et:parts c (ws.take (j + 1))=parts c (ws.take j) ++ part c w:=by
   unfold parts
   rw [List.take_add_one,hw,List.flatMap_append]
   simp
  have eall:parts c ws=parts c (ws.take (j + 1)) ++ parts c (ws.drop (j + 1)):=by
   unfold parts
   rw [<- List.flatMap_append,List.take_append_drop]
  have hlen:(parts c (ws.take j)).length + (part c w).length <= 24:=by
   rw [<- List.length_append,<- et]
   have:=congrArg List.length eall
   rw [List.length_append] at this
   omega
  refine ⟨_,_,rfl,.inl (flat_body c ws (parts c (ws.take j)) w (by omega) (by omega)),some w.d,?_⟩
  rw [et]
 rw [seq_nx ((for_at hf (it_lst v1 (by decide) (dL_pure ws))).trans (by rw [frzL_pure _ (dL_pure ws)]; exact e1)),e2,Nat.zero_add,dL_len,List.take_length]
 have v2:eVar 2 (fSt c ws (parts c ws) o)=.ok (.lst .bor (dL (parts c ws))):=by
  show Res.ok (D.lst .bor (viewL (dL (parts c ws))))=_
  rw [viewL_pure _ (dL_pure _)]
 have so:eSortK G_Lhead (eVar 2) (fSt c ws (parts c ws) o)=.ok (.lst .own (SR.ordered .non (SR.kzLt ((parts c ws).map Wd.head)) (dL (parts c ws)))):=by
  unfold eSortK
  rw [v2,Res.bind_ok]
  unfold sortKD
  show (if plainL (dL (parts c ws))=true/\(dL (parts c ws)).length < 64 then _ else _)=_
  rw [if_pos ⟨dL_plain _,by rw [dL_len]; omega⟩,keys_heads p2 fun w m=>?_]
  have:=leaves_mem m
  rw [parts_leaves] at this
  omega
 have eo:SR.ordered D.non (SR.kzLt ((parts c ws).map Wd.head)) (dL (parts c ws))=dL (SR.ordered (.leaf 0) (SR.kzLt ((parts c ws).map Wd.head)) (parts c ws)):=by
  rw [dL_map,dL_map,SR.ordered_map Wd.d (.leaf 0) .non]
 rw [eo] at so
 have fin:eA tupD (aCons (eC (.str "flat")) (aCons (eVar 0) (aCons (eA tupleD (aCons (eSortK G_Lhead (eVar 2)) aNil)) aNil))) (fSt c ws (parts c ws) o)=.ok (flatW c ws).d:=by
  rw [eA_ok (aCons_ok rfl (aCons_ok rfl (aOne ((eA_ok (aOne so)).trans rfl))))]
  rfl
 exact ret_ok fin (Wd.pure _)
theorem in_ints (b:Bool) (x:Int) (t:Tg) (qs:List Int):inD b (.int x) (.lst t (qs.map .int))=.ok (.bl (if b then !decide (x ∈ qs) else decide (x ∈ qs))):=by
 have h1:(qs.map D.int).all D.flat=true:=List.all_eq_true.mpr fun d m=>by
  obtain ⟨q,_,rfl⟩:=List.mem_map.mp m
  rfl
 have h2:inF (.int x) (qs.map D.int)=decide (x ∈ qs):=by
  unfold inF
  rw [Bool.eq_iff_iff,List.any_eq_true,decide_eq_true_eq]
  constructor
  ·rintro ⟨y,hy,e⟩
   obtain ⟨z,hz,rfl⟩:=List.mem_map.mp hy
   have e:z=x:=by first | exact of_decide_eq_true e | exact eq_of_beq e | simpa [eqF] using e
   rw [<- e]
   exact hz
  ·intro h
   exact ⟨.int x,List.mem_map.mpr ⟨x,h,rfl⟩,by first | exact decide_eq_true rfl | exact beq_self_eq_true x | simp [eqF]⟩
 show (if (D.int x).flat=true/\(qs.map D.int).all D.flat=true then Res.ok (D.bl (if b then !inF (.int x) (qs.map .int) else inF (.int x) (qs.map .int))) else .bad)=_
 rw [if_pos ⟨rfl,h1⟩,h2]
theorem nei_ok {f g:SD->Res D}{τ:SD}{a b:Int} (h:f τ=.ok (.int a)) (h2:g τ=.ok (.int b)):eT (eBin neD f g) τ=.ok (!decide (a=b)):=by
 unfold eT
 rw [eBin_ok h h2]
 show Res.ok (xor true (decide (a=b)))=_
 rw [Bool.true_xor]
def RD (t:Tg) (rows:List (List Int)):D := .lst t (rows.map fun r=>.lst t (r.map .int))
def Tri (rows:List (List Int)):Prop := ∀ (i:Nat) (r:List Int),rows[i]?=some r->r.length=i
abbrev is (ns:List Nat):List D:=(ns.map fun n:Nat=>(n:Int)).map .int
theorem is_pure (ns:List Nat):pureL (is ns)=true:=pure_ints _
theorem is_len (ns:List Nat):(is ns).length=ns.length:=by simp [is]
theorem is_append (a b:List Nat):is (a ++ b)=is a ++ is b:=by simp [is]
theorem view_rows {rows:List (List Int)}:(RD .frz rows).view=RD .frz rows:=by
 show D.lst .frz (viewL _)=_
 unfold RD
 congr 1
 induction rows with
 | nil=>rfl
 | cons r rs ih =>
  show D.lst .frz (viewL (r.map .int)) :: viewL _=_
  rw [view_ints,ih]
  rfl
theorem cell_ok {rows:List (List Int)} (ht:Tri rows) {f g fr:SD->Res D}{τ:SD}{t:Tg}{x y:Nat} (hr:fr τ=.ok (RD t rows)) (hf:f τ=.ok (.int x)) (hg:g τ=.ok (.int y)) (hne:x ≠ y) (hx:x < rows.length) (hy:y < rows.length) :
  eBin ixD (eBin ixD fr (eA max2D (aCons f (aCons g aNil)))) (eA min2D (aCons f (aCons g aNil))) τ=.ok (.int (col rows x y)):=by
 have em:eA max2D (aCons f (aCons g aNil)) τ=.ok (.int ((max x y:Nat):Int)):=by
  rw [eA_ok (aCons_ok hf (aOne hg))]
  show Res.ok (D.int (if (y:Int) > x then (y:Int) else x))=_
  congr 2
  split <;> omega
 have en:eA min2D (aCons f (aCons g aNil)) τ=.ok (.int ((min x y:Nat):Int)):=by
  rw [eA_ok (aCons_ok hf (aOne hg))]
  show Res.ok (D.int (if (y:Int) < x then (y:Int) else x))=_
  congr 2
  split <;> omega
 have hm:max x y < rows.length:=by omega
 have e1:rows[max x y]?=some rows[max x y]:=List.getElem?_eq_getElem hm
 have hl:=ht _ _ e1
 have hmin:min x y < rows[max x y].length:=by omega
 have r1:eBin ixD fr (eA max2D (aCons f (aCons g aNil))) τ=.ok (.lst t (rows[max x y].map .int)):=ix_ok hr em (ix_lst rfl (by rw [List.getElem?_map,e1]; rfl))
 rw [ix_ok r1 en (ix_lst rfl (by rw [List.getElem?_map,List.getElem?_eq_getElem hmin]; rfl))]
 unfold col
 rw [List.getD_eq_getElem?_getD,List.getD_eq_getElem?_getD,e1,Option.getD_some,List.getElem?_eq_getElem hmin]
 rfl
def gSt (rows:List (List Int)) (got:List Nat) (out:D) (at_:Nat) (left x:Option D):SD := [some (RD .frz rows),some (.lst .own (is got)),some out,some (.int at_),left,x]
theorem v0 {rows:List (List Int)}{r:SD}:eVar 0 (some (RD .frz rows) :: r)=.ok (RD .frz rows):=by
 show Res.ok (RD .frz rows).view=_
 rw [view_rows]
theorem grown_b1 {rows:List (List Int)} (ht:Tri rows) {got left:List Nat}{out:D}{a x:Nat}{y z:Nat} (hy:got[a]?=some y) (hz:got[0]?=some z) (hxy:x ≠ y) (hxz:x ≠ z) (hx:x < rows.length) (hyl:y < rows.length) (hzl:z < rows.length) (h1:got.length < 16777216) (h2:left.length < 16777216) :
  ∃ got' left',(got'=got ++ [x]/\left'=left/\col rows x y ≠ col rows x z ∨ got'=got/\left'=left ++ [x])/\g_Lgrown_b1 (gSt rows got out a (some (.lst .own (is left))) (some (.int x)))=.nx (gSt rows got' out a (some (.lst .own (is left'))) (some (.int x))):=by
 have w1:eVar 1 (gSt rows got out a (some (.lst .own (is left))) (some (.int x)))=.ok (.lst .bor (is got)):=var_own rfl (is_pure got)
 have w5:eVar 5 (gSt rows got out a (some (.lst .own (is left))) (some (.int x)))=.ok (.int x):=rfl
 have ga:eBin ixD (eVar 1) (eVar 3) (gSt rows got out a (some (.lst .own (is left))) (some (.int x)))=.ok (.int y):=ix_ok w1 (show eVar 3 _=.ok (.int a) from rfl) (ix_lst (j:=a) rfl (by simp [is,hy]))
 have g0:eBin ixD (eVar 1) (eC (.int 0)) (gSt rows got out a (some (.lst .own (is left))) (some (.int x)))=.ok (.int z):=ix_ok w1 rfl (ix_lst (j:=0) rfl (by simp [is,hz]))
 have w0:eVar 0 (gSt rows got out a (some (.lst .own (is left))) (some (.int x)))=.ok (RD .frz rows):=v0
 have cc:=nei_ok (cell_ok ht w0 w5 ga hxy hx hyl) (cell_ok ht w0 w5 g0 hxz hx hzl)
 unfold g_Lgrown_b1
 cases hb:(!decide (col rows x y=col rows x z)) with
 | true =>
  rw [hb] at cc
  refine ⟨got ++ [x],left,.inl ⟨rfl,rfl,by simpa using hb⟩,?_⟩
  rw [if_t cc,app_nx (xs:=is got) (d := .int x) rfl w5 rfl (by rw [is_len]; exact h1)]
  unfold gSt
  rw [is_append]
  rfl
 | false =>
  rw [hb] at cc
  refine ⟨got,left ++ [x],.inr ⟨rfl,rfl⟩,?_⟩
  rw [if_f cc,app_nx (xs:=is left) (d := .int x) rfl w5 rfl (by rw [is_len]; exact h2)]
  unfold gSt
  rw [is_append]
  rfl
theorem frz_is (ns:List Nat):frzL (is ns)=is ns:=frzL_pure _ (is_pure ns)
theorem grown_b3 {rows:List (List Int)} (ht:Tri rows) {got out:List Nat}{t:Tg}{a:Nat}{o4 o5:Option D} (hn:(got ++ out).Nodup) (hb:∀ x ∈ got ++ out,x < rows.length) (ha:a < got.length) (hL:(got ++ out).length < 16777216) :
  ∃ got' out' p5,(got' ++ out').Perm (got ++ out)/\(∀ M,Mdl rows.length (col rows) M->(∀ x ∈ got,M x)->∀ x ∈ got',M x)/\g_Lgrown_b3 (gSt rows got (.lst t (is out)) a o4 o5)=.nx (gSt rows got' (.lst .frz (is out')) (a + 1) (some (.lst .frz (is out'))) p5):=by
 have hLL:=hL
 rw [List.length_append] at hLL
 have hy:got[a]?=some got[a]:=List.getElem?_eq_getElem ha
 have hz:got[0]?=some got[0]:=List.getElem?_eq_getElem (by omega)
 obtain ⟨_,_,hdis⟩:=List.nodup_append.mp hn
 unfold g_Lgrown_b3
 have s1:sSet 4 (eA lstD aNil) (gSt rows got (.lst t (is out)) a o4 o5)=.nx (gSt rows got (.lst t (is out)) a (some (.lst .own (is []))) o5):=set_nx rfl rfl
 rw [seq_nx s1]
 have hf:frzAt [2] (gSt rows got (.lst t (is out)) a (some (.lst .own (is []))) o5)=gSt rows got (.lst .frz (is out)) a (some (.lst .own (is []))) o5:=by
  show gSt rows got (.lst .frz (frzL (is out))) a (some (.lst .own (is []))) o5=_
  rw [frz_is]
 have hi:eIt (eVar 2) (gSt rows got (.lst .frz (is out)) a (some (.lst .own (is []))) o5)=.ok (false,is out):=it_lst (var_frz rfl (is_pure out)) (by decide) (is_pure out)
 obtain ⟨τ,e1,A,left,o,e2,hp,hM⟩:=forD_inv (tg:=gN 5) (body:=g_Lgrown_b1) (ds:=is out) (fun i τ=>∃ A left o,τ=gSt rows (got ++ A) (.lst .frz (is out)) a (some (.lst .own (is left))) o/\(A ++ left).Perm (out.take i)/\∀ M,Mdl rows.length (col rows) M->(∀ x ∈ got,M x)->∀ x ∈ A,M x) 0 _ ⟨[],[],o5,by rw [List.append_nil],List.Perm.refl _,fun _ _ _ x m=>by cases m⟩ fun j d τ hd hP=>by
  obtain ⟨A,left,o,rfl,hp,hA⟩:=hP
  rw [Nat.zero_add] at *
  obtain ⟨x,hx,rfl⟩:∃ x,out[j]?=some x/\d=.int x:=by
   rw [List.getElem?_map,List.getElem?_map] at hd
   cases e:out[j]? with
   | none=>rw [e] at hd; cases hd
   | some b=>rw [e] at hd; cases hd; exact ⟨b,rfl,rfl⟩
  have mx:x ∈ out:=List.mem_of_getElem? hx
  have hpl:=hp.length_eq
  rw [List.length_append,List.length_take] at hpl
  obtain ⟨g',l',hc,hs⟩:=grown_b1 ht (got:=got ++ A) (left:=left) (out := .lst .frz (is out)) (a:=a) (x:=x) (y:=got[a]) (z:=got[0]) (by rw [List.getElem?_append_left ha]; exact hy) (by rw [List.getElem?_append_left (by omega)]; exact hz)
   (fun e=>hdis _ (List.getElem_mem ha) _ mx e.symm) (fun e=>hdis _ (List.getElem_mem (by omega:0 < got.length)) _ mx e.symm) (hb x (List.mem_append_right _ mx)) (hb _ (List.mem_append_left _ (List.getElem_mem ha))) (hb _ (List.mem_append_left _ (List.getElem_mem (by omega)))) (by rw [List.length_append]; omega) (by omega)
  refine ⟨_,_,rfl,.inl hs,?_⟩
  have et:out.take (j + 1)=out.take j ++ [x]:=by rw [List.take_add_one,hx]; rfl
  rcases hc with ⟨rfl,rfl,hne⟩ | ⟨rfl,rfl⟩
  ·refine ⟨A ++ [x],l',_,by rw [List.append_assoc],?_,fun M hM h0 u mu=>?_⟩
   rotate_left
   ·rcases List.mem_append.mp mu with mu | mu
    ·exact hA M hM h0 u mu
    ·rw [List.mem_singleton.mp mu]
     exact Classical.byContradiction fun nM=>hne (hM x (hb x (List.mem_append_right _ mx)) nM _ _ (hb _ (List.mem_append_left _ (List.getElem_mem ha))) (hb _ (List.mem_append_left _ (List.getElem_mem (by omega)))) (h0 _ (List.getElem_mem ha)) (h0 _ (List.getElem_mem (by omega))))
   rw [et,List.append_assoc]
   exact ((List.Perm.refl A).append List.perm_append_comm).trans (by rw [<- List.append_assoc]; exact hp.append_right [x])
  ·refine ⟨A,left ++ [x],_,rfl,?_,hA⟩
   rw [et,<- List.append_assoc]
   exact hp.append_right [x]
 rw [Nat.zero_add,is_len,List.take_length] at hp
 refine ⟨got ++ A,left,o,?_,fun M h h0 x m=>(List.mem_append.mp m).elim (h0 x) (hM M h h0 x),?_⟩
 ·rw [List.append_assoc]
  exact (List.Perm.refl got).append hp
 ·rw [seq_nx ((for_at hf hi).trans (by rw [frz_is]; exact e1)),e2]
  have s2:sFrz [4] (sSet 2 (eVar 4)) (gSt rows (got ++ A) (.lst .frz (is out)) a (some (.lst .own (is left))) o)=.nx (gSt rows (got ++ A) (.lst .frz (is left)) a (some (.lst .frz (is left))) o):=by
   show sSet 2 (eVar 4) (gSt rows (got ++ A) (.lst .frz (is out)) a (some (.lst .frz (frzL (is left)))) o)=_
   rw [frz_is]
   exact set_nx (var_frz rfl (is_pure left)) (by show (false || hasBorL (is left))=false; rw [hasBorL_pure _ (is_pure left)]; rfl)
  rw [seq_nx s2]
  exact set_nx (d := .int ((a + 1:Nat):Int)) (show _=Res.ok (D.int ((a:Int) + 1)) from add_ok rfl rfl) rfl
theorem grown_while {rows:List (List Int)} (ht:Tri rows):∀ (m:Nat) {got out:List Nat}{t:Tg}{a:Nat}{o4 o5:Option D},(got ++ out).Nodup->(∀ x ∈ got ++ out,x < rows.length)->(got ++ out).length < 16777216->(got ++ out).length <= a + m ->
  ∃ got' r,got'.Nodup/\(∀ x ∈ got',x < rows.length)/\(∀ M,Mdl rows.length (col rows) M->(∀ x ∈ got,M x)->∀ x ∈ got',M x)/\whileD g_Lgrown_w2 g_Lgrown_b3 (m + 1) (gSt rows got (.lst t (is out)) a o4 o5)=.nx (some (RD .frz rows) :: some (.lst .own (is got')) :: r):=by
 intro m
 induction m with
 | zero =>
  intro got out t a o4 o5 hn hb hL hm
  rw [List.length_append] at hm
  refine ⟨got,[some (.lst t (is out)),some (.int a),o4,o5],(List.nodup_append.mp hn).1,fun x m=>hb x (List.mem_append_left _ m),fun _ _ h=>h,?_⟩
  have c:g_Lgrown_w2 (gSt rows got (.lst t (is out)) a o4 o5)=.ok false:=by
   unfold g_Lgrown_w2
   rw [lti_ok (show eVar 3 _=.ok (.int a) from rfl) (len_ok (var_own (xs:=is got) rfl (is_pure got))),is_len,decide_eq_false (by omega)]
  rw [whileD,c]
  rfl
 | succ m ih =>
  intro got out t a o4 o5 hn hb hL hm
  have c:g_Lgrown_w2 (gSt rows got (.lst t (is out)) a o4 o5)=.ok (decide ((a:Int) < (got.length:Nat))):=by
   unfold g_Lgrown_w2
   rw [lti_ok (show eVar 3 _=.ok (.int a) from rfl) (len_ok (var_own (xs:=is got) rfl (is_pure got))),is_len]
  by_cases ha:a < got.length
  ·rw [decide_eq_true (by omega)] at c
   obtain ⟨g',o',p5,hp,hM,hs⟩:=grown_b3 ht (t:=t) (o4:=o4) (o5:=o5) hn hb ha hL
   obtain ⟨g2,r,n2,b2,M2,h2⟩:=ih (got:=g') (out:=o') (t := .frz) (a:=a + 1) (o4:=some (.lst .frz (is o'))) (o5:=p5) (hp.nodup_iff.mpr hn) (fun x m=>hb x (hp.mem_iff.mp m)) (by rw [hp.length_eq]; exact hL) (by rw [hp.length_eq]; omega)
   refine ⟨g2,r,n2,b2,fun M h h0=>M2 M h (hM M h h0),?_⟩
   rw [whileD,c]
   show (match g_Lgrown_b3 (gSt rows got (.lst t (is out)) a o4 o5) with | .nx t=>whileD g_Lgrown_w2 g_Lgrown_b3 (m + 1) t | .ct t=>whileD g_Lgrown_w2 g_Lgrown_b3 (m + 1) t | .bk t=>Fl.nx t | o=>o)=_
   rw [hs]
   exact h2
  ·rw [decide_eq_false (by omega)] at c
   refine ⟨got,[some (.lst t (is out)),some (.int a),o4,o5],(List.nodup_append.mp hn).1,fun x m=>hb x (List.mem_append_left _ m),fun _ _ h=>h,?_⟩
   rw [whileD,c]
   rfl
theorem pig:∀ (n:Nat) {ns:List Nat},ns.Nodup->(∀ x ∈ ns,x < n)->ns.length <= n
 | 0,[],_,_=>Nat.le_refl _
 | 0,a :: r,_,h=>absurd (h a List.mem_cons_self) (Nat.not_lt_zero _)
 | n + 1,ns,hn,h=>by
  have e:=pig n (ns:=ns.erase n) (hn.erase n) fun x m=>by
   obtain ⟨h1,h2⟩:=hn.mem_erase_iff.mp m
   have:=h x h2
   omega
  by_cases m:n ∈ ns
  ·rw [List.length_erase_of_mem m] at e; omega
  ·rw [List.erase_of_not_mem m] at e; omega
theorem full_of {n:Nat}{ns:List Nat} (nn:ns.Nodup) (nb:∀ x ∈ ns,x < n) (hl:ns.length=n) {x:Nat} (hx:x < n):x ∈ ns:=Classical.byContradiction fun z=>by
 have:=pig n (ns:=x :: ns) (List.nodup_cons.mpr ⟨z,nn⟩) fun y m=>(List.mem_cons.mp m).elim (fun e=>by rw [e]; exact hx) (nb y)
 rw [List.length_cons] at this
 omega
theorem grown_ok {rows:List (List Int)} (ht:Tri rows) (hr:rows.length <= 24) {j k:Nat} (hj:j < rows.length) (hk:k < rows.length) (hne:j ≠ k):∃ ns:List Nat,ns.length <= rows.length/\(ns.length=rows.length->∀ M,Mdl rows.length (col rows) M->M j->M k->∀ x,x < rows.length->M x)/\G_Lgrown [RD .frz rows,.lst .own [.int j,.int k]]=.ok (.lst .own (is ns)):=by
 let out:List Nat:=(List.range rows.length).filter fun x:Nat=>!decide ((x:Int) ∈ [(j:Int),(k:Int)])
 have ho:∀ x ∈ out,x < rows.length/\x ≠ j/\x ≠ k:=fun x m=>by
  obtain ⟨m1,m2⟩:=List.mem_filter.mp m
  refine ⟨List.mem_range.mp m1,?_⟩
  simp only [List.mem_cons,List.not_mem_nil,or_false,Bool.not_eq_true',decide_eq_false_iff_not] at m2
  omega
 have hn:([j,k] ++ out).Nodup:=by
  refine List.nodup_append.mpr ⟨by simp [hne],List.Nodup.sublist List.filter_sublist List.nodup_range,fun a ma b mb=>?_⟩
  obtain ⟨_,h1,h2⟩:=ho b mb
  rcases List.mem_cons.mp ma with rfl | ma
  ·exact fun e=>h1 e.symm
  ·rw [List.mem_singleton.mp ma]
   exact fun e=>h2 e.symm
 have hb:∀ x ∈ [j,k] ++ out,x < rows.length:=fun x m=>by
  rcases List.mem_append.mp m with m | m
  ·rcases List.mem_cons.mp m with rfl | m
   ·exact hj
   ·rw [List.mem_singleton.mp m]; exact hk
  ·exact (ho x m).1
 have hl:([j,k] ++ out).length <= 26:=by
  rw [List.length_append]
  have:out.length <= (List.range rows.length).length:=List.length_filter_le _ _
  rw [List.length_range] at this
  show 2 + out.length <= 26
  omega
 obtain ⟨ns,r,nn,nb,nM,hw⟩:=grown_while ht 26 (got := [j,k]) (out:=out) (t := .own) (a:=1) (o4:=none) (o5:=none) hn hb (by omega) (by omega)
 refine ⟨ns,pig _ nn nb,fun hl M h h1 h2 x hx=>?_,run_rt rfl rfl ?_⟩
 ·refine nM M h (fun y my=>?_) x (full_of nn nb hl hx)
  rcases List.mem_cons.mp my with rfl | my
  ·exact h1
  ·rw [List.mem_singleton.mp my]; exact h2
 unfold g_Lgrown
 have hlen:eA lenD (aCons (eVar 0) aNil) [some (RD .frz rows),some (.lst .own [.int j,.int k]),none,none,none,none]=.ok (.int (rows.length:Nat)):=by
  rw [len_ok (v0 (rows:=rows)),List.length_map]
 have hit:eRng1 (aCons (eA lenD (aCons (eVar 0) aNil)) aNil) [some (RD .frz rows),some (.lst .own [.int j,.int k]),none,none,none,none]=.ok (false,(List.range rows.length).map fun k:Nat=>.int k):=by
  unfold eRng1
  rw [aOne hlen,Res.bind_ok,range1_nat (by omega)]
 have er:frzL ((List.range rows.length).map fun k:Nat=>D.int k)=(List.range rows.length).map fun k:Nat=>D.int k:=frzL_pure _ (pureL_of fun d m=>by obtain ⟨n,_,rfl⟩:=List.mem_map.mp m; rfl)
 have s1:=eComp_if (it:=eRng1 (aCons (eA lenD (aCons (eVar 0) aNil)) aNil)) (tt:=g_Lgrown_c4) (elt:=g_Lgrown_e5) (cap := [("_law_got",1)]) (τ := [some (RD .frz rows),some (.lst .own [.int j,.int k]),none,none,none,none]) (fun d=>match d with | .int x=>!decide (x ∈ [(j:Int),(k:Int)]) | _=>false) (fun d=>d) hit
  (fun d m=>by
   rw [er] at m
   obtain ⟨n,_,rfl⟩:=List.mem_map.mp m
   unfold g_Lgrown_c4
   exact eT_ok ((eBin_ok (show eVar 0 _=.ok (.int (n:Int)) from rfl) (var_frz (i:=1) (xs := [(j:Int),(k:Int)].map .int) rfl (pure_ints _))).trans (in_ints true n .frz [(j:Int),(k:Int)])))
  (fun d m _=>by
   rw [er] at m
   obtain ⟨n,_,rfl⟩:=List.mem_map.mp m
   exact ⟨rfl,rfl⟩) (by simp; omega)
 have eo:((frzL ((List.range rows.length).map fun k:Nat=>D.int k)).filter (fun d=>match d with | .int x=>!decide (x ∈ [(j:Int),(k:Int)]) | _=>false)).map (fun d=>d)=is out:=by
  rw [er,List.map_id',List.filter_map]
  show _=(out.map _).map _
  rw [List.map_map]
  rfl
 rw [eo] at s1
 rw [show ([RD .frz rows,.lst .own [.int j,.int k]].map some ++ List.replicate (6 - 2) none:SD)=[some (RD .frz rows),some (.lst .own [.int j,.int k]),none,none,none,none] from rfl,seq_nx (set_nx s1 (bor_own (is_pure out)))]
 show sSeq (sSet 3 (eC (.int 1))) _ [some (RD .frz rows),some (.lst .own [.int j,.int k]),some (.lst .own (is out)),none,none,none]=_
 rw [seq_nx (set_nx (d := .int 1) rfl rfl)]
 show sSeq (sWhile _ _) _ (gSt rows [j,k] (.lst .own (is out)) 1 none none)=_
 have hw2:sWhile g_Lgrown_w2 g_Lgrown_b3 (gSt rows [j,k] (.lst .own (is out)) 1 none none)=.nx (some (RD .frz rows) :: some (.lst .own (is ns)) :: r):=by
  rw [sWhile_eq (n:=27) (by rw [hw]; exact Fl.noConfusion),hw]
 rw [seq_nx hw2]
 rfl
theorem forD_or {tg:TGD}{body:SF} (Pv:SD->Prop) (Rt:D->Prop) (Gd:D->Prop):∀ {ds:List D}{τ:SD},(∀ d ∈ ds,∀ τ,Pv τ->∃ τ',tg d τ=some τ'/\((∃ t,body τ'=.nx t/\Pv t/\Gd d) ∨ ∃ r,body τ'=.rt r/\Rt r))->Pv τ->(∃ t,forD tg body ds τ=.nx t/\Pv t/\∀ d ∈ ds,Gd d) ∨ (∃ r,forD tg body ds τ=.rt r/\Rt r)
 | [],τ,_,h=>.inl ⟨τ,rfl,h,fun d m=>by cases m⟩
 | d :: r,τ,hs,h=>by
  obtain ⟨τ',h1,h2⟩:=hs d List.mem_cons_self τ h
  rcases h2 with ⟨t,h2,h3,h4⟩ | ⟨x,h2,h3⟩
  ·have ih:=forD_or Pv Rt Gd (ds:=r) (τ:=t) (fun e m=>hs e (List.mem_cons_of_mem _ m)) h3
   unfold forD
   rw [h1]
   simp only [h2]
   exact ih.imp (fun ⟨t,a,b,c⟩=>⟨t,a,b,fun e m=>(List.mem_cons.mp m).elim (fun z=>by rw [z]; exact h4) (c e)⟩) id
  ·refine .inr ⟨x,?_,h3⟩
   unfold forD
   rw [h1]
   simp only [h2]
theorem rng_nat {f:SD->Res D}{τ:SD}{n:Nat} (h:f τ=.ok (.int n)) (hn:n <= 1000000000):eRng1 (aCons f aNil) τ=.ok (false,(List.range n).map fun k:Nat=>.int k):=by
 unfold eRng1
 rw [aOne h,Res.bind_ok,range1_nat hn]
theorem frz_rng (n:Nat):frzL ((List.range n).map fun k:Nat=>D.int k)=(List.range n).map fun k:Nat=>D.int k:=frzL_pure _ (pureL_of fun d m=>by obtain ⟨n,_,rfl⟩:=List.mem_map.mp m; rfl)
theorem together_ok {rows:List (List Int)} (ht:Tri rows) (hr:rows.length <= 24):∃ b,(b=true->∀ j k,j < k->k < rows.length->∀ M,Mdl rows.length (col rows) M->M j->M k->∀ x,x < rows.length->M x)/\G_Lnone_together [RD .frz rows]=.ok (.bl b):=by
 have hRD:hasBorL (rows.map fun r=>D.lst .frz (r.map .int))=false:=by
  induction rows with
  | nil=>rfl
  | cons r rs ih =>
   show ((false || hasBorL (r.map .int)) || hasBorL _)=false
   rw [bor_ints]
   have:∀ rs:List (List Int),hasBorL (rs.map fun r=>D.lst .frz (r.map .int))=false:=fun rs=>by
    induction rs with
    | nil=>rfl
    | cons r rs ih =>
     show ((false || hasBorL (r.map .int)) || hasBorL _)=false
     rw [bor_ints,ih]
     rfl
   rw [this]
   rfl
 have hlen:∀ o1 o2:Option D,eA lenD (aCons (eVar 0) aNil) [some (RD .frz rows),o1,o2]=.ok (.int (rows.length:Nat)):=fun o1 o2=>by
  rw [len_ok (v0 (rows:=rows)),List.length_map]
 have inner:∀ (k:Nat) (o:Option D),k < rows.length->(∃ t,g_Lnone_together_b2 [some (RD .frz rows),some (.int k),o]=.nx t/\(∃ o',t=[some (RD .frz rows),some (.int k),o'])/\∀ j:Nat,j < k->∀ M,Mdl rows.length (col rows) M->M j->M k->∀ x,x < rows.length->M x) ∨ (∃ r,g_Lnone_together_b2 [some (RD .frz rows),some (.int k),o]=.rt r/\r=.bl false):=fun k o hk=>by
  unfold g_Lnone_together_b2
  rw [for_at (τ' := [some (RD .frz rows),some (.int k),o]) rfl (rng_nat (show eVar 1 _=.ok (.int k) from rfl) (by omega)),frz_rng]
  refine (forD_or (fun t=>∃ o',t=[some (RD .frz rows),some (.int k),o']) (fun r=>r=.bl false) (fun d=>∀ j:Nat,d=.int j->∀ M,Mdl rows.length (col rows) M->M j->M k->∀ x,x < rows.length->M x) (fun d m τ hP=>?_) ⟨o,rfl⟩).imp (fun ⟨t,a,b,c⟩=>⟨t,a,b,fun j hj=>c _ (List.mem_map.mpr ⟨j,List.mem_range.mpr hj,rfl⟩) j rfl⟩) id
  obtain ⟨o',rfl⟩:=hP
  obtain ⟨j,hj,rfl⟩:=List.mem_map.mp m
  have hj:=List.mem_range.mp hj
  refine ⟨[some (RD .frz rows),some (.int k),some (.int j)],rfl,?_⟩
  obtain ⟨ns,hlen_le,hfull,hg⟩:=grown_ok ht hr (j:=j) (k:=k) (by omega) hk (by omega)
  have ec:eCallO G_Lgrown (aCons (eVar 0) (aCons (eA lstD (aCons (eVar 2) (aCons (eVar 1) aNil))) aNil)) [some (RD .frz rows),some (.int k),some (.int j)]=.ok (.lst .own (is ns)):=by
   unfold eCallO
   rw [aCons_ok (v0 (rows:=rows)) (aOne (show eA lstD (aCons (eVar 2) (aCons (eVar 1) aNil)) _=.ok (.lst .own [.int j,.int k]) from rfl)),Res.bind_ok]
   unfold callO
   have hb:hasBorL [RD .frz rows,.lst .own [.int j,.int k]]=false:=by
    show ((false || hasBorL _) || _)=false
    rw [hRD]
    rfl
   rw [hb,if_neg Bool.false_ne_true,hg]
   rfl
  have cc:=lti_ok (len_ok ec) (hlen (some (.int k)) (some (.int j)))
  unfold g_Lnone_together_b1
  cases hb:decide (((is ns).length:Int) < (rows.length:Nat)) with
  | true=>rw [hb] at cc; exact .inr ⟨.bl false,by rw [if_t cc]; exact ret_ok rfl rfl,rfl⟩
  | false =>
   rw [hb] at cc
   have hge:=of_decide_eq_false hb
   rw [is_len] at hge
   have hle:ns.length <= rows.length:=hlen_le
   exact .inl ⟨_,by rw [if_f cc]; rfl,⟨_,rfl⟩,fun j' e=>by cases Int.ofNat.inj (D.int.inj e); exact hfull (by omega)⟩
 have outer:(∃ t,sFor [] (eRng1 (aCons (eA lenD (aCons (eVar 0) aNil)) aNil)) (gN 1) g_Lnone_together_b2 [some (RD .frz rows),none,none]=.nx t/\(∃ o1 o2,t=[some (RD .frz rows),o1,o2])/\∀ k:Nat,k < rows.length->∀ j:Nat,j < k->∀ M,Mdl rows.length (col rows) M->M j->M k->∀ x,x < rows.length->M x) ∨ (∃ r,sFor [] (eRng1 (aCons (eA lenD (aCons (eVar 0) aNil)) aNil)) (gN 1) g_Lnone_together_b2 [some (RD .frz rows),none,none]=.rt r/\r=.bl false):=by
  rw [for_at (τ' := [some (RD .frz rows),none,none]) rfl (rng_nat (hlen none none) (by omega)),frz_rng]
  refine (forD_or (fun t=>∃ o1 o2,t=[some (RD .frz rows),o1,o2]) (fun r=>r=.bl false) (fun d=>∀ k:Nat,d=.int k->∀ j:Nat,j < k->∀ M,Mdl rows.length (col rows) M->M j->M k->∀ x,x < rows.length->M x) (fun d m τ hP=>?_) ⟨none,none,rfl⟩).imp (fun ⟨t,a,b,c⟩=>⟨t,a,b,fun k hk=>c _ (List.mem_map.mpr ⟨k,List.mem_range.mpr hk,rfl⟩) k rfl⟩) id
  obtain ⟨o1,o2,rfl⟩:=hP
  obtain ⟨k,hk,rfl⟩:=List.mem_map.mp m
  refine ⟨[some (RD .frz rows),some (.int k),o2],rfl,?_⟩
  rcases inner k o2 (List.mem_range.mp hk) with ⟨t,h1,⟨o',rfl⟩,hf⟩ | h
  ·exact .inl ⟨_,h1,⟨_,_,rfl⟩,fun k' e=>by cases Int.ofNat.inj (D.int.inj e); exact hf⟩
  ·exact .inr h
 rcases outer with ⟨t,h1,⟨o1,o2,rfl⟩,hf⟩ | ⟨r,h1,rfl⟩
 ·refine ⟨true,fun _ j k hjk hk=>hf k hk j hjk,run_rt rfl rfl ?_⟩
  unfold g_Lnone_together
  show sSeq _ _ [some (RD .frz rows),none,none]=_
  rw [seq_nx h1]
  exact ret_ok rfl rfl
 ·refine ⟨false,fun z=>(Bool.false_ne_true z).elim,run_rt rfl rfl ?_⟩
  unfold g_Lnone_together
  exact seq_rt h1
theorem comp_ints {it:SD->Res (Bool × List D)}{elt:SD->Res D}{cap:List (PySem.Str × Nat)}{τ:SD}{n:Nat} (hit:it τ=.ok (false,(List.range n).map fun k:Nat=>.int k)) (hn:n <= 16777216) (p:Nat->Int->Prop) (he:∀ k:Nat,k < n->∃ i:Int,p k i/\elt (some (.int k) :: capD τ cap)=.ok (.int i)) :
  ∃ r:List Int,r.length=n/\(∀ (k:Nat) (x:Int),r[k]?=some x->p k x)/\eComp it (gN 0) bTrue elt 1 cap τ=.ok (.lst .own (r.map .int)):=by
 let f:Nat->Int:=fun k=>match elt (some (.int k) :: capD τ cap) with | .ok (.int i)=>i | _=>0
 have hf:∀ k:Nat,k < n->p k (f k)/\elt (some (.int k) :: capD τ cap)=.ok (.int (f k)):=fun k hk=>by
  obtain ⟨i,hi,e⟩:=he k hk
  show p k (match elt (some (.int k) :: capD τ cap) with | .ok (.int i)=>i | _=>0)/\_=Res.ok (D.int (match elt (some (.int k) :: capD τ cap) with | .ok (.int i)=>i | _=>0))
  rw [e]
  exact ⟨hi,rfl⟩
 refine ⟨(List.range n).map f,by simp,fun k x hx=>?_,?_⟩
 ·have hk:k < n:=by have:=(List.getElem?_eq_some_iff.mp hx).1; simpa using this
  rw [List.getElem?_map,List.getElem?_range hk] at hx
  cases hx
  exact (hf k hk).1
 rw [eComp_all (fun d=>match d with | .int x=>.int (f x.toNat) | d=>d) hit (fun d m=>?_) (by simpa using hn),frz_rng]
 ·rw [List.map_map,List.map_map]
  rfl
 ·rw [frz_rng] at m
  obtain ⟨k,hk,rfl⟩:=List.mem_map.mp m
  exact ⟨(hf k (List.mem_range.mp hk)).2,rfl⟩
theorem mul_l {i j:Int} (h : -(2 ^ 64) < i/\i < 2 ^ 64):CMulD i j := .inl (.inl h)
theorem RD_snoc (t:Tg) (rows:List (List Int)) (r:List Int):RD t (rows ++ [r])=.lst t ((rows.map fun r=>.lst t (r.map .int)) ++ [.lst t (r.map .int)]):=by
 unfold RD
 rw [List.map_append]
 rfl
theorem Tri.snoc {rows:List (List Int)} (h:Tri rows) {r:List Int} (hr:r.length=rows.length):Tri (rows ++ [r]):=by
 intro i x hx
 rcases Nat.lt_or_ge i rows.length with hi | hi
 ·rw [List.getElem?_append_left hi] at hx
  exact h i x hx
 ·rw [List.getElem?_append_right hi] at hx
  rcases Nat.eq_or_lt_of_le hi with e | e
  ·subst e
   rw [Nat.sub_self] at hx
   cases hx
   exact hr
  ·rw [List.getElem?_eq_none (by simp; omega)] at hx
   cases hx
theorem bor_row (r:List Int):(D.lst .own (r.map .int)).hasBor=false:=bor_own (pure_ints r)
theorem at_snoc {α:Type}{R:Nat->α->Prop}{rows:List α} (h:∀ (i:Nat) (r:α),rows[i]?=some r->R i r) {r:α} (hr:R rows.length r):∀ (i:Nat) (x:α),(rows ++ [r])[i]?=some x->R i x:=fun i x e=>by
 rcases Nat.lt_trichotomy i rows.length with l | l | l
 ·rw [List.getElem?_append_left l] at e
  exact h i x e
 ·subst l
  rw [List.getElem?_concat_length] at e
  cases e
  exact hr
 ·rw [List.getElem?_eq_none (by rw [List.length_append]; show rows.length + 1 <= i; omega)] at e
  cases e
theorem path_prm {n:Nat}{t:Nat->Nat->Int}{s0 s1:Int} (h4:4 <= n) (hs:s0 ≠ s1) (h:∀ i j,i < n->j < n->i ≠ j->t i j=if i + 1=j ∨ j + 1=i then s0 else s1):Prm n t:=by
 refine ⟨by omega,fun M ⟨i,j,hi,hj,hij,Mi,Mj⟩ hM x0 hx0=>Classical.byContradiction fun n0=>?_⟩
 obtain ⟨x,y,hx,hy,hxy,nx,my⟩:∃ x y,x < n/\y < n/\(x + 1=y ∨ y + 1=x)/\¬ M x/\M y:=Classical.byContradiction fun no=>by
  have st:∀ a,a + 1 < n->(M a ↔ M (a + 1)):=fun a ha=>⟨fun m=>Classical.byContradiction fun q=>no ⟨a + 1,a,ha,by omega,.inr rfl,q,m⟩,fun m=>Classical.byContradiction fun q=>no ⟨a,a + 1,by omega,ha,.inl rfl,q,m⟩⟩
  have all:∀ a,a < n->(M a ↔ M 0):=fun a=>by
   induction a with
   | zero=>intro _; exact Iff.rfl
   | succ a ih=>intro ha; exact (st a ha).symm.trans (ih (by omega))
  exact n0 ((all x0 hx0).mpr ((all i hi).mp Mi))
 have near:∀ z,z < n->M z->x + 1=z ∨ z + 1=x:=fun z hz mz=>Classical.byContradiction fun q=>by
  have e:=hM x hx nx z y hz hy mz my
  rw [h x z hx hz (fun z'=>nx (z' ▸ mz)),h x y hx hy (by omega),if_neg q,if_pos hxy] at e
  exact hs e.symm
 have n1:=near i hi Mi
 have n2:=near j hj Mj
 obtain ⟨hx1,ma,mb⟩:1 <= x/\M (x - 1)/\M (x + 1):=by
  rcases n1 with n1 | n1
  ·rcases n2 with n2 | n2
   ·omega
   ·exact ⟨by omega,by rw [show x - 1=j by omega]; exact Mj,by rw [n1]; exact Mi⟩
  ·rcases n2 with n2 | n2
   ·exact ⟨by omega,by rw [show x - 1=i by omega]; exact Mi,by rw [n2]; exact Mj⟩
   ·omega
 have hx2:x + 1 < n:=by omega
 by_cases h2:2 <= x
 ·have e:=hM (x - 2) (by omega) (fun m=>by have:=near (x - 2) (by omega) m; omega) (x - 1) (x + 1) (by omega) hx2 ma mb
  rw [h _ _ (by omega) (by omega) (by omega),h _ _ (by omega) hx2 (by omega),if_pos (by omega),if_neg (by omega)] at e
  exact hs e
 ·have e:=hM (x + 2) (by omega) (fun m=>by have:=near (x + 2) (by omega) m; omega) (x + 1) (x - 1) hx2 (by omega) mb ma
  rw [h _ _ (by omega) hx2 (by omega),h _ _ (by omega) (by omega) (by omega),if_pos (by omega),if_neg (by omega)] at e
  exact hs e
theorem tri_prm {x y z:Int} (h1:x ≠ y) (h2:x ≠ z) (h3:y ≠ z):Prm 3 (col [[],[x],[y,z]]):=by
 refine ⟨Nat.le_refl _,fun M ⟨i,j,hi,hj,hij,Mi,Mj⟩ hM w hw=>Classical.byContradiction fun nw=>?_⟩
 have ni:i ≠ w:=fun e=>nw (e ▸ Mi)
 have nj:j ≠ w:=fun e=>nw (e ▸ Mj)
 have e:=hM w hw nw i j hi hj Mi Mj
 have hw':w=0 ∨ w=1 ∨ w=2:=by omega
 rcases hw' with rfl | rfl | rfl
 ·rcases (by omega:(i=1/\j=2) ∨ (i=2/\j=1)) with ⟨rfl,rfl⟩ | ⟨rfl,rfl⟩
  ·exact h1 e
  ·exact h1 e.symm
 ·rcases (by omega:(i=0/\j=2) ∨ (i=2/\j=0)) with ⟨rfl,rfl⟩ | ⟨rfl,rfl⟩
  ·exact h2 e
  ·exact h2 e.symm
 ·rcases (by omega:(i=0/\j=1) ∨ (i=1/\j=0)) with ⟨rfl,rfl⟩ | ⟨rfl,rfl⟩
  ·exact h3 e
  ·exact h3 e.symm
theorem rows_for {body:SF}{N:Nat}{a b c:Option D} (Rk:Nat->List Int->Prop) (hN:N <= 24) (hb:∀ (k:Nat) (rows:List (List Int)),k < N->∃ r:List Int,r.length=k/\(∀ x ∈ r,small x)/\Rk k r/\body [a,b,c,some (RD .own rows),some (.int k)]=(sApp 3 (fun _=>.ok (.lst .own (r.map .int)))) [a,b,c,some (RD .own rows),some (.int k)]) (o:Option D) :
  ∃ rows o',rows.length=N/\Tri rows/\(∀ r ∈ rows,∀ x ∈ r,small x)/\(∀ (i:Nat) (r:List Int),rows[i]?=some r->Rk i r)/\forD (gN 4) body ((List.range N).map fun k:Nat=>.int k) [a,b,c,some (RD .own []),o]=.nx [a,b,c,some (RD .own rows),o']:=by
 obtain ⟨t,h1,rows,o',h2,h3,h4,h5,h6⟩:=forD_inv (tg:=gN 4) (body:=body) (ds:=(List.range N).map fun k:Nat=>.int k) (fun i τ=>∃ rows o',τ=[a,b,c,some (RD .own rows),o']/\rows.length=i/\Tri rows/\(∀ r ∈ rows,∀ x ∈ r,small x)/\∀ (i:Nat) (r:List Int),rows[i]?=some r->Rk i r) 0 [a,b,c,some (RD .own []),o] ⟨[],o,rfl,rfl,fun i r h=>by simp at h,(fun r m=>by cases m),fun i r h=>by simp at h⟩ fun j d τ hd hP=>by
  obtain ⟨rows,o',rfl,hl,ht,hsm,hRk⟩:=hP
  rw [Nat.zero_add] at *
  have hj:j < N:=by
   have:=(List.getElem?_eq_some_iff.mp hd).1
   simpa using this
  obtain rfl:d=.int j:=by
   rw [List.getElem?_map,List.getElem?_range hj] at hd
   cases hd
   rfl
  obtain ⟨r,hr,hrs,hrk,e⟩:=hb j rows hj
  refine ⟨[a,b,c,some (RD .own rows),some (.int j)],[a,b,c,some (RD .own (rows ++ [r])),some (.int j)],rfl,.inl ?_,rows ++ [r],some (.int j),rfl,by rw [List.length_append,hl]; rfl,ht.snoc (by rw [hr,hl]),fun r' m=>(List.mem_append.mp m).elim (hsm r') (fun m=>by rw [List.mem_singleton.mp m]; exact hrs),at_snoc hRk (by rw [hl]; exact hrk)⟩
  rw [e,app_nx (xs:=rows.map fun r=>.lst .own (r.map .int)) (d := .lst .own (r.map .int)) rfl rfl (bor_row r) (by rw [List.length_map]; omega),RD_snoc]
  rfl
 refine ⟨rows,o',by simpa using h3,h4,h5,h6,by rw [h1,h2]⟩
theorem app_cong {i:Nat}{f:SD->Res D}{τ:SD}{d:D} (h:f τ=.ok d):sApp i f τ=sApp i (fun _=>.ok d) τ:=by
 unfold sApp
 rw [h]
theorem ix_sh {sh:List Int}{t:Tg}{i:Int} (h0:0 <= i) (h1:i < sh.length):∃ x:Int,x ∈ sh/\ixD (.lst t (sh.map .int)) (.int i)=.ok (.int x):=by
 obtain ⟨n,rfl⟩:=Int.eq_ofNat_of_zero_le h0
 have hn:n < sh.length:=by omega
 exact ⟨sh[n],List.getElem_mem hn,ix_lst rfl (by rw [List.getElem?_map,List.getElem?_eq_getElem hn]; rfl)⟩
theorem ix_shx {sh:List Int}{t:Tg}{i:Int} (h0:0 <= i) (h1:i < sh.length):sh.getD i.toNat 0 ∈ sh/\ixD (.lst t (sh.map .int)) (.int i)=.ok (.int (sh.getD i.toNat 0)):=by
 obtain ⟨n,rfl⟩:=Int.eq_ofNat_of_zero_le h0
 have hn:n < sh.length:=by omega
 have e:sh.getD n 0=sh[n]:=by rw [List.getD_eq_getElem?_getD,List.getElem?_eq_getElem hn]; rfl
 show sh.getD n 0 ∈ sh/\_=Res.ok (D.int (sh.getD n 0))
 rw [e]
 exact ⟨List.getElem_mem hn,ix_lst rfl (by rw [List.getElem?_map,List.getElem?_eq_getElem hn]; rfl)⟩
theorem of_at {r:List Int}{p:Nat->Int->Prop} (h:∀ (k:Nat) (x:Int),r[k]?=some x->p k x) {q:Int->Prop} (hq:∀ k x,p k x->q x):∀ x ∈ r,q x:=fun x m=>by
 obtain ⟨k,hk⟩:=List.getElem?_of_mem m
 exact hq k x (h k x hk)
theorem rows_ok {cell:Int}{n:Nat}{sh:List Int} (hsh:∀ x ∈ sh,small x) (hnd:sh.Nodup) (hs:sh.length=3) (h3:3 <= n) (hn:n <= 24):∃ rows,rows.length=n/\Tri rows/\(∀ r ∈ rows,∀ x ∈ r,small x)/\Prm n (col rows)/\G_Lprime_rows [.int cell,.int n,.lst .frz (sh.map .int)]=.ok (RD .own rows):=by
 have b4:∀ (k:Nat) (rows:List (List Int)),k < n->∃ r:List Int,r.length=k/\(∀ x ∈ r,small x)/\True/\g_Lprime_rows_b4 [some (.int cell),some (.int n),some (.lst .frz (sh.map .int)),some (RD .own rows),some (.int k)]=(sApp 3 (fun _=>.ok (.lst .own (r.map .int)))) [some (.int cell),some (.int n),some (.lst .frz (sh.map .int)),some (RD .own rows),some (.int k)]:=fun k rows hk=>by
  obtain ⟨r,hr,hrs,e⟩:=comp_ints (it:=eRng1 (aCons (eVar 4) aNil)) (elt:=g_Lprime_rows_e3) (cap := [("_law_shades_here",2),("_law_cell",0),("_law_k",4)]) (τ := [some (.int cell),some (.int n),some (.lst .frz (sh.map .int)),some (RD .own rows),some (.int k)]) (n:=k) (rng_nat rfl (by omega)) (by omega) (fun _=>small) fun j hj=>by
   show ∃ i:Int,small i/\g_Lprime_rows_e3 [some (.int j),some (.lst .frz (frzL (sh.map .int))),some (.int cell),some (.int k)]=.ok (.int i)
   rw [frz_ints]
   obtain ⟨m,m0,m1,em⟩:=mix_ok (c:=cell + 17 * (k:Int) * k + j) (k:=5) (m:=3) (by decide) (by decide)
   obtain ⟨x,mx,hx⟩:=ix_sh (sh:=sh) (t := .frz) (i:=m) m0 (by omega)
   refine ⟨x,hsh x mx,?_⟩
   unfold g_Lprime_rows_e3
   have ec:eCall G_Lmix (aCons (eBin addD (eBin addD (eVar 2) (eBin mulD (eBin mulD (eC (.int 17)) (eVar 3)) (eVar 3))) (eVar 0)) (aCons (eC (.int 5)) (aCons (eC (.int 3)) aNil))) [some (.int j),some (.lst .frz (sh.map .int)),some (.int cell),some (.int k)]=.ok (.int m) :=
    eCall_own (ds := [.int (cell + 17 * (k:Int) * k + j),.int 5,.int 3]) (aCons_ok (add_ok (add_ok rfl (mulv_ok (mulv_ok rfl rfl (mul_l (by decide))) rfl (mul_r (by omega)))) rfl) (aCons_ok rfl (aOne rfl))) em rfl
   exact ix_ok (var_frz rfl (pure_ints sh)) ec hx
  exact ⟨r,hr,of_at hrs fun _ _ h=>h,trivial,app_cong e⟩
 have b2:∀ (k:Nat) (rows:List (List Int)),k < n->∃ r:List Int,r.length=k/\(∀ x ∈ r,small x)/\(∀ (j:Nat) (x:Int),r[j]?=some x->x=if (j:Int) + 1 < k then sh.getD 1 0 else sh.getD 0 0)/\g_Lprime_rows_b2 [some (.int cell),some (.int n),some (.lst .frz (sh.map .int)),some (RD .own rows),some (.int k)]=(sApp 3 (fun _=>.ok (.lst .own (r.map .int)))) [some (.int cell),some (.int n),some (.lst .frz (sh.map .int)),some (RD .own rows),some (.int k)]:=fun k rows hk=>by
  obtain ⟨r,hr,hrs,e⟩:=comp_ints (it:=eRng1 (aCons (eVar 4) aNil)) (elt:=g_Lprime_rows_e1) (cap := [("_law_shades_here",2),("_law_k",4)]) (τ := [some (.int cell),some (.int n),some (.lst .frz (sh.map .int)),some (RD .own rows),some (.int k)]) (n:=k) (rng_nat rfl (by omega)) (by omega) (fun j x=>small x/\x=if (j:Int) + 1 < k then sh.getD 1 0 else sh.getD 0 0) fun j hj=>by
   show ∃ i:Int,(small i/\i=if (j:Int) + 1 < k then sh.getD 1 0 else sh.getD 0 0)/\g_Lprime_rows_e1 [some (.int j),some (.lst .frz (frzL (sh.map .int))),some (.int k)]=.ok (.int i)
   rw [frz_ints]
   have el:eA intD (aCons (eBin ltD (eBin addD (eVar 0) (eC (.int 1))) (eVar 2)) aNil) [some (.int j),some (.lst .frz (sh.map .int)),some (.int k)]=.ok (.int (if decide ((j:Int) + 1 < k)=true then 1 else 0)):=by
    rw [eA_ok (aOne ((eBin_ok (add_ok (a:=(j:Int)) (b:=1) rfl rfl) rfl).trans rfl))]
    rfl
   obtain ⟨mx,hx⟩:=ix_shx (sh:=sh) (t := .frz) (i:=if decide ((j:Int) + 1 < k)=true then 1 else 0) (by split <;> decide) (by split <;> omega)
   refine ⟨_,⟨hsh _ mx,?_⟩,?_⟩
   ·by_cases hjk:(j:Int) + 1 < k
    ·rw [if_pos hjk,if_pos (decide_eq_true hjk)]; rfl
    ·rw [if_neg hjk,if_neg (by simpa using hjk)]; rfl
   unfold g_Lprime_rows_e1
   exact ix_ok (var_frz rfl (pure_ints sh)) el hx
  exact ⟨r,hr,of_at hrs fun _ _ h=>h.1,fun j x h=>(hrs j x h).2,app_cong e⟩
 obtain ⟨rows1,o1,l1,t1,q1,_,f1⟩:=rows_for (Rk:=fun _ _=>True) (a:=some (.int cell)) (b:=some (.int n)) (c:=some (.lst .frz (sh.map .int))) hn b4 none
 have vR:∀ (rows:List (List Int)) (o:Option D),eVar 3 [some (.int cell),some (.int n),some (.lst .frz (sh.map .int)),some (RD .own rows),o]=.ok (RD .bor rows):=fun rows o=>by
  show Res.ok (D.lst .bor (viewL (rows.map fun r=>.lst .own (r.map .int))))=_
  unfold RD
  congr 2
  induction rows with
  | nil=>rfl
  | cons r rs ih =>
   show D.lst .bor (viewL (r.map .int)) :: viewL _=_
   rw [view_ints,ih]
   rfl
 have fR:∀ rows:List (List Int),frzL [RD .bor rows]=[RD .frz rows]:=fun rows=>by
  show [D.lst .frz (frzL (rows.map fun r=>.lst .bor (r.map .int)))]=_
  unfold RD
  congr 2
  induction rows with
  | nil=>rfl
  | cons r rs ih =>
   show D.lst .frz (frzL (r.map .int)) :: frzL _=_
   rw [frz_ints,ih]
   rfl
 have last:∃ rows,rows.length=n/\Tri rows/\(∀ r ∈ rows,∀ x ∈ r,small x)/\Prm n (col rows)/\sSeq (sIf (eT (eBin eqD (eVar 1) (eC (.int 3)))) (sRet (eA lstD (aCons (eA lstD aNil) (aCons (eA lstD (aCons (eBin ixD (eVar 2) (eC (.int 0))) aNil)) (aCons (eA lstD (aCons (eBin ixD (eVar 2) (eC (.int 1))) (aCons (eBin ixD (eVar 2) (eC (.int 2))) aNil))) aNil))))) sNext) (sSeq (sSet 3 (eA lstD aNil)) (sSeq (sFor [] (eRng1 (aCons (eVar 1) aNil)) (gN 4) g_Lprime_rows_b2) (sRetV 3))) [some (.int cell),some (.int n),some (.lst .frz (sh.map .int)),some (RD .own rows1),o1]=.rt (RD .own rows):=by
  have cc:eT (eBin eqD (eVar 1) (eC (.int 3))) [some (.int cell),some (.int n),some (.lst .frz (sh.map .int)),some (RD .own rows1),o1]=.ok (decide ((n:Int)=3)):=eqi_ok rfl rfl
  by_cases he:(n:Int)=3
  ·rw [decide_eq_true he] at cc
   obtain ⟨x,y,z,rfl⟩:∃ x y z,sh=[x,y,z]:=by
    match sh,hs with
    | [x,y,z],_=>exact ⟨x,y,z,rfl⟩
   have en:n=3:=by omega
   refine ⟨[[],[x],[y,z]],by simp; omega,fun i r h=>?_,fun r m u mu=>hsh u ?_,?_,if_rt cc (ret_rt rfl rfl)⟩
   rotate_left 2
   ·rw [en]
    simp only [List.nodup_cons,List.mem_cons,List.not_mem_nil,or_false,not_or] at hnd
    exact tri_prm hnd.1.1 hnd.1.2 hnd.2.1
   rotate_left
   ·simp at m
    rcases m with rfl | rfl | rfl
    ·cases mu
    ·simp at mu
     simp [mu]
    ·simp at mu
     rcases mu with rfl | rfl <;> simp
   match i,h with
   | 0,h=>cases h; rfl
   | 1,h=>cases h; rfl
   | 2,h=>cases h; rfl
   | i + 3,h=>simp at h
  ·rw [decide_eq_false he] at cc
   rw [if_go cc]
   have s3:sSet 3 (eA lstD aNil) [some (.int cell),some (.int n),some (.lst .frz (sh.map .int)),some (RD .own rows1),o1]=.nx [some (.int cell),some (.int n),some (.lst .frz (sh.map .int)),some (RD .own []),o1]:=set_nx rfl rfl
   obtain ⟨rows2,o2,l2,t2,q2,k2,f2⟩:=rows_for (Rk:=fun k r=>∀ (j:Nat) (x:Int),r[j]?=some x->x=if (j:Int) + 1 < k then sh.getD 1 0 else sh.getD 0 0) (a:=some (.int cell)) (b:=some (.int n)) (c:=some (.lst .frz (sh.map .int))) hn b2 o1
   have hp:Prm n (col rows2):=by
    have at_:∀ i j,i < n->j < i->col rows2 i j=if j + 1=i then sh.getD 0 0 else sh.getD 1 0:=fun i j hi hji=>by
     have hi':i < rows2.length:=by omega
     have hj':j < rows2[i].length:=by rw [t2 i _ (List.getElem?_eq_getElem hi')]; exact hji
     have:=k2 i _ (List.getElem?_eq_getElem hi') j _ (List.getElem?_eq_getElem hj')
     unfold col
     rw [Nat.max_eq_left (by omega),Nat.min_eq_right (by omega),List.getD_eq_getElem?_getD,List.getD_eq_getElem?_getD,List.getElem?_eq_getElem hi',Option.getD_some,List.getElem?_eq_getElem hj',Option.getD_some,this]
     by_cases e:j + 1=i
     ·rw [if_pos e,if_neg (by omega)]
     ·rw [if_neg e,if_pos (by omega)]
    refine path_prm (s0:=sh.getD 0 0) (s1:=sh.getD 1 0) (by omega) ?_ fun i j hi hj hij=>?_
    ·obtain ⟨x,y,z,rfl⟩:∃ x y z,sh=[x,y,z]:=by
      match sh,hs with
      | [x,y,z],_=>exact ⟨x,y,z,rfl⟩
     simp only [List.nodup_cons,List.mem_cons,List.not_mem_nil,or_false,not_or] at hnd
     exact hnd.1.1
    ·rcases Nat.lt_or_gt_of_ne hij with l | l
     ·rw [show col rows2 i j=col rows2 j i by unfold col; rw [Nat.max_comm,Nat.min_comm],at_ j i hj l]
      by_cases e:i + 1=j
      ·rw [if_pos e,if_pos (.inl e)]
      ·rw [if_neg e,if_neg (by omega)]
     ·rw [at_ i j hi l]
      by_cases e:j + 1=i
      ·rw [if_pos e,if_pos (.inr e)]
      ·rw [if_neg e,if_neg (by omega)]
   refine ⟨rows2,l2,t2,q2,hp,?_⟩
   rw [seq_nx s3,seq_nx ((for_at (js := []) rfl (rng_nat rfl (by omega))).trans (by rw [frz_rng]; exact f2))]
   rfl
 have main:∃ rows,rows.length=n/\Tri rows/\(∀ r ∈ rows,∀ x ∈ r,small x)/\Prm n (col rows)/\g_Lprime_rows [some (.int cell),some (.int n),some (.lst .frz (sh.map .int)),none,none]=.rt (RD .own rows):=by
  unfold g_Lprime_rows
  have s1:sSet 3 (eA lstD aNil) [some (.int cell),some (.int n),some (.lst .frz (sh.map .int)),none,none]=.nx [some (.int cell),some (.int n),some (.lst .frz (sh.map .int)),some (RD .own []),none]:=set_nx rfl rfl
  rw [seq_nx s1,seq_nx ((for_at (js := []) rfl (rng_nat rfl (by omega))).trans (by rw [frz_rng]; exact f1))]
  obtain ⟨b,hbt,hb⟩:=together_ok t1 (by omega)
  have en:eT (eCall G_Lnone_together (aCons (eVar 3) aNil)) [some (.int cell),some (.int n),some (.lst .frz (sh.map .int)),some (RD .own rows1),o1]=.ok b:=eT_ok (eCall_pure (aOne (vR rows1 o1)) (by rw [fR]; exact hb) rfl)
  have e2:eT (eBin eqD (eBin modD (eVar 0) (eC (.int 2))) (eC (.int 0))) [some (.int cell),some (.int n),some (.lst .frz (sh.map .int)),some (RD .own rows1),o1]=.ok (decide (cell % 2=0)):=eqi_ok (mod_ok rfl (by decide)) rfl
  obtain ⟨c,hc⟩:∃ c,bLt3 (eC (.int 3)) (eVar 1) (eC (.int 17)) [some (.int cell),some (.int n),some (.lst .frz (sh.map .int)),some (RD .own rows1),o1]=.ok c:=by
   show ∃ c,lt3 (.ok (.int 17)) 3 (n:Int)=.ok c
   unfold lt3
   split
   ·exact ⟨_,rfl⟩
   ·exact ⟨_,rfl⟩
  obtain ⟨q,hqb,hq⟩:∃ q,(q=true->b=true)/\bAnd (bLt3 (eC (.int 3)) (eVar 1) (eC (.int 17))) (bAnd (eT (eBin eqD (eBin modD (eVar 0) (eC (.int 2))) (eC (.int 0)))) (eT (eCall G_Lnone_together (aCons (eVar 3) aNil)))) [some (.int cell),some (.int n),some (.lst .frz (sh.map .int)),some (RD .own rows1),o1]=.ok q:=by
   cases c with
   | false=>exact ⟨_,fun z=>(Bool.false_ne_true z).elim,and_f hc⟩
   | true =>
    cases hd:decide (cell % 2=0) with
    | false=>rw [hd] at e2; exact ⟨_,fun z=>(Bool.false_ne_true z).elim,and_t hc (and_f e2)⟩
    | true=>rw [hd] at e2; exact ⟨_,fun z=>z,and_t hc (and_t e2 en)⟩
  cases q with
  | true =>
   have hp:Prm n (col rows1):=⟨h3,fun M ⟨i,j,hi,hj,hij,Mi,Mj⟩ hM=>by
    have hb' := hbt (hqb rfl)
    rw [l1] at hb'
    rcases Nat.lt_or_gt_of_ne hij with l | l
    ·exact hb' i j l hj M hM Mi Mj
    ·exact hb' j i l hi M hM Mj Mi⟩
   exact ⟨rows1,l1,t1,q1,hp,if_rt hq rfl⟩
  | false =>
   obtain ⟨rows,l,t,q,p,e⟩:=last
   exact ⟨rows,l,t,q,p,by rw [if_go hq]; exact e⟩
 obtain ⟨rows,l,t,q,p,e⟩:=main
 exact ⟨rows,l,t,q,p,run_rt rfl rfl e⟩
theorem compD_two {elt:SD->Res D}{caps:SD} (f:D->D->D):∀ {ds:List (D × D)} (o0 o1:Option D),(∀ p ∈ ds,elt (some p.1 :: some p.2 :: caps)=.ok (f p.1 p.2)/\(f p.1 p.2).hasBor=false)->compD (gT 2 (gsCons 0 (gsCons 1 gsNil))) bTrue elt (ds.map fun p=>.tup [p.1,p.2]) (o0 :: o1 :: caps)=.ok (ds.map fun p=>f p.1 p.2)
 | [],_,_,_=>rfl
 | p :: r,o0,o1,h=>by
  have ih:=compD_two f (ds:=r) (some p.1) (some p.2) fun q m=>h q (List.mem_cons_of_mem _ m)
  obtain ⟨h1,h2⟩:=h p List.mem_cons_self
  show (elt (some p.1 :: some p.2 :: caps)).bind _=_
  rw [h1,Res.bind_ok,h2,if_neg Bool.false_ne_true]
  show (compD (gT 2 (gsCons 0 (gsCons 1 gsNil))) bTrue elt (r.map fun p=>.tup [p.1,p.2]) (some p.1 :: some p.2 :: caps)).bind _=_
  rw [ih]
  rfl
theorem eComp_two {it:SD->Res (Bool × List D)}{elt:SD->Res D}{cap:List (PySem.Str × Nat)}{τ:SD}{fl:Bool}{ds:List (D × D)} (f:D->D->D) (hit:it τ=.ok (fl,ds.map fun p=>.tup [p.1,p.2])) (hp:pureL (ds.map fun p=>D.tup [p.1,p.2])=true) (he:∀ p ∈ ds,elt (some p.1 :: some p.2 :: capD τ cap)=.ok (f p.1 p.2)/\(f p.1 p.2).pure=true) (hl:ds.length <= 16777216) :
  eComp it (gT 2 (gsCons 0 (gsCons 1 gsNil))) bTrue elt 2 cap τ=.ok (.lst .own (ds.map fun p=>f p.1 p.2)):=by
 have hq:pureL (ds.map fun p=>f p.1 p.2)=true:=pureL_of fun d m=>by
  obtain ⟨x,hx,rfl⟩:=List.mem_map.mp m
  exact (he x hx).2
 have hc:compD (gT 2 (gsCons 0 (gsCons 1 gsNil))) bTrue elt (frzL (ds.map fun p=>D.tup [p.1,p.2])) (List.replicate 2 none ++ capD τ cap)=.ok (ds.map fun p=>f p.1 p.2):=by
  rw [frzL_pure _ hp]
  exact compD_two f none none fun p m=>⟨(he p m).1,hasBor_pure _ (he p m).2⟩
 unfold eComp
 rw [hit,Res.bind_ok]
 simp only [hc]
 rw [if_pos (by rw [List.length_map]; exact hl),toBorL_pure _ hq,ite_self]
def hds (ws:List Wd):List (Int × Int):=ws.mapIdx fun i w=>(w.head,(i:Int))
def ord (ws:List Wd):List (Int × Int):=SR.ordered (0,0) (L2.prLt (hds ws)) (hds ws)
def ixs (ws:List Wd):List Nat:=(ord ws).map fun q=>q.2.toNat
theorem hds_len (ws:List Wd):(hds ws).length=ws.length:=by simp [hds]
theorem ord_len (ws:List Wd):(ord ws).length=ws.length:=by rw [ord,(SR.ordered_perm _ _ _).length_eq,hds_len]
theorem ixs_perm (ws:List Wd):(ixs ws).Perm (List.range ws.length):=by
 have h:(hds ws).map (fun q=>q.2.toNat)=List.range ws.length:=by
  refine List.ext_getElem (by simp [hds]) fun i h1 h2=>?_
  simp [hds]
 rw [<- h]
 exact (SR.ordered_perm _ _ _).map _
theorem ord_nn (ws:List Wd):∀ q ∈ ord ws,0 <= q.2:=fun q m=>by
 have m:=(SR.ordered_perm _ _ _).mem_iff.mp m
 obtain ⟨i,w,_,rfl⟩:=List.mem_mapIdx.mp m
 exact Int.natCast_nonneg _
theorem ord_at {ws:List Wd}{i:Nat} (hi:i < ws.length):∃ (h:i < (ixs ws).length) (e:Int),(ord ws)[i]?=some (e,((ixs ws)[i]:Int))/\(ixs ws)[i] < ws.length:=by
 have h1:i < (ord ws).length:=by rw [ord_len]; exact hi
 have h2:i < (ixs ws).length:=by unfold ixs; rw [List.length_map]; exact h1
 refine ⟨h2,(ord ws)[i].1,?_,List.mem_range.mp ((ixs_perm ws).mem_iff.mp (List.getElem_mem h2))⟩
 rw [List.getElem?_eq_getElem h1]
 have:((ixs ws)[i]:Int)=(ord ws)[i].2:=by
  have e:(ixs ws)[i]=(ord ws)[i].2.toNat:=by simp [ixs]
  rw [e]
  have:=ord_nn ws _ (List.getElem_mem h1)
  omega
 rw [this]
theorem ixs_ne {ws:List Wd}{i j:Nat} (hi:i < (ixs ws).length) (hj:j < (ixs ws).length) (h:i ≠ j):(ixs ws)[i] ≠ (ixs ws)[j]:=fun e=>h ((List.getElem_inj ((ixs_perm ws).nodup_iff.mpr List.nodup_range)).mp e)
def pSt (cell:Int) (ws:List Wd) (sh:List Int) (rows:List (List Int)) (made:List (List Int)) (a6 a7 a8 a9 a10:Option D):SD :=
 [some (.int cell),some (.lst .frz (dL ws)),some (.lst .frz (sh.map .int)),some (RD .own rows),some (.lst .own ((ord ws).map prD)),some (.lst .own (made.map fun r=>.tup (r.map .int))),a6,a7,a8,a9,a10]
section
variable {cell:Int}{ws:List Wd}{sh:List Int}{rows made:List (List Int)}
theorem pure_ord (ws:List Wd):pureL ((ord ws).map prD)=true:=pureL_of fun d m=>by obtain ⟨q,_,rfl⟩:=List.mem_map.mp m; rfl
theorem pure_made (made:List (List Int)):pureL (made.map fun r=>D.tup (r.map .int))=true:=pureL_of fun d m=>by obtain ⟨r,_,rfl⟩:=List.mem_map.mp m; exact pure_ints r
theorem at_ord {f:SD->Res D}{a6 a7 a8 a9 a10:Option D}{i:Nat} (hi:i < ws.length) (hf:f (pSt cell ws sh rows made a6 a7 a8 a9 a10)=.ok (.int i)):∃ h:i < (ixs ws).length,eBin ixD (eBin ixD (eVar 4) f) (eC (.int 1)) (pSt cell ws sh rows made a6 a7 a8 a9 a10)=.ok (.int ((ixs ws)[i]:Nat)):=by
 obtain ⟨h,e,h1,_⟩:=ord_at hi
 refine ⟨h,?_⟩
 have e1:eBin ixD (eVar 4) f (pSt cell ws sh rows made a6 a7 a8 a9 a10)=.ok (.tup [.int e,.int ((ixs ws)[i]:Nat)]):=ix_ok (var_own (xs:=(ord ws).map prD) rfl (pure_ord ws)) hf (ix_lst rfl (by rw [List.getElem?_map,h1]; rfl))
 exact ix_ok e1 rfl (ix_tup (j:=1) rfl rfl)
theorem vRD {a6 a7 a8 a9 a10:Option D}:eVar 3 (pSt cell ws sh rows made a6 a7 a8 a9 a10)=.ok (RD .bor rows):=by
 show Res.ok (D.lst .bor (viewL (rows.map fun r=>.lst .own (r.map .int))))=_
 unfold RD
 congr 2
 induction rows with
 | nil=>rfl
 | cons r rs ih =>
  show D.lst .bor (viewL (r.map .int)) :: viewL _=_
  rw [view_ints,ih]
  rfl
theorem small_col (hq:∀ r ∈ rows,∀ x ∈ r,small x) (a b:Nat):small (col rows a b):=by
 have h0:small 0:=by unfold small; decide
 unfold col
 rw [List.getD_eq_getElem?_getD,List.getD_eq_getElem?_getD]
 cases e:rows[max a b]? with
 | none=>exact h0
 | some r =>
  rw [Option.getD_some]
  cases e2:r[min a b]? with
  | none=>exact h0
  | some x=>exact hq r (List.mem_of_getElem? e) x (List.mem_of_getElem? e2)
theorem prime_b2 (hq:∀ r ∈ rows,∀ x ∈ r,small x) (ht:Tri rows) (hr:rows.length=ws.length) {a t:Nat} (ha:a < ws.length) (hat:t < a) (r:List Int) (hl:r.length < 16777216) {a9 a10:Option D} :
  ∃ x b9 b10,small x/\x=col rows ((ixs ws).getD a 0) ((ixs ws).getD t 0)/\g_Lprime_b2 (pSt cell ws sh rows made (some (.int a)) (some (.lst .own (r.map .int))) (some (.int t)) a9 a10)=.nx (pSt cell ws sh rows made (some (.int a)) (some (.lst .own ((r ++ [x]).map .int))) (some (.int t)) b9 b10):=by
 obtain ⟨h1,e1⟩:=at_ord (cell:=cell) (ws:=ws) (sh:=sh) (rows:=rows) (made:=made) (f:=eVar 6) (a6:=some (.int a)) (a7:=some (.lst .own (r.map .int))) (a8:=some (.int t)) (a9:=a9) (a10:=a10) ha rfl
 obtain ⟨h2,e2⟩:=at_ord (cell:=cell) (ws:=ws) (sh:=sh) (rows:=rows) (made:=made) (f:=eVar 8) (a6:=some (.int a)) (a7:=some (.lst .own (r.map .int))) (a8:=some (.int t)) (a9:=some (.int ((ixs ws)[a]:Nat))) (a10:=a10) (Nat.lt_trans hat ha) rfl
 obtain ⟨_,_,_,l1⟩:=ord_at ha
 obtain ⟨_,_,_,l2⟩:=ord_at (Nat.lt_trans hat ha)
 have e3:=cell_ok ht (fr:=eVar 3) (f:=eVar 9) (g:=eVar 10) (τ:=pSt cell ws sh rows made (some (.int a)) (some (.lst .own (r.map .int))) (some (.int t)) (some (.int ((ixs ws)[a]:Nat))) (some (.int ((ixs ws)[t]:Nat)))) vRD rfl rfl (ixs_ne h1 h2 (by omega)) (by omega) (by omega)
 refine ⟨col rows (ixs ws)[a] (ixs ws)[t],some (.int ((ixs ws)[a]:Nat)),some (.int ((ixs ws)[t]:Nat)),small_col hq _ _,by rw [List.getD_eq_getElem?_getD,List.getD_eq_getElem?_getD,List.getElem?_eq_getElem h1,List.getElem?_eq_getElem h2]; rfl,?_⟩
 unfold g_Lprime_b2
 rw [seq_nx (set_nx e1 rfl)]
 show sSeq _ _ (pSt cell ws sh rows made (some (.int a)) (some (.lst .own (r.map .int))) (some (.int t)) (some (.int ((ixs ws)[a]:Nat))) a10)=_
 rw [seq_nx (set_nx e2 rfl)]
 show sApp 7 _ (pSt cell ws sh rows made (some (.int a)) (some (.lst .own (r.map .int))) (some (.int t)) (some (.int ((ixs ws)[a]:Nat))) (some (.int ((ixs ws)[t]:Nat))))=_
 rw [app_nx (xs:=r.map .int) rfl e3 rfl (by rw [List.length_map]; exact hl)]
 show Fl.nx (pSt cell ws sh rows made (some (.int a)) (some (.lst .own (r.map .int ++ [_]))) (some (.int t)) _ _)=_
 rw [List.map_append]
 rfl
theorem prime_b3 (hq:∀ r ∈ rows,∀ x ∈ r,small x) (ht:Tri rows) (hr:rows.length=ws.length) (hw:ws.length <= 24) {a:Nat} (ha:a < ws.length) (hm:made.length < 16777216) {a7 a8 a9 a10:Option D} :
  ∃ r b7 b8 b9 b10,r.length=a/\(∀ x ∈ r,small x)/\(∀ (t:Nat) (x:Int),r[t]?=some x->x=col rows ((ixs ws).getD a 0) ((ixs ws).getD t 0))/\g_Lprime_b3 (pSt cell ws sh rows made (some (.int a)) a7 a8 a9 a10)=.nx (pSt cell ws sh rows (made ++ [r]) (some (.int a)) b7 b8 b9 b10):=by
 unfold g_Lprime_b3
 have s1:sSet 7 (eA lstD aNil) (pSt cell ws sh rows made (some (.int a)) a7 a8 a9 a10)=.nx (pSt cell ws sh rows made (some (.int a)) (some (.lst .own ([].map .int))) a8 a9 a10):=set_nx rfl rfl
 obtain ⟨t,h1,r,c8,c9,c10,h2,h3,h4,h5⟩:=forD_inv (tg:=gN 8) (body:=g_Lprime_b2) (ds:=(List.range a).map fun k:Nat=>.int k) (fun i τ=>∃ r c8 c9 c10,τ=pSt cell ws sh rows made (some (.int a)) (some (.lst .own (r.map .int))) c8 c9 c10/\r.length=i/\(∀ x ∈ r,small x)/\∀ (t:Nat) (x:Int),r[t]?=some x->x=col rows ((ixs ws).getD a 0) ((ixs ws).getD t 0)) 0 (pSt cell ws sh rows made (some (.int a)) (some (.lst .own (([]:List Int).map .int))) a8 a9 a10) ⟨[],a8,a9,a10,rfl,rfl,(fun x m=>by cases m),fun t x h=>by simp at h⟩ fun j d τ hd hP=>by
  obtain ⟨r,c8,c9,c10,rfl,hl,hsm,hat⟩:=hP
  rw [Nat.zero_add] at *
  have hj:j < a:=by
   have:=(List.getElem?_eq_some_iff.mp hd).1
   simpa using this
  obtain rfl:d=.int j:=by
   rw [List.getElem?_map,List.getElem?_range hj] at hd
   cases hd
   rfl
  obtain ⟨x,b9,b10,hx,hxe,e⟩:=prime_b2 (cell:=cell) (sh:=sh) (made:=made) hq ht hr ha hj r (by omega) (a9:=c9) (a10:=c10)
  exact ⟨_,_,rfl,.inl e,r ++ [x],_,_,_,rfl,by rw [List.length_append,hl]; rfl,fun y m=>(List.mem_append.mp m).elim (hsm y) (fun m=>by rw [List.mem_singleton.mp m]; exact hx),at_snoc hat (by rw [hl]; exact hxe)⟩
 refine ⟨r,some (.lst .own (r.map .int)),c8,c9,c10,by simpa using h3,h4,h5,?_⟩
 rw [seq_nx s1,seq_nx ((for_at (js := []) rfl (rng_nat rfl (by omega))).trans (by rw [frz_rng]; exact h1)),h2]
 have e7:eA tupleD (aCons (eVar 7) aNil) (pSt cell ws sh rows made (some (.int a)) (some (.lst .own (r.map .int))) c8 c9 c10)=.ok (.tup (r.map .int)):=by
  rw [eA_ok (aOne (var_own (xs:=r.map .int) rfl (pure_ints r)))]
  rfl
 rw [app_nx (xs:=made.map fun r=>.tup (r.map .int)) (d := .tup (r.map .int)) rfl e7 (hasBor_pure _ (pure_ints r)) (by rw [List.length_map]; exact hm)]
 show Fl.nx (_ :: _ :: _ :: _ :: _ :: some (D.lst .own ((made.map fun r=>.tup (r.map .int)) ++ [.tup (r.map .int)])) :: _)=Fl.nx (_ :: _ :: _ :: _ :: _ :: some (D.lst .own ((made ++ [r]).map fun r=>.tup (r.map .int))) :: _)
 rw [List.map_append]
 rfl
end
def brs (ws:List Wd):List Wd:=(ixs ws).map fun k=>ws.getD k (.leaf 0)
theorem brs_perm (ws:List Wd):(brs ws).Perm ws:=by
 have h:(List.range ws.length).map (fun k=>ws.getD k (.leaf 0))=ws:=by
  refine List.ext_getElem (by simp) fun i h1 h2=>?_
  simp [List.getElem?_eq_getElem h2]
 exact ((ixs_perm ws).map _).trans (by rw [h])
theorem leavesL_perm {a b:List Wd} (h:a.Perm b):(leavesL a).Perm (leavesL b):=by
 rw [leavesL_map,leavesL_map]
 exact h.flatMap_right _
theorem goodL_perm {a b:List Wd} (h:a.Perm b) (hb:goodL b):goodL a:=(goodL_iff a).mpr fun w m=>(goodL_iff b).mp hb w (h.mem_iff.mp m)
theorem enum_eq (ws:List Wd):enumD (dL ws)=(ws.mapIdx fun i w=>((D.int i),w.d)).map fun p=>D.tup [p.1,p.2]:=by
 unfold enumD
 rw [dL_map]
 refine List.ext_getElem (by simp) fun i h1 h2=>?_
 simp
theorem prm_perm {n:Nat}{rows made:List (List Int)}{σ:Nat->Nat} (hp:Prm n (col rows)) (inj:∀ i j,i < n->j < n->σ i=σ j->i=j) (sur:∀ k,k < n->∃ i,i < n/\σ i=k) (hs:∀ i,i < n->σ i < n) (h:∀ i j,i < n->j < n->i ≠ j->col made i j=col rows (σ i) (σ j)):Prm n (col made):=by
 refine ⟨hp.1,fun M ⟨i,j,hi,hj,hij,Mi,Mj⟩ hM x hx=>?_⟩
 obtain ⟨i',hi',e,Mi'⟩:=hp.2 (fun k=>∃ i,i < n/\σ i=k/\M i) ⟨σ i,σ j,hs i hi,hs j hj,fun e=>hij (inj i j hi hj e),⟨i,hi,rfl,Mi⟩,⟨j,hj,rfl,Mj⟩⟩ (fun a ha na y z _ _ ⟨y',hy,ey,My⟩ ⟨z',hz,ez,Mz⟩=>by
  obtain ⟨a',ha',rfl⟩:=sur a ha
  have nM:¬ M a' := fun m=>na ⟨a',ha',rfl,m⟩
  subst ey
  subst ez
  have e:=hM a' ha' nM y' z' hy hz My Mz
  rw [h a' y' ha' hy (fun q=>nM (q ▸ My)),h a' z' ha' hz (fun q=>nM (q ▸ Mz))] at e
  exact e) (σ x) (hs x hx)
 rw [<- inj i' x hi' hx e]
 exact Mi'
theorem prime_ok {cell:Int}{ws:List Wd}{sh:List Int} (hsh:∀ x ∈ sh,small x) (hnd:sh.Nodup) (hs:sh.length=3) (h3:3 <= ws.length) (hg:goodL ws) (hl:(leavesL ws).length <= 24) :
  ∃ w:Wd,w.good/\w.leaves.Perm (leavesL ws)/\G_Lprime [.int cell,.lst .frz (dL ws),.lst .frz (sh.map .int)]=.ok w.d:=by
 have hw:ws.length <= 24:=Nat.le_trans (deepL_le ws hg).1 hl
 obtain ⟨rows,lr,tr,qr,pr,er⟩:=rows_ok (cell:=cell) hsh hnd hs h3 hw
 let τ0:SD := [some (.int cell),some (.lst .frz (dL ws)),some (.lst .frz (sh.map .int)),none,none,none,none,none,none,none,none]
 let τ1:SD := [some (.int cell),some (.lst .frz (dL ws)),some (.lst .frz (sh.map .int)),some (RD .own rows),none,none,none,none,none,none,none]
 have bRD:(RD .own rows).hasBor=false:=by
  show (false || hasBorL (rows.map fun r=>D.lst .own (r.map .int)))=false
  have:∀ rs:List (List Int),hasBorL (rs.map fun r=>D.lst .own (r.map .int))=false:=fun rs=>by
   induction rs with
   | nil=>rfl
   | cons r rs ih =>
    show ((false || hasBorL (r.map .int)) || hasBorL _)=false
    rw [bor_ints,ih]
    rfl
  rw [this]
  rfl
 have v1:∀ r:SD,eVar 1 (some (.int cell) :: some (.lst .frz (dL ws)) :: r)=.ok (.lst .frz (dL ws)):=fun r=>var_frz rfl (dL_pure ws)
 have e3:eCall G_Lprime_rows (aCons (eVar 0) (aCons (eA lenD (aCons (eVar 1) aNil)) (aCons (eVar 2) aNil))) τ0=.ok (RD .own rows):=by
  refine eCall_own (ds := [.int cell,.int (ws.length:Nat),.lst .frz (sh.map .int)]) (aCons_ok rfl (aCons_ok ?_ (aOne (var_frz rfl (pure_ints sh))))) ?_ ?_
  ·rw [len_ok (v1 _),dL_len]
  ·show G_Lprime_rows [.int cell,.int (ws.length:Nat),.lst .frz (frzL (sh.map .int))]=_
   rw [frz_ints]
   exact er
  ·show (false || (false || ((false || hasBorL (sh.map .int)) || false)))=false
   rw [bor_ints]
   rfl
 have ehead:∀ w ∈ ws,G_Lhead [w.d]=.ok (.int w.head):=fun w m=>head_eq ((goodL_iff ws).mp hg w m) (Nat.le_trans (leaves_mem m) hl)
 have ec:eComp (eEnum (aCons (eVar 1) aNil)) (gT 2 (gsCons 0 (gsCons 1 gsNil))) bTrue g_Lprime_e4 2 [] τ1=.ok (.lst .own ((hds ws).map prD)):=by
  have hit:eEnum (aCons (eVar 1) aNil) τ1=.ok (false,(ws.mapIdx fun i w=>((D.int i),w.d)).map fun p=>D.tup [p.1,p.2]):=by
   unfold eEnum
   rw [aOne (v1 _),Res.bind_ok]
   show Res.ok ((false || hasBorL (dL ws)),enumD (dL ws))=_
   rw [hasBorL_pure _ (dL_pure ws),enum_eq]
   rfl
  have mem:∀ p ∈ ws.mapIdx fun i w=>((D.int i),w.d),∃ (i:Nat) (w:Wd),w ∈ ws/\p=(.int i,w.d):=fun p m=>by
   obtain ⟨i,hi,rfl⟩:=List.mem_mapIdx.mp m
   exact ⟨i,_,List.getElem_mem hi,rfl⟩
  rw [eComp_two (fun a b=>match G_Lhead [b] with | .ok h=>.tup [h,a] | _=>.non) hit (pureL_of fun d m=>?_) (fun p m=>?_) (by simp; omega)]
  ·congr 2
   unfold hds
   refine List.ext_getElem (by simp) fun i h1 h2=>?_
   have hi:i < ws.length:=by simpa using h1
   simp only [List.getElem_map,List.getElem_mapIdx]
   rw [ehead _ (List.getElem_mem hi)]
   rfl
  ·obtain ⟨p,mp,rfl⟩:=List.mem_map.mp m
   obtain ⟨i,w,_,rfl⟩:=mem p mp
   show (true && (w.d.pure && true))=true
   rw [w.pure]
   rfl
  ·obtain ⟨i,w,mw,rfl⟩:=mem p m
   have hc:eCall G_Lhead (aCons (eVar 1) aNil) [some (.int i),some w.d]=.ok (.int w.head):=by
    refine eCall_own (ds := [w.d]) (aOne (var_p rfl w.pure)) ?_ ?_
    ·rw [show frzL [w.d]=[w.d] by show [w.d.frz]=_; rw [frz_pure _ w.pure]]
     exact ehead w mw
    ·show (w.d.hasBor || false)=false
     rw [hasBor_pure _ w.pure]; rfl
   simp only [ehead w mw]
   refine ⟨?_,rfl⟩
   show g_Lprime_e4 [some (.int i),some w.d]=_
   unfold g_Lprime_e4
   rw [eA_ok (aCons_ok hc (aOne rfl))]
   rfl
 have e4:eA sortedPD (aCons (eComp (eEnum (aCons (eVar 1) aNil)) (gT 2 (gsCons 0 (gsCons 1 gsNil))) bTrue g_Lprime_e4 2 []) aNil) τ1=.ok (.lst .own ((ord ws).map prD)):=by
  rw [eA_ok (aOne ec)]
  unfold sortedPD
  simp only [prsOf_map]
  rw [if_pos (by rw [hds_len]; omega),<- SR.ordered_map prD (0,0) .non]
  rfl
 obtain ⟨t,f1,made,c6,c7,c8,c9,c10,f2,f3,f4,f5,f6⟩:=forD_inv (tg:=gN 6) (body:=g_Lprime_b3) (ds:=(List.range ws.length).map fun k:Nat=>.int k) (fun i τ=>∃ made c6 c7 c8 c9 c10,τ=pSt cell ws sh rows made c6 c7 c8 c9 c10/\made.length=i/\Tri made/\(∀ r ∈ made,∀ x ∈ r,small x)/\∀ (i:Nat) (r:List Int),made[i]?=some r->∀ (t:Nat) (x:Int),r[t]?=some x->x=col rows ((ixs ws).getD i 0) ((ixs ws).getD t 0)) 0 (pSt cell ws sh rows [] none none none none none) ⟨[],none,none,none,none,none,rfl,rfl,(fun i r h=>by simp at h),(fun r m=>by cases m),fun i r h=>by simp at h⟩ fun j d τ hd hP=>by
  obtain ⟨made,c6,c7,c8,c9,c10,rfl,hm,htm,hsm,hat⟩:=hP
  rw [Nat.zero_add] at *
  have hj:j < ws.length:=by
   have:=(List.getElem?_eq_some_iff.mp hd).1
   simpa using this
  obtain rfl:d=.int j:=by
   rw [List.getElem?_map,List.getElem?_range hj] at hd
   cases hd
   rfl
  obtain ⟨r,b7,b8,b9,b10,hr,hrs,hra,e⟩:=prime_b3 (cell:=cell) (sh:=sh) (made:=made) qr tr lr hw hj (by omega) (a7:=c7) (a8:=c8) (a9:=c9) (a10:=c10)
  exact ⟨_,_,rfl,.inl e,made ++ [r],_,_,_,_,_,rfl,by rw [List.length_append,hm]; rfl,htm.snoc (by rw [hr,hm]),fun r' m=>(List.mem_append.mp m).elim (hsm r') (fun m=>by rw [List.mem_singleton.mp m]; exact hrs),at_snoc (R:=fun i r=>∀ (t:Nat) (x:Int),r[t]?=some x->x=col rows ((ixs ws).getD i 0) ((ixs ws).getD t 0)) hat (by rw [hm]; exact hra)⟩
 have f3:made.length=ws.length:=by simpa using f3
 have bp:=brs_perm ws
 have ip:=ixs_perm ws
 have il:(ixs ws).length=ws.length:=by rw [ip.length_eq,List.length_range]
 have gd:∀ {i:Nat} (hi:i < ws.length),(ixs ws).getD i 0=(ixs ws)[i]'(by omega):=fun hi=>by rw [List.getD_eq_getElem?_getD,List.getElem?_eq_getElem (by omega)]; rfl
 have pm:Prm (brs ws).length (col made):=by
  rw [bp.length_eq]
  refine prm_perm (σ:=fun i=>(ixs ws).getD i 0) pr (fun i j hi hj e=>?_) (fun k hk=>?_) (fun i hi=>?_) fun i j hi hj hij=>?_
  ·simp only [gd hi,gd hj] at e
   exact (List.getElem_inj (ip.nodup_iff.mpr List.nodup_range)).mp e
  ·obtain ⟨i,hi,e⟩:=List.mem_iff_getElem.mp (ip.mem_iff.mpr (List.mem_range.mpr hk))
   exact ⟨i,by omega,by rw [gd (by omega)]; exact e⟩
  ·simp only [gd hi]
   exact List.mem_range.mp (ip.mem_iff.mp (List.getElem_mem (by omega)))
  ·have at_:∀ i j,i < ws.length->j < i->col made i j=col rows ((ixs ws).getD i 0) ((ixs ws).getD j 0):=fun i j hi hji=>by
    have hi':i < made.length:=by omega
    have hj':j < made[i].length:=by rw [f4 i _ (List.getElem?_eq_getElem hi')]; exact hji
    have:=f6 i _ (List.getElem?_eq_getElem hi') j _ (List.getElem?_eq_getElem hj')
    rw [<- this]
    unfold col
    rw [Nat.max_eq_left (by omega),Nat.min_eq_right (by omega),List.getD_eq_getElem?_getD,List.getD_eq_getElem?_getD,List.getElem?_eq_getElem hi',Option.getD_some,List.getElem?_eq_getElem hj']
    rfl
   rcases Nat.lt_or_gt_of_ne hij with l | l
   ·rw [show col made i j=col made j i by unfold col; rw [Nat.max_comm,Nat.min_comm],at_ j i hj l]
    unfold col
    rw [Nat.max_comm,Nat.min_comm]
   ·exact at_ i j hi l
 refine ⟨.prime made (brs ws),⟨by rw [bp.length_eq]; omega,by rw [f3,bp.length_eq],f4,goodL_perm bp hg,f5,pm⟩,leavesL_perm bp,run_rt (τ:=τ0) rfl rfl ?_⟩
 unfold g_Lprime
 rw [seq_nx (set_nx e3 bRD)]
 show sSeq _ _ τ1=_
 rw [seq_nx (set_nx e4 (bor_own (pure_ord ws)))]
 have s5:sSet 5 (eA lstD aNil) [some (.int cell),some (.lst .frz (dL ws)),some (.lst .frz (sh.map .int)),some (RD .own rows),some (.lst .own ((ord ws).map prD)),none,none,none,none,none,none]=.nx (pSt cell ws sh rows [] none none none none none):=set_nx rfl rfl
 show sSeq _ _ [some (.int cell),some (.lst .frz (dL ws)),some (.lst .frz (sh.map .int)),some (RD .own rows),some (.lst .own ((ord ws).map prD)),none,none,none,none,none,none]=_
 have hlen:eA lenD (aCons (eVar 4) aNil) (pSt cell ws sh rows [] none none none none none)=.ok (.int (ws.length:Nat)):=by
  rw [len_ok (var_own (xs:=(ord ws).map prD) rfl (pure_ord ws)),List.length_map,ord_len]
 have s6:sFor [] (eRng1 (aCons (eA lenD (aCons (eVar 4) aNil)) aNil)) (gN 6) g_Lprime_b3 (pSt cell ws sh rows [] none none none none none)=.nx (pSt cell ws sh rows made c6 c7 c8 c9 c10) :=
  (for_at (js := []) rfl (rng_nat hlen (by omega))).trans (by rw [frz_rng,<- f2]; exact f1)
 rw [seq_nx s5,seq_nx s6]
 have e5:eA tupleD (aCons (eVar 5) aNil) (pSt cell ws sh rows made c6 c7 c8 c9 c10)=.ok (.tup (made.map fun r=>.tup (r.map .int))):=by
  rw [eA_ok (aOne (var_own (xs:=made.map fun r=>.tup (r.map .int)) rfl (pure_made made)))]
  rfl
 have e6:eComp (eIt (eVar 4)) (gT 2 (gsCons 0 (gsCons 1 gsNil))) bTrue g_Lprime_e1 2 [("_law_woods",1)] (pSt cell ws sh rows made c6 c7 c8 c9 c10)=.ok (.lst .own (dL (brs ws))):=by
  have hit:eIt (eVar 4) (pSt cell ws sh rows made c6 c7 c8 c9 c10)=.ok (true,((ord ws).map fun q=>((D.int q.1),D.int q.2)).map fun p=>D.tup [p.1,p.2]):=by
   unfold eIt
   rw [var_own (xs:=(ord ws).map prD) rfl (pure_ord ws),Res.bind_ok]
   show Res.ok (true,(ord ws).map prD)=_
   rw [List.map_map]
   rfl
  rw [eComp_two (fun _ b=>match b with | .int k=>(ws.getD k.toNat (.leaf 0)).d | d=>d) hit (pureL_of fun d m=>?_) (fun p m=>?_) (by rw [List.length_map,ord_len]; omega)]
  ·congr 2
   unfold brs ixs
   rw [dL_map,List.map_map,List.map_map,List.map_map]
   rfl
  ·obtain ⟨p,mp,rfl⟩:=List.mem_map.mp m
   obtain ⟨q,_,rfl⟩:=List.mem_map.mp mp
   rfl
  ·obtain ⟨q,mq,rfl⟩:=List.mem_map.mp m
   have h0:=ord_nn ws q mq
   have hk:q.2.toNat < ws.length:=List.mem_range.mp ((ixs_perm ws).mem_iff.mp (List.mem_map.mpr ⟨q,mq,rfl⟩))
   refine ⟨?_,Wd.pure _⟩
   show eBin ixD (eVar 2) (eVar 1) [some (.int q.1),some (.int q.2),some (.lst .frz (frzL (dL ws)))]=_
   rw [frzL_pure _ (dL_pure ws)]
   refine ix_ok (var_frz rfl (dL_pure ws)) rfl (ix_lst (j:=q.2.toNat) (by omega) ?_)
   show _=some (ws.getD q.2.toNat (.leaf 0)).d
   rw [dL_map,List.getElem?_map,List.getElem?_eq_getElem hk,List.getD_eq_getElem?_getD,List.getElem?_eq_getElem hk]
   rfl
 refine ret_ok ?_ (Wd.pure _)
 rw [eA_ok (aCons_ok rfl (aCons_ok e5 (aOne ((eA_ok (aOne e6)).trans rfl))))]
 rfl
theorem cut_to_ok {f g:SD->Res D}{τ:SD}{t:Tg}{xs:List D}{k:Nat} (hf:f τ=.ok (.lst t xs)) (hg:g τ=.ok (.int k)):eCut f eP0 (eP g) τ=.ok (.lst .own (xs.take k)):=by
 have e:eP g τ=.ok (some (k:Int)):=by unfold eP; rw [hg]; rfl
 unfold eCut
 rw [hf,Res.bind_ok,show eP0 τ=.ok none from rfl,Res.bind_ok,e]
 show cutD (.lst t xs) none (some (k:Int))=_
 simp [cutD,cut_to]
theorem cut_from_ok {f g:SD->Res D}{τ:SD}{t:Tg}{xs:List D}{k:Nat} (hf:f τ=.ok (.lst t xs)) (hg:g τ=.ok (.int k)):eCut f (eP g) eP0 τ=.ok (.lst .own (xs.drop k)):=by
 have e:eP g τ=.ok (some (k:Int)):=by unfold eP; rw [hg]; rfl
 unfold eCut
 rw [hf,Res.bind_ok,e,Res.bind_ok]
 show cutD (.lst t xs) (some (k:Int)) none=_
 simp [cutD,cut_from]
theorem dL_take (ws:List Wd) (k:Nat):(dL ws).take k=dL (ws.take k):=by rw [dL_map,dL_map,List.map_take]
theorem dL_drop (ws:List Wd) (k:Nat):(dL ws).drop k=dL (ws.drop k):=by rw [dL_map,dL_map,List.map_drop]
def wSt (cs ps sh:List Int) (od:D) (ws:List Wd) (turn:Nat) (a6 a7 a8 a9 a10:Option D):SD :=
 [some (.lst .frz (cs.map .int)),some (.lst .frz (ps.map .int)),some (.lst .frz (sh.map .int)),some od,some (.lst .own (dL ws)),some (.int turn),a6,a7,a8,a9,a10]
section
variable {cs ps sh:List Int}{od:D}{ws:List Wd}{turn:Nat}{a6 a7 a8 a9 a10:Option D}
theorem mix_at {f:SD->Res D}{τ:SD}{c k m:Int} (hf:f τ=.ok (.int c)) (hk:0 <= k/\k < 7) (hm:0 < m):∃ r,0 <= r/\r < m/\eCall G_Lmix (aCons f (aCons (eC (.int k)) (aCons (eC (.int m)) aNil))) τ=.ok (.int r):=by
 obtain ⟨r,h0,h1,e⟩:=mix_ok (c:=c) hk hm
 exact ⟨r,h0,h1,eCall_own (ds := [.int c,.int k,.int m]) (aCons_ok hf (aCons_ok rfl (aOne rfl))) e rfl⟩
theorem v4:eVar 4 (wSt cs ps sh od ws turn a6 a7 a8 a9 a10)=.ok (.lst .bor (dL ws)):=var_own rfl (dL_pure ws)
theorem len4:eA lenD (aCons (eVar 4) aNil) (wSt cs ps sh od ws turn a6 a7 a8 a9 a10)=.ok (.int (ws.length:Nat)):=by rw [len_ok v4,dL_len]
theorem v2s:eVar 2 (wSt cs ps sh od ws turn a6 a7 a8 a9 a10)=.ok (.lst .frz (sh.map .int)):=var_frz rfl (pure_ints sh)
theorem wood_b2 (hsh:∀ x ∈ sh,small x) (hnd:sh.Nodup) (htn:turn < 1000) (hc:cs ≠ []) (hs:sh.length=3) (hg:goodL ws) (hl:(leavesL ws).length <= 24) (h2:2 <= ws.length) :
  ∃ ws' b6 b7 b8 b9 b10,goodL ws'/\(leavesL ws').Perm (leavesL ws)/\1 <= ws'.length/\ws'.length < ws.length/\g_Lwood_b2 (wSt cs ps sh od ws turn a6 a7 a8 a9 a10)=.nx (wSt cs ps sh od ws' (turn + 1) b6 b7 b8 b9 b10):=by
 have hn:ws.length <= 24:=Nat.le_trans (deepL_le ws hg).1 hl
 have hcl:0 < (cs.length:Int):=by
  have:=List.length_pos_iff.mpr hc
  omega
 unfold g_Lwood_b2
 obtain ⟨cell,ec⟩:∃ cell:Int,eBin addD (eBin ixD (eVar 0) (eBin modD (eVar 5) (eA lenD (aCons (eVar 0) aNil)))) (eBin mulD (eC (.int 7)) (eVar 5)) (wSt cs ps sh od ws turn a6 a7 a8 a9 a10)=.ok (.int cell):=by
  have v0':eVar 0 (wSt cs ps sh od ws turn a6 a7 a8 a9 a10)=.ok (.lst .frz (cs.map .int)):=var_frz rfl (pure_ints cs)
  have em:eBin modD (eVar 5) (eA lenD (aCons (eVar 0) aNil)) (wSt cs ps sh od ws turn a6 a7 a8 a9 a10)=.ok (.int ((turn:Int) % (cs.length:Nat))):=modv_ok rfl (by rw [len_ok v0',List.length_map]) hcl
  obtain ⟨x,_,hx⟩:=ix_sh (sh:=cs) (t := .frz) (i:=(turn:Int) % (cs.length:Nat)) (Int.emod_nonneg _ (Int.ne_of_gt hcl)) (Int.emod_lt_of_pos _ hcl)
  exact ⟨x + 7 * (turn:Int),add_ok (ix_ok v0' em hx) (mulv_ok rfl rfl (mul_l (by decide)))⟩
 rw [seq_nx (set_nx ec rfl)]
 show ∃ ws' b6 b7 b8 b9 b10,_/\_/\_/\_/\sSeq _ _ (wSt cs ps sh od ws turn (some (.int cell)) a7 a8 a9 a10)=_
 obtain ⟨m1,m10,m11,em1⟩:=mix_at (f:=eVar 6) (τ:=wSt cs ps sh od ws turn (some (.int cell)) a7 a8 a9 a10) (c:=cell) (k:=0) (m:=4) rfl (by decide) (by decide)
 rw [seq_nx (set_nx (add_ok (a:=2) rfl em1) rfl)]
 show ∃ ws' b6 b7 b8 b9 b10,_/\_/\_/\_/\sSeq _ _ (wSt cs ps sh od ws turn (some (.int cell)) (some (.int (2 + m1))) a8 a9 a10)=_
 obtain ⟨m2,m20,m21,em2⟩:=mix_at (f:=eVar 6) (τ:=wSt cs ps sh od ws turn (some (.int cell)) (some (.int (2 + m1))) a8 a9 a10) (c:=cell) (k:=5) (m:=4) rfl (by decide) (by decide)
 obtain ⟨m3,m30,m31,em3⟩:=mix_at (f:=eVar 6) (τ:=wSt cs ps sh od ws turn (some (.int cell)) (some (.int (2 + m1))) a8 a9 a10) (c:=cell) (k:=6) (m:=23) rfl (by decide) (by decide)
 obtain ⟨mm,hm2,eif⟩:∃ mm:Int,2 <= mm/\sIf (eT (eBin eqD (eCall G_Lmix (aCons (eVar 6) (aCons (eC (.int 5)) (aCons (eC (.int 4)) aNil)))) (eC (.int 0)))) (sSet 7 (eBin addD (eC (.int 2)) (eCall G_Lmix (aCons (eVar 6) (aCons (eC (.int 6)) (aCons (eC (.int 23)) aNil)))))) sNext (wSt cs ps sh od ws turn (some (.int cell)) (some (.int (2 + m1))) a8 a9 a10)=.nx (wSt cs ps sh od ws turn (some (.int cell)) (some (.int mm)) a8 a9 a10):=by
  have cc:=eqi_ok em2 (show eC (.int 0) (wSt cs ps sh od ws turn (some (.int cell)) (some (.int (2 + m1))) a8 a9 a10)=.ok (.int 0) from rfl)
  cases hb:decide (m2=0) with
  | true =>
   rw [hb] at cc
   refine ⟨2 + m3,by omega,?_⟩
   rw [if_t cc,set_nx (add_ok (a:=2) rfl em3) rfl]
   rfl
  | false =>
   rw [hb] at cc
   refine ⟨2 + m1,by omega,?_⟩
   rw [if_f cc]
   rfl
 rw [seq_nx eif]
 obtain ⟨k,hk2,hkl,ek⟩:∃ k:Nat,2 <= k/\k <= ws.length/\eA min2D (aCons (eVar 7) (aCons (eA lenD (aCons (eVar 4) aNil)) aNil)) (wSt cs ps sh od ws turn (some (.int cell)) (some (.int mm)) a8 a9 a10)=.ok (.int k):=by
  refine ⟨(if ((ws.length:Nat):Int) < mm then ((ws.length:Nat):Int) else mm).toNat,by split <;> omega,by split <;> omega,?_⟩
  rw [eA_ok (aCons_ok (show eVar 7 _=.ok (.int mm) from rfl) (aOne len4))]
  show Res.ok (D.int (if ((ws.length:Nat):Int) < mm then ((ws.length:Nat):Int) else mm))=_
  congr 2
  split <;> omega
 rw [seq_nx (set_nx ek rfl)]
 show ∃ ws' b6 b7 b8 b9 b10,_/\_/\_/\_/\sSeq _ _ (wSt cs ps sh od ws turn (some (.int cell)) (some (.int k)) a8 a9 a10)=_
 have c1:=cut_to_ok (f:=eVar 4) (g:=eVar 7) (τ:=wSt cs ps sh od ws turn (some (.int cell)) (some (.int k)) a8 a9 a10) v4 rfl
 rw [dL_take] at c1
 rw [seq_nx (set_nx c1 (bor_own (dL_pure _)))]
 show ∃ ws' b6 b7 b8 b9 b10,_/\_/\_/\_/\sSeq _ _ (wSt cs ps sh od ws turn (some (.int cell)) (some (.int k)) (some (.lst .own (dL (ws.take k)))) a9 a10)=_
 have c2:=cut_from_ok (f:=eVar 4) (g:=eVar 7) (τ:=wSt cs ps sh od ws turn (some (.int cell)) (some (.int k)) (some (.lst .own (dL (ws.take k)))) a9 a10) v4 rfl
 rw [dL_drop] at c2
 rw [seq_nx (set_nx c2 (bor_own (dL_pure _)))]
 show ∃ ws' b6 b7 b8 b9 b10,_/\_/\_/\_/\sSeq _ _ (wSt cs ps sh od (ws.drop k) turn (some (.int cell)) (some (.int k)) (some (.lst .own (dL (ws.take k)))) a9 a10)=_
 have eapp:leavesL (ws.take k) ++ leavesL (ws.drop k)=leavesL ws:=by rw [<- leavesL_append,List.take_append_drop]
 have gt:goodL (ws.take k):=(goodL_iff _).mpr fun w m=>(goodL_iff ws).mp hg w (List.mem_of_mem_take m)
 have gd:goodL (ws.drop k):=(goodL_iff _).mpr fun w m=>(goodL_iff ws).mp hg w (List.mem_of_mem_drop m)
 have lt:(leavesL (ws.take k)).length <= 24:=by
  have:=congrArg List.length eapp
  rw [List.length_append] at this
  omega
 have tk:(ws.take k).length=k:=by rw [List.length_take]; omega
 have v8:∀ b9 b10:Option D,eVar 8 (wSt cs ps sh od (ws.drop k) turn (some (.int cell)) (some (.int k)) (some (.lst .own (dL (ws.take k)))) b9 b10)=.ok (.lst .bor (dL (ws.take k))):=fun b9 b10=>var_own rfl (dL_pure _)
 have fz:frzL (dL (ws.take k))=dL (ws.take k):=frzL_pure _ (dL_pure _)
 obtain ⟨kn,b10,gk,pk,e9⟩:∃ (kn:Wd) (b10:Option D),kn.good/\kn.leaves.Perm (leavesL (ws.take k))/\sIf (bAnd (eT (eBin gtD (eVar 7) (eC (.int 2)))) (eT (eBin ltD (eCall G_Lmix (aCons (eVar 6) (aCons (eC (.int 1)) (aCons (eC (.int 5)) aNil)))) (eC (.int 3))))) (sSet 9 (eCall G_Lprime (aCons (eVar 6) (aCons (eVar 8) (aCons (eVar 2) aNil))))) (sSeq (sSet 10 (eBin ixD (eBin addD (eVar 2) (eA lstD (aCons (eBin addD (eBin mulD (eVar 5) (eBin powD (eC (.int 10)) (eC (.int 9)))) (eBin modD (eVar 6) (eBin powD (eC (.int 10)) (eC (.int 9))))) aNil))) (eCall G_Lmix (aCons (eVar 6) (aCons (eC (.int 2)) (aCons (eC (.int 4)) aNil)))))) (sSet 9 (eCall G_Lflat (aCons (eVar 10) (aCons (eVar 8) aNil))))) (wSt cs ps sh od (ws.drop k) turn (some (.int cell)) (some (.int k)) (some (.lst .own (dL (ws.take k)))) a9 a10)=.nx (wSt cs ps sh od (ws.drop k) turn (some (.int cell)) (some (.int k)) (some (.lst .own (dL (ws.take k)))) (some kn.d) b10):=by
  obtain ⟨m4,m40,m41,em4⟩:=mix_at (f:=eVar 6) (τ:=wSt cs ps sh od (ws.drop k) turn (some (.int cell)) (some (.int k)) (some (.lst .own (dL (ws.take k)))) a9 a10) (c:=cell) (k:=1) (m:=5) rfl (by decide) (by decide)
  have cg:eT (eBin gtD (eVar 7) (eC (.int 2))) (wSt cs ps sh od (ws.drop k) turn (some (.int cell)) (some (.int k)) (some (.lst .own (dL (ws.take k)))) a9 a10)=.ok (decide ((2:Int) < (k:Nat))):=gti_ok rfl rfl
  have cl:=lti_ok em4 (show eC (.int 3) (wSt cs ps sh od (ws.drop k) turn (some (.int cell)) (some (.int k)) (some (.lst .own (dL (ws.take k)))) a9 a10)=.ok (.int 3) from rfl)
  have flatcase:∃ (kn:Wd) (b10:Option D),kn.good/\kn.leaves.Perm (leavesL (ws.take k))/\sSeq (sSet 10 (eBin ixD (eBin addD (eVar 2) (eA lstD (aCons (eBin addD (eBin mulD (eVar 5) (eBin powD (eC (.int 10)) (eC (.int 9)))) (eBin modD (eVar 6) (eBin powD (eC (.int 10)) (eC (.int 9))))) aNil))) (eCall G_Lmix (aCons (eVar 6) (aCons (eC (.int 2)) (aCons (eC (.int 4)) aNil)))))) (sSet 9 (eCall G_Lflat (aCons (eVar 10) (aCons (eVar 8) aNil)))) (wSt cs ps sh od (ws.drop k) turn (some (.int cell)) (some (.int k)) (some (.lst .own (dL (ws.take k)))) a9 a10)=.nx (wSt cs ps sh od (ws.drop k) turn (some (.int cell)) (some (.int k)) (some (.lst .own (dL (ws.take k)))) (some kn.d) b10):=by
   obtain ⟨m5,m50,m51,em5⟩:=mix_at (f:=eVar 6) (τ:=wSt cs ps sh od (ws.drop k) turn (some (.int cell)) (some (.int k)) (some (.lst .own (dL (ws.take k)))) a9 a10) (c:=cell) (k:=2) (m:=4) rfl (by decide) (by decide)
   have p9:∀ τ:SD,eBin powD (eC (.int 10)) (eC (.int 9)) τ=.ok (.int 1000000000):=fun τ=>rfl
   have e1:eA lstD (aCons (eBin addD (eBin mulD (eVar 5) (eBin powD (eC (.int 10)) (eC (.int 9)))) (eBin modD (eVar 6) (eBin powD (eC (.int 10)) (eC (.int 9))))) aNil) (wSt cs ps sh od (ws.drop k) turn (some (.int cell)) (some (.int k)) (some (.lst .own (dL (ws.take k)))) a9 a10)=.ok (.lst .own [.int ((turn:Int) * 1000000000 + cell % 1000000000)]):=by
    rw [eA_ok (aOne (add_ok (mulv_ok (show eVar 5 _=.ok (.int (turn:Int)) from rfl) (p9 _) (mul_r (by decide))) (modv_ok (show eVar 6 _=.ok (.int cell) from rfl) (p9 _) (by decide))))]
    rfl
   have e2:=addL_ok (v2s (cs:=cs) (ps:=ps) (sh:=sh) (od:=od) (ws:=ws.drop k) (turn:=turn) (a6:=some (.int cell)) (a7:=some (.int k)) (a8:=some (.lst .own (dL (ws.take k)))) (a9:=a9) (a10:=a10)) e1 (by simp [hs])
   obtain ⟨x,mx,hx⟩:=ix_sh (sh:=sh ++ [(turn:Int) * 1000000000 + cell % 1000000000]) (t := .own) (i:=m5) m50 (by rw [List.length_append,hs]; exact m51)
   rw [List.map_append] at hx
   have e3:=ix_ok e2 em5 hx
   have sx:small x:=(List.mem_append.mp mx).elim (hsh x) fun m=>by
    rw [List.mem_singleton.mp m]
    unfold small
    have h1:=Int.emod_nonneg cell (show (1000000000:Int) ≠ 0 by decide)
    have h2:=Int.emod_lt_of_pos cell (show (0:Int) < 1000000000 by decide)
    have h3:((turn:Int) * 1000000000 + cell % 1000000000).natAbs < 1000000000000:=by omega
    exact Nat.lt_trans h3 (by decide)
   refine ⟨flatW x (ws.take k),some (.int x),flatW_good sx gt (by omega),flatW_leaves x (ws.take k),?_⟩
   rw [seq_nx (set_nx e3 rfl)]
   show sSet 9 _ (wSt cs ps sh od (ws.drop k) turn (some (.int cell)) (some (.int k)) (some (.lst .own (dL (ws.take k)))) a9 (some (.int x)))=_
   have e4:eCall G_Lflat (aCons (eVar 10) (aCons (eVar 8) aNil)) (wSt cs ps sh od (ws.drop k) turn (some (.int cell)) (some (.int k)) (some (.lst .own (dL (ws.take k)))) a9 (some (.int x)))=.ok (flatW x (ws.take k)).d:=by
    refine eCall_pure (ds := [.int x,.lst .bor (dL (ws.take k))]) (aCons_ok rfl (aOne (v8 _ _))) ?_ (Wd.pure _)
    show G_Lflat [.int x,.lst .frz (frzL (dL (ws.take k)))]=_
    rw [fz]
    exact flat_eq gt lt
   rw [set_nx e4 (hasBor_pure _ (Wd.pure _))]
   rfl
  by_cases hk3:(2:Int) < (k:Nat)
  ·rw [decide_eq_true hk3] at cg
   cases hb:decide (m4 < 3) with
   | true =>
    rw [hb] at cl
    obtain ⟨kn,gk,pk,ep⟩:=prime_ok (cell:=cell) (ws:=ws.take k) (sh:=sh) hsh hnd hs (by omega) gt lt
    refine ⟨kn,a10,gk,pk,?_⟩
    rw [if_t (and_t cg cl)]
    have e4:eCall G_Lprime (aCons (eVar 6) (aCons (eVar 8) (aCons (eVar 2) aNil))) (wSt cs ps sh od (ws.drop k) turn (some (.int cell)) (some (.int k)) (some (.lst .own (dL (ws.take k)))) a9 a10)=.ok kn.d:=by
     refine eCall_pure (ds := [.int cell,.lst .bor (dL (ws.take k)),.lst .frz (sh.map .int)]) (aCons_ok rfl (aCons_ok (v8 _ _) (aOne v2s))) ?_ (Wd.pure _)
     show G_Lprime [.int cell,.lst .frz (frzL (dL (ws.take k))),.lst .frz (frzL (sh.map .int))]=_
     rw [fz,frz_ints]
     exact ep
    rw [set_nx e4 (hasBor_pure _ (Wd.pure _))]
    rfl
   | false =>
    rw [hb] at cl
    rw [if_f (and_t cg cl)]
    exact flatcase
  ·rw [decide_eq_false hk3] at cg
   rw [if_f (and_f cg)]
   exact flatcase
 rw [seq_nx e9]
 obtain ⟨m6,m60,m61,em6⟩:=mix_at (f:=eVar 6) (τ:=wSt cs ps sh od (ws.drop k) turn (some (.int cell)) (some (.int k)) (some (.lst .own (dL (ws.take k)))) (some kn.d) b10) (c:=cell) (k:=3) (m:=2) rfl (by decide) (by decide)
 have v9:eVar 9 (wSt cs ps sh od (ws.drop k) turn (some (.int cell)) (some (.int k)) (some (.lst .own (dL (ws.take k)))) (some kn.d) b10)=.ok kn.d:=var_p rfl kn.pure
 obtain ⟨ws',g',p',l',e4⟩:∃ ws':List Wd,goodL ws'/\(leavesL ws').Perm (leavesL ws)/\ws'.length=(ws.drop k).length + 1/\sIf (eT (eBin eqD (eCall G_Lmix (aCons (eVar 6) (aCons (eC (.int 3)) (aCons (eC (.int 2)) aNil)))) (eC (.int 0)))) (sSet 4 (eBin addD (eA lstD (aCons (eVar 9) aNil)) (eVar 4))) (sApp 4 (eVar 9)) (wSt cs ps sh od (ws.drop k) turn (some (.int cell)) (some (.int k)) (some (.lst .own (dL (ws.take k)))) (some kn.d) b10)=.nx (wSt cs ps sh od ws' turn (some (.int cell)) (some (.int k)) (some (.lst .own (dL (ws.take k)))) (some kn.d) b10):=by
  have cc:=eqi_ok em6 (show eC (.int 0) (wSt cs ps sh od (ws.drop k) turn (some (.int cell)) (some (.int k)) (some (.lst .own (dL (ws.take k)))) (some kn.d) b10)=.ok (.int 0) from rfl)
  have dl:(ws.drop k).length <= 24:=by rw [List.length_drop]; omega
  cases hb:decide (m6=0) with
  | true =>
   rw [hb] at cc
   refine ⟨kn :: ws.drop k,⟨gk,gd⟩,?_,rfl,?_⟩
   ·show (kn.leaves ++ leavesL (ws.drop k)).Perm _
    rw [<- eapp]
    exact pk.append_right _
   ·have e1:eA lstD (aCons (eVar 9) aNil) (wSt cs ps sh od (ws.drop k) turn (some (.int cell)) (some (.int k)) (some (.lst .own (dL (ws.take k)))) (some kn.d) b10)=.ok (.lst .own [kn.d]):=by
     rw [eA_ok (aOne v9)]
     rfl
    have e2:=addL_ok e1 (v4 (cs:=cs) (ps:=ps) (sh:=sh) (od:=od) (ws:=ws.drop k) (turn:=turn) (a6:=some (.int cell)) (a7:=some (.int k)) (a8:=some (.lst .own (dL (ws.take k)))) (a9:=some kn.d) (a10:=b10)) (by rw [dL_len]; show 1 + _ <= _; omega)
    rw [if_t cc,set_nx e2 (bor_own (by exact dL_pure (kn :: ws.drop k)))]
    rfl
  | false =>
   rw [hb] at cc
   refine ⟨ws.drop k ++ [kn],(goodL_iff _).mpr fun w m=>(List.mem_append.mp m).elim ((goodL_iff _).mp gd w) fun m=>by rw [List.mem_singleton.mp m]; exact gk,?_,by rw [List.length_append]; rfl,?_⟩
   ·rw [leavesL_append,<- eapp]
    show (leavesL (ws.drop k) ++ (kn.leaves ++ [])).Perm _
    rw [List.append_nil]
    exact (List.Perm.append_left _ pk).trans List.perm_append_comm
   ·rw [if_f cc,app_nx (xs:=dL (ws.drop k)) (d:=kn.d) rfl v9 (hasBor_pure _ kn.pure) (by rw [dL_len]; omega)]
    unfold wSt
    rw [dL_append]
    rfl
 rw [seq_nx e4]
 rw [List.length_drop] at l'
 refine ⟨ws',some (.int cell),some (.int k),some (.lst .own (dL (ws.take k))),some kn.d,b10,g',p',by omega,by omega,?_⟩
 exact set_nx (d := .int ((turn + 1:Nat):Int)) (show _=Res.ok (D.int ((turn:Int) + 1)) from add_ok rfl rfl) rfl
end
theorem wood_while {cs ps sh:List Int}{od:D} (hsh:∀ x ∈ sh,small x) (hnd:sh.Nodup) (hc:cs ≠ []) (hs:sh.length=3):∀ (m:Nat) {ws:List Wd}{turn:Nat}{a6 a7 a8 a9 a10:Option D},goodL ws->(leavesL ws).length <= 24->1 <= ws.length->ws.length <= m + 1->turn + m < 1000 ->
  ∃ (w:Wd) (turn':Nat) (b6 b7 b8 b9 b10:Option D),w.good/\w.leaves.Perm (leavesL ws)/\whileD g_Lwood_w1 g_Lwood_b2 (m + 1) (wSt cs ps sh od ws turn a6 a7 a8 a9 a10)=.nx (wSt cs ps sh od [w] turn' b6 b7 b8 b9 b10):=by
 intro m
 induction m with
 | zero =>
  intro ws turn a6 a7 a8 a9 a10 hg hl h1 hm htn
  obtain ⟨w,rfl⟩:∃ w,ws=[w]:=List.length_eq_one_iff.mp (by omega)
  have c:g_Lwood_w1 (wSt cs ps sh od [w] turn a6 a7 a8 a9 a10)=.ok false:=by
   unfold g_Lwood_w1
   exact (gti_ok len4 (show eC (.int 1) _=.ok (.int 1) from rfl)).trans rfl
  refine ⟨w,turn,a6,a7,a8,a9,a10,hg.1,by show w.leaves.Perm (w.leaves ++ []); rw [List.append_nil],?_⟩
  rw [whileD,c]
  rfl
 | succ m ih =>
  intro ws turn a6 a7 a8 a9 a10 hg hl h1 hm htn
  have c:g_Lwood_w1 (wSt cs ps sh od ws turn a6 a7 a8 a9 a10)=.ok (decide ((1:Int) < (ws.length:Nat))):=by
   unfold g_Lwood_w1
   exact gti_ok len4 rfl
  by_cases h2:2 <= ws.length
  ·rw [decide_eq_true (by omega)] at c
   obtain ⟨ws',b6,b7,b8,b9,b10,g',p',l1,l2,e⟩:=wood_b2 (cs:=cs) (ps:=ps) (sh:=sh) (od:=od) (ws:=ws) (turn:=turn) (a6:=a6) (a7:=a7) (a8:=a8) (a9:=a9) (a10:=a10) hsh hnd (by omega) hc hs hg hl h2
   obtain ⟨w,t',d6,d7,d8,d9,d10,gw,pw,e2⟩:=ih (ws:=ws') (turn:=turn + 1) (a6:=b6) (a7:=b7) (a8:=b8) (a9:=b9) (a10:=b10) g' (by rw [p'.length_eq]; exact hl) l1 (by omega) (by omega)
   refine ⟨w,t',d6,d7,d8,d9,d10,gw,pw.trans p',?_⟩
   rw [whileD,c]
   show (match g_Lwood_b2 (wSt cs ps sh od ws turn a6 a7 a8 a9 a10) with | .nx t=>whileD g_Lwood_w1 g_Lwood_b2 (m + 1) t | .ct t=>whileD g_Lwood_w1 g_Lwood_b2 (m + 1) t | .bk t=>Fl.nx t | o=>o)=_
   rw [e]
   exact e2
  ·obtain ⟨w,rfl⟩:∃ w,ws=[w]:=List.length_eq_one_iff.mp (by omega)
   rw [decide_eq_false (by show ¬ (1:Int) < ((1:Nat):Int); omega)] at c
   refine ⟨w,turn,a6,a7,a8,a9,a10,hg.1,by show w.leaves.Perm (w.leaves ++ []); rw [List.append_nil],?_⟩
   rw [whileD,c]
   rfl
theorem leaf_d (xs:List Int):dL (xs.map Wd.leaf)=xs.map .int:=by rw [dL_map,List.map_map]; rfl
theorem leaf_l (xs:List Int):leavesL (xs.map Wd.leaf)=xs:=by
 induction xs with
 | nil=>rfl
 | cons x r ih=>show [x] ++ leavesL (r.map Wd.leaf)=_; rw [ih]; rfl
theorem leaf_g (xs:List Int) (h:∀ x ∈ xs,small x):goodL (xs.map Wd.leaf):=(goodL_iff _).mpr fun w m=>by obtain ⟨x,mx,rfl⟩:=List.mem_map.mp m; exact h x mx
theorem wood_ok {cs ps sh:List Int} (hps:∀ x ∈ ps,small x) (hsh:∀ x ∈ sh,small x) (hnd:sh.Nodup) (hc:cs ≠ []) (hp1:1 <= ps.length) (hp:ps.length <= 24) (hs:sh.length=3) :
  ∃ w:Wd,w.good/\w.leaves.Perm ps/\G_Lwood [.lst .frz (cs.map .int),.lst .frz (ps.map .int),.lst .frz (sh.map .int)]=.ok w.d:=by
 have hcl:0 < (cs.length:Int):=by
  have:=List.length_pos_iff.mpr hc
  omega
 let τ0:SD := [some (.lst .frz (cs.map .int)),some (.lst .frz (ps.map .int)),some (.lst .frz (sh.map .int)),none,none,none,none,none,none,none,none]
 have v1:∀ r:SD,eVar 1 (some (.lst .frz (cs.map .int)) :: some (.lst .frz (ps.map .int)) :: r)=.ok (.lst .frz (ps.map .int)):=fun r=>var_frz rfl (pure_ints ps)
 have helt:∀ k:Nat,∃ i:Int,g_Lwood_e4 [some (.int k),some (.lst .frz (cs.map .int))]=.ok (prD (i,(k:Int))):=fun k=>by
  have w1:eVar 1 [some (.int (k:Int)),some (.lst .frz (cs.map .int))]=.ok (.lst .frz (cs.map .int)):=var_frz rfl (pure_ints cs)
  have em:eBin modD (eVar 0) (eA lenD (aCons (eVar 1) aNil)) [some (.int (k:Int)),some (.lst .frz (cs.map .int))]=.ok (.int ((k:Int) % (cs.length:Nat))):=modv_ok rfl (by rw [len_ok w1,List.length_map]) hcl
  obtain ⟨x,_,hx⟩:=ix_sh (sh:=cs) (t := .frz) (i:=(k:Int) % (cs.length:Nat)) (Int.emod_nonneg _ (Int.ne_of_gt hcl)) (Int.emod_lt_of_pos _ hcl)
  obtain ⟨r,_,_,er⟩:=mix_at (f:=eBin addD (eBin ixD (eVar 1) (eBin modD (eVar 0) (eA lenD (aCons (eVar 1) aNil)))) (eBin mulD (eC (.int 31)) (eVar 0))) (τ := [some (.int (k:Int)),some (.lst .frz (cs.map .int))]) (c:=x + 31 * (k:Int)) (k:=4) (m:=997) (add_ok (ix_ok w1 em hx) (mulv_ok rfl rfl (mul_l (by decide)))) (by decide) (by decide)
  refine ⟨r,?_⟩
  unfold g_Lwood_e4
  rw [eA_ok (aCons_ok er (aOne rfl))]
  rfl
 let f:Nat->Int:=fun k=>match g_Lwood_e4 [some (.int k),some (.lst .frz (cs.map .int))] with | .ok (.tup [.int i,_])=>i | _=>0
 have hf:∀ k:Nat,g_Lwood_e4 [some (.int k),some (.lst .frz (cs.map .int))]=.ok (prD (f k,(k:Int))):=fun k=>by
  obtain ⟨i,e⟩:=helt k
  have:f k=i:=by
   show (match g_Lwood_e4 [some (.int k),some (.lst .frz (cs.map .int))] with | .ok (.tup [.int i,_])=>i | _=>0)=i
   rw [e]
   rfl
  rw [this]
  exact e
 let mk:List (Int × Int):=(List.range ps.length).map fun k=>(f k,(k:Int))
 let od:List (Int × Int):=SR.ordered (0,0) (L2.prLt mk) mk
 have hml:mk.length=ps.length:=by simp [mk]
 have odp:od.Perm mk:=SR.ordered_perm _ _ _
 have pod:pureL (od.map prD)=true:=pureL_of fun d m=>by obtain ⟨q,_,rfl⟩:=List.mem_map.mp m; rfl
 have ec:eComp (eRng1 (aCons (eA lenD (aCons (eVar 1) aNil)) aNil)) (gN 0) bTrue g_Lwood_e4 1 [("_law_cells",0)] τ0=.ok (.lst .own (mk.map prD)):=by
  have hlen:eA lenD (aCons (eVar 1) aNil) τ0=.ok (.int (ps.length:Nat)):=by rw [len_ok (v1 _),List.length_map]
  rw [eComp_all (fun d=>match d with | .int x=>prD (f x.toNat,x) | d=>d) (rng_nat hlen (by omega)) (fun d m=>?_) (by simp; omega),frz_rng]
  ·rw [List.map_map,List.map_map]
   rfl
  ·rw [frz_rng] at m
   obtain ⟨k,hk,rfl⟩:=List.mem_map.mp m
   refine ⟨?_,rfl⟩
   show g_Lwood_e4 [some (.int k),some (.lst .frz (frzL (cs.map .int)))]=_
   rw [frz_ints]
   exact hf k
 have e3:eA sortedPD (aCons (eComp (eRng1 (aCons (eA lenD (aCons (eVar 1) aNil)) aNil)) (gN 0) bTrue g_Lwood_e4 1 [("_law_cells",0)]) aNil) τ0=.ok (.lst .own (od.map prD)):=by
  rw [eA_ok (aOne ec)]
  unfold sortedPD
  simp only [prsOf_map]
  rw [if_pos (by rw [hml]; omega),<- SR.ordered_map prD (0,0) .non]
 let xs:List Int:=od.map fun q=>ps.getD q.2.toNat 0
 have xp:xs.Perm ps:=by
  have h:mk.map (fun q=>ps.getD q.2.toNat 0)=ps:=by
   refine List.ext_getElem (by simp [mk]) fun i h1 h2=>?_
   simp [mk,List.getElem?_eq_getElem h2]
  have:=odp.map (fun q:Int × Int=>ps.getD q.2.toNat 0)
  rw [h] at this
  exact this
 let τ1:SD := [some (.lst .frz (cs.map .int)),some (.lst .frz (ps.map .int)),some (.lst .frz (sh.map .int)),some (.lst .own (od.map prD)),none,none,none,none,none,none,none]
 have e4:eComp (eIt (eVar 3)) (gT 2 (gsCons 0 (gsCons 1 gsNil))) bTrue g_Lwood_e3 2 [("_law_places_here",1)] τ1=.ok (.lst .own (dL (xs.map Wd.leaf))):=by
  have hit:eIt (eVar 3) τ1=.ok (true,(od.map fun q=>((D.int q.1),D.int q.2)).map fun p=>D.tup [p.1,p.2]):=by
   unfold eIt
   rw [var_own (xs:=od.map prD) rfl pod,Res.bind_ok]
   show Res.ok (true,od.map prD)=_
   rw [List.map_map]
   rfl
  rw [eComp_two (fun _ b=>match b with | .int k=>.int (ps.getD k.toNat 0) | d=>d) hit (pureL_of fun d m=>?_) (fun p m=>?_) (by rw [List.length_map,odp.length_eq,hml]; omega)]
  ·rw [leaf_d,List.map_map,List.map_map]
   rfl
  ·obtain ⟨p,mp,rfl⟩:=List.mem_map.mp m
   obtain ⟨q,_,rfl⟩:=List.mem_map.mp mp
   rfl
  ·obtain ⟨q,mq,rfl⟩:=List.mem_map.mp m
   obtain ⟨k,hk,eq⟩:=List.mem_map.mp (odp.mem_iff.mp mq)
   have hk:=List.mem_range.mp hk
   have e2:q.2=(k:Int):=by rw [<- eq]
   have et:q.2.toNat=k:=by omega
   refine ⟨?_,rfl⟩
   show eBin ixD (eVar 2) (eVar 1) [some (.int q.1),some (.int q.2),some (.lst .frz (frzL (ps.map .int)))]=.ok (.int (ps.getD q.2.toNat 0))
   rw [frz_ints,et]
   refine ix_ok (var_frz rfl (pure_ints ps)) rfl (ix_lst (j:=k) e2 ?_)
   rw [List.getElem?_map,List.getElem?_eq_getElem hk,List.getD_eq_getElem?_getD,List.getElem?_eq_getElem hk]
   rfl
 obtain ⟨w,t',b6,b7,b8,b9,b10,gw,pw,ew⟩:=wood_while (cs:=cs) (ps:=ps) (sh:=sh) (od := .lst .own (od.map prD)) hsh hnd hc hs 24 (ws:=xs.map Wd.leaf) (turn:=0) (a6:=none) (a7:=none) (a8:=none) (a9:=none) (a10:=none) (leaf_g xs fun x m=>hps x (xp.mem_iff.mp m)) (by rw [leaf_l,xp.length_eq]; exact hp) (by rw [List.length_map,xp.length_eq]; exact hp1) (by rw [List.length_map,xp.length_eq]; omega) (by omega)
 rw [leaf_l] at pw
 refine ⟨w,gw,pw.trans xp,run_rt (τ:=τ0) rfl rfl ?_⟩
 unfold g_Lwood
 rw [seq_nx (set_nx e3 (bor_own pod))]
 show sSeq _ _ τ1=_
 rw [seq_nx (set_nx e4 (bor_own (dL_pure _)))]
 have s5:sSet 5 (eC (.int 0)) [some (.lst .frz (cs.map .int)),some (.lst .frz (ps.map .int)),some (.lst .frz (sh.map .int)),some (.lst .own (od.map prD)),some (.lst .own (dL (xs.map Wd.leaf))),none,none,none,none,none,none]=.nx (wSt cs ps sh (.lst .own (od.map prD)) (xs.map Wd.leaf) 0 none none none none none):=set_nx rfl rfl
 show sSeq _ _ [some (.lst .frz (cs.map .int)),some (.lst .frz (ps.map .int)),some (.lst .frz (sh.map .int)),some (.lst .own (od.map prD)),some (.lst .own (dL (xs.map Wd.leaf))),none,none,none,none,none,none]=_
 have s6:sWhile g_Lwood_w1 g_Lwood_b2 (wSt cs ps sh (.lst .own (od.map prD)) (xs.map Wd.leaf) 0 none none none none none)=.nx (wSt cs ps sh (.lst .own (od.map prD)) [w] t' b6 b7 b8 b9 b10):=by
  rw [sWhile_eq (n:=25) (by rw [ew]; exact Fl.noConfusion),ew]
 rw [seq_nx s5,seq_nx s6]
 exact ret_ok (ix_ok v4 rfl (ix_lst (j:=0) rfl rfl)) w.pure
end KL
namespace KL
open DL PySem
abbrev Sc (ns:List Int):D := .lst .frz (ns.map .int)
def cellAt (ns:List Int) (k:Nat):Int:=ns.getD k 0
theorem cellAt_eq (ns:List Int) (k:Nat):G_Lcell_at [Sc ns,.int k]=.ok (.int (cellAt ns k)):=by
 refine run_rt (τ := [some (Sc ns),some (.int k)]) rfl rfl ?_
 unfold g_Lcell_at
 have v0:eVar 0 [some (Sc ns),some (.int k)]=.ok (Sc ns):=var_frz rfl (pure_ints ns)
 have cc:eT (eBin ltD (eVar 1) (eA lenD (aCons (eVar 0) aNil))) [some (Sc ns),some (.int k)]=.ok (decide ((k:Int) < (ns.length:Nat))):=lti_ok rfl (by rw [len_ok v0,List.length_map])
 unfold cellAt
 by_cases hk:k < ns.length
 ·rw [decide_eq_true (by omega)] at cc
  rw [List.getD_eq_getElem?_getD,List.getElem?_eq_getElem hk]
  exact if_rt cc (ret_ok (ix_ok v0 rfl (ix_lst (j:=k) rfl (by rw [List.getElem?_map,List.getElem?_eq_getElem hk]; rfl))) rfl)
 ·rw [decide_eq_false (by omega)] at cc
  rw [if_go cc,List.getD_eq_getElem?_getD,List.getElem?_eq_none (by omega)]
  exact ret_ok rfl rfl
theorem ix_last {t:Tg}{xs:List Int}{x:Int}:ixD (.lst t ((xs ++ [x]).map .int)) (.int (-1))=.ok (.int x):=by
 have e:L2.atI ((xs ++ [x]).map D.int) (-1)=some (D.int x):=by
  have hl:((xs ++ [x]).map D.int).length=xs.length + 1:=by simp
  have hn:L2.ixN (xs.length + 1) (-1)=some xs.length:=by
   unfold L2.ixN
   simp
   omega
  unfold L2.atI
  rw [hl,hn]
  simp
 show (match L2.atI ((xs ++ [x]).map D.int) (-1) with | some d=>Res.ok d | none=>.bad)=_
 rw [e]
theorem places_ok (c:Int) {m:Nat} (h1:1 <= m) (hm:m <= 24):∃ ps:List Int,ps.length=m/\ps.Pairwise (· < ·)/\(∀ x ∈ ps,0 <= x/\x < 10 ^ 30 + 100)/\G_Lplaces [.int c,.int m]=.ok (.lst .own (ps.map .int)):=by
 have hc0:=Int.emod_nonneg c (show (10 ^ 30:Int) ≠ 0 by decide)
 have hc1:=Int.emod_lt_of_pos c (show (0:Int) < 10 ^ 30 by decide)
 have p30:∀ τ:SD,eBin powD (eC (.int 10)) (eC (.int 30)) τ=.ok (.int (10 ^ 30)):=fun τ=>rfl
 have s1:sSet 2 (eA lstD (aCons (eBin modD (eVar 0) (eBin powD (eC (.int 10)) (eC (.int 30)))) aNil)) [some (.int c),some (.int m),none,none]=.nx [some (.int c),some (.int m),some (.lst .own (([] ++ [c % 10 ^ 30]).map .int)),none]:=by
  have e:=modv_ok (f:=eVar 0) (g:=eBin powD (eC (.int 10)) (eC (.int 30))) (τ := [some (.int c),some (.int m),none,none]) (a:=c) rfl (p30 _) (by decide)
  rw [set_nx ((eA_ok (aOne e)).trans rfl) rfl]
  rfl
 obtain ⟨t,f1,xs,x,o,f2,f3,f4,f5,f6⟩:=forD_inv (tg:=gN 3) (body:=g_Lplaces_b1) (ds:=(List.range (m - 1)).map fun k:Nat=>.int k) (fun i τ=>∃ xs x o,τ=[some (.int c),some (.int m),some (.lst .own ((xs ++ [x]).map .int)),o]/\xs.length=i/\(xs ++ [x]).Pairwise (· < ·)/\(∀ y ∈ xs ++ [x],0 <= y)/\∀ y ∈ xs ++ [x],y <= x/\y < 10 ^ 30 + 3 * (i:Int) + 1 ) 0 [some (.int c),some (.int m),some (.lst .own (([] ++ [c % 10 ^ 30]).map .int)),none] ⟨[],c % 10 ^ 30,none,rfl,rfl,List.pairwise_singleton _ _,fun y my=>by rw [List.mem_singleton.mp my]; exact hc0,fun y my=>by rw [List.mem_singleton.mp my]; exact ⟨Int.le_refl _,by omega⟩⟩ fun j d τ hd hP=>by
  obtain ⟨xs,x,o,rfl,hl,hp,h0,hx⟩:=hP
  rw [Nat.zero_add] at *
  have hj:j < m - 1:=by
   have:=(List.getElem?_eq_some_iff.mp hd).1
   simpa using this
  obtain rfl:d=.int j:=by
   rw [List.getElem?_map,List.getElem?_range hj] at hd
   cases hd
   rfl
  obtain ⟨r,r0,r1,er⟩:=mix_at (f:=eBin addD (eVar 0) (eVar 3)) (τ := [some (.int c),some (.int m),some (.lst .own ((xs ++ [x]).map .int)),some (.int j)]) (c:=c + j) (k:=6) (m:=3) (add_ok rfl rfl) (by decide) (by decide)
  have el:eBin ixD (eVar 2) (eUn negD (eC (.int 1))) [some (.int c),some (.int m),some (.lst .own ((xs ++ [x]).map .int)),some (.int j)]=.ok (.int x):=ix_ok (var_own rfl (pure_ints _)) (show eUn negD (eC (.int 1)) _=.ok (.int (-1)) from rfl) ix_last
  have ea:=add_ok (add_ok el (show eC (.int 1) _=.ok (.int 1) from rfl)) er
  have hxx:=hx x (List.mem_append_right _ List.mem_cons_self)
  refine ⟨_,_,rfl,.inl (app_nx (xs:=(xs ++ [x]).map .int) rfl ea rfl (by simp only [List.length_map,List.length_append,List.length_singleton]; omega)),xs ++ [x],x + 1 + r,some (.int j),?_,by rw [List.length_append,hl]; rfl,?_,?_,?_⟩
  ·show [some (D.int c),some (D.int m),some (D.lst .own ((xs ++ [x]).map .int ++ [.int (x + 1 + r)])),some (D.int j)]=_
   rw [List.map_append (l₁:=xs ++ [x])]
   rfl
  ·refine List.pairwise_append.mpr ⟨hp,List.pairwise_singleton _ _,fun a ma b mb=>?_⟩
   rw [List.mem_singleton.mp mb]
   have:=(hx a ma).1
   omega
  ·intro y my
   rcases List.mem_append.mp my with my | my
   ·exact h0 y my
   ·rw [List.mem_singleton.mp my]
    have:=h0 x (List.mem_append_right _ List.mem_cons_self)
    omega
  ·intro y my
   rcases List.mem_append.mp my with my | my
   ·have:=hx y my
    omega
   ·rw [List.mem_singleton.mp my]
    omega
 have f3:xs.length=m - 1:=by simpa using f3
 refine ⟨xs ++ [x],by rw [List.length_append,f3]; show m - 1 + 1=m; omega,f4,fun y my=>⟨f5 y my,?_⟩,run_rt (τ := [some (.int c),some (.int m),none,none]) rfl rfl ?_⟩
 ·have:=(f6 y my).2
  have e:(0 + ((List.range (m - 1)).map fun k:Nat=>D.int k).length:Nat)=m - 1:=by simp
  rw [e] at this
  omega
 ·unfold g_Lplaces
  have hr:eRng1 (aCons (eBin subD (eVar 1) (eC (.int 1))) aNil) [some (.int c),some (.int m),some (.lst .own (([] ++ [c % 10 ^ 30]).map .int)),none]=.ok (false,(List.range (m - 1)).map fun k:Nat=>.int k):=by
   refine rng_nat ?_ (by omega)
   have:eBin subD (eVar 1) (eC (.int 1)) [some (.int c),some (.int m),some (.lst .own (([] ++ [c % 10 ^ 30]).map .int)),none]=.ok (.int ((m:Int) - 1)):=(eBin_ok (show eVar 1 _=.ok (.int (m:Int)) from rfl) rfl).trans rfl
   rw [this]
   congr 2
   omega
  have s2:sFor [] (eRng1 (aCons (eBin subD (eVar 1) (eC (.int 1))) aNil)) (gN 3) g_Lplaces_b1 [some (.int c),some (.int m),some (.lst .own (([] ++ [c % 10 ^ 30]).map .int)),none]=.nx [some (.int c),some (.int m),some (.lst .own ((xs ++ [x]).map .int)),o] :=
   (for_at (js := []) rfl hr).trans (by rw [frz_rng,<- f2]; exact f1)
  rw [seq_nx s1,seq_nx s2]
  rfl
theorem nd3 {x y z:Int} (h1:x ≠ y) (h2:x ≠ z) (h3:y ≠ z):[x,y,z].Nodup:=by
 simp only [List.nodup_cons,List.mem_cons,List.not_mem_nil,or_false,not_or,List.nodup_nil,and_true]
 exact ⟨⟨h1,h2⟩,h3,fun z=>z⟩
theorem shades_ok (c:Int):∃ sh:List Int,sh.length=3/\sh.Nodup/\(∀ x ∈ sh,0 <= x/\x <= 2 * 10 ^ 30)/\G_Lshades [.int c]=.ok (.lst .own (sh.map .int)):=by
 have hc0:=Int.emod_nonneg c (show (10 ^ 30:Int) ≠ 0 by decide)
 have hc1:=Int.emod_lt_of_pos c (show (0:Int) < 10 ^ 30 by decide)
 have h0:=Int.emod_nonneg c (show (3:Int) ≠ 0 by decide)
 have h1:=Int.emod_lt_of_pos c (show (0:Int) < 3 by decide)
 let u:Int:=1 + c % 10 ^ 30
 have p30:∀ τ:SD,eBin powD (eC (.int 10)) (eC (.int 30)) τ=.ok (.int (10 ^ 30)):=fun τ=>rfl
 have e1:=add_ok (f:=eC (.int 1)) (τ := [some (.int c),none]) (a:=1) rfl (modv_ok (f:=eVar 0) (a:=c) rfl (p30 _) (by decide))
 have e2:eA lstD (aCons (eA lstD (aCons (eC (.int 0)) (aCons (eVar 1) (aCons (eBin addD (eVar 1) (eC (.int 1))) aNil)))) (aCons (eA lstD (aCons (eVar 1) (aCons (eC (.int 0)) (aCons (eBin mulD (eC (.int 2)) (eVar 1)) aNil)))) (aCons (eA lstD (aCons (eC (.int 1)) (aCons (eC (.int 0)) (aCons (eC (.int 2)) aNil)))) aNil))) [some (.int c),some (.int u)]=.ok (.lst .own [.lst .own [.int 0,.int u,.int (u + 1)],.lst .own [.int u,.int 0,.int (2 * u)],.lst .own [.int 1,.int 0,.int 2]]):=by
  have em:eBin mulD (eC (.int 2)) (eVar 1) [some (.int c),some (.int u)]=.ok (.int (2 * u)):=mulv_ok rfl rfl (mul_l (by decide))
  rw [eA_ok (aCons_ok (show eA lstD _ _=.ok (.lst .own [.int 0,.int u,.int (u + 1)]) from rfl) (aCons_ok ((eA_ok (aCons_ok rfl (aCons_ok rfl (aOne em)))).trans rfl) (aOne rfl)))]
  rfl
 have hm:eBin modD (eVar 0) (eC (.int 3)) [some (.int c),some (.int u)]=.ok (.int (c % 3)):=mod_ok rfl (by decide)
 have hcase:c % 3=0 ∨ c % 3=1 ∨ c % 3=2:=by omega
 have run:∀ sh:List Int,ixD (.lst .own [.lst .own [.int 0,.int u,.int (u + 1)],.lst .own [.int u,.int 0,.int (2 * u)],.lst .own [.int 1,.int 0,.int 2]]) (.int (c % 3))=.ok (.lst .own (sh.map .int))->G_Lshades [.int c]=.ok (.lst .own (sh.map .int)):=fun sh hx=>by
  refine run_rt (τ := [some (.int c),none]) rfl rfl ?_
  unfold g_Lshades
  rw [seq_nx (set_nx e1 rfl)]
  exact ret_rt (ix_ok e2 hm hx) (bor_own (pure_ints sh))
 rcases hcase with e | e | e
 ·refine ⟨[0,u,u + 1],rfl,nd3 (by omega) (by omega) (by omega),fun x mx=>?_,run _ (by rw [e]; rfl)⟩
  simp only [List.mem_cons,List.not_mem_nil,or_false] at mx
  omega
 ·refine ⟨[u,0,2 * u],rfl,nd3 (by omega) (by omega) (by omega),fun x mx=>?_,run _ (by rw [e]; rfl)⟩
  simp only [List.mem_cons,List.not_mem_nil,or_false] at mx
  omega
 ·refine ⟨[1,0,2],rfl,nd3 (by omega) (by omega) (by omega),fun x mx=>?_,run _ (by rw [e]; rfl)⟩
  simp only [List.mem_cons,List.not_mem_nil,or_false] at mx
  omega
theorem small_of {x:Int} (h0:0 <= x) (h1:x < 10 ^ 31):small x:=by
 unfold small
 have:x.natAbs < 10 ^ 31:=by omega
 exact Nat.lt_trans this (by decide)
theorem frz1 (w:Wd):frzL [w.d]=[w.d]:=by show [w.d.frz]=_; rw [frz_pure _ w.pure]
theorem bor1 (w:Wd):hasBorL [w.d]=false:=by show (w.d.hasBor || false)=false; rw [hasBor_pure _ w.pure]; rfl
def Wd.brs:Wd->List Wd
 | .leaf _=>[]
 | .flat _ bs=>bs
 | .prime _ bs=>bs
def Wd.isL:Wd->Bool
 | .leaf _=>true
 | _=>false
mutual
def Wd.nodes:Wd->Nat
 | .leaf _=>1
 | .flat _ bs=>1 + nodesL bs
 | .prime _ bs=>1 + nodesL bs
def nodesL:List Wd->Nat
 | []=>0
 | b :: r=>b.nodes + nodesL r
end
theorem nodesL_append:∀ a b:List Wd,nodesL (a ++ b)=nodesL a + nodesL b
 | [],b=>by show nodesL b=0 + nodesL b; omega
 | x :: a,b=>by show x.nodes + nodesL (a ++ b)=x.nodes + nodesL a + nodesL b; rw [nodesL_append a b]; omega
theorem nodes_brs (w:Wd):w.nodes=1 + nodesL w.brs:=by cases w <;> rfl
mutual
theorem Wd.nodes_le:∀ w:Wd,w.good->w.nodes + 1 <= 2 * w.leaves.length
 | .leaf p,_=>by show 1 + 1 <= 2 * 1; omega
 | .flat c bs,h=>by
  have h1:=nodesL_le bs h.2.1
  have h2:=h.1
  show 1 + nodesL bs + 1 <= 2 * (leavesL bs).length
  omega
 | .prime rows bs,h=>by
  have h1:=nodesL_le bs h.2.2.2.1
  have h2:=h.1
  show 1 + nodesL bs + 1 <= 2 * (leavesL bs).length
  omega
theorem nodesL_le:∀ bs:List Wd,goodL bs->nodesL bs + bs.length <= 2 * (leavesL bs).length
 | [],_=>Nat.le_refl _
 | b :: r,h=>by
  have h1:=Wd.nodes_le b h.1
  have h2:=nodesL_le r h.2
  show b.nodes + nodesL r + (r.length + 1) <= 2 * (b.leaves ++ leavesL r).length
  rw [List.length_append]
  omega
end
theorem isleaf_eq (w:Wd):G_is_leaf [w.d]=.ok (.bl w.isL):=by cases w <;> exact run_rt rfl rfl rfl
theorem isleaf_c {w:Wd}{r:SD}:eCall G_is_leaf (aCons (eVar 0) aNil) (some w.d :: r)=.ok (.bl w.isL):=eCall_pure (aOne (var_p rfl w.pure)) (by rw [frz1]; exact isleaf_eq w) rfl
theorem branches_eq (w:Wd):G_branches_of [w.d]=.ok (.tup (dL w.brs)):=by
 refine run_rt rfl rfl ?_
 unfold g_branches_of
 show sRet _ [some w.d]=_
 refine ret_ok ?_ (show (D.tup (dL w.brs)).pure=true from dL_pure w.brs)
 unfold eIf
 rw [eT_ok isleaf_c]
 cases w with
 | leaf p=>rfl
 | flat c bs =>
  show eBin ixD (eVar 0) (eC (.int 2)) [some (Wd.flat c bs).d]=_
  exact ix_ok (var_p rfl (Wd.pure (.flat c bs))) (show eC (.int 2) _=.ok (.int 2) from rfl) (ix_tup (j:=2) rfl rfl)
 | prime rows bs =>
  show eBin ixD (eVar 0) (eC (.int 2)) [some (Wd.prime rows bs).d]=_
  exact ix_ok (var_p rfl (Wd.pure (.prime rows bs))) (show eC (.int 2) _=.ok (.int 2) from rfl) (ix_tup (j:=2) rfl rfl)
def kSt (w:Wd) (fs ws:List Wd) (o:Option D):SD := [some w.d,some (.lst .own (dL fs)),some (.lst .own (dL ws)),o]
theorem kd_body (w v:Wd) (fs ws:List Wd) (o:Option D) (h1:fs.length < 16777216) (h2:ws.length + v.brs.length <= 16777216):g_knots_down_b2 (kSt w fs (ws ++ [v]) o)=.nx (kSt w (fs ++ [v]) (ws ++ v.brs) (some v.d)):=by
 unfold g_knots_down_b2
 have e1:sPop 3 2 (kSt w fs (ws ++ [v]) o)=.nx (kSt w fs ws (some v.d)):=by
  unfold sPop
  rw [show ownL (kSt w fs (ws ++ [v]) o) 2=some (dL (ws ++ [v])) from rfl]
  show popF 3 2 (dL (ws ++ [v])) (kSt w fs (ws ++ [v]) o) (dL (ws ++ [v]))[(dL (ws ++ [v])).length - 1]?=_
  have e:(dL (ws ++ [v]))[(dL (ws ++ [v])).length - 1]?=some v.d:=by
   rw [dL_append,List.length_append]
   show (dL ws ++ [v.d])[(dL ws).length + 1 - 1]?=_
   rw [Nat.add_sub_cancel,List.getElem?_concat_length]
  rw [e]
  show (if v.d.plain=true then Fl.nx (((kSt w fs (ws ++ [v]) o).set 2 (some (.lst .own (dL (ws ++ [v])).dropLast))).set 3 (some v.d)) else .bad)=_
  rw [if_pos v.plain,dL_append]
  show Fl.nx [some w.d,some (.lst .own (dL fs)),some (.lst .own (dL ws ++ [v.d]).dropLast),some v.d]=_
  rw [List.dropLast_concat]
  rfl
 rw [seq_nx e1]
 have e2:sApp 1 (eVar 3) (kSt w fs ws (some v.d))=.nx (kSt w (fs ++ [v]) ws (some v.d)):=by
  rw [app_nx (xs:=dL fs) (d:=v.d) rfl (var_p rfl v.pure) (hasBor_pure _ v.pure) (by rw [dL_len]; exact h1)]
  show Fl.nx [some w.d,some (.lst .own (dL fs ++ [v.d])),some (.lst .own (dL ws)),some v.d]=Fl.nx [some w.d,some (.lst .own (dL (fs ++ [v]))),some (.lst .own (dL ws)),some v.d]
  rw [dL_append]
  rfl
 rw [seq_nx e2]
 have e3:eCall G_branches_of (aCons (eVar 3) aNil) (kSt w (fs ++ [v]) ws (some v.d))=.ok (.tup (dL v.brs)):=eCall_pure (aOne (var_p rfl v.pure)) (by rw [frz1]; exact branches_eq v) (dL_pure _)
 unfold sExtP
 rw [show ownL (kSt w (fs ++ [v]) ws (some v.d)) 2=some (dL ws) from rfl]
 show (eCall G_branches_of (aCons (eVar 3) aNil) (kSt w (fs ++ [v]) ws (some v.d))).toFl _ _=_
 rw [e3,toFl_ok]
 show (if plainL (dL v.brs)=true/\(dL ws).length + (dL v.brs).length <= 16777216 then Fl.nx ((kSt w (fs ++ [v]) ws (some v.d)).set 2 (some (.lst .own (dL ws ++ dL v.brs)))) else .bad)=_
 rw [if_pos ⟨dL_plain _,by rw [dL_len,dL_len]; exact h2⟩,<- dL_append]
 rfl
theorem nodes_pos (w:Wd):1 <= w.nodes:=by rw [nodes_brs]; omega
theorem len_nodes:∀ l:List Wd,l.length <= nodesL l
 | []=>Nat.le_refl _
 | b :: r=>by
  have h1:=nodes_pos b
  have h2:=len_nodes r
  show r.length + 1 <= b.nodes + nodesL r
  omega
mutual
def Wd.subs:Wd->List Wd
 | .leaf p=>[.leaf p]
 | .flat c bs=>.flat c bs :: subsL bs
 | .prime rows bs=>.prime rows bs :: subsL bs
def subsL:List Wd->List Wd
 | []=>[]
 | b :: r=>b.subs ++ subsL r
end
theorem subs_brs (w:Wd):w.subs=w :: subsL w.brs:=by cases w <;> rfl
theorem subsL_append:∀ a b:List Wd,subsL (a ++ b)=subsL a ++ subsL b
 | [],b=>rfl
 | x :: a,b=>by show x.subs ++ subsL (a ++ b)=(x.subs ++ subsL a) ++ subsL b; rw [subsL_append a b,List.append_assoc]
theorem kd_while (w:Wd):∀ (m:Nat) (ws fs:List Wd) (o:Option D),nodesL ws <= m->fs.length + nodesL ws <= 1000->∃ gs o',gs.Perm (subsL ws)/\gs.length=nodesL ws/\whileD g_knots_down_w1 g_knots_down_b2 (m + 1) (kSt w fs ws o)=.nx (kSt w (fs ++ gs) [] o'):=by
 intro m
 have nil:∀ (m:Nat) (fs:List Wd) (o:Option D),∃ gs o',gs.Perm (subsL [])/\gs.length=nodesL []/\whileD g_knots_down_w1 g_knots_down_b2 (m + 1) (kSt w fs [] o)=.nx (kSt w (fs ++ gs) [] o'):=fun m fs o=>by
  refine ⟨[],o,.refl _,rfl,?_⟩
  rw [whileD,show g_knots_down_w1 (kSt w fs [] o)=.ok false from rfl,List.append_nil]
  rfl
 induction m with
 | zero =>
  intro ws fs o hm hf
  cases ws with
  | nil=>exact nil 0 fs o
  | cons a r =>
   have:=len_nodes (a :: r)
   simp only [List.length_cons] at this; omega
 | succ m ih =>
  intro ws fs o hm hf
  rcases List.eq_nil_or_concat ws with rfl | ⟨us,v,rfl⟩
  ·exact nil _ fs o
  ·rw [List.concat_eq_append] at *
   have hn:nodesL (us ++ [v])=nodesL us + (1 + nodesL v.brs):=by rw [nodesL_append,<- nodes_brs]; rfl
   have h1:=len_nodes us
   have h2:=len_nodes v.brs
   obtain ⟨gs,o',pg,lg,eg⟩:=ih (us ++ v.brs) (fs ++ [v]) (some v.d) (by rw [nodesL_append]; omega) (by rw [nodesL_append,List.length_append]; show fs.length + 1 + _ <= _; omega)
   refine ⟨v :: gs,o',?_,?_,?_⟩
   ·have e:subsL (us ++ [v])=subsL us ++ v.subs:=by rw [subsL_append]; show subsL us ++ (v.subs ++ [])=_; rw [List.append_nil]
    rw [e,subs_brs]
    rw [subsL_append] at pg
    exact (List.Perm.cons v pg).trans List.perm_middle.symm
   ·rw [List.length_cons,lg,nodesL_append,hn]; omega
   ·have c:g_knots_down_w1 (kSt w fs (us ++ [v]) o)=.ok true:=by
     unfold g_knots_down_w1 eTr
     rw [show eVar 2 (kSt w fs (us ++ [v]) o)=.ok (.lst .bor (dL (us ++ [v]))) from var_own rfl (dL_pure _),dL_append]
     show Res.ok (!(dL us ++ [v.d]).isEmpty)=_
     simp
    rw [whileD,c]
    show (match g_knots_down_b2 (kSt w fs (us ++ [v]) o) with | .nx t=>whileD g_knots_down_w1 g_knots_down_b2 (m + 1) t | .ct t=>whileD g_knots_down_w1 g_knots_down_b2 (m + 1) t | .bk t=>Fl.nx t | o=>o)=_
    rw [kd_body w v fs us o (by omega) (by omega)]
    show whileD g_knots_down_w1 g_knots_down_b2 (m + 1) (kSt w (fs ++ [v]) (us ++ v.brs) (some v.d))=_
    rw [eg,List.append_assoc]
    rfl
theorem knots_eq {w:Wd} (hg:w.good) (hl:w.leaves.length <= 24):∃ gs,gs.Perm w.subs/\gs.length <= 48/\G_knots_down [w.d]=.ok (.lst .own (dL gs)):=by
 have hn:=w.nodes_le hg
 obtain ⟨gs,o',pg,lg,eg⟩:=kd_while w (nodesL [w]) [w] [] none (Nat.le_refl _) (by show 0 + (w.nodes + 0) <= _; omega)
 have lg':gs.length=w.nodes:=lg
 refine ⟨gs,?_,by omega,?_⟩
 ·have pg:gs.Perm (w.subs ++ []):=pg
  rw [List.append_nil] at pg
  exact pg
 ·refine run_rt (τ := [some w.d,none,none,none]) rfl rfl ?_
  unfold g_knots_down
  rw [seq_nx (set_nx (show eA lstD aNil _=.ok (.lst .own []) from rfl) rfl)]
  have e2:eA lstD (aCons (eVar 0) aNil) [some w.d,some (.lst .own []),none,none]=.ok (.lst .own [w.d]):=by
   rw [eA_ok (aOne (var_p rfl w.pure))]
   rfl
  show sSeq _ _ [some w.d,some (.lst .own []),none,none]=_
  rw [seq_nx (set_nx e2 (by show (false || (w.d.hasBor || false))=false; rw [hasBor_pure _ w.pure]; rfl))]
  show sSeq _ _ (kSt w [] [w] none)=_
  have e3:sWhile g_knots_down_w1 g_knots_down_b2 (kSt w [] [w] none)=.nx (kSt w gs [] o'):=(sWhile_eq (by rw [eg]; exact fun z=>by cases z)).trans eg
  rw [seq_nx e3]
  rfl
def hasP (p:Int) (w:Wd):Bool:=decide (p ∈ w.leaves)
abbrev At (bs:List Wd) (p:Int) (j:Nat):Prop:=bs.findIdx? (hasP p)=some j
theorem At.of {bs:List Wd}{p:Int} (h:p ∈ leavesL bs):∃ j,At bs p j:=by
 cases e:bs.findIdx? (hasP p) with
 | some j=>exact ⟨j,e⟩
 | none =>
  rw [List.findIdx?_eq_none_iff] at e
  rw [leavesL_map,List.mem_flatMap] at h
  obtain ⟨b,mb,hp⟩:=h
  have:=e b mb
  unfold hasP at this
  rw [decide_eq_true hp] at this
  cases this
theorem At.get {bs:List Wd}{p:Int}{j:Nat} (h:At bs p j):∃ b,bs[j]?=some b/\b ∈ bs/\p ∈ b.leaves/\∀ m b',m < j->bs[m]?=some b'->¬ p ∈ b'.leaves:=by
 rw [At,List.findIdx?_eq_some_iff_getElem] at h
 obtain ⟨h1,h2,h3⟩:=h
 refine ⟨bs[j],List.getElem?_eq_getElem h1,List.getElem_mem h1,of_decide_eq_true h2,fun m b' hm hb=>?_⟩
 have:=h3 m hm
 obtain ⟨hm',rfl⟩:=List.getElem?_eq_some_iff.mp hb
 intro z
 apply this
 exact decide_eq_true z
theorem brs_leaves {w:Wd} (h:w.isL=false):leavesL w.brs=w.leaves:=by
 cases w with
 | leaf p=>cases h
 | flat c bs=>rfl
 | prime rows bs=>rfl
theorem brs_le {w:Wd} (hg:w.good) (hl:w.leaves.length <= 24):w.brs.length <= 24/\∀ b ∈ w.brs,b.good/\b.leaves.length <= 24/\b.deep + 1 <= w.deep:=by
 cases w with
 | leaf p=>exact ⟨Nat.zero_le _,fun b m=>by cases m⟩
 | flat c bs =>
  have h1:goodL bs:=hg.2.1
  refine ⟨Nat.le_trans (deepL_le bs h1).1 hl,fun b m=>⟨(goodL_iff bs).mp h1 b m,Nat.le_trans (leaves_mem m) hl,?_⟩⟩
  have:b.deep <= deepL bs:=deep_mem m
  show b.deep + 1 <= deepL bs + 1
  omega
 | prime rows bs =>
  have h1:goodL bs:=hg.2.2.2.1
  refine ⟨Nat.le_trans (deepL_le bs h1).1 hl,fun b m=>⟨(goodL_iff bs).mp h1 b m,Nat.le_trans (leaves_mem m) hl,?_⟩⟩
  have:b.deep <= deepL bs:=deep_mem m
  show b.deep + 1 <= deepL bs + 1
  omega
theorem cell_tup {rows:List (List Int)} (ht:Tri rows) {f g fr:SD->Res D}{τ:SD}{x y:Nat} (hr:fr τ=.ok (.tup (rows.map fun r=>.tup (r.map .int)))) (hf:f τ=.ok (.int x)) (hg:g τ=.ok (.int y)) (hne:x ≠ y) (hx:x < rows.length) (hy:y < rows.length) :
  eBin ixD (eBin ixD fr (eA max2D (aCons f (aCons g aNil)))) (eA min2D (aCons f (aCons g aNil))) τ=.ok (.int (col rows x y)):=by
 have em:eA max2D (aCons f (aCons g aNil)) τ=.ok (.int ((max x y:Nat):Int)):=by
  rw [eA_ok (aCons_ok hf (aOne hg))]
  show Res.ok (D.int (if (y:Int) > x then (y:Int) else x))=_
  congr 2
  split <;> omega
 have en:eA min2D (aCons f (aCons g aNil)) τ=.ok (.int ((min x y:Nat):Int)):=by
  rw [eA_ok (aCons_ok hf (aOne hg))]
  show Res.ok (D.int (if (y:Int) < x then (y:Int) else x))=_
  congr 2
  split <;> omega
 have hm:max x y < rows.length:=by omega
 have e1:rows[max x y]?=some rows[max x y]:=List.getElem?_eq_getElem hm
 have hl:=ht _ _ e1
 have hmin:min x y < rows[max x y].length:=by omega
 have r1:eBin ixD fr (eA max2D (aCons f (aCons g aNil))) τ=.ok (.tup (rows[max x y].map .int)):=ix_ok hr em (ix_tup rfl (by rw [List.getElem?_map,e1]; rfl))
 rw [ix_ok r1 en (ix_tup rfl (by rw [List.getElem?_map,List.getElem?_eq_getElem hmin]; rfl))]
 unfold col
 rw [List.getD_eq_getElem?_getD,List.getD_eq_getElem?_getD,e1,Option.getD_some,List.getElem?_eq_getElem hmin]
 rfl
def tintW:Wd->Nat->Nat->Int
 | .flat c _,_,_=>c
 | .prime rows _,i,j=>col rows i j
 | .leaf _,_,_=>0
def bix (bs:List Wd) (p:Int):Nat:=(bs.findIdx? (hasP p)).getD 0
theorem At.bix {bs:List Wd}{p:Int}{j:Nat} (h:At bs p j):bix bs p=j:=by unfold KL.bix; rw [show bs.findIdx? (hasP p)=some j from h]; rfl
def shd:Nat->Wd->Int->Int->Int
 | 0,_,_,_=>0
 | n + 1,w,p,q=>if bix w.brs p=bix w.brs q then shd n (w.brs.getD (bix w.brs p) (.leaf 0)) p q else tintW w (bix w.brs p) (bix w.brs q)
theorem tint_comm (w:Wd) (i j:Nat):tintW w i j=tintW w j i:=by
 cases w with
 | prime rows bs=>show col rows i j=col rows j i; unfold col; rw [Nat.max_comm,Nat.min_comm]
 | _=>rfl
theorem shd_comm:∀ (n:Nat) (w:Wd) (p q:Int),shd n w p q=shd n w q p
 | 0,_,_,_=>rfl
 | n + 1,w,p,q=>by
  show (if bix w.brs p=bix w.brs q then shd n (w.brs.getD (bix w.brs p) (.leaf 0)) p q else tintW w (bix w.brs p) (bix w.brs q))=(if bix w.brs q=bix w.brs p then shd n (w.brs.getD (bix w.brs q) (.leaf 0)) q p else tintW w (bix w.brs q) (bix w.brs p))
  by_cases h:bix w.brs p=bix w.brs q
  ·rw [if_pos h,if_pos h.symm,shd_comm n,h]
  ·rw [if_neg h,if_neg (Ne.symm h),tint_comm]
def Wd.isF:Wd->Bool
 | .flat _ _=>true
 | _=>false
theorem isflat_eq (w:Wd):G_is_flat [w.d]=.ok (.bl w.isF):=by
 refine run_rt (τ := [some w.d]) rfl rfl ?_
 unfold g_is_flat
 refine ret_ok ?_ rfl
 have e1:eNot (eCall G_is_leaf (aCons (eVar 0) aNil)) [some w.d]=.ok (.bl (!w.isL)):=by
  unfold eNot
  rw [isleaf_c]
  rfl
 unfold eAnd
 rw [e1]
 cases w with
 | leaf p=>rfl
 | flat c bs =>
  show eBin eqD (eBin ixD (eVar 0) (eC (.int 0))) (eC (.str "flat")) [some (Wd.flat c bs).d]=_
  rw [eBin_ok (ix_ok (var_p rfl (Wd.pure (.flat c bs))) (show eC (.int 0) _=.ok (.int 0) from rfl) (ix_tup (j:=0) rfl rfl)) rfl]
  exact congrArg (fun b=>Res.ok (D.bl b)) (show xor false (decide (("flat" : Str) = "flat"))=true by decide +kernel)
 | prime rows bs =>
  show eBin eqD (eBin ixD (eVar 0) (eC (.int 0))) (eC (.str "flat")) [some (Wd.prime rows bs).d]=_
  rw [eBin_ok (ix_ok (var_p rfl (Wd.pure (.prime rows bs))) (show eC (.int 0) _=.ok (.int 0) from rfl) (ix_tup (j:=0) rfl rfl)) rfl]
  exact congrArg (fun b=>Res.ok (D.bl b)) (show xor false (decide (("prime" : Str) = "flat"))=false by decide +kernel)
theorem knot_of {v:Wd}{p q:Int} (hp:p ∈ v.leaves) (hq:q ∈ v.leaves) (hpq:p ≠ q):v.isL=false:=by
 cases v with
 | leaf x =>
  have h1:p ∈ [x]:=hp
  have h2:q ∈ [x]:=hq
  exact absurd ((List.mem_singleton.mp h1).trans (List.mem_singleton.mp h2).symm) hpq
 | _=>rfl
theorem mem_subsL:∀ {bs:List Wd}{v:Wd},v ∈ subsL bs ↔ ∃ b ∈ bs,v ∈ b.subs
 | [],v=>by simp [subsL]
 | a :: r,v=>by
  show v ∈ a.subs ++ subsL r ↔ _
  rw [List.mem_append,mem_subsL]
  simp
theorem self_sub (w:Wd):w ∈ w.subs:=by rw [subs_brs]; exact List.mem_cons_self
theorem mem_subs {w v:Wd}:v ∈ w.subs ↔ v=w ∨ ∃ b ∈ w.brs,v ∈ b.subs:=by rw [subs_brs,List.mem_cons,mem_subsL]
theorem brs_leaf {w b:Wd} (m:b ∈ w.brs):w.isL=false:=by cases w with
 | leaf p=>cases m
 | _=>rfl
theorem mem_brs {w b:Wd}{p:Int} (m:b ∈ w.brs) (h:p ∈ b.leaves):p ∈ w.leaves:=by
 rw [<- brs_leaves (brs_leaf m),leavesL_map,List.mem_flatMap]
 exact ⟨b,m,h⟩
theorem nd_at:∀ {bs:List Wd},(leavesL bs).Nodup->∀ {i j:Nat}{a b:Wd}{p:Int},bs[i]?=some a->bs[j]?=some b->p ∈ a.leaves->p ∈ b.leaves->i=j
 | [],_,i,j,a,b,p,h1,h2,h3,h4=>by simp at h1
 | c :: r,hn,i,j,a,b,p,h1,h2,h3,h4=>by
  have hn:(c.leaves ++ leavesL r).Nodup:=hn
  rw [List.nodup_append] at hn
  have inr:∀ {k:Nat}{d:Wd},r[k]?=some d->p ∈ d.leaves->p ∈ leavesL r:=fun hk hp=>by
   rw [leavesL_map,List.mem_flatMap]
   exact ⟨_,List.mem_of_getElem? hk,hp⟩
  cases i with
  | zero =>
   cases j with
   | zero=>rfl
   | succ j =>
    simp only [List.getElem?_cons_zero,Option.some.injEq,List.getElem?_cons_succ] at h1 h2
    subst h1
    exact absurd rfl (hn.2.2 p h3 p (inr h2 h4))
  | succ i =>
   cases j with
   | zero =>
    simp only [List.getElem?_cons_zero,Option.some.injEq,List.getElem?_cons_succ] at h1 h2
    subst h2
    exact absurd rfl (hn.2.2 p h4 p (inr h1 h3))
   | succ j =>
    simp only [List.getElem?_cons_succ] at h1 h2
    rw [nd_at hn.2.1 h1 h2 h3 h4]
theorem nd_bix {bs:List Wd} (hn:(leavesL bs).Nodup) {i:Nat}{b:Wd}{p:Int} (hb:bs[i]?=some b) (hp:p ∈ b.leaves):bix bs p=i:=by
 obtain ⟨j,hj⟩:=At.of (bs:=bs) (p:=p) (by rw [leavesL_map,List.mem_flatMap]; exact ⟨b,List.mem_of_getElem? hb,hp⟩)
 obtain ⟨b',hb',_,hp',_⟩:=hj.get
 rw [hj.bix]
 exact nd_at hn hb' hb hp' hp
theorem nd_brs {w b:Wd} (hn:w.leaves.Nodup) (m:b ∈ w.brs):b.leaves.Nodup:=by
 rw [<- brs_leaves (brs_leaf m),leavesL_map] at hn
 obtain ⟨i,hi,rfl⟩:=List.mem_iff_getElem.mp m
 have:=List.take_append_drop i w.brs
 rw [<- List.getElem_cons_drop hi] at this
 rw [<- this,List.flatMap_append,List.flatMap_cons,List.nodup_append,List.nodup_append] at hn
 exact hn.2.1.1
theorem sub_leaves_n:∀ (n:Nat) (c:Wd),c.deep <= n->∀ u ∈ c.subs,∀ x,x ∈ u.leaves->x ∈ c.leaves
 | 0,c,hd,_,_,_,_=>by cases c <;> simp [Wd.deep] at hd
 | n + 1,c,hd,u,hu,x,hx=>by
  rcases mem_subs.mp hu with rfl | ⟨b,mb,hb⟩
  ·exact hx
  ·have hdc:b.deep <= n:=by
    have:=deep_mem mb
    have:c.deep=deepL c.brs + 1:=by cases c with
     | leaf p=>cases mb
     | _=>rfl
    omega
   exact mem_brs mb (sub_leaves_n n b hdc u hb x hx)
theorem sub_leaves (c:Wd):∀ u ∈ c.subs,∀ x,x ∈ u.leaves->x ∈ c.leaves:=sub_leaves_n c.deep c (Nat.le_refl _)
theorem shd_sub:∀ (n:Nat) {w v:Wd}{i j:Nat}{a b:Wd}{p q:Int},w.deep <= n->w.leaves.Nodup->v ∈ w.subs->v.brs[i]?=some a->v.brs[j]?=some b->i ≠ j->p ∈ a.leaves->q ∈ b.leaves->shd n w p q=tintW v i j
 | 0,w,v,i,j,a,b,p,q,hd,_,_,_,_,_,_,_=>by cases w <;> simp [Wd.deep] at hd
 | n + 1,w,v,i,j,a,b,p,q,hd,hn,hv,ha,hb,hij,hp,hq=>by
  show (if bix w.brs p=bix w.brs q then shd n (w.brs.getD (bix w.brs p) (.leaf 0)) p q else tintW w (bix w.brs p) (bix w.brs q))=_
  rcases mem_subs.mp hv with rfl | ⟨c,mc,hc⟩
  ·have hn':(leavesL v.brs).Nodup:=by rw [brs_leaves (brs_leaf (List.mem_of_getElem? ha))]; exact hn
   rw [nd_bix hn' ha hp,nd_bix hn' hb hq,if_neg hij]
  ·have hn':(leavesL w.brs).Nodup:=by rw [brs_leaves (brs_leaf mc)]; exact hn
   obtain ⟨k,hk⟩:=List.getElem?_of_mem mc
   have up:∀ (u:Wd),u ∈ c.subs->∀ x,x ∈ u.leaves->x ∈ c.leaves:=sub_leaves c
   have hpc:=up v hc p (mem_brs (List.mem_of_getElem? ha) hp)
   have hqc:=up v hc q (mem_brs (List.mem_of_getElem? hb) hq)
   rw [nd_bix hn' hk hpc,nd_bix hn' hk hqc,if_pos rfl,List.getD_eq_getElem?_getD,hk]
   have hdc:c.deep <= n:=by
    have:=deep_mem mc
    have:w.deep=deepL w.brs + 1:=by cases w with
     | leaf p=>cases mc
     | _=>rfl
    omega
   exact shd_sub n hdc (nd_brs hn mc) hc ha hb hij hp hq
theorem part_sub:∀ (n:Nat) {w:Wd}{p q:Int},w.deep <= n->p ∈ w.leaves->q ∈ w.leaves->p ≠ q->∃ v ∈ w.subs,∃ (i j:Nat) (a b:Wd),v.brs[i]?=some a/\v.brs[j]?=some b/\i ≠ j/\p ∈ a.leaves/\q ∈ b.leaves
 | 0,w,p,q,hd,_,_,_=>by cases w <;> simp [Wd.deep] at hd
 | n + 1,w,p,q,hd,hp,hq,hpq=>by
  have hL:=knot_of hp hq hpq
  have hp' := hp
  have hq' := hq
  rw [<- brs_leaves hL] at hp' hq'
  obtain ⟨i,hi⟩:=At.of hp'
  obtain ⟨j,hj⟩:=At.of hq'
  obtain ⟨a,ga,ma,pa,_⟩:=hi.get
  obtain ⟨b,gb,mb,qb,_⟩:=hj.get
  by_cases h:i=j
  ·subst h
   rw [ga] at gb
   cases gb
   have hdc:a.deep <= n:=by
    have:=deep_mem ma
    have:w.deep=deepL w.brs + 1:=by cases w with
     | leaf p=>cases hL
     | _=>rfl
    omega
   obtain ⟨v,mv,r⟩:=part_sub n hdc pa qb hpq
   exact ⟨v,mem_subs.mpr (.inr ⟨a,ma,mv⟩),r⟩
  ·exact ⟨w,self_sub w,i,j,a,b,ga,gb,h,pa,qb⟩
abbrev Wr:=(Int × Int) × Int
def kof (p q:Int):Int × Int:=if p > q then (p,q) else (q,p)
theorem kof_comm (p q:Int):kof p q=kof q p:=by
 unfold kof
 split <;> split <;> first | rfl | (have:p=q:=by omega) <;> subst this <;> rfl | omega
theorem kof_inj {p q a b:Int} (h:kof p q=kof a b):(p=a/\q=b) ∨ (p=b/\q=a):=by
 unfold kof at h
 split at h <;> split at h <;> (injection h with h1 h2; omega)
def pairW (c:Int) (ps qs:List Int):List Wr:=ps.flatMap fun p=>qs.map fun q=>(kof p q,c)
def knotW (t:Nat->Nat->Int) (hs:List (List Int)):List Wr:=(List.range hs.length).flatMap fun i=>(List.range i).flatMap fun j=>pairW (t i j) (hs.getD i []) (hs.getD j [])
theorem mem_pairW {c:Int}{ps qs:List Int}{x:Wr}:x ∈ pairW c ps qs ↔ ∃ p ∈ ps,∃ q ∈ qs,x=(kof p q,c):=by
 unfold pairW
 simp only [List.mem_flatMap,List.mem_map]
 exact ⟨fun ⟨p,mp,q,mq,e⟩=>⟨p,mp,q,mq,e.symm⟩,fun ⟨p,mp,q,mq,e⟩=>⟨p,mp,q,mq,e.symm⟩⟩
theorem mem_knotW {t:Nat->Nat->Int}{hs:List (List Int)}{x:Wr}:x ∈ knotW t hs ↔ ∃ i j,j < i/\i < hs.length/\∃ p ∈ hs.getD i [],∃ q ∈ hs.getD j [],x=(kof p q,t i j):=by
 unfold knotW
 simp only [List.mem_flatMap,List.mem_range,mem_pairW]
 exact ⟨fun ⟨i,hi,j,hj,r⟩=>⟨i,j,hj,hi,r⟩,fun ⟨i,j,hj,hi,r⟩=>⟨i,hi,j,hj,r⟩⟩
theorem flat_le {α β:Type} (f:α->List β) (B:Nat):∀ (xs:List α),(∀ x ∈ xs,(f x).length <= B)->(xs.flatMap f).length <= xs.length * B
 | [],_=>Nat.zero_le _
 | a :: r,h=>by
  rw [List.flatMap_cons,List.length_append,List.length_cons,Nat.succ_mul,Nat.add_comm]
  exact Nat.add_le_add (flat_le f B r fun x m=>h x (List.mem_cons_of_mem _ m)) (h a List.mem_cons_self)
theorem pairW_len {c:Int}{ps qs:List Int} (h1:ps.length <= 24) (h2:qs.length <= 24):(pairW c ps qs).length <= 576:=by
 have:=flat_le (fun p=>qs.map fun q=>((kof p q,c):Wr)) 24 ps fun x _=>by rw [List.length_map]; exact h2
 unfold pairW
 have h3:ps.length * 24 <= 24 * 24:=Nat.mul_le_mul_right _ h1
 omega
theorem getD_len {hs:List (List Int)} (h:∀ l ∈ hs,l.length <= 24) (i:Nat):(hs.getD i []).length <= 24:=by
 rw [List.getD_eq_getElem?_getD]
 cases e:hs[i]? with
 | none=>exact Nat.zero_le _
 | some l=>exact h l (List.mem_of_getElem? e)
theorem rowW_len {t:Nat->Nat->Int}{hs:List (List Int)} (h:∀ l ∈ hs,l.length <= 24) {i:Nat} (hi:i <= 24):((List.range i).flatMap fun j=>pairW (t i j) (hs.getD i []) (hs.getD j [])).length <= 13824:=by
 have:=flat_le (fun j=>pairW (t i j) (hs.getD i []) (hs.getD j [])) 576 (List.range i) fun x _=>pairW_len (getD_len h i) (getD_len h x)
 rw [List.length_range] at this
 have h3:i * 576 <= 24 * 576:=Nat.mul_le_mul_right _ hi
 omega
theorem knotW_len {t:Nat->Nat->Int}{hs:List (List Int)} (hl:hs.length <= 24) (h:∀ l ∈ hs,l.length <= 24):(knotW t hs).length <= 331776:=by
 have:=flat_le (fun i=>(List.range i).flatMap fun j=>pairW (t i j) (hs.getD i []) (hs.getD j [])) 13824 (List.range hs.length) fun x mx=>rowW_len h (by have:=List.mem_range.mp mx; omega)
 unfold knotW
 rw [List.length_range] at this
 have h3:hs.length * 13824 <= 24 * 13824:=Nat.mul_le_mul_right _ hl
 omega
def Held (v:Wd) (hs:List (List Int)):Prop:=hs.length=v.brs.length/\∀ (i:Nat) (l:List Int) (b:Wd),hs[i]?=some l->v.brs[i]?=some b->l.Perm b.leaves
theorem Held.get {v:Wd}{hs:List (List Int)} (h:Held v hs) {i:Nat} (hi:i < hs.length):∃ b,v.brs[i]?=some b/\(hs.getD i []).Perm b.leaves:=by
 have hb:i < v.brs.length:=by rw [<- h.1]; exact hi
 refine ⟨_,List.getElem?_eq_getElem hb,?_⟩
 rw [List.getD_eq_getElem?_getD,List.getElem?_eq_getElem hi]
 exact h.2 i _ _ (List.getElem?_eq_getElem hi) (List.getElem?_eq_getElem hb)
structure Wrt (w:Wd) (ws:List Wr):Prop where
 all:∀ p ∈ w.leaves,∀ q ∈ w.leaves,p ≠ q->∃ x ∈ ws,x.1=kof p q
 right:∀ n p q,w.deep <= n->∀ x ∈ ws,x.1=kof p q->x.2=shd n w p q
theorem Wrt.of {w:Wd} (hn:w.leaves.Nodup) {hs:Wd->List (List Int)} (hh:∀ v ∈ w.subs,Held v (hs v)) {ws:List Wr} (hm:∀ x,x ∈ ws ↔ ∃ v ∈ w.subs,x ∈ knotW (tintW v) (hs v)):Wrt w ws:=by
 refine ⟨fun p hp q hq hpq=>?_,fun n p q hd x mx ex=>?_⟩
 ·obtain ⟨v,mv,i,j,a,b,ga,gb,hij,pa,qb⟩:=part_sub w.deep (Nat.le_refl _) hp hq hpq
  have H:=hh v mv
  have hi:i < (hs v).length:=by rw [H.1]; exact (List.getElem?_eq_some_iff.mp ga).1
  have hj:j < (hs v).length:=by rw [H.1]; exact (List.getElem?_eq_some_iff.mp gb).1
  obtain ⟨a',ga',pa'⟩:=H.get hi
  obtain ⟨b',gb',pb'⟩:=H.get hj
  rw [ga] at ga'
  rw [gb] at gb'
  cases ga'
  cases gb'
  rcases Nat.lt_or_gt_of_ne hij with h | h
  ·exact ⟨(kof q p,tintW v j i),(hm _).mpr ⟨v,mv,mem_knotW.mpr ⟨j,i,h,hj,q,pb'.mem_iff.mpr qb,p,pa'.mem_iff.mpr pa,rfl⟩⟩,kof_comm q p⟩
  ·exact ⟨(kof p q,tintW v i j),(hm _).mpr ⟨v,mv,mem_knotW.mpr ⟨i,j,h,hi,p,pa'.mem_iff.mpr pa,q,pb'.mem_iff.mpr qb,rfl⟩⟩,rfl⟩
 ·obtain ⟨v,mv,hx⟩:=(hm x).mp mx
  obtain ⟨i,j,hji,hi,p',hp',q',hq',rfl⟩:=mem_knotW.mp hx
  have H:=hh v mv
  obtain ⟨a,ga,pa⟩:=H.get hi
  obtain ⟨b,gb,pb⟩:=H.get (i:=j) (by omega)
  have ha:=pa.mem_iff.mp hp'
  have hb:=pb.mem_iff.mp hq'
  show tintW v i j=_
  rcases kof_inj (show kof p' q'=kof p q from ex) with ⟨rfl,rfl⟩ | ⟨rfl,rfl⟩
  ·exact (shd_sub n hd hn mv ga gb (by omega) ha hb).symm
  ·rw [tint_comm]
   exact (shd_sub n hd hn mv gb ga (by omega) hb ha).symm
mutual
def Wd.fillW:Wd->List Wr
 | .leaf _=>[]
 | .flat c bs=>fillL bs ++ knotW (tintW (.flat c bs)) (bs.map Wd.leaves)
 | .prime rows bs=>fillL bs ++ knotW (tintW (.prime rows bs)) (bs.map Wd.leaves)
def fillL:List Wd->List Wr
 | []=>[]
 | b :: r=>b.fillW ++ fillL r
end
theorem fill_brs (w:Wd):w.fillW=fillL w.brs ++ knotW (tintW w) (w.brs.map Wd.leaves):=by cases w <;> rfl
mutual
theorem mem_fill:∀ (w:Wd) (x:Wr),x ∈ w.fillW ↔ ∃ v ∈ w.subs,x ∈ knotW (tintW v) (v.brs.map Wd.leaves)
 | .leaf p,x=>by
  show x ∈ [] ↔ ∃ v ∈ [Wd.leaf p],_
  simp [Wd.brs,knotW]
 | .flat c bs,x=>by
  show x ∈ fillL bs ++ _ ↔ ∃ v ∈ Wd.flat c bs :: subsL bs,_
  rw [List.mem_append,mem_fillL bs x]
  simp only [List.mem_cons,exists_eq_or_imp,Wd.brs]
  exact ⟨fun h=>h.symm,fun h=>h.symm⟩
 | .prime rows bs,x=>by
  show x ∈ fillL bs ++ _ ↔ ∃ v ∈ Wd.prime rows bs :: subsL bs,_
  rw [List.mem_append,mem_fillL bs x]
  simp only [List.mem_cons,exists_eq_or_imp,Wd.brs]
  exact ⟨fun h=>h.symm,fun h=>h.symm⟩
theorem mem_fillL:∀ (bs:List Wd) (x:Wr),x ∈ fillL bs ↔ ∃ v ∈ subsL bs,x ∈ knotW (tintW v) (v.brs.map Wd.leaves)
 | [],x=>by simp [fillL,subsL]
 | b :: r,x=>by
  show x ∈ b.fillW ++ fillL r ↔ ∃ v ∈ b.subs ++ subsL r,_
  rw [List.mem_append,mem_fill b x,mem_fillL r x]
  simp only [List.mem_append,or_and_right,exists_or]
end
theorem held_leaves (v:Wd):Held v (v.brs.map Wd.leaves):=by
 refine ⟨List.length_map ..,fun i l b h1 h2=>?_⟩
 rw [List.getElem?_map,h2] at h1
 cases h1
 exact .refl _
theorem fill_wrt {w:Wd} (hn:w.leaves.Nodup):Wrt w w.fillW:=Wrt.of hn (hs:=fun v=>v.brs.map Wd.leaves) (fun v _=>held_leaves v) (mem_fill w)
theorem Wrt.rev {w:Wd}{ws:List Wr} (h:Wrt w ws):Wrt w ws.reverse:=⟨fun p hp q hq hpq=>by obtain ⟨x,mx,e⟩:=h.all p hp q hq hpq; exact ⟨x,List.mem_reverse.mpr mx,e⟩,fun n p q hd x mx=>h.right n p q hd x (List.mem_reverse.mp mx)⟩
def kt (k:Int × Int):KT := .inr [.inl k.1,.inl k.2]
theorem kt_inj {a b:Int × Int} (h:kt a=kt b):a=b:=by
 cases a
 cases b
 simp only [kt,Sum.inr.injEq,List.cons.injEq,Sum.inl.injEq,and_true] at h
 obtain ⟨h1,h2⟩:=h
 subst h1 h2
 rfl
def wD:List Wr->List KT × List D
 | []=>([],[])
 | x :: r=>(putKs (wD r).1 (kt x.1),putVs (wD r).1 (wD r).2 (kt x.1) (.int x.2))
def wDc (t:Tg) (ws:List Wr):D := .dct t true (wD ws).1 (wD ws).2
theorem repl_len:∀ (ks:List KT) (ds:List D) (q:KT) (x:D),(replD ks ds q x).length=ds.length
 | [],ds,q,x=>by cases ds <;> rfl
 | k :: ks,[],q,x=>rfl
 | k :: ks,d :: ds,q,x=>by show (replD ks ds q x).length + 1=ds.length + 1; rw [repl_len]
theorem repl_pure:∀ (ks:List KT) (ds:List D) (q:KT) (x:D),pureL ds=true->x.pure=true->pureL (replD ks ds q x)=true
 | [],ds,q,x,h,_=>by cases ds <;> exact h
 | k :: ks,[],q,x,_,_=>rfl
 | k :: ks,d :: ds,q,x,h,hx=>by
  have h:(d.pure && pureL ds)=true:=h
  rw [Bool.and_eq_true] at h
  show ((if k=q then x else d).pure && pureL (replD ks ds q x))=true
  rw [repl_pure ks ds q x h.2 hx]
  split
  ·rw [hx]; rfl
  ·rw [h.1]; rfl
theorem look_repl:∀ (ks:List KT) (ds:List D) (q q':KT) (x:D),ks.length=ds.length->lookD ks (replD ks ds q x) q'=if q=q'/\hasK ks q=true then some x else lookD ks ds q'
 | [],[],q,q',x,_=>by
  rw [if_neg fun z=>by cases z.2]
  rfl
 | k :: ks,[],q,q',x,h=>by cases h
 | [],d :: ds,q,q',x,h=>by cases h
 | k :: ks,d :: ds,q,q',x,h=>by
  have ih:=look_repl ks ds q q' x (Nat.succ.inj h)
  show (if k=q' then some (if k=q then x else d) else lookD ks (replD ks ds q x) q')=if q=q'/\(decide (k=q) || hasK ks q)=true then some x else (if k=q' then some d else lookD ks ds q')
  by_cases e:k=q'
  ·rw [if_pos e,if_pos e]
   by_cases e2:q=q'
   ·have:k=q:=e.trans e2.symm
    rw [if_pos this,if_pos ⟨e2,by rw [decide_eq_true this]; rfl⟩]
   ·rw [if_neg fun z=>e2 (z.symm.trans e),if_neg fun z=>e2 z.1]
  ·rw [if_neg e,if_neg e,ih]
   by_cases e2:q=q'
   ·have:¬ k=q:=fun z=>e (z.trans e2)
    rw [decide_eq_false this,Bool.false_or]
   ·rw [if_neg fun z=>e2 z.1,if_neg fun z=>e2 z.1]
theorem look_new:∀ (ks:List KT) (ds:List D) (q q':KT) (x:D),ks.length=ds.length->hasK ks q=false->lookD (ks ++ [q]) (ds ++ [x]) q'=if q=q' then some x else lookD ks ds q'
 | [],[],q,q',x,_,_=>rfl
 | k :: ks,[],q,q',x,h,_=>by cases h
 | [],d :: ds,q,q',x,h,_=>by cases h
 | k :: ks,d :: ds,q,q',x,h,hk=>by
  have hk:(decide (k=q) || hasK ks q)=false:=hk
  rw [Bool.or_eq_false_iff] at hk
  have ih:=look_new ks ds q q' x (Nat.succ.inj h) hk.2
  have hn:¬ k=q:=of_decide_eq_false hk.1
  show (if k=q' then some d else lookD (ks ++ [q]) (ds ++ [x]) q')=if q=q' then some x else (if k=q' then some d else lookD ks ds q')
  rw [ih]
  by_cases e:k=q'
  ·rw [if_pos e,if_pos e,if_neg fun z=>hn (e.trans z.symm)]
  ·rw [if_neg e,if_neg e]
theorem look_put (ks:List KT) (ds:List D) (q q':KT) (x:D) (h:ks.length=ds.length):lookD (putKs ks q) (putVs ks ds q x) q'=if q=q' then some x else lookD ks ds q' := by
 unfold putKs putVs
 cases e:hasK ks q with
 | true =>
  rw [if_pos rfl,if_pos rfl,look_repl ks ds q q' x h,e]
  by_cases e2:q=q'
  ·rw [if_pos ⟨e2,rfl⟩,if_pos e2]
  ·rw [if_neg fun z=>e2 z.1,if_neg e2]
 | false=>rw [if_neg (by decide),if_neg (by decide),look_new ks ds q q' x h e]
theorem wD_len:∀ ws:List Wr,(wD ws).1.length=(wD ws).2.length/\(wD ws).1.length <= ws.length/\pureL (wD ws).2=true
 | []=>⟨rfl,Nat.le_refl _,rfl⟩
 | x :: r=>by
  obtain ⟨h1,h2,h3⟩:=wD_len r
  show (putKs (wD r).1 (kt x.1)).length=(putVs (wD r).1 (wD r).2 (kt x.1) (.int x.2)).length/\(putKs (wD r).1 (kt x.1)).length <= r.length + 1/\pureL (putVs (wD r).1 (wD r).2 (kt x.1) (.int x.2))=true
  unfold putKs putVs
  cases e:hasK (wD r).1 (kt x.1) with
  | true =>
   rw [if_pos rfl,if_pos rfl,repl_len]
   exact ⟨h1,by omega,repl_pure _ _ _ _ h3 rfl⟩
  | false =>
   rw [if_neg (by decide),if_neg (by decide),List.length_append,List.length_append,h1]
   refine ⟨rfl,by rw [<- h1]; show _ + 1 <= _; omega,?_⟩
   exact pureL_of fun d m=>by
    rcases List.mem_append.mp m with m | m
    ·exact pureL_mem h3 d m
    ·rw [List.mem_singleton.mp m]; rfl
theorem look_w:∀ (ws:List Wr) {k:Int × Int}{c:Int},(∃ x ∈ ws,x.1=k)->(∀ x ∈ ws,x.1=k->x.2=c)->lookD (wD ws).1 (wD ws).2 (kt k)=some (.int c)
 | [],k,c,⟨x,m,_⟩,_=>by cases m
 | y :: r,k,c,h1,h2=>by
  show lookD (putKs (wD r).1 (kt y.1)) (putVs (wD r).1 (wD r).2 (kt y.1) (.int y.2)) (kt k)=_
  rw [look_put _ _ _ _ _ (wD_len r).1]
  by_cases e:kt y.1=kt k
  ·rw [if_pos e,h2 y List.mem_cons_self (kt_inj e)]
  ·rw [if_neg e]
   obtain ⟨x,m,ex⟩:=h1
   rcases List.mem_cons.mp m with rfl | m
   ·exact absurd (by rw [ex]) e
   ·exact look_w r ⟨x,m,ex⟩ fun z mz=>h2 z (List.mem_cons_of_mem _ mz)
theorem Wrt.look {w:Wd}{ws:List Wr} (h:Wrt w ws) {p q:Int} (hp:p ∈ w.leaves) (hq:q ∈ w.leaves) (hpq:p ≠ q):lookD (wD ws).1 (wD ws).2 (kt (kof p q))=some (.int (shd w.deep w p q)):=look_w ws (h.all p hp q hq hpq) (h.right w.deep p q (Nat.le_refl _))
theorem put_w {i:Nat}{fk fv:SD->Res D}{τ:SD}{t:Tg}{ws:List Wr}{p q c:Int} (hv:fv τ=.ok (.int c)) (ho:τ[i]?=some (some (wDc t ws))) (ht:t.isOwn=true) (hk:fk τ=.ok (.tup [.int (kof p q).1,.int (kof p q).2])) (hl:ws.length < 16777216) :
  sDput i fk fv τ=.nx (τ.set i (some (wDc t ((kof p q,c) :: ws)))):=by
 unfold sDput
 rw [hv,toFl_ok]
 have e:ownDc τ i=some (t,true,(wD ws).1,(wD ws).2):=by
  unfold ownDc
  rw [ho]
  show (if t.isOwn=true then _ else _)=_
  rw [if_pos ht]
 rw [e]
 show (fk τ).toFl τ _=_
 rw [hk,toFl_ok]
 show (if (kt (kof p q)).kind=true/\(D.int c).hasBor=false/\(wD ws).1.length < 16777216/\(hasK (wD ws).1 (kt (kof p q))=true->(D.int c).pure=true) then Fl.nx _ else Fl.bad)=_
 rw [if_pos ⟨rfl,rfl,Nat.lt_of_le_of_lt (wD_len ws).2.1 hl,fun _=>rfl⟩]
 rfl
theorem forD_w {α:Type}{tg:TGD}{body:SF} (Pv:List Wr->SD->Prop) (g:α->D) (W:α->List Wr) (B:Nat):∀ (xs:List α) (ws:List Wr) (τ:SD),Pv ws τ->ws.length + (xs.flatMap W).length <= B ->
  (∀ x ∈ xs,∀ ws τ,Pv ws τ->ws.length + (W x).length <= B->∃ τ' t,tg (g x) τ=some τ'/\body τ'=.nx t/\Pv ((W x).reverse ++ ws) t)->∃ t,forD tg body (xs.map g) τ=.nx t/\Pv ((xs.flatMap W).reverse ++ ws) t
 | [],ws,τ,h,_,_=>⟨τ,rfl,h⟩
 | x :: r,ws,τ,h,hl,hb=>by
  rw [List.flatMap_cons,List.length_append] at hl
  obtain ⟨τ',t,e1,e2,h2⟩:=hb x List.mem_cons_self ws τ h (by omega)
  obtain ⟨u,e3,h3⟩:=forD_w Pv g W B r ((W x).reverse ++ ws) t h2 (by rw [List.length_append,List.length_reverse]; omega) fun y my=>hb y (List.mem_cons_of_mem _ my)
  refine ⟨u,?_,?_⟩
  ·show (match tg (g x) τ with | none=>Fl.bad | some τ'=>match body τ' with | .nx t=>forD tg body (r.map g) t | .ct t=>forD tg body (r.map g) t | .bk t=>.nx t | o=>o)=_
   rw [e1]
   show (match body τ' with | .nx t=>forD tg body (r.map g) t | .ct t=>forD tg body (r.map g) t | .bk t=>.nx t | o=>o)=_
   rw [e2]
   exact e3
  ·rw [List.flatMap_cons,List.reverse_append,List.append_assoc]
   exact h3
def li (t:Tg) (l:List Int):D := .lst t (l.map .int)
def hD (t:Tg) (hs:List (List Int)):D := .lst t (hs.map (li t))
theorem li_frz (t:Tg) (l:List Int):(li t l).frz=li .frz l:=by show D.lst .frz (frzL (l.map .int))=_; rw [frz_ints]; rfl
theorem li_view (t:Tg) (l:List Int):(li t l).view=li t.view l:=by show D.lst t.view (viewL (l.map .int))=_; rw [view_ints]; rfl
theorem frzL_li (t:Tg):∀ hs:List (List Int),frzL (hs.map (li t))=hs.map (li .frz)
 | []=>rfl
 | l :: r=>by show (li t l).frz :: frzL (r.map (li t))=_; rw [li_frz,frzL_li]; rfl
theorem viewL_li (t:Tg):∀ hs:List (List Int),viewL (hs.map (li t))=hs.map (li t.view)
 | []=>rfl
 | l :: r=>by show (li t l).view :: viewL (r.map (li t))=_; rw [li_view,viewL_li]; rfl
theorem hD_frz (t:Tg) (hs:List (List Int)):(hD t hs).frz=hD .frz hs:=by show D.lst .frz (frzL (hs.map (li t)))=_; rw [frzL_li]; rfl
theorem hD_view (t:Tg) (hs:List (List Int)):(hD t hs).view=hD t.view hs:=by show D.lst t.view (viewL (hs.map (li t)))=_; rw [viewL_li]; rfl
theorem li_bor {t:Tg} (h:t ≠ .bor) (l:List Int):(li t l).hasBor=false:=by show (decide (t=.bor) || hasBorL (l.map .int))=false; rw [bor_ints,decide_eq_false h]; rfl
theorem var_v {i:Nat}{τ:SD}{d e:D} (h:τ[i]?=some (some d)) (hv:d.view=e):eVar i τ=.ok e:=by
 unfold eVar
 rw [h]
 show Res.ok d.view=_
 rw [hv]
theorem flat_one {α β:Type} (f:α->β):∀ qs:List α,(qs.flatMap fun q=>[f q])=qs.map f
 | []=>rfl
 | q :: r=>by rw [List.flatMap_cons,flat_one f r]; rfl
theorem runR_eq {n N:Nat}{g:SF}{ds:List D}{τ:SD} (hl:ds.length=n) (ht:ds.map some ++ List.replicate (N - n) none=τ):runR n N g ds=(g τ).outR:=by
 unfold runR
 rw [if_pos hl,ht]
mutual
theorem fill_len:∀ w:Wd,w.good->w.leaves.length <= 24->w.fillW.length <= 331776 * w.nodes
 | .leaf p,_,_=>Nat.zero_le _
 | .flat c bs,h,hl=>by
  have hl:(leavesL bs).length <= 24:=hl
  have h1:=fillL_len bs h.2.1 hl
  have h2:=knotW_len (t:=tintW (.flat c bs)) (hs:=bs.map Wd.leaves) (by rw [List.length_map]; exact Nat.le_trans (deepL_le bs h.2.1).1 hl) fun l ml=>by obtain ⟨b,mb,rfl⟩:=List.mem_map.mp ml; exact Nat.le_trans (leaves_mem mb) hl
  show (fillL bs ++ knotW (tintW (.flat c bs)) (bs.map Wd.leaves)).length <= 331776 * (1 + nodesL bs)
  rw [List.length_append]
  omega
 | .prime rows bs,h,hl=>by
  have hl:(leavesL bs).length <= 24:=hl
  have h1:=fillL_len bs h.2.2.2.1 hl
  have h2:=knotW_len (t:=tintW (.prime rows bs)) (hs:=bs.map Wd.leaves) (by rw [List.length_map]; exact Nat.le_trans (deepL_le bs h.2.2.2.1).1 hl) fun l ml=>by obtain ⟨b,mb,rfl⟩:=List.mem_map.mp ml; exact Nat.le_trans (leaves_mem mb) hl
  show (fillL bs ++ knotW (tintW (.prime rows bs)) (bs.map Wd.leaves)).length <= 331776 * (1 + nodesL bs)
  rw [List.length_append]
  omega
theorem fillL_len:∀ bs:List Wd,goodL bs->(leavesL bs).length <= 24->(fillL bs).length <= 331776 * nodesL bs
 | [],_,_=>Nat.zero_le _
 | b :: r,h,hl=>by
  have hl:(b.leaves ++ leavesL r).length <= 24:=hl
  rw [List.length_append] at hl
  have h1:=fill_len b h.1 (by omega)
  have h2:=fillL_len r h.2 (by omega)
  show (b.fillW ++ fillL r).length <= 331776 * (b.nodes + nodesL r)
  rw [List.length_append]
  omega
end
def flSt (a:Addr) (w:Wd) (t:Tg) (hs:List (List Int)) (ws:List Wr) (row:List Int) (o4 o5 o6 o7 o8:Option D):SD := [some (wDc (.len a) ws),some w.d,some (hD t hs),some (li .own row),o4,o5,o6,o7,o8]
section
variable {R:DF}{a:Addr}{w:Wd}{t:Tg}{hs:List (List Int)}{row:List Int}{o4 o5 o6 o7 o8:Option D}
theorem fl_b1 {ws:List Wr}{p q c:Int} (hl:ws.length < 16777216):g_Lfill_b1 R (flSt a w t hs ws row o4 o5 (some (.int c)) (some (.int p)) (some (.int q)))=.nx (flSt a w t hs ((kof p q,c) :: ws) row o4 o5 (some (.int c)) (some (.int p)) (some (.int q))):=by
 unfold g_Lfill_b1
 refine put_w (t := .len a) (ws:=ws) rfl rfl rfl ?_ hl
 have em:eA max2D (aCons (eVar 7) (aCons (eVar 8) aNil)) (flSt a w t hs ws row o4 o5 (some (.int c)) (some (.int p)) (some (.int q)))=.ok (.int (kof p q).1):=by
  rw [eA_ok (aCons_ok rfl (aOne rfl))]
  show Res.ok (D.int (if q > p then q else p))=_
  congr 2
  unfold kof
  split <;> split <;> first | rfl | (show _=_; omega)
 have en:eA min2D (aCons (eVar 7) (aCons (eVar 8) aNil)) (flSt a w t hs ws row o4 o5 (some (.int c)) (some (.int p)) (some (.int q)))=.ok (.int (kof p q).2):=by
  rw [eA_ok (aCons_ok rfl (aOne rfl))]
  show Res.ok (D.int (if q < p then q else p))=_
  congr 2
  unfold kof
  split <;> rfl
 rw [eA_ok (aCons_ok em (aOne en))]
 rfl
theorem hD_ix {t:Tg}{i:Nat} (hi:i < hs.length):ixD (hD t hs) (.int i)=.ok (li t (hs.getD i [])):=by
 refine ix_lst (j:=i) rfl ?_
 rw [List.getElem?_map,List.getElem?_eq_getElem hi,List.getD_eq_getElem?_getD,List.getElem?_eq_getElem hi]
 rfl
theorem fl_b2 {ws:List Wr}{j:Nat}{p c:Int} (hj:j < hs.length) (hl:ws.length + ((hs.getD j []).flatMap fun q=>[((kof p q,c):Wr)]).length <= 16777215):∃ o,g_Lfill_b2 R (flSt a w .frz hs ws row o4 (some (.int j)) (some (.int c)) (some (.int p)) o8)=.nx (flSt a w .frz hs (((hs.getD j []).flatMap fun q=>[((kof p q,c):Wr)]).reverse ++ ws) row o4 (some (.int j)) (some (.int c)) (some (.int p)) o):=by
 obtain ⟨t,e1,o,e2⟩:=forD_w (tg:=gN 8) (body:=g_Lfill_b1 R) (fun ws τ=>∃ o,τ=flSt a w .frz hs ws row o4 (some (.int j)) (some (.int c)) (some (.int p)) o) D.int (fun q=>[((kof p q,c):Wr)]) 16777215 (hs.getD j []) ws _ ⟨o8,rfl⟩ hl fun q mq ws τ hP hw=>by
  obtain ⟨o,rfl⟩:=hP
  have hw:ws.length + 1 <= 16777215:=hw
  exact ⟨_,_,rfl,fl_b1 (by omega),some (.int q),rfl⟩
 subst e2
 refine ⟨o,?_⟩
 unfold g_Lfill_b2
 have hf:frzAt [2,5] (flSt a w .frz hs ws row o4 (some (.int j)) (some (.int c)) (some (.int p)) o8)=flSt a w .frz hs ws row o4 (some (.int j)) (some (.int c)) (some (.int p)) o8:=by
  show [_,_,some (hD .frz hs).frz,_,_,some (D.int j),_,_,_]=_
  rw [hD_frz]
  rfl
 have hi:eIt (eBin ixD (eVar 2) (eVar 5)) (flSt a w .frz hs ws row o4 (some (.int j)) (some (.int c)) (some (.int p)) o8)=.ok (false,(hs.getD j []).map .int):=it_lst (ix_ok (show eVar 2 _=.ok (hD .frz hs) from var_v rfl (hD_view _ _)) rfl (hD_ix hj)) (by decide) (pure_ints _)
 rw [for_at hf hi,frz_ints]
 exact e1
theorem fl_tint {ws:List Wr}{i j:Nat} (s:SF) (hg:w.good) (hji:j < i) (hi:i < w.brs.length):sSeq (sSet 6 (eBin ixD (eVar 1) (eC (.int 1)))) (sSeq (sIf (eT (eBin eqD (eBin ixD (eVar 1) (eC (.int 0))) (eC (.str "prime")))) (sSet 6 (eBin ixD (eBin ixD (eBin ixD (eVar 1) (eC (.int 1))) (eVar 4)) (eVar 5))) sNext) s) (flSt a w t hs ws row (some (.int i)) (some (.int j)) o6 o7 o8)=s (flSt a w t hs ws row (some (.int i)) (some (.int j)) (some (.int (tintW w i j))) o7 o8):=by
 cases w with
 | leaf p=>exact absurd hi (Nat.not_lt_zero _)
 | flat c bs =>
  have v1:∀ o,eVar 1 (flSt a (.flat c bs) t hs ws row (some (.int i)) (some (.int j)) o o7 o8)=.ok (Wd.flat c bs).d:=fun o=>var_p rfl (Wd.pure (.flat c bs))
  have e1:eBin ixD (eVar 1) (eC (.int 1)) (flSt a (.flat c bs) t hs ws row (some (.int i)) (some (.int j)) o6 o7 o8)=.ok (.int c):=ix_ok (v1 _) (show eC (.int 1) _=.ok (.int 1) from rfl) (ix_tup (j:=1) rfl rfl)
  rw [seq_nx (set_nx e1 rfl)]
  show sSeq _ _ (flSt a (.flat c bs) t hs ws row (some (.int i)) (some (.int j)) (some (.int c)) o7 o8)=_
  have c1:eT (eBin eqD (eBin ixD (eVar 1) (eC (.int 0))) (eC (.str "prime"))) (flSt a (.flat c bs) t hs ws row (some (.int i)) (some (.int j)) (some (.int c)) o7 o8)=.ok false:=by
   refine eT_ok ?_
   rw [eBin_ok (ix_ok (v1 _) (show eC (.int 0) _=.ok (.int 0) from rfl) (ix_tup (j:=0) rfl rfl)) rfl]
   exact congrArg (fun b=>Res.ok (D.bl b)) (show xor false (decide (("flat" : Str) = "prime"))=false by decide +kernel)
  exact if_go c1
 | prime rows bs =>
  have v1:∀ o,eVar 1 (flSt a (.prime rows bs) t hs ws row (some (.int i)) (some (.int j)) o o7 o8)=.ok (Wd.prime rows bs).d:=fun o=>var_p rfl (Wd.pure (.prime rows bs))
  have e1:∀ o,eBin ixD (eVar 1) (eC (.int 1)) (flSt a (.prime rows bs) t hs ws row (some (.int i)) (some (.int j)) o o7 o8)=.ok (.tup (rows.map fun r=>.tup (r.map .int))):=fun o=>ix_ok (v1 _) (show eC (.int 1) _=.ok (.int 1) from rfl) (ix_tup (j:=1) rfl rfl)
  rw [seq_nx (set_nx (e1 _) (hasBor_pure _ (pureL_of fun d m=>by obtain ⟨r,_,rfl⟩:=List.mem_map.mp m; exact pure_ints r)))]
  show sSeq _ _ (flSt a (.prime rows bs) t hs ws row (some (.int i)) (some (.int j)) (some (.tup (rows.map fun r=>.tup (r.map .int)))) o7 o8)=_
  have c1:eT (eBin eqD (eBin ixD (eVar 1) (eC (.int 0))) (eC (.str "prime"))) (flSt a (.prime rows bs) t hs ws row (some (.int i)) (some (.int j)) (some (.tup (rows.map fun r=>.tup (r.map .int)))) o7 o8)=.ok true:=by
   refine eT_ok ?_
   rw [eBin_ok (ix_ok (v1 _) (show eC (.int 0) _=.ok (.int 0) from rfl) (ix_tup (j:=0) rfl rfl)) rfl]
   exact congrArg (fun b=>Res.ok (D.bl b)) (show xor false (decide (("prime" : Str) = "prime"))=true by decide +kernel)
  have hi:i < bs.length:=hi
  have hr:rows.length=bs.length:=hg.2.1
  have hir:i < rows.length:=by omega
  have hl:=hg.2.2.1 i _ (List.getElem?_eq_getElem hir)
  have hj:j < rows[i].length:=by omega
  have e2:eBin ixD (eBin ixD (eBin ixD (eVar 1) (eC (.int 1))) (eVar 4)) (eVar 5) (flSt a (.prime rows bs) t hs ws row (some (.int i)) (some (.int j)) (some (.tup (rows.map fun r=>.tup (r.map .int)))) o7 o8)=.ok (.int rows[i][j]) :=
   ix_ok (ix_ok (e1 _) rfl (ix_tup (j:=i) (d := .tup (rows[i].map .int)) rfl (by rw [List.getElem?_map,List.getElem?_eq_getElem hir]; rfl))) rfl (ix_tup (j:=j) rfl (by rw [List.getElem?_map,List.getElem?_eq_getElem hj]; rfl))
  have ec:tintW (.prime rows bs) i j=rows[i][j]:=by
   show col rows i j=_
   unfold col
   rw [Nat.max_eq_left (by omega),Nat.min_eq_right (by omega),List.getD_eq_getElem?_getD,List.getD_eq_getElem?_getD,List.getElem?_eq_getElem hir,Option.getD_some,List.getElem?_eq_getElem hj]
   rfl
  rw [ec]
  refine seq_nx ?_
  rw [if_t c1,set_nx e2 rfl]
  rfl
theorem fl_b3 {ws:List Wr}{i j:Nat} (hg:w.good) (hlen:hs.length=w.brs.length) (hji:j < i) (hi:i < hs.length) (hl:ws.length + (pairW (tintW w i j) (hs.getD i []) (hs.getD j [])).length <= 16777215) :
  ∃ p6 p7 p8,g_Lfill_b3 R (flSt a w t hs ws row (some (.int i)) (some (.int j)) o6 o7 o8)=.nx (flSt a w .frz hs ((pairW (tintW w i j) (hs.getD i []) (hs.getD j [])).reverse ++ ws) row (some (.int i)) (some (.int j)) p6 p7 p8):=by
 unfold g_Lfill_b3
 rw [fl_tint _ hg hji (by omega)]
 generalize tintW w i j=c at hl
 have ew:∀ p,((hs.getD j []).flatMap fun q=>[((kof p q,c):Wr)])=(hs.getD j []).map fun q=>(kof p q,c):=fun p=>flat_one _ _
 obtain ⟨t',e1,p7,p8,e2⟩:=forD_w (tg:=gN 7) (body:=g_Lfill_b2 R) (fun ws τ=>∃ p7 o,τ=flSt a w .frz hs ws row (some (.int i)) (some (.int j)) (some (.int c)) p7 o) D.int (fun p=>(hs.getD j []).map fun q=>((kof p q,c):Wr)) 16777215 (hs.getD i []) ws _ ⟨o7,o8,rfl⟩ hl fun p mp ws τ hP hw=>by
  obtain ⟨p7,o,rfl⟩:=hP
  rw [<- ew] at hw ⊢
  obtain ⟨o',e⟩:=fl_b2 (R:=R) (a:=a) (w:=w) (hs:=hs) (row:=row) (o4:=some (.int i)) (o8:=o) (show j < hs.length by omega) hw
  exact ⟨_,_,rfl,e,some (.int p),o',rfl⟩
 subst e2
 refine ⟨some (.int c),p7,p8,?_⟩
 have hf:frzAt [2,4] (flSt a w t hs ws row (some (.int i)) (some (.int j)) (some (.int c)) o7 o8)=flSt a w .frz hs ws row (some (.int i)) (some (.int j)) (some (.int c)) o7 o8:=by
  show [_,_,some (hD t hs).frz,_,some (D.int i),_,_,_,_]=_
  rw [hD_frz]
  rfl
 have hi':eIt (eBin ixD (eVar 2) (eVar 4)) (flSt a w .frz hs ws row (some (.int i)) (some (.int j)) (some (.int c)) o7 o8)=.ok (false,(hs.getD i []).map .int):=it_lst (ix_ok (show eVar 2 _=.ok (hD .frz hs) from var_v rfl (hD_view _ _)) rfl (hD_ix hi)) (by decide) (pure_ints _)
 rw [for_at hf hi',frz_ints]
 exact e1
abbrev rowW (w:Wd) (hs:List (List Int)) (i:Nat):List Wr:=(List.range i).flatMap fun j=>pairW (tintW w i j) (hs.getD i []) (hs.getD j [])
theorem rng_frz (n:Nat):frzL ((List.range n).map fun k:Nat=>D.int k)=(List.range n).map fun k:Nat=>D.int k:=by
 have:((List.range n).map fun k:Nat=>D.int k)=((List.range n).map fun k:Nat=>(k:Int)).map .int:=by rw [List.map_map]; rfl
 rw [this,frz_ints]
theorem rng_ok {f:SD->Res D}{τ:SD}{n:Nat} (h:f τ=.ok (.int n)) (hn:n <= 1000):eRng1 (aCons f aNil) τ=.ok (false,(List.range n).map fun k:Nat=>.int k):=by
 unfold eRng1
 rw [aOne h]
 exact range1_nat (by omega)
theorem for_nil {it:SD->Res (Bool × List D)}{tg:TGD}{body:SF}{τ:SD}{ds:List D} (h:it τ=.ok (false,ds)):sFor [] it tg body τ=forD tg body (frzL ds) τ:=for_at rfl h
theorem fl_b4 {ws:List Wr}{i:Nat} (ht:t=.own ∨ t=.frz) (hg:w.good) (hlen:hs.length=w.brs.length) (hi:i < hs.length) (hil:i <= 24) (hr:row.length + (hs.getD i []).length <= 24) (hl:ws.length + (rowW w hs i).length <= 16777215) :
  ∃ t' p5 p6 p7 p8,(t'=.own ∨ t'=.frz)/\g_Lfill_b4 R (flSt a w t hs ws row (some (.int i)) o5 o6 o7 o8)=.nx (flSt a w t' hs ((rowW w hs i).reverse ++ ws) (row ++ hs.getD i []) (some (.int i)) p5 p6 p7 p8):=by
 obtain ⟨u,e1,t',p5,p6,p7,p8,ht',e2⟩:=forD_w (tg:=gN 5) (body:=g_Lfill_b3 R) (fun ws τ=>∃ t p5 p6 p7 p8,(t=.own ∨ t=.frz)/\τ=flSt a w t hs ws row (some (.int i)) p5 p6 p7 p8) (fun k:Nat=>D.int k) (fun j=>pairW (tintW w i j) (hs.getD i []) (hs.getD j [])) 16777215 (List.range i) ws (flSt a w t hs ws row (some (.int i)) o5 o6 o7 o8) ⟨t,o5,o6,o7,o8,ht,rfl⟩ hl fun j mj ws τ hP hw=>by
  obtain ⟨t,p5,p6,p7,p8,ht,rfl⟩:=hP
  obtain ⟨q6,q7,q8,e⟩:=fl_b3 (R:=R) (a:=a) (w:=w) (t:=t) (hs:=hs) (row:=row) (o6:=p6) (o7:=p7) (o8:=p8) hg hlen (List.mem_range.mp mj) hi hw
  exact ⟨_,_,rfl,e,.frz,_,q6,q7,q8,.inr rfl,rfl⟩
 subst e2
 refine ⟨t',p5,p6,p7,p8,ht',?_⟩
 unfold g_Lfill_b4
 have hi':eRng1 (aCons (eVar 4) aNil) (flSt a w t hs ws row (some (.int i)) o5 o6 o7 o8)=.ok (false,(List.range i).map fun k:Nat=>.int k):=rng_ok rfl (by omega)
 have e3:=for_nil (tg:=gN 5) (body:=g_Lfill_b3 R) hi'
 rw [rng_frz,e1] at e3
 rw [seq_nx e3]
 have e4:eBin addD (eVar 3) (eBin ixD (eVar 2) (eVar 4)) (flSt a w t' hs ((rowW w hs i).reverse ++ ws) row (some (.int i)) p5 p6 p7 p8)=.ok (li .own (row ++ hs.getD i [])):=by
  have x1:eVar 3 (flSt a w t' hs ((rowW w hs i).reverse ++ ws) row (some (.int i)) p5 p6 p7 p8)=.ok (li .bor row):=var_v rfl (li_view _ _)
  have x2:eBin ixD (eVar 2) (eVar 4) (flSt a w t' hs ((rowW w hs i).reverse ++ ws) row (some (.int i)) p5 p6 p7 p8)=.ok (li t'.view (hs.getD i [])):=ix_ok (show eVar 2 _=.ok (hD t'.view hs) from var_v rfl (hD_view _ _)) rfl (hD_ix hi)
  rw [addL_ok x1 x2 (by rw [List.length_map,List.length_map]; omega),<- List.map_append]
  rfl
 rw [set_nx e4 (li_bor (by decide) _)]
 rfl
end
theorem fl_comp {n:Nat}:∀ (bs:List Wd) (ws:List Wr),ws.length + (fillL bs).length <= 16777215->(∀ b ∈ bs,∀ (ws:List Wr) (a:Addr),ws.length + b.fillW.length <= 16777215->G_Lfill n [wDc (.len a) ws,b.d]=.ok (.tup [li .own b.leaves,wDc (.len a) (b.fillW.reverse ++ ws)])) ->
  compR (G_Lfill n) (aCons (eVar 0) aNil) true (dL bs) (wD ws).1 (wD ws).2=.ok ((bs.map Wd.leaves).map (li .own),(wD ((fillL bs).reverse ++ ws)).1,(wD ((fillL bs).reverse ++ ws)).2)
 | [],ws,_,_=>rfl
 | b :: r,ws,hl,h=>by
  have hl:ws.length + (b.fillW ++ fillL r).length <= 16777215:=hl
  rw [List.length_append] at hl
  have e1:callR (G_Lfill n) true (wD ws).1 (wD ws).2 [b.d]=.ok (li .own b.leaves,(wD (b.fillW.reverse ++ ws)).1,(wD (b.fillW.reverse ++ ws)).2):=callR_ok fun a=>h b List.mem_cons_self ws a (by omega)
  have e2:=fl_comp r (b.fillW.reverse ++ ws) (by rw [List.length_append,List.length_reverse]; omega) fun x mx=>h x (List.mem_cons_of_mem _ mx)
  show ((aCons (eVar 0) aNil) [some b.d,none]).bind (fun ds=>if pureL ds=true then (callR (G_Lfill n) true (wD ws).1 (wD ws).2 ds).bind fun y=>if y.1.hasBor=true then .bad else (compR (G_Lfill n) (aCons (eVar 0) aNil) true (dL r) y.2.1 y.2.2).bind fun z=>.ok (y.1 :: z.1,z.2) else .bad)=_
  rw [aOne (show eVar 0 [some b.d,none]=.ok b.d from var_p rfl b.pure),Res.bind_ok,if_pos (by show (b.d.pure && true)=true; rw [b.pure]; rfl),e1,Res.bind_ok]
  show (if (li .own b.leaves).hasBor=true then _ else _)=_
  rw [li_bor (by decide),if_neg (by decide)]
  show (compR (G_Lfill n) (aCons (eVar 0) aNil) true (dL r) (wD (b.fillW.reverse ++ ws)).1 (wD (b.fillW.reverse ++ ws)).2).bind _=_
  rw [e2,Res.bind_ok]
  show Res.ok (_ :: _,(wD ((fillL r).reverse ++ (b.fillW.reverse ++ ws))).1,(wD ((fillL r).reverse ++ (b.fillW.reverse ++ ws))).2)=Res.ok (_,(wD ((b.fillW ++ fillL r).reverse ++ ws)).1,(wD ((b.fillW ++ fillL r).reverse ++ ws)).2)
  rw [List.reverse_append,List.append_assoc]
  rfl
theorem flat_take {α β:Type} (f:α->List β) (xs:List α) (i:Nat):((xs.take i).flatMap f).length <= (xs.flatMap f).length:=by
 conv=>rhs; rw [<- List.take_append_drop i xs,List.flatMap_append,List.length_append]
 omega
theorem rng_take {n i:Nat} (h:i <= n):(List.range n).take i=List.range i:=by rw [List.take_range,Nat.min_eq_left h]
theorem fill_knot {n:Nat}{w:Wd} (hL:w.isL=false) (hg:w.good) (hl:w.leaves.length <= 24) (ih:∀ b ∈ w.brs,∀ (ws:List Wr) (a:Addr),ws.length + b.fillW.length <= 16777215->G_Lfill n [wDc (.len a) ws,b.d]=.ok (.tup [li .own b.leaves,wDc (.len a) (b.fillW.reverse ++ ws)])) (ws:List Wr) (a:Addr) (hw:ws.length + w.fillW.length <= 16777215) :
  G_Lfill (n + 1) [wDc (.len a) ws,w.d]=.ok (.tup [li .own w.leaves,wDc (.len a) (w.fillW.reverse ++ ws)]):=by
 rw [fill_brs,List.length_append] at hw
 have hb:=(brs_le hg hl).1
 refine (runR_eq (τ := [some (wDc (.len a) ws),some w.d,none,none,none,none,none,none,none]) rfl rfl).trans ?_
 unfold g_Lfill
 have v1:eVar 1 [some (wDc (.len a) ws),some w.d,none,none,none,none,none,none,none]=.ok w.d:=var_p rfl w.pure
 have c1:bNot (eT (eUn (instD isTp) (eVar 1))) [some (wDc (.len a) ws),some w.d,none,none,none,none,none,none,none]=.ok false:=by
  refine not_ok (b:=true) (eT_ok ?_)
  unfold eUn
  rw [v1]
  cases w with
  | leaf p=>cases hL
  | _=>rfl
 rw [if_go c1]
 have hi:eIt (eBin ixD (eVar 1) (eC (.int 2))) [some (wDc (.len a) ws),some w.d,none,none,none,none,none,none,none]=.ok (false,dL w.brs):=by
  refine it_tup (ix_ok v1 (show eC (.int 2) _=.ok (.int 2) from rfl) ?_) (dL_pure w.brs)
  cases w with
  | leaf p=>cases hL
  | flat c bs=>exact ix_tup (j:=2) rfl rfl
  | prime rows bs=>exact ix_tup (j:=2) rfl rfl
 have e2:=fl_comp w.brs ws (by omega) ih
 generalize hsq:w.brs.map Wd.leaves=hs at *
 have hlen:hs.length=w.brs.length:=by rw [<- hsq,List.length_map]
 have hflat:hs.flatten=w.leaves:=by rw [<- brs_leaves hL,leavesL_map,<- hsq]; rfl
 have e3:sSetCompR 2 0 (eIt (eBin ixD (eVar 1) (eC (.int 2)))) (G_Lfill n) (aCons (eVar 0) aNil) [some (wDc (.len a) ws),some w.d,none,none,none,none,none,none,none]=.nx [some (wDc (.len a) ((fillL w.brs).reverse ++ ws)),some w.d,some (hD .own hs),none,none,none,none,none,none]:=by
  unfold sSetCompR
  rw [show ownDc [some (wDc (.len a) ws),some w.d,none,none,none,none,none,none,none] 0=some (.len a,true,(wD ws).1,(wD ws).2) from rfl,hi]
  show (if pureL (dL w.brs)=true then (match compR (G_Lfill n) (aCons (eVar 0) aNil) true (dL w.brs) (wD ws).1 (wD ws).2 with
   | .ok (rs,ks',xs')=>if rs.length <= 16777216 then Fl.nx _ else .bad
   | _=>.bad) else .bad)=_
  rw [if_pos (dL_pure _),e2]
  show (if (hs.map (li .own)).length <= 16777216 then Fl.nx _ else .bad)=_
  rw [if_pos (by rw [List.length_map]; omega)]
  rfl
 rw [seq_nx e3]
 rw [seq_nx (set_nx (d := .lst .own []) rfl rfl)]
 have hw1:((fillL w.brs).reverse ++ ws).length + (knotW (tintW w) hs).length <= 16777215:=by rw [List.length_append,List.length_reverse]; omega
 have eW:w.fillW.reverse ++ ws=(knotW (tintW w) hs).reverse ++ ((fillL w.brs).reverse ++ ws):=by rw [fill_brs,hsq,List.reverse_append,List.append_assoc]
 rw [eW]
 show (sSeq _ _ (flSt a w .own hs ((fillL w.brs).reverse ++ ws) [] none none none none none)).outR=_
 generalize (fillL w.brs).reverse ++ ws=ws1 at hw1
 obtain ⟨u,f1,t',o4,o5,o6,o7,o8,ht',f2⟩:=forD_inv (tg:=gN 4) (body:=g_Lfill_b4 (G_Lfill n)) (ds:=(List.range hs.length).map fun k:Nat=>D.int k) (fun i τ=>∃ t o4 o5 o6 o7 o8,(t=.own ∨ t=.frz)/\τ=flSt a w t hs (((List.range i).flatMap (rowW w hs)).reverse ++ ws1) ((hs.take i).flatten) o4 o5 o6 o7 o8) 0 (flSt a w .own hs ws1 [] none none none none none) ⟨.own,none,none,none,none,none,.inl rfl,rfl⟩ fun j d τ hd hP=>by
  obtain ⟨t,p4,p5,p6,p7,p8,ht,rfl⟩:=hP
  rw [Nat.zero_add] at *
  have hj:j < hs.length:=by have:=(List.getElem?_eq_some_iff.mp hd).1; simpa using this
  have ed:d=.int j:=by rw [List.getElem?_map,List.getElem?_range hj] at hd; cases hd; rfl
  subst ed
  have et:(hs.take (j + 1)).flatten=(hs.take j).flatten ++ hs.getD j []:=by rw [List.take_add_one,List.getD_eq_getElem?_getD,List.getElem?_eq_getElem hj,List.flatten_append]; simp
  have er:(List.range (j + 1)).flatMap (rowW w hs)=(List.range j).flatMap (rowW w hs) ++ rowW w hs j:=by rw [List.range_succ,List.flatMap_append]; simp
  have hle:((List.range (j + 1)).flatMap (rowW w hs)).length <= (knotW (tintW w) hs).length:=by rw [<- rng_take (show j + 1 <= hs.length by omega)]; exact flat_take _ _ _
  rw [er,List.length_append] at hle
  have hrow:((hs.take (j + 1)).flatten).length <= 24:=by
   refine Nat.le_trans ?_ hl
   rw [<- hflat]
   conv=>rhs; rw [<- List.take_append_drop (j + 1) hs,List.flatten_append,List.length_append]
   omega
  rw [et,List.length_append] at hrow
  obtain ⟨t',q5,q6,q7,q8,ht',e⟩:=fl_b4 (R:=G_Lfill n) (a:=a) (w:=w) (t:=t) (hs:=hs) (row:=(hs.take j).flatten) (ws:=((List.range j).flatMap (rowW w hs)).reverse ++ ws1) (i:=j) (o5:=p5) (o6:=p6) (o7:=p7) (o8:=p8) ht hg hlen hj (by omega) hrow (by rw [List.length_append,List.length_reverse]; omega)
  refine ⟨_,_,rfl,.inl e,t',some (.int j),q5,q6,q7,q8,ht',?_⟩
  rw [er,et,List.reverse_append,List.append_assoc]
 subst f2
 have hn:eA lenD (aCons (eVar 2) aNil) (flSt a w .own hs ws1 [] none none none none none)=.ok (.int (hs.length:Nat)):=by
  rw [len_ok (t := .bor) (xs:=hs.map (li .bor)) (show eVar 2 _=.ok (hD .bor hs) from var_v rfl (hD_view _ _)),List.length_map]
 have f3:=for_nil (tg:=gN 4) (body:=g_Lfill_b4 (G_Lfill n)) (rng_ok hn (by omega))
 rw [rng_frz,f1] at f3
 rw [seq_nx f3,Nat.zero_add,List.length_map,List.length_range,List.take_length,hflat]
 rfl
theorem fill_eq:∀ (n:Nat) (w:Wd),w.deep <= n->w.good->w.leaves.length <= 24->∀ (ws:List Wr) (a:Addr),ws.length + w.fillW.length <= 16777215->G_Lfill n [wDc (.len a) ws,w.d]=.ok (.tup [li .own w.leaves,wDc (.len a) (w.fillW.reverse ++ ws)])
 | 0,w,hd,_,_,_,_,_=>by cases w <;> simp [Wd.deep] at hd
 | n + 1,.leaf p,hd,hg,hl,ws,a,hw=>by
  exact (runR_eq (g:=g_Lfill (G_Lfill n)) (N:=9) (τ := [some (wDc (.len a) ws),some (.int p),none,none,none,none,none,none,none]) rfl rfl).trans rfl
 | n + 1,.flat c bs,hd,hg,hl,ws,a,hw=>fill_knot rfl hg hl (fun b mb ws a=>fill_eq n b (by have:=((brs_le hg hl).2 b mb).2.2; omega) ((brs_le hg hl).2 b mb).1 ((brs_le hg hl).2 b mb).2.1 ws a) ws a hw
 | n + 1,.prime rows bs,hd,hg,hl,ws,a,hw=>fill_knot rfl hg hl (fun b mb ws a=>fill_eq n b (by have:=((brs_le hg hl).2 b mb).2.2; omega) ((brs_le hg hl).2 b mb).1 ((brs_le hg hl).2 b mb).2.1 ws a) ws a hw
def rowOf (w:Wd) (ps:List Int) (i:Nat):List Int:=(ps.take i).map fun q=>shd w.deep w (ps.getD i 0) q
def rowsW (w:Wd) (ps:List Int):List (List Int):=(List.range ps.length).map (rowOf w ps)
def rD (rs:List (List Int)):List D:=rs.map fun r=>.tup (r.map .int)
def netV (w:Wd) (ps:List Int):D := .tup [.tup (ps.map .int),.tup (rD (rowsW w ps))]
theorem rD_pure (rs:List (List Int)):pureL (rD rs)=true:=pureL_of fun d m=>by obtain ⟨r,_,rfl⟩:=List.mem_map.mp m; exact pure_ints r
theorem netV_pure (w:Wd) (ps:List Int):(netV w ps).pure=true:=by
 show (pureL (ps.map .int) && (pureL (rD (rowsW w ps)) && true))=true
 rw [pure_ints,rD_pure]
 rfl
structure Full (w:Wd) (ps:List Int) (ws:List Wr):Prop where
 wr:Wrt w ws
 perm:w.leaves.Perm ps
 rise:ps.Pairwise (· < ·)
 len:ps.length <= 24
theorem Full.look {w:Wd}{ps:List Int}{ws:List Wr} (F:Full w ps ws) {i j:Nat} (hj:j < i) (hi:i < ps.length):lookD (wD ws).1 (wD ws).2 (kt (kof ps[i] ps[j]))=some (.int (shd w.deep w ps[i] ps[j]))/\kof ps[i] ps[j]=(ps[i],ps[j]):=by
 have h:=List.pairwise_iff_getElem.mp F.rise j i (by omega) hi hj
 refine ⟨F.wr.look (F.perm.mem_iff.mpr (List.getElem_mem hi)) (F.perm.mem_iff.mpr (List.getElem_mem (by omega))) (by omega),?_⟩
 unfold kof
 rw [if_pos h]
theorem wDc_frz (t:Tg) (ws:List Wr):(wDc t ws).frz=wDc .frz ws:=by show D.dct .frz true (wD ws).1 (frzL (wD ws).2)=_; rw [frzL_pure _ (wD_len ws).2.2]; rfl
theorem wDc_view (t:Tg) (ws:List Wr):(wDc t ws).view=wDc t.view ws:=by show D.dct t.view true (wD ws).1 (viewL (wD ws).2)=_; rw [viewL_pure _ (wD_len ws).2.2]; rfl
theorem sort_eq {qs ps:List Int} (hp:qs.Perm ps) (hs:ps.Pairwise (· < ·)) (hl:ps.length <= 24) (t:Tg):sortedD [.lst t (qs.map .int)]=.ok (.lst .own (ps.map .int)):=by
 show (match intsOf (qs.map D.int) with | some ns=>if ns.length < 64 then Res.ok (D.lst .own ((sortI ns).map D.int)) else .bad | none=>.bad)=_
 rw [intsOf_map]
 have hll:qs.length <= 24:=by rw [hp.length_eq]; exact hl
 show (if qs.length < 64 then Res.ok (D.lst .own ((sortI qs).map D.int)) else .bad)=_
 rw [if_pos (by omega),sorted_unique ((sortI_perm qs).trans hp) (sortI_sorted qs) (hs.imp fun h=>Int.le_of_lt h)]
def lnSt (w:Wd) (ps:List Int) (ws:List Wr) (acc:List (List Int)) (a:Option D):SD := [some w.d,some (wDc .own ws),some (li .own ps),some (.lst .own (rD acc)),a]
theorem ln_body {w:Wd}{ps:List Int}{ws:List Wr} (F:Full w ps ws) (acc:List (List Int)) {i:Nat} (hi:i < ps.length) (ha:acc.length <= 24) :
  g_Lnet_b2 (lnSt w ps ws acc (some (.int i)))=.nx (lnSt w ps ws (acc ++ [rowOf w ps i]) (some (.int i))):=by
 have hlen:=F.len
 have hpi:ps.getD i 0=ps[i]:=by rw [List.getD_eq_getElem?_getD,List.getElem?_eq_getElem hi]; rfl
 have hc:=eComp_all (elt:=g_Lnet_e1) (cap := [("_law_shade_of",1),("_law_places_here",2),("_law_k",4)]) (fun d=>match d with | .int q=>.int (shd w.deep w ps[i] (ps.getD q.toNat 0)) | _=>.non) (rng_ok (f:=eVar 4) (τ:=lnSt w ps ws acc (some (.int i))) (n:=i) rfl (by omega)) (fun d hd=>by
   rw [rng_frz] at hd
   obtain ⟨j,hj,rfl⟩:=List.mem_map.mp hd
   have hj:=List.mem_range.mp hj
   refine ⟨?_,rfl⟩
   have ecap:capD (lnSt w ps ws acc (some (.int i))) [("_law_shade_of",1),("_law_places_here",2),("_law_k",4)]=[some (wDc .frz ws),some (li .frz ps),some (.int i)]:=by
    show [some (wDc .own ws).frz,some (li .own ps).frz,some (D.int i)]=_
    rw [wDc_frz,li_frz]
   rw [ecap]
   have hj':j < ps.length:=by omega
   obtain ⟨l1,l2⟩:=F.look hj hi
   rw [l2] at l1
   have v2:eVar 2 [some (.int j),some (wDc .frz ws),some (li .frz ps),some (.int i)]=.ok (li .frz ps):=var_v rfl (li_view _ _)
   have at_:∀ {k:Nat} (hk:k < ps.length),ixD (li .frz ps) (.int k)=.ok (.int ps[k]):=fun hk=>ix_lst rfl (by rw [List.getElem?_map,List.getElem?_eq_getElem hk]; rfl)
   have ek:eA tupD (aCons (eBin ixD (eVar 2) (eVar 3)) (aCons (eBin ixD (eVar 2) (eVar 0)) aNil)) [some (.int j),some (wDc .frz ws),some (li .frz ps),some (.int i)]=.ok (.tup [.int ps[i],.int ps[j]]):=(eA_ok (aCons_ok (ix_ok v2 rfl (at_ hi)) (aOne (ix_ok v2 rfl (at_ hj'))))).trans rfl
   unfold g_Lnet_e1
   rw [eBin_ok (show eVar 1 [some (.int j),some (wDc .frz ws),some (li .frz ps),some (.int i)]=.ok (wDc .frz ws) from var_v rfl (wDc_view _ _)) ek]
   show (if (kt (ps[i],ps[j])).kind=true then (match lookD (wD ws).1 (wD ws).2 (kt (ps[i],ps[j])) with | some d=>Res.ok d | none=>.bad) else .bad)=_
   rw [if_pos (show (kt (ps[i],ps[j])).kind=true from rfl),l1]
   show Res.ok (D.int (shd w.deep w ps[i] ps[j]))=Res.ok (D.int (shd w.deep w ps[i] (ps.getD j 0)))
   rw [List.getD_eq_getElem?_getD,List.getElem?_eq_getElem hj']
   rfl) (by rw [List.length_map,List.length_range]; omega)
 unfold g_Lnet_b2
 rw [app_nx (xs:=rD acc) (d := .tup ((rowOf w ps i).map .int)) rfl ?_ (hasBor_pure _ (pure_ints _)) (by unfold rD; rw [List.length_map]; omega)]
 ·unfold lnSt rD
  rw [List.map_append]
  rfl
 ·rw [eA_ok (aOne hc),rng_frz,List.map_map]
  show Res.ok (D.tup _)=_
  unfold rowOf
  rw [List.map_map]
  congr 2
  refine List.ext_getElem? fun k=>?_
  rw [List.getElem?_map,List.getElem?_map]
  by_cases h:k < i
  ·rw [List.getElem?_range h,List.getElem?_take_of_lt h,List.getElem?_eq_getElem (show k < ps.length by omega),hpi]
   show some (D.int (shd w.deep w ps[i] (ps.getD k 0)))=some (D.int (shd w.deep w ps[i] ps[k]))
   rw [List.getD_eq_getElem?_getD,List.getElem?_eq_getElem (show k < ps.length by omega)]
   rfl
  ·rw [List.getElem?_eq_none (by rw [List.length_range]; omega),List.getElem?_eq_none (by rw [List.length_take]; omega)]
   rfl
theorem law_net_eq {w:Wd}{ps:List Int} (hg:w.good) (hp:w.leaves.Perm ps) (hs:ps.Pairwise (· < ·)) (hl:ps.length <= 24):G_Lnet [w.d]=.ok (netV w ps):=by
 have hwl:w.leaves.length <= 24:=by rw [hp.length_eq]; exact hl
 have hnd:w.leaves.Nodup:=hp.nodup_iff.mpr (hs.imp fun h=>Int.ne_of_lt h)
 have F:Full w ps w.fillW.reverse:=⟨(fill_wrt hnd).rev,hp,hs,hl⟩
 have hn:=w.nodes_le hg
 have hfl:=fill_len w hg hwl
 have hd:=(w.deep_le hg).2
 refine run_rt (τ := [some w.d,none,none,none,none]) rfl rfl ?_
 unfold g_Lnet
 rw [seq_nx (set_nx (show eDict true _=.ok (wDc .own []) from rfl) rfl)]
 show sSeq _ _ [some w.d,some (wDc .own []),none,none,none]=_
 have e1:eCallR 1 (G_Lfill 26) (aCons (eVar 0) aNil) [some w.d,some (wDc .own []),none,none,none]=.ok (li .own w.leaves,[some w.d,some (wDc .own w.fillW.reverse),none,none,none]):=by
  unfold eCallR
  rw [show ownDc [some w.d,some (wDc .own []),none,none,none] 1=some (.own,true,(wD []).1,(wD []).2) from rfl]
  show ((aCons (eVar 0) aNil) [some w.d,some (wDc .own []),none,none,none]).bind (fun ds=>if pureL ds=true then (callR (G_Lfill 26) true (wD []).1 (wD []).2 ds).bind fun y=>if y.1.hasBor=true then .bad else .ok (y.1,[some w.d,some (wDc .own []),none,none,none].set 1 (some (.dct .own true y.2.1 y.2.2))) else .bad)=_
  rw [aOne (show eVar 0 [some w.d,some (wDc .own []),none,none,none]=.ok w.d from var_p rfl w.pure),Res.bind_ok,if_pos (by show (w.d.pure && true)=true; rw [w.pure]; rfl),callR_ok (fun a=>fill_eq 26 w (by omega) hg hwl [] a (by rw [List.length_nil]; omega)),List.append_nil,Res.bind_ok]
  show (if (li .own w.leaves).hasBor=true then _ else _)=_
  rw [li_bor (by decide),if_neg (by decide)]
  rfl
 have e2:sSetW 2 (sortedW (eCallR 1 (G_Lfill 26) (aCons (eVar 0) aNil))) [some w.d,some (wDc .own []),none,none,none]=.nx [some w.d,some (wDc .own w.fillW.reverse),some (li .own ps),none,none]:=by
  unfold sSetW sortedW
  rw [e1]
  show (match (sortedD [li .own w.leaves]).bind fun x=>Res.ok (x,[some w.d,some (wDc .own w.fillW.reverse),none,none,none]) with | .ok (d,τ')=>if d.hasBor=true then Fl.bad else .nx (τ'.set 2 (some d)) | _=>.bad)=_
  rw [show sortedD [li .own w.leaves]=.ok (li .own ps) from sort_eq hp hs hl .own,Res.bind_ok]
  show (if (li .own ps).hasBor=true then Fl.bad else _)=_
  rw [li_bor (by decide),if_neg (by decide)]
  rfl
 rw [seq_nx e2,seq_nx (set_nx (d := .lst .own []) rfl rfl)]
 show sSeq _ _ (lnSt w ps w.fillW.reverse [] none)=_
 obtain ⟨t,h1,a,h2⟩:=forD_inv (tg:=gN 4) (body:=g_Lnet_b2) (fun i t=>∃ a,t=lnSt w ps w.fillW.reverse ((List.range i).map (rowOf w ps)) a) (ds:=(List.range ps.length).map fun k:Nat=>D.int k) 0 (lnSt w ps w.fillW.reverse [] none) ⟨none,rfl⟩ fun k x t hx hP=>by
  obtain ⟨q3,rfl⟩:=hP
  rw [Nat.zero_add] at *
  have hk:k < ps.length:=by have:=(List.getElem?_eq_some_iff.mp hx).1; simpa using this
  have ex:x=.int k:=by rw [List.getElem?_map,List.getElem?_range hk] at hx; cases hx; rfl
  subst ex
  have e:=ln_body F ((List.range k).map (rowOf w ps)) hk (by rw [List.length_map,List.length_range]; omega)
  refine ⟨_,_,rfl,.inl e,some (.int k),?_⟩
  rw [List.range_succ,List.map_append]
  rfl
 rw [Nat.zero_add,List.length_map,List.length_range] at h2
 subst h2
 have hn':eA lenD (aCons (eVar 2) aNil) (lnSt w ps w.fillW.reverse [] none)=.ok (.int (ps.length:Nat)):=by
  rw [len_ok (t := .bor) (xs:=ps.map .int) (show eVar 2 _=.ok (li .bor ps) from var_v rfl (li_view _ _)),List.length_map]
 have e3:=for_nil (tg:=gN 4) (body:=g_Lnet_b2) (rng_ok hn' (by omega))
 rw [rng_frz,h1] at e3
 rw [seq_nx e3]
 have v2:eVar 2 (lnSt w ps w.fillW.reverse ((List.range ps.length).map (rowOf w ps)) a)=.ok (li .bor ps):=var_v rfl (li_view _ _)
 have v3:eVar 3 (lnSt w ps w.fillW.reverse ((List.range ps.length).map (rowOf w ps)) a)=.ok (.lst .bor (rD (rowsW w ps))):=var_own rfl (rD_pure _)
 exact ret_rt ((eA_ok (aCons_ok ((eA_ok (aOne v2)).trans rfl) (aOne ((eA_ok (aOne v3)).trans rfl)))).trans rfl) (hasBor_pure _ (netV_pure w ps))
end KL
namespace KL
open Classical in
def cnt {α:Type} (P:α->Prop):List α->Nat
 | []=>0
 | a :: r=>(if P a then 1 else 0) + cnt P r
def ssum {α:Type} (f:α->Nat):List α->Nat
 | []=>0
 | a :: r=>f a + ssum f r
def sbs:List Int->List (List Int)
 | []=>[[]]
 | a :: r=>sbs r ++ (sbs r).map (a :: ·)
section
variable {α β:Type}
theorem cnt_y {P:α->Prop}{a:α}{r:List α} (h:P a):cnt P (a :: r)=1 + cnt P r:=by classical exact (congrArg (· + cnt P r) (if_pos h):(if P a then 1 else 0) + cnt P r=1 + cnt P r)
theorem cnt_n {P:α->Prop}{a:α}{r:List α} (h:¬ P a):cnt P (a :: r)=cnt P r:=by
 have:cnt P (a :: r)=0 + cnt P r:=by classical exact (congrArg (· + cnt P r) (if_neg h):(if P a then 1 else 0) + cnt P r=0 + cnt P r)
 omega
theorem cnt_append (P:α->Prop):∀ a b:List α,cnt P (a ++ b)=cnt P a + cnt P b
 | [],b=>by show cnt P b=0 + cnt P b; omega
 | x :: a,b=>by show _ + cnt P (a ++ b)=_ + cnt P a + cnt P b; rw [cnt_append P a b]; omega
theorem cnt_map (P:β->Prop) (f:α->β):∀ l:List α,cnt P (l.map f)=cnt (fun x=>P (f x)) l
 | []=>rfl
 | x :: r=>by show _ + cnt P (r.map f)=_ + cnt (fun x=>P (f x)) r; rw [cnt_map P f r]
theorem cnt_congr {P Q:α->Prop}:∀ {l:List α},(∀ x ∈ l,P x ↔ Q x)->cnt P l=cnt Q l
 | [],_=>rfl
 | x :: r,h=>by
  show _ + cnt P r=_ + cnt Q r
  rw [cnt_congr fun y m=>h y (List.mem_cons_of_mem _ m)]
  have:=h x List.mem_cons_self
  by_cases z:P x
  ·rw [if_pos z,if_pos (this.mp z)]
  ·rw [if_neg z,if_neg fun q=>z (this.mpr q)]
theorem cnt_or {P Q:α->Prop}:∀ {l:List α},(∀ x ∈ l,P x->¬ Q x)->cnt (fun x=>P x ∨ Q x) l=cnt P l + cnt Q l
 | [],_=>rfl
 | x :: r,h=>by
  show _ + cnt (fun x=>P x ∨ Q x) r=_ + cnt P r + (_ + cnt Q r)
  rw [cnt_or fun y m=>h y (List.mem_cons_of_mem _ m)]
  have:=h x List.mem_cons_self
  by_cases z:P x
  ·rw [if_pos (.inl z),if_pos z,if_neg (this z)]; omega
  ·by_cases q:Q x
   ·rw [if_pos (.inr q),if_neg z,if_pos q]; omega
   ·rw [if_neg fun o=>o.elim z q,if_neg z,if_neg q]; omega
theorem cnt_none {P:α->Prop}:∀ {l:List α},(∀ x ∈ l,¬ P x)->cnt P l=0
 | [],_=>rfl
 | x :: r,h=>by
  show _ + cnt P r=0
  rw [cnt_none fun y m=>h y (List.mem_cons_of_mem _ m),if_neg (h x List.mem_cons_self)]
theorem ssum_append (f:α->Nat):∀ a b:List α,ssum f (a ++ b)=ssum f a + ssum f b
 | [],b=>by show ssum f b=0 + ssum f b; omega
 | x :: a,b=>by show _ + ssum f (a ++ b)=_ + ssum f a + ssum f b; rw [ssum_append f a b]; omega
theorem ssum_map (f:β->Nat) (g:α->β):∀ l:List α,ssum f (l.map g)=ssum (fun x=>f (g x)) l
 | []=>rfl
 | x :: r=>by show _ + ssum f (r.map g)=_ + ssum (fun x=>f (g x)) r; rw [ssum_map f g r]
theorem ssum_congr {f g:α->Nat}:∀ {l:List α},(∀ x ∈ l,f x=g x)->ssum f l=ssum g l
 | [],_=>rfl
 | x :: r,h=>by show f x + ssum f r=g x + ssum g r; rw [ssum_congr fun y m=>h y (List.mem_cons_of_mem _ m),h x List.mem_cons_self]
theorem ssum_add (f g:α->Nat):∀ l:List α,ssum (fun x=>f x + g x) l=ssum f l + ssum g l
 | []=>rfl
 | x :: r=>by show f x + g x + ssum (fun x=>f x + g x) r=f x + ssum f r + (g x + ssum g r); rw [ssum_add f g r]; omega
theorem ssum_mul (P:α->Prop) [DecidablePred P] (n:Nat):∀ l:List α,ssum (fun x=>if P x then n else 0) l=cnt P l * n
 | []=>by show 0=0 * n; omega
 | x :: r=>by
  show (if P x then n else 0) + ssum (fun x=>if P x then n else 0) r=_
  rw [ssum_mul P n r]
  by_cases z:P x
  ·rw [if_pos z,cnt_y z,Nat.add_mul,Nat.one_mul]
  ·rw [if_neg z,cnt_n z,Nat.zero_add]
end
theorem cnt_sbs (P:List Int->Prop) (B:List Int):∀ A:List Int,cnt P (sbs (A ++ B))=ssum (fun s=>cnt (fun t=>P (s ++ t)) (sbs B)) (sbs A)
 | []=>by show cnt P (sbs B)=cnt (fun t=>P ([] ++ t)) (sbs B) + 0; rfl
 | a :: A=>by
  show cnt P (sbs (A ++ B) ++ (sbs (A ++ B)).map (a :: ·))=ssum _ (sbs A ++ (sbs A).map (a :: ·))
  rw [cnt_append,cnt_map,ssum_append,ssum_map,cnt_sbs P B A,cnt_sbs (fun x=>P (a :: x)) B A]
  rfl
theorem sbs_sub:∀ {L S:List Int},S ∈ sbs L->S.Sublist L
 | [],S,h=>by rw [List.mem_singleton.mp h]; exact .slnil
 | a :: L,S,h=>by
  rcases List.mem_append.mp (show S ∈ sbs L ++ (sbs L).map (a :: ·) from h) with h | h
  ·exact .cons _ (sbs_sub h)
  ·obtain ⟨T,m,rfl⟩:=List.mem_map.mp h
   exact .cons_cons _ (sbs_sub m)
theorem sbs_mem {L S:List Int} (h:S ∈ sbs L) {x:Int} (hx:x ∈ S):x ∈ L:=(sbs_sub h).subset hx
theorem cnt_nil (Q:Prop) [Decidable Q]:∀ L:List Int,cnt (fun t=>t=[]/\Q) (sbs L)=if Q then 1 else 0
 | []=>by
  show cnt _ [[]]=_
  by_cases q:Q
  ·rw [cnt_y ⟨rfl,q⟩,if_pos q]; rfl
  ·rw [cnt_n fun z=>q z.2,if_neg q]; rfl
 | a :: L=>by
  show cnt _ (sbs L ++ (sbs L).map (a :: ·))=_
  rw [cnt_append,cnt_map,cnt_nil Q L,cnt_none (P:=fun x=>a :: x=[]/\Q) fun x _ z=>by cases z.1]
  rfl
theorem cnt_all:∀ (L:List Int),L.Nodup->cnt (fun S=>∀ x ∈ L,x ∈ S) (sbs L)=1
 | [],_=>by
  show cnt _ [[]]=1
  rw [cnt_y fun x m=>by cases m]; rfl
 | a :: L,hn=>by
  rw [List.nodup_cons] at hn
  show cnt _ (sbs L ++ (sbs L).map (a :: ·))=_
  rw [cnt_append,cnt_map,cnt_none (P:=fun S=>∀ x ∈ a :: L,x ∈ S) fun S m z=>hn.1 (sbs_mem m (z a List.mem_cons_self)),Nat.zero_add,<- cnt_all L hn.2]
  refine cnt_congr fun S m=>⟨fun z x mx=>?_,fun z x mx=>?_⟩
  ·rcases List.mem_cons.mp (z x (List.mem_cons_of_mem _ mx)) with rfl | q
   ·exact absurd mx hn.1
   ·exact q
  ·rcases List.mem_cons.mp mx with rfl | q
   ·exact List.mem_cons_self
   ·exact List.mem_cons_of_mem _ (z x q)
section
variable (Pb:Wd->List Int->Prop)
def One (r:List Wd) (t:List Int):Prop := ∃ b ∈ r,t ≠ []/\(∀ p ∈ t,p ∈ b.leaves)/\Pb b t
theorem cnt_one:∀ r:List Wd,(leavesL r).Nodup->cnt (One Pb r) (sbs (leavesL r))=ssum (fun b=>cnt (fun s=>s ≠ []/\Pb b s) (sbs b.leaves)) r
 | [],_=>cnt_none fun t m ⟨b,mb,_⟩=>by cases mb
 | b :: r,hn=>by
  classical
  have hn:(b.leaves ++ leavesL r).Nodup:=hn
  show cnt _ (sbs (b.leaves ++ leavesL r))=_ + ssum _ r
  rw [List.nodup_append] at hn
  obtain ⟨n1,n2,n3⟩:=hn
  rw [cnt_sbs,<- cnt_one r n2]
  have key:∀ s ∈ sbs b.leaves,cnt (fun t=>One Pb (b :: r) (s ++ t)) (sbs (leavesL r))=(if s=[] then cnt (One Pb r) (sbs (leavesL r)) else 0) + (if s ≠ []/\Pb b s then 1 else 0):=fun s ms=>by
   by_cases e:s=[]
   ·subst e
    rw [if_pos rfl,if_neg fun z=>z.1 rfl,Nat.add_zero]
    refine cnt_congr fun t mt=>⟨fun ⟨b',mb,h1,h2,h3⟩=>?_,fun ⟨b',mb,h⟩=>⟨b',List.mem_cons_of_mem _ mb,h⟩⟩
    rcases List.mem_cons.mp mb with rfl | mb
    ·exfalso
     cases t with
     | nil=>exact h1 rfl
     | cons x t=>exact n3 x (h2 x List.mem_cons_self) x (sbs_mem mt List.mem_cons_self) rfl
    ·exact ⟨b',mb,h1,h2,h3⟩
   ·rw [if_neg e,Nat.zero_add,<- cnt_nil (s ≠ []/\Pb b s) (leavesL r)]
    refine cnt_congr fun t mt=>⟨fun ⟨b',mb,h1,h2,h3⟩=>?_,fun ⟨h1,h2,h3⟩=>?_⟩
    ·obtain ⟨x,hx⟩:=List.exists_mem_of_ne_nil s e
     have hxb:=sbs_mem ms hx
     have hx' := h2 x (List.mem_append_left _ hx)
     rcases List.mem_cons.mp mb with rfl | mb
     ·have et:t=[]:=by
       cases t with
       | nil=>rfl
       | cons y t=>exact absurd rfl (n3 y (h2 y (List.mem_append_right _ List.mem_cons_self)) y (sbs_mem mt List.mem_cons_self))
      subst et
      rw [List.append_nil] at h3
      exact ⟨rfl,e,h3⟩
     ·exact absurd rfl (n3 x hxb x (by rw [leavesL_map,List.mem_flatMap]; exact ⟨b',mb,hx'⟩))
    ·subst h1
     rw [List.append_nil]
     exact ⟨b,List.mem_cons_self,e,fun p mp=>sbs_mem ms mp,h3⟩
  rw [ssum_congr key,ssum_add,ssum_mul (fun s=>s=[]),Nat.add_comm]
  congr 1
  ·have:=ssum_mul (fun s=>s ≠ []/\Pb b s) 1 (sbs b.leaves)
   rw [this,Nat.mul_one]
  ·have h1:cnt (fun s=>s=[]) (sbs b.leaves)=1:=by
    have:=cnt_nil True b.leaves
    rw [if_pos trivial] at this
    rw [<- this]
    exact cnt_congr fun x _=>⟨fun z=>⟨z,trivial⟩,fun z=>z.1⟩
   rw [h1,Nat.one_mul]
end
def Fe (r:List Wd) (t:List Int):Prop := ∀ b ∈ r,(∀ p ∈ b.leaves,p ∉ t) ∨ ∀ p ∈ b.leaves,p ∈ t
theorem cnt_fe:∀ r:List Wd,(leavesL r).Nodup->(∀ b ∈ r,b.leaves ≠ [])->cnt (Fe r) (sbs (leavesL r))=2 ^ r.length
 | [],_,_=>by
  show cnt _ [[]]=1
  rw [cnt_y fun b m=>by cases m]; rfl
 | b :: r,hn,hb=>by
  classical
  have hn:(b.leaves ++ leavesL r).Nodup:=hn
  show cnt _ (sbs (b.leaves ++ leavesL r))=_
  rw [List.nodup_append] at hn
  obtain ⟨n1,n2,n3⟩:=hn
  rw [cnt_sbs]
  have key:∀ s ∈ sbs b.leaves,cnt (fun t=>Fe (b :: r) (s ++ t)) (sbs (leavesL r))=if s=[] ∨ (∀ p ∈ b.leaves,p ∈ s) then 2 ^ r.length else 0:=fun s ms=>by
   have hr:∀ t ∈ sbs (leavesL r),Fe r (s ++ t) ↔ Fe r t:=fun t mt=>by
    have ns:∀ b' ∈ r,∀ p ∈ b'.leaves,p ∉ s:=fun b' mb p mp z=>n3 p (sbs_mem ms z) p (by rw [leavesL_map,List.mem_flatMap]; exact ⟨b',mb,mp⟩) rfl
    refine ⟨fun h b' mb=>?_,fun h b' mb=>?_⟩
    ·rcases h b' mb with h | h
     ·exact .inl fun p mp z=>h p mp (List.mem_append_right _ z)
     ·exact .inr fun p mp=>(List.mem_append.mp (h p mp)).resolve_left (ns b' mb p mp)
    ·rcases h b' mb with h | h
     ·exact .inl fun p mp z=>(List.mem_append.mp z).elim (ns b' mb p mp) (h p mp)
     ·exact .inr fun p mp=>List.mem_append_right _ (h p mp)
   have hbt:∀ t ∈ sbs (leavesL r),∀ p ∈ b.leaves,(p ∈ s ++ t ↔ p ∈ s):=fun t mt p mp=>⟨fun z=>(List.mem_append.mp z).resolve_right fun q=>n3 p mp p (sbs_mem mt q) rfl,fun z=>List.mem_append_left _ z⟩
   by_cases e:s=[] ∨ (∀ p ∈ b.leaves,p ∈ s)
   ·rw [if_pos e,<- cnt_fe r n2 fun b' mb=>hb b' (List.mem_cons_of_mem _ mb)]
    refine cnt_congr fun t mt=>⟨fun h=>(hr t mt).mp fun b' mb=>h b' (List.mem_cons_of_mem _ mb),fun h b' mb=>?_⟩
    rcases List.mem_cons.mp mb with rfl | mb
    ·rcases e with e | e
     ·exact .inl fun p mp z=>by rw [hbt t mt p mp,e] at z; cases z
     ·exact .inr fun p mp=>(hbt t mt p mp).mpr (e p mp)
    ·exact (hr t mt).mpr h b' mb
   ·rw [if_neg e]
    refine cnt_none fun t mt h=>e ?_
    rcases h b List.mem_cons_self with h | h
    ·left
     cases s with
     | nil=>rfl
     | cons x s=>exact absurd (List.mem_append_left _ List.mem_cons_self) (h x (sbs_mem ms List.mem_cons_self))
    ·exact .inr fun p mp=>(hbt t mt p mp).mp (h p mp)
  rw [ssum_congr key,ssum_mul (fun s=>s=[] ∨ ∀ p ∈ b.leaves,p ∈ s)]
  have h2:cnt (fun s=>s=[] ∨ ∀ p ∈ b.leaves,p ∈ s) (sbs b.leaves)=2:=by
   rw [cnt_or (P:=fun s=>s=[]) (Q:=fun s=>∀ p ∈ b.leaves,p ∈ s),cnt_all _ n1]
   ·have:=cnt_nil True b.leaves
    rw [if_pos trivial] at this
    rw [show cnt (fun s=>s=[]) (sbs b.leaves)=1 from this ▸ cnt_congr fun x _=>⟨fun z=>⟨z,trivial⟩,fun z=>z.1⟩]
   ·intro s ms e h
    subst e
    obtain ⟨x,hx⟩:=List.exists_mem_of_ne_nil _ (hb b List.mem_cons_self)
    cases h x hx
  rw [h2,List.length_cons,Nat.pow_succ,Nat.mul_comm]
mutual
def Wd.proper:Wd->Prop
 | .leaf _=>True
 | .flat c bs=>2 <= bs.length/\(∀ b ∈ bs,¬ b.isFC c)/\properL bs
 | .prime rows bs=>Prm bs.length (col rows)/\properL bs
def properL:List Wd->Prop
 | []=>True
 | b :: r=>b.proper/\properL r
end
theorem properL_iff:∀ bs:List Wd,properL bs ↔ ∀ b ∈ bs,b.proper
 | []=>by simp [properL]
 | b :: r=>by show b.proper/\properL r ↔ _; rw [properL_iff r]; simp
def Col (c:Int->Int->Int) (w:Wd):Prop := ∀ v ∈ w.subs,∀ (i j:Nat) (a b:Wd) (p q:Int),v.brs[i]?=some a->v.brs[j]?=some b->i ≠ j->p ∈ a.leaves->q ∈ b.leaves->c p q=tintW v i j
theorem Col.brs {c:Int->Int->Int}{w b:Wd} (h:Col c w) (m:b ∈ w.brs):Col c b:=fun v mv=>h v (mem_subs.mpr (.inr ⟨b,m,mv⟩))
theorem Col.top {c:Int->Int->Int}{w:Wd} (h:Col c w) {i j:Nat}{a b:Wd}{p q:Int} (ha:w.brs[i]?=some a) (hb:w.brs[j]?=some b) (hij:i ≠ j) (hp:p ∈ a.leaves) (hq:q ∈ b.leaves):c p q=tintW w i j:=h w (self_sub w) i j a b p q ha hb hij hp hq
theorem proper_ne:∀ (n:Nat) (w:Wd),w.deep <= n->w.proper->w.leaves ≠ []
 | 0,w,hd,_=>by cases w <;> simp [Wd.deep] at hd
 | n + 1,.leaf p,_,_=>fun z=>by cases z
 | n + 1,.flat c [],_,h=>by have:=h.1; simp at this
 | n + 1,.flat c (b :: r),hd,h=>fun z=>by
  have z:b.leaves ++ leavesL r=[]:=z
  have:b.deep <= deepL (b :: r):=deep_mem List.mem_cons_self
  have hd:deepL (b :: r) + 1 <= n + 1:=hd
  exact proper_ne n b (by omega) h.2.2.1 (List.append_eq_nil_iff.mp z).1
 | n + 1,.prime rows [],_,h=>by have:=h.1.1; simp at this
 | n + 1,.prime rows (b :: r),hd,h=>fun z=>by
  have z:b.leaves ++ leavesL r=[]:=z
  have:b.deep <= deepL (b :: r):=deep_mem List.mem_cons_self
  have hd:deepL (b :: r) + 1 <= n + 1:=hd
  exact proper_ne n b (by omega) h.2.1 (List.append_eq_nil_iff.mp z).1
theorem proper_some {b:Wd} (h:b.proper):∃ p,p ∈ b.leaves:=List.exists_mem_of_ne_nil _ (proper_ne _ b (Nat.le_refl _) h)
theorem at_some {bs:List Wd}{p:Int} (h:p ∈ leavesL bs):∃ (i:Nat) (b:Wd),bs[i]?=some b/\p ∈ b.leaves:=by
 obtain ⟨i,hi⟩:=At.of h
 obtain ⟨b,hb,_,hp,_⟩:=hi.get
 exact ⟨i,b,hb,hp⟩
theorem br_some {bs:List Wd} (hp:properL bs) {i:Nat} (hi:i < bs.length):∃ (b:Wd) (p:Int),bs[i]?=some b/\p ∈ b.leaves:=by
 obtain ⟨p,hp⟩:=proper_some ((properL_iff bs).mp hp bs[i] (List.getElem_mem hi))
 exact ⟨bs[i],p,List.getElem?_eq_getElem hi,hp⟩
theorem lt_of_at {bs:List Wd}{i:Nat}{b:Wd} (h:bs[i]?=some b):i < bs.length:=(List.getElem?_eq_some_iff.mp h).1
theorem two_of (k m:Nat) (h:3 <= k):∃ i j,i < k/\j < k/\i ≠ j/\i ≠ m/\j ≠ m:=by
 by_cases h0:m=0
 ·exact ⟨1,2,by omega,by omega,by omega,by omega,by omega⟩
 ·by_cases h1:m=1
  ·exact ⟨0,2,by omega,by omega,by omega,by omega,by omega⟩
  ·exact ⟨0,1,by omega,by omega,by omega,by omega,by omega⟩
theorem col_comm (rows:List (List Int)) (i j:Nat):col rows i j=col rows j i:=by unfold col; rw [Nat.max_comm,Nat.min_comm]
theorem Prm.no {k:Nat}{rows:List (List Int)} (h:Prm k (col rows)) {m:Nat} (hm:m < k) {x:Int} (ha:∀ y,y < k->y ≠ m->col rows m y=x):False:=by
 obtain ⟨i,j,hi,hj,hij,him,hjm⟩:=two_of k m h.1
 exact h.2 (fun i=>i ≠ m) ⟨i,j,hi,hj,hij,him,hjm⟩ (fun y hy hM z z' hz hz' h1 h2=>by
  have e:y=m:=Classical.not_not.mp hM
  subst e
  rw [ha z hz h1,ha z' hz' h2]) m hm rfl
theorem uni {c:Int->Int->Int}{k:Int}{w:Wd} (hc:Col c w) (hw:w.proper) (hf:¬ w.isFC k) {N:Int->Prop} (hy:∃ y ∈ w.leaves,N y) (hx:∃ x ∈ w.leaves,¬ N x) (h:∀ x ∈ w.leaves,∀ y ∈ w.leaves,¬ N x->N y->c x y=k):False:=by
 obtain ⟨y,my,ny⟩:=hy
 obtain ⟨x,mx,nx⟩:=hx
 cases w with
 | leaf p =>
  have h1:y ∈ [p]:=my
  have h2:x ∈ [p]:=mx
  rw [List.mem_singleton.mp h1] at ny
  rw [List.mem_singleton.mp h2] at nx
  exact nx ny
 | flat d bs =>
  have cr:∀ {i j:Nat}{a b:Wd}{p q:Int},bs[i]?=some a->bs[j]?=some b->i ≠ j->p ∈ a.leaves->q ∈ b.leaves->¬ N p->N q->False:=fun {i j a b p q} ha hb hij hp hq np nq=>by
   have e1:=h p (mem_brs (w := .flat d bs) (List.mem_of_getElem? ha) hp) q (mem_brs (w := .flat d bs) (List.mem_of_getElem? hb) hq) np nq
   have e2:c p q=d:=hc.top (w := .flat d bs) ha hb hij hp hq
   exact hf (e2.symm.trans e1)
  obtain ⟨i,a,ha,hya⟩:=at_some (bs:=bs) my
  obtain ⟨j,b,hb,hxb⟩:=at_some (bs:=bs) mx
  by_cases e:j=i
  ·subst e
   have h2:2 <= bs.length:=hw.1
   obtain ⟨j',hj',hne⟩:∃ j',j' < bs.length/\j' ≠ j:=by
    by_cases z:j=0
    ·exact ⟨1,by omega,by omega⟩
    ·exact ⟨0,by omega,by omega⟩
   obtain ⟨b',q,hb',hq⟩:=br_some hw.2.2 hj'
   by_cases nq:N q
   ·exact cr hb hb' (Ne.symm hne) hxb hq nx nq
   ·exact cr hb' ha hne hq hya nq ny
  ·exact cr hb ha e hxb hya nx ny
 | prime rows bs =>
  have hP:Prm bs.length (col rows):=hw.1
  let A:Nat->Prop:=fun i=>∃ b p,bs[i]?=some b/\p ∈ b.leaves/\N p
  let B:Nat->Prop:=fun i=>∃ b p,bs[i]?=some b/\p ∈ b.leaves/\¬ N p
  have cr:∀ {i j:Nat},i ≠ j->B i->A j->col rows i j=k:=fun {i j} hij ⟨a,p,ha,hp,np⟩ ⟨b,q,hb,hq,nq⟩=>by
   have e1:=h p (mem_brs (w := .prime rows bs) (List.mem_of_getElem? ha) hp) q (mem_brs (w := .prime rows bs) (List.mem_of_getElem? hb) hq) np nq
   have e2:c p q=col rows i j:=hc.top (w := .prime rows bs) ha hb hij hp hq
   exact e2.symm.trans e1
  have ab:∀ {i:Nat},i < bs.length->A i ∨ B i:=fun {i} hi=>by
   obtain ⟨b,p,hb,hp⟩:=br_some hw.2 hi
   by_cases np:N p
   ·exact .inl ⟨b,p,hb,hp,np⟩
   ·exact .inr ⟨b,p,hb,hp,np⟩
  obtain ⟨i,a,ha,hya⟩:=at_some (bs:=bs) my
  obtain ⟨j,b,hb,hxb⟩:=at_some (bs:=bs) mx
  have Ai:A i:=⟨a,y,ha,hya,ny⟩
  have Bj:B j:=⟨b,x,hb,hxb,nx⟩
  have hi:=lt_of_at ha
  have hj:=lt_of_at hb
  have mixed:∀ {m:Nat},m < bs.length->A m->B m->False:=fun {m} hm Am Bm=>hP.no hm (x:=k) fun y hy hne=>by
   rcases ab hy with h | h
   ·exact cr (Ne.symm hne) Bm h
   ·rw [col_comm]; exact cr hne h Am
  by_cases two:∃ i',i' < bs.length/\i' ≠ i/\A i'
  ·obtain ⟨i',hi',hne,Ai'⟩:=two
   have all:=hP.2 A ⟨i,i',hi,hi',Ne.symm hne,Ai,Ai'⟩ fun x hx nA y z hy hz Ay Az=>by
    have Bx:=(ab hx).resolve_left nA
    rw [cr (i:=x) (j:=y) (fun e=>nA (by rw [e]; exact Ay)) Bx Ay,cr (i:=x) (j:=z) (fun e=>nA (by rw [e]; exact Az)) Bx Az]
   exact mixed hj (all j hj) Bj
  ·refine hP.no hi (x:=k) fun y hy hne=>?_
   have:¬ A y:=fun z=>two ⟨y,hy,hne,z⟩
   rw [col_comm]
   exact cr hne ((ab hy).resolve_left this) Ai
def Mod (c:Int->Int->Int) (L S:List Int):Prop := ∀ x ∈ L,x ∉ S->∀ y ∈ S,∀ z ∈ S,c x y=c x z
theorem mod_in {c:Int->Int->Int}{w:Wd} (hc:Col c w) (hn:w.leaves.Nodup) {b:Wd} (mb:b ∈ w.brs) {S:List Int} (hS:∀ p ∈ S,p ∈ b.leaves):Mod c w.leaves S ↔ Mod c b.leaves S:=by
 obtain ⟨j,hj⟩:=List.getElem?_of_mem mb
 refine ⟨fun h x mx=>h x (mem_brs mb mx),fun h x mx nx y my z mz=>?_⟩
 rw [<- brs_leaves (brs_leaf mb)] at mx
 obtain ⟨i,a,ha,hxa⟩:=at_some mx
 by_cases e:i=j
 ·subst e
  rw [hj] at ha
  cases ha
  exact h x hxa nx y my z mz
 ·rw [hc.top ha hj e hxa (hS y my),hc.top ha hj e hxa (hS z mz)]
theorem mod_flat {c:Int->Int->Int}{d:Int}{bs:List Wd} (hc:Col c (.flat d bs)) (hw:(Wd.flat d bs).proper) (hn:(leavesL bs).Nodup) {S:List Int} (hS:∀ p ∈ S,p ∈ leavesL bs) (h2:¬ ∃ b ∈ bs,∀ p ∈ S,p ∈ b.leaves):Mod c (leavesL bs) S ↔ Fe bs S:=by
 have cr:∀ {i j:Nat}{a b:Wd}{p q:Int},bs[i]?=some a->bs[j]?=some b->i ≠ j->p ∈ a.leaves->q ∈ b.leaves->c p q=d:=fun ha hb hij hp hq=>hc.top (w := .flat d bs) ha hb hij hp hq
 refine ⟨fun h b mb=>?_,fun h x mx nx y my z mz=>?_⟩
 ·obtain ⟨i,hi⟩:=List.getElem?_of_mem mb
  refine Classical.or_iff_not_imp_left.mpr fun hb p mp=>Classical.byContradiction fun np=>?_
  obtain ⟨q,mq,nq⟩:∃ q,q ∈ S/\q ∉ b.leaves:=Classical.byContradiction fun z=>h2 ⟨b,mb,fun q mq=>Classical.byContradiction fun nq=>z ⟨q,mq,nq⟩⟩
  obtain ⟨j,a,ha,hqa⟩:=at_some (hS q mq)
  have hij:i ≠ j:=fun e=>by subst e; rw [hi] at ha; cases ha; exact nq hqa
  refine uni (hc.brs (b:=b) mb) ((properL_iff bs).mp hw.2.2 b mb) (hw.2.1 b mb) (N:=(· ∈ S)) ?_ ⟨p,mp,np⟩ fun x mx y my nx ny=>?_
  ·exact Classical.byContradiction fun z=>hb fun p mp ms=>z ⟨p,mp,ms⟩
  ·rw [h x (mem_brs (w := .flat d bs) mb mx) nx y ny q mq]
   exact cr hi ha hij mx hqa
 ·obtain ⟨i,a,ha,hxa⟩:=at_some mx
  have un:∀ p ∈ a.leaves,p ∉ S:=(h a (List.mem_of_getElem? ha)).resolve_right fun z=>nx (z x hxa)
  have see:∀ y ∈ S,c x y=d:=fun y my=>by
   obtain ⟨j,b,hb,hyb⟩:=at_some (hS y my)
   exact cr ha hb (fun e=>by subst e; rw [ha] at hb; cases hb; exact un y hyb my) hxa hyb
  rw [see y my,see z mz]
theorem mod_prime {c:Int->Int->Int}{rows:List (List Int)}{bs:List Wd} (hc:Col c (.prime rows bs)) (hw:(Wd.prime rows bs).proper) (hn:(leavesL bs).Nodup) {S:List Int} (hS:∀ p ∈ S,p ∈ leavesL bs) (h0:S ≠ []) (h2:¬ ∃ b ∈ bs,∀ p ∈ S,p ∈ b.leaves):Mod c (leavesL bs) S ↔ ∀ p ∈ leavesL bs,p ∈ S:=by
 have hP:Prm bs.length (col rows):=hw.1
 have cr:∀ {i j:Nat}{a b:Wd}{p q:Int},bs[i]?=some a->bs[j]?=some b->i ≠ j->p ∈ a.leaves->q ∈ b.leaves->c p q=col rows i j:=fun ha hb hij hp hq=>hc.top (w := .prime rows bs) ha hb hij hp hq
 refine ⟨fun h=>?_,fun h x mx nx=>absurd (h x mx) nx⟩
 obtain ⟨q,mq⟩:=List.exists_mem_of_ne_nil _ h0
 obtain ⟨i,a,ha,hqa⟩:=at_some (hS q mq)
 obtain ⟨q',mq',nq'⟩:∃ q',q' ∈ S/\q' ∉ a.leaves:=Classical.byContradiction fun z=>h2 ⟨a,List.mem_of_getElem? ha,fun q mq=>Classical.byContradiction fun nq=>z ⟨q,mq,nq⟩⟩
 obtain ⟨i',a',ha',hqa'⟩:=at_some (hS q' mq')
 have hii:i ≠ i' := fun e=>by subst e; rw [ha] at ha'; cases ha'; exact nq' hqa'
 let T:Nat->Prop:=fun j=>∃ b p,bs[j]?=some b/\p ∈ b.leaves/\p ∈ S
 have all:∀ j,j < bs.length->T j:=hP.2 T ⟨i,i',lt_of_at ha,lt_of_at ha',hii,⟨a,q,ha,hqa,mq⟩,⟨a',q',ha',hqa',mq'⟩⟩ fun x hx nT y z hy hz ⟨b1,p1,hb1,hp1,ms1⟩ ⟨b2,p2,hb2,hp2,ms2⟩=>by
  obtain ⟨b,p,hb,hp⟩:=br_some hw.2 hx
  have np:p ∉ S:=fun z=>nT ⟨b,p,hb,hp,z⟩
  have e:=h p (by rw [leavesL_map,List.mem_flatMap]; exact ⟨b,List.mem_of_getElem? hb,hp⟩) np p1 ms1 p2 ms2
  rw [cr hb hb1 (fun z=>nT (z ▸ ⟨b1,p1,hb1,hp1,ms1⟩)) hp hp1,cr hb hb2 (fun z=>nT (z ▸ ⟨b2,p2,hb2,hp2,ms2⟩)) hp hp2] at e
  exact e
 intro p mp
 refine Classical.byContradiction fun np=>?_
 obtain ⟨m,b,hb,hpb⟩:=at_some mp
 have hm:=lt_of_at hb
 obtain ⟨i0,j0,hi0,hj0,_,hne,_⟩:=two_of bs.length m hP.1
 obtain ⟨b0,p0,hb0,hp0,ms0⟩:=all i0 hi0
 refine hP.no hm (x:=c p p0) fun y hy hym=>?_
 obtain ⟨b1,p1,hb1,hp1,ms1⟩:=all y hy
 rw [<- cr hb hb1 (Ne.symm hym) hpb hp1]
 exact h p mp np p1 ms1 p0 ms0
mutual
def Wd.gc:Wd->Nat
 | .leaf _=>1
 | .flat _ bs=>gcL bs + (2 ^ bs.length - bs.length - 1)
 | .prime _ bs=>gcL bs + 1
def gcL:List Wd->Nat
 | []=>0
 | b :: r=>b.gc + gcL r
end
theorem gcL_sum:∀ bs:List Wd,gcL bs=ssum Wd.gc bs
 | []=>rfl
 | b :: r=>by show b.gc + gcL r=b.gc + ssum Wd.gc r; rw [gcL_sum r]
def Grp (c:Int->Int->Int) (w:Wd) (S:List Int):Prop:=S ≠ []/\Mod c w.leaves S
theorem one_iff {c:Int->Int->Int}{w:Wd} (hc:Col c w) (hn:w.leaves.Nodup) (S:List Int) (h:∃ b ∈ w.brs,∀ p ∈ S,p ∈ b.leaves):Grp c w S ↔ One (fun b s=>Mod c b.leaves s) w.brs S:=by
 constructor
 ·rintro ⟨h1,h2⟩
  obtain ⟨b,mb,hb⟩:=h
  exact ⟨b,mb,h1,hb,(mod_in hc hn mb hb).mp h2⟩
 ·rintro ⟨b,mb,h1,hb,h2⟩
  exact ⟨h1,(mod_in hc hn mb hb).mpr h2⟩
theorem cnt_full {bs:List Wd} (hn:(leavesL bs).Nodup) (hne:∀ b ∈ bs,b.leaves ≠ []):cnt (fun S=>S ≠ []/\Fe bs S/\∃ b ∈ bs,∀ p ∈ S,p ∈ b.leaves) (sbs (leavesL bs))=bs.length:=by
 have h1:cnt (fun S=>S ≠ []/\Fe bs S/\∃ b ∈ bs,∀ p ∈ S,p ∈ b.leaves) (sbs (leavesL bs))=cnt (One (fun b s=>∀ p ∈ b.leaves,p ∈ s) bs) (sbs (leavesL bs)):=by
  refine cnt_congr fun S mS=>⟨fun ⟨h1,h2,b,mb,hb⟩=>?_,fun ⟨b,mb,h1,hb,hf⟩=>?_⟩
  ·refine ⟨b,mb,h1,hb,(h2 b mb).resolve_left fun z=>?_⟩
   obtain ⟨x,hx⟩:=List.exists_mem_of_ne_nil _ h1
   exact z x (hb x hx) hx
  ·refine ⟨h1,fun b' mb'=>?_,b,mb,hb⟩
   obtain ⟨i,hi⟩:=List.getElem?_of_mem mb
   obtain ⟨j,hj⟩:=List.getElem?_of_mem mb'
   by_cases e:i=j
   ·subst e; rw [hi] at hj; cases hj; exact .inr hf
   ·exact .inl fun p mp ms=>e (nd_at hn hi hj (hb p ms) mp)
 rw [h1,cnt_one _ bs hn]
 have:∀ (r:List Wd),(leavesL r).Nodup->(∀ b ∈ r,b.leaves ≠ [])->ssum (fun b=>cnt (fun s=>s ≠ []/\∀ p ∈ b.leaves,p ∈ s) (sbs b.leaves)) r=r.length:=by
  intro r
  induction r with
  | nil=>intro _ _; rfl
  | cons b r ih =>
   intro hn hne
   have hn:(b.leaves ++ leavesL r).Nodup:=hn
   rw [List.nodup_append] at hn
   show cnt _ (sbs b.leaves) + ssum _ r=r.length + 1
   rw [ih hn.2.1 fun b' m=>hne b' (List.mem_cons_of_mem _ m),Nat.add_comm]
   congr 1
   rw [<- cnt_all b.leaves hn.1]
   refine cnt_congr fun s _=>⟨fun z=>z.2,fun z=>⟨fun e=>?_,z⟩⟩
   subst e
   obtain ⟨x,hx⟩:=List.exists_mem_of_ne_nil _ (hne b List.mem_cons_self)
   cases z x hx
 exact this bs hn hne
theorem grp_cnt:∀ (n:Nat) (w:Wd) {c:Int->Int->Int},w.deep <= n->w.proper->w.leaves.Nodup->Col c w->cnt (Grp c w) (sbs w.leaves)=w.gc
 | 0,w,_,hd,_,_,_=>by cases w <;> simp [Wd.deep] at hd
 | n + 1,.leaf p,c,_,_,_,_=>by
  show cnt _ [[],[p]]=1
  rw [cnt_n fun z=>z.1 rfl,cnt_y ⟨fun z=>(by cases z),fun x mx nx=>absurd mx nx⟩]
  rfl
 | n + 1,.flat d bs,c,hd,hw,hn,hc=>by
  have hn':(leavesL bs).Nodup:=hn
  have hd':deepL bs + 1 <= n + 1:=hd
  have hp:=(properL_iff bs).mp hw.2.2
  have hne:∀ b ∈ bs,b.leaves ≠ []:=fun b mb=>proper_ne _ b (Nat.le_refl _) (hp b mb)
  show cnt _ (sbs (leavesL bs))=gcL bs + (2 ^ bs.length - bs.length - 1)
  have e1:cnt (Grp c (.flat d bs)) (sbs (leavesL bs))=cnt (fun S=>One (fun b s=>Mod c b.leaves s) bs S ∨ (Fe bs S/\S ≠ []/\¬ ∃ b ∈ bs,∀ p ∈ S,p ∈ b.leaves)) (sbs (leavesL bs)):=by
   refine cnt_congr fun S mS=>?_
   by_cases h:∃ b ∈ bs,∀ p ∈ S,p ∈ b.leaves
   ·rw [one_iff hc hn S h]
    exact ⟨.inl,fun z=>z.elim id fun z=>absurd h z.2.2⟩
   ·refine ⟨fun z=>.inr ⟨(mod_flat hc hw hn' (fun p mp=>sbs_mem mS mp) h).mp z.2,z.1,h⟩,fun z=>?_⟩
    rcases z with ⟨b,mb,_,hb,_⟩ | ⟨z1,z2,_⟩
    ·exact absurd ⟨b,mb,hb⟩ h
    ·exact ⟨z2,(mod_flat hc hw hn' (fun p mp=>sbs_mem mS mp) h).mpr z1⟩
  rw [e1,cnt_or fun S _ ⟨b,mb,_,hb,_⟩ z=>z.2.2 ⟨b,mb,hb⟩,cnt_one _ bs hn',gcL_sum]
  congr 1
  ·exact ssum_congr fun b mb=>grp_cnt n b (by have:=deep_mem mb; omega) (hp b mb) (nd_brs (w := .flat d bs) hn mb) (hc.brs mb)
  ·have h1:=cnt_fe bs hn' hne
   have h2:=cnt_full hn' hne
   have h3:cnt (Fe bs) (sbs (leavesL bs))=cnt (fun S=>(Fe bs S/\S ≠ []/\¬ ∃ b ∈ bs,∀ p ∈ S,p ∈ b.leaves) ∨ ((S ≠ []/\Fe bs S/\∃ b ∈ bs,∀ p ∈ S,p ∈ b.leaves) ∨ (S=[]/\True))) (sbs (leavesL bs)):=by
    refine cnt_congr fun S mS=>⟨fun h=>?_,fun h=>?_⟩
    ·by_cases e:S=[]
     ·exact .inr (.inr ⟨e,trivial⟩)
     ·by_cases g:∃ b ∈ bs,∀ p ∈ S,p ∈ b.leaves
      ·exact .inr (.inl ⟨e,h,g⟩)
      ·exact .inl ⟨h,e,g⟩
    ·rcases h with h | h | h
     ·exact h.1
     ·exact h.2.1
     ·exact fun b mb=>.inl fun p _ z=>by rw [h.1] at z; cases z
   rw [cnt_or fun S _ a b=>b.elim (fun b=>a.2.2 b.2.2) fun b=>a.2.1 b.1,cnt_or fun S _ a b=>a.1 b.1,h1,h2,cnt_nil True,if_pos trivial] at h3
   omega
 | n + 1,.prime rows bs,c,hd,hw,hn,hc=>by
  have hn':(leavesL bs).Nodup:=hn
  have hd':deepL bs + 1 <= n + 1:=hd
  have hp:=(properL_iff bs).mp hw.2
  show cnt _ (sbs (leavesL bs))=gcL bs + 1
  have e1:cnt (Grp c (.prime rows bs)) (sbs (leavesL bs))=cnt (fun S=>One (fun b s=>Mod c b.leaves s) bs S ∨ ∀ p ∈ leavesL bs,p ∈ S) (sbs (leavesL bs)):=by
   refine cnt_congr fun S mS=>?_
   by_cases h:∃ b ∈ bs,∀ p ∈ S,p ∈ b.leaves
   ·rw [one_iff hc hn S h]
    refine ⟨.inl,fun z=>z.elim id fun z=>?_⟩
    obtain ⟨b,mb,hb⟩:=h
    obtain ⟨i,hi⟩:=List.getElem?_of_mem mb
    obtain ⟨i0,_,hi0,_,_,hne,_⟩:=two_of bs.length i hw.1.1
    obtain ⟨b0,p0,hb0,hp0⟩:=br_some hw.2 hi0
    exact absurd (nd_at hn' hb0 hi hp0 (hb p0 (z p0 (by rw [leavesL_map,List.mem_flatMap]; exact ⟨b0,List.mem_of_getElem? hb0,hp0⟩)))) hne
   ·by_cases e:S=[]
    ·subst e
     refine ⟨fun z=>absurd rfl z.1,fun z=>?_⟩
     rcases z with ⟨b,mb,z,_⟩ | z
     ·exact absurd rfl z
     ·obtain ⟨b0,p0,hb0,hp0⟩:=br_some (i:=0) hw.2 (by have:=hw.1.1; omega)
      cases z p0 (by rw [leavesL_map,List.mem_flatMap]; exact ⟨b0,List.mem_of_getElem? hb0,hp0⟩)
    ·have k:=mod_prime hc hw hn' (fun p mp=>sbs_mem mS mp) e h
     refine ⟨fun z=>.inr (k.mp z.2),fun z=>⟨e,k.mpr (z.elim (fun ⟨b,mb,_,hb,_⟩=>absurd ⟨b,mb,hb⟩ h) id)⟩⟩
  have dj:∀ S ∈ sbs (leavesL bs),One (fun b s=>Mod c b.leaves s) bs S->¬ ∀ p ∈ leavesL bs,p ∈ S:=fun S mS ⟨b,mb,_,hb,_⟩ z=>by
   obtain ⟨i,hi⟩:=List.getElem?_of_mem mb
   obtain ⟨i0,_,hi0,_,_,hne,_⟩:=two_of bs.length i hw.1.1
   obtain ⟨b0,p0,hb0,hp0⟩:=br_some hw.2 hi0
   exact absurd (nd_at hn' hb0 hi hp0 (hb p0 (z p0 (by rw [leavesL_map,List.mem_flatMap]; exact ⟨b0,List.mem_of_getElem? hb0,hp0⟩)))) hne
  rw [e1,cnt_or dj,cnt_one _ bs hn',gcL_sum,cnt_all _ hn']
  congr 1
  exact ssum_congr fun b mb=>grp_cnt n b (by have:=deep_mem mb; omega) (hp b mb) (nd_brs (w := .prime rows bs) hn mb) (hc.brs mb)
end KL
namespace KL
open DL PySem
mutual
theorem good_proper:∀ w:Wd,w.good->w.proper
 | .leaf _,_=>trivial
 | .flat c bs,h=>⟨h.1,h.2.2.2,good_properL bs h.2.1⟩
 | .prime rows bs,h=>⟨h.2.2.2.2.2,good_properL bs h.2.2.2.1⟩
theorem good_properL:∀ bs:List Wd,goodL bs->properL bs
 | [],_=>trivial
 | b :: r,h=>⟨good_proper b h.1,good_properL r h.2⟩
end
theorem col_shd {w:Wd} (hn:w.leaves.Nodup):Col (shd w.deep w) w:=fun v mv i j a b p q ha hb hij hp hq=>shd_sub w.deep (Nat.le_refl _) hn mv ha hb hij hp hq
def MI (P:List Int->Prop):Prop := ∀ S T:List Int,(∀ x,x ∈ S ↔ x ∈ T)->(P S ↔ P T)
theorem MI.cons {P:List Int->Prop} (h:MI P) (a:Int):MI fun s=>P (a :: s):=fun S T e=>h _ _ fun x=>by rw [List.mem_cons,List.mem_cons,e x]
theorem cnt_perm {A B:List Int} (hp:A.Perm B):∀ {P:List Int->Prop},MI P->cnt P (sbs A)=cnt P (sbs B):=by
 induction hp with
 | nil=>intro P h; rfl
 | cons x p ih =>
  rename_i l1 l2
  intro P h
  show cnt P (sbs l1 ++ (sbs l1).map (x :: ·))=cnt P (sbs l2 ++ (sbs l2).map (x :: ·))
  rw [cnt_append,cnt_append,cnt_map,cnt_map,ih h,ih (h.cons x)]
 | swap x y l =>
  intro P h
  show cnt P ((sbs l ++ (sbs l).map (x :: ·)) ++ (sbs l ++ (sbs l).map (x :: ·)).map (y :: ·))=cnt P ((sbs l ++ (sbs l).map (y :: ·)) ++ (sbs l ++ (sbs l).map (y :: ·)).map (x :: ·))
  rw [cnt_append,cnt_append,cnt_append,cnt_append,cnt_map,cnt_map,cnt_map,cnt_map,cnt_append,cnt_append,cnt_map,cnt_map]
  have e:cnt (fun s=>P (y :: x :: s)) (sbs l)=cnt (fun s=>P (x :: y :: s)) (sbs l):=cnt_congr fun s _=>h _ _ fun z=>by
   simp only [List.mem_cons]
   exact ⟨fun q=>q.elim (fun q=>.inr (.inl q)) fun q=>q.elim .inl fun q=>.inr (.inr q),fun q=>q.elim (fun q=>.inr (.inl q)) fun q=>q.elim .inl fun q=>.inr (.inr q)⟩
  rw [e]
  omega
 | trans _ _ i1 i2=>intro P h; rw [i1 h,i2 h]
def bit (m k:Nat):Bool:=decide (m / 2 ^ k % 2=1)
def mkn (ps:List Int) (n m:Nat):List Int:=((List.range n).filter (bit m)).map fun k=>ps.getD k 0
theorem mkn_lo {ps:List Int}{n m:Nat} (h:m < 2 ^ n):mkn ps (n + 1) m=mkn ps n m:=by
 unfold mkn
 rw [List.range_succ,List.filter_append]
 have e:List.filter (bit m) [n]=[]:=by
  have:bit m n=false:=by unfold bit; rw [Nat.div_eq_of_lt h]; rfl
  simp [this]
 rw [e,List.append_nil]
theorem bit_hi {n m k:Nat} (hk:k < n):bit (2 ^ n + m) k=bit m k:=by
 unfold bit
 have e:2 ^ n=2 ^ k * (2 * 2 ^ (n - k - 1)):=by
  rw [<- Nat.mul_assoc,Nat.mul_comm (2 ^ k) 2,<- Nat.pow_succ',<- Nat.pow_add]
  congr 1
  omega
 rw [e,Nat.mul_add_div (Nat.two_pow_pos k),Nat.mul_add_mod]
theorem mkn_hi {ps:List Int}{n m:Nat} (h:m < 2 ^ n):mkn ps (n + 1) (2 ^ n + m)=mkn ps n m ++ [ps.getD n 0]:=by
 unfold mkn
 rw [List.range_succ,List.filter_append,List.map_append]
 congr 1
 ·congr 1
  exact List.filter_congr fun k mk=>bit_hi (List.mem_range.mp mk)
 ·have:bit (2 ^ n + m) n=true:=by
   unfold bit
   rw [Nat.add_div_left _ (Nat.two_pow_pos n),Nat.div_eq_of_lt h]
   rfl
  simp [this]
theorem mkn_ne {ps:List Int}:∀ {n m:Nat},1 <= m->m < 2 ^ n->mkn ps n m ≠ []
 | 0,m,h1,h2=>by simp at h2; omega
 | n + 1,m,h1,h2=>by
  rcases Nat.lt_or_ge m (2 ^ n) with h | h
  ·rw [mkn_lo h]; exact mkn_ne h1 h
  ·obtain ⟨r,rfl⟩:=Nat.exists_eq_add_of_le h
   rw [Nat.pow_succ] at h2
   rw [mkn_hi (by omega)]
   simp
theorem cnt_mkn {ps:List Int}:∀ (n:Nat),n <= ps.length->∀ {P:List Int->Prop},MI P->cnt P ((List.range (2 ^ n)).map (mkn ps n))=cnt P (sbs (ps.take n).reverse)
 | 0,_,P,_=>rfl
 | n + 1,hn,P,h=>by
  have hn':n < ps.length:=by omega
  have et:(ps.take (n + 1)).reverse=ps.getD n 0 :: (ps.take n).reverse:=by
   rw [List.take_add_one,List.getElem?_eq_getElem hn',List.getD_eq_getElem?_getD,List.getElem?_eq_getElem hn']
   simp
  have er:(List.range (2 ^ (n + 1))).map (mkn ps (n + 1))=(List.range (2 ^ n)).map (mkn ps n) ++ ((List.range (2 ^ n)).map (mkn ps n)).map (· ++ [ps.getD n 0]):=by
   rw [show 2 ^ (n + 1)=2 ^ n + 2 ^ n by rw [Nat.pow_succ]; omega,List.range_add,List.map_append,List.map_map,List.map_map]
   congr 1
   ·exact List.map_congr_left fun m mm=>mkn_lo (List.mem_range.mp mm)
   ·exact List.map_congr_left fun m mm=>mkn_hi (List.mem_range.mp mm)
  rw [er,et]
  show _=cnt P (sbs (ps.take n).reverse ++ (sbs (ps.take n).reverse).map (ps.getD n 0 :: ·))
  generalize hL:(List.range (2 ^ n)).map (mkn ps n)=L
  have i1:=cnt_mkn (ps:=ps) n (by omega) h
  have i2:=cnt_mkn (ps:=ps) n (by omega) (h.cons (ps.getD n 0))
  rw [hL] at i1 i2
  rw [cnt_append,cnt_append,cnt_map,cnt_map,i1,<- i2]
  congr 1
  exact cnt_congr fun s _=>h _ _ fun x=>by rw [List.mem_append,List.mem_singleton,List.mem_cons]; exact ⟨fun q=>q.symm,fun q=>q.symm⟩
theorem mod_mi (c:Int->Int->Int) (w:Wd):MI (Grp c w):=fun S T e=>by
 have nil:S=[] ↔ T=[]:=by
  refine ⟨fun h=>?_,fun h=>?_⟩
  ·subst h
   cases T with
   | nil=>rfl
   | cons a t=>exact absurd ((e a).mpr List.mem_cons_self) (by simp)
  ·subst h
   cases S with
   | nil=>rfl
   | cons a t=>exact absurd ((e a).mp List.mem_cons_self) (by simp)
 unfold Grp
 refine and_congr (not_congr nil) ⟨fun h x mx nx y my z mz=>h x mx (fun q=>nx ((e x).mp q)) y ((e y).mpr my) z ((e z).mpr mz),fun h x mx nx y my z mz=>h x mx (fun q=>nx ((e x).mpr q)) y ((e y).mp my) z ((e z).mp mz)⟩
theorem grp_masks {w:Wd}{ps:List Int} (hg:w.good) (hp:w.leaves.Perm ps) (hn:w.leaves.Nodup):cnt (Grp (shd w.deep w) w) ((List.range (2 ^ ps.length)).map (mkn ps ps.length))=w.gc:=by
 rw [cnt_mkn _ (Nat.le_refl _) (mod_mi _ w),List.take_length,<- grp_cnt w.deep w (Nat.le_refl _) (good_proper w hg) hn (col_shd hn)]
 exact cnt_perm ((List.reverse_perm ps).trans hp.symm) (mod_mi _ w)
def fw (g:Wd):Int:=2 ^ g.brs.length - (g.brs.length:Nat) - 2
def ksum (l:List Wd):Int:=(l.length:Nat) + ((l.filter Wd.isF).map fw).sum
theorem ksum_append (a b:List Wd):ksum (a ++ b)=ksum a + ksum b:=by
 unfold ksum
 rw [List.length_append,List.filter_append,List.map_append,List.sum_append]
 push_cast
 omega
theorem ksum_cons (a:Wd) (b:List Wd):ksum (a :: b)=ksum [a] + ksum b:=ksum_append [a] b
theorem ksum_perm {a b:List Wd} (h:a.Perm b):ksum a=ksum b:=by
 induction h with
 | nil=>rfl
 | cons x p ih=>rw [ksum_cons,ih,<- ksum_cons]
 | swap x y l =>
  have e1:=ksum_cons y (x :: l)
  have e2:=ksum_cons x l
  have e3:=ksum_cons x (y :: l)
  have e4:=ksum_cons y l
  omega
 | trans _ _ i1 i2=>rw [i1,i2]
theorem pow_big (k:Nat):k + 1 <= 2 ^ k:=Nat.lt_two_pow_self
mutual
theorem ksum_subs:∀ w:Wd,ksum w.subs=(w.gc:Nat)
 | .leaf p=>rfl
 | .flat c bs=>by
  show ksum (Wd.flat c bs :: subsL bs)=((gcL bs + (2 ^ bs.length - bs.length - 1):Nat):Int)
  rw [ksum_cons,ksum_subsL bs]
  have h:=pow_big bs.length
  have e:ksum [Wd.flat c bs]=1 + (2 ^ bs.length - (bs.length:Nat) - 2 + 0):=rfl
  have e2:((2 ^ bs.length:Nat):Int)=2 ^ bs.length:=by push_cast; rfl
  rw [e,<- e2]
  omega
 | .prime rows bs=>by
  show ksum (Wd.prime rows bs :: subsL bs)=((gcL bs + 1:Nat):Int)
  rw [ksum_cons,ksum_subsL bs]
  have e:ksum [Wd.prime rows bs]=1 + 0:=rfl
  rw [e]
  omega
theorem ksum_subsL:∀ bs:List Wd,ksum (subsL bs)=(gcL bs:Nat)
 | []=>rfl
 | b :: r=>by
  show ksum (b.subs ++ subsL r)=((b.gc + gcL r:Nat):Int)
  rw [ksum_append,ksum_subs b,ksum_subsL r]
  omega
end
theorem sub_good:∀ (n:Nat) {w v:Wd},w.deep <= n->w.good->w.leaves.length <= 24->v ∈ w.subs->v.good/\v.leaves.length <= 24
 | 0,w,v,hd,_,_,_=>by cases w <;> simp [Wd.deep] at hd
 | n + 1,w,v,hd,hg,hl,hv=>by
  rcases mem_subs.mp hv with rfl | ⟨b,mb,hb⟩
  ·exact ⟨hg,hl⟩
  ·obtain ⟨h1,h2,h3⟩:=(brs_le hg hl).2 b mb
   exact sub_good n (by omega) h1 h2 hb
theorem isflat_c {w:Wd}{r:SD}:eCall G_is_flat (aCons (eVar 0) aNil) (some w.d :: r)=.ok (.bl w.isF):=eCall_pure (aOne (var_p rfl w.pure)) (by rw [frz1]; exact isflat_eq w) rfl
theorem pow2_eq (n:Nat) (hn:n <= 24):G_power_of_two [.int n]=.ok (.int (2 ^ n)):=by
 refine run_rt (τ := [some (.int n),none,none]) rfl rfl ?_
 unfold g_power_of_two
 rw [seq_nx (set_nx (show eC (.int 1) _=.ok (.int 1) from rfl) rfl)]
 show sSeq _ _ [some (.int n),some (.int 1),none]=_
 obtain ⟨t,h1,o,h2⟩:=forD_inv (tg:=gN 2) (body:=g_power_of_two_b1) (fun i t=>∃ o,t=[some (.int n),some (.int (2 ^ i)),o]) (ds:=(List.range n).map fun k:Nat=>D.int k) 0 [some (.int n),some (.int 1),none] ⟨none,rfl⟩ fun k x t hx hP=>by
  obtain ⟨o,rfl⟩:=hP
  rw [Nat.zero_add] at *
  have hk:k < n:=by have:=(List.getElem?_eq_some_iff.mp hx).1; simpa using this
  have ex:x=.int k:=by rw [List.getElem?_map,List.getElem?_range hk] at hx; cases hx; rfl
  subst ex
  have hb:(2:Int) ^ k < 2 ^ 64:=by
   have:(2:Nat) ^ k < 2 ^ 64:=Nat.pow_lt_pow_right (by decide) (by omega)
   exact_mod_cast this
  have hp:(0:Int) < 2 ^ k:=Int.pow_pos (by decide)
  refine ⟨_,_,rfl,.inl (set_nx (mulv_ok (a:=2 ^ k) (b:=2) rfl rfl (mul_l ⟨by omega,hb⟩)) rfl),some (.int k),?_⟩
  rw [Int.pow_succ]
  rfl
 rw [Nat.zero_add,List.length_map,List.length_range] at h2
 subst h2
 have e3:=for_nil (tg:=gN 2) (body:=g_power_of_two_b1) (rng_ok (f:=eVar 0) (τ := [some (.int n),some (.int 1),none]) rfl (by omega))
 rw [rng_frz,h1] at e3
 rw [seq_nx e3]
 rfl
theorem filt_dL (gs:List Wd):((dL gs).filter fun d=>match d with | .tup (.str s :: _)=>decide (s = "flat") | _=>false)=dL (gs.filter Wd.isF):=by
 induction gs with
 | nil=>rfl
 | cons g gs ih =>
  cases g with
  | leaf p=>exact ih
  | flat c bs =>
   show List.filter _ ((Wd.flat c bs).d :: dL gs)=(Wd.flat c bs).d :: dL (gs.filter Wd.isF)
   rw [<- ih]
   rfl
  | prime rows bs =>
   show List.filter _ ((Wd.prime rows bs).d :: dL gs)=dL (gs.filter Wd.isF)
   rw [<- ih]
   rfl
theorem gcount_eq {w:Wd} (hg:w.good) (hl:w.leaves.length <= 24):G_group_count [w.d]=.ok (.int (w.gc:Nat)):=by
 obtain ⟨gs,pg,lg,eg⟩:=knots_eq hg hl
 have gg:∀ g ∈ gs,g.brs.length <= 24:=fun g mg=>by
  obtain ⟨a,b⟩:=sub_good w.deep (Nat.le_refl _) hg hl (pg.mem_iff.mp mg)
  exact (brs_le a b).1
 refine run_rt (τ := [some w.d,none,none]) rfl rfl ?_
 unfold g_group_count
 have e1:eCall G_knots_down (aCons (eVar 0) aNil) [some w.d,none,none]=.ok (.lst .own (dL gs)):=eCall_own (ds := [w.d]) (aOne (var_p rfl w.pure)) (by rw [frz1]; exact eg) (bor1 w)
 rw [seq_nx (set_nx e1 (bor_own (dL_pure gs)))]
 show sSeq _ _ [some w.d,some (.lst .own (dL gs)),none]=_
 have v1:∀ o,eVar 1 [some w.d,some (.lst .own (dL gs)),o]=.ok (.lst .bor (dL gs)):=fun o=>var_own rfl (dL_pure gs)
 have hit:eIt (eVar 1) [some w.d,some (.lst .own (dL gs)),none]=.ok (true,dL gs):=by
  unfold eIt
  rw [v1]
  rfl
 have e2:eComp (eIt (eVar 1)) (gN 0) g_group_count_c2 g_group_count_e3 1 [] [some w.d,some (.lst .own (dL gs)),none]=.ok (.lst .own (((gs.filter Wd.isF).map fun g=>(g.brs.length:Int)).map .int)):=by
  rw [eComp_if (fun d=>match d with | .tup (.str s :: _)=>decide (s = "flat") | _=>false) (fun d=>match d with | .tup [_,_,.tup bs]=>.int (bs.length:Nat) | _=>.int 0) hit (fun d m=>?_) (fun d m _=>?_) (by rw [dL_len]; omega),frzL_pure _ (dL_pure gs),filt_dL,dL_map,List.map_map,List.map_map]
  ·congr 2
   refine List.map_congr_left fun g mg=>?_
   cases g with
   | leaf p=>rfl
   | flat c bs =>
    show D.int ((dL bs).length:Nat)=D.int (bs.length:Nat)
    rw [dL_len]
   | prime rows bs =>
    show D.int ((dL bs).length:Nat)=D.int (bs.length:Nat)
    rw [dL_len]
  ·rw [frzL_pure _ (dL_pure gs),dL_map] at m
   obtain ⟨g,mg,rfl⟩:=List.mem_map.mp m
   unfold g_group_count_c2
   rw [eT_ok (isflat_c (w:=g) (r:=capD [some w.d,some (.lst .own (dL gs)),none] []))]
   cases g with
   | leaf p=>rfl
   | flat c bs=>rfl
   | prime rows bs=>rfl
  ·rw [frzL_pure _ (dL_pure gs),dL_map] at m
   obtain ⟨g,mg,rfl⟩:=List.mem_map.mp m
   have eb:eCall G_branches_of (aCons (eVar 0) aNil) (some g.d :: capD [some w.d,some (.lst .own (dL gs)),none] [])=.ok (.tup (dL g.brs)):=eCall_pure (aOne (var_p rfl g.pure)) (by rw [frz1]; exact branches_eq g) (dL_pure _)
   unfold g_group_count_e3
   rw [eA_ok (aOne eb)]
   cases g with
   | leaf p=>exact ⟨rfl,rfl⟩
   | flat c bs=>exact ⟨rfl,rfl⟩
   | prime rows bs=>exact ⟨rfl,rfl⟩
 rw [seq_nx (set_nx e2 (bor_row _))]
 generalize hns:((gs.filter Wd.isF).map fun g=>(g.brs.length:Int))=ns
 show sRet _ [some w.d,some (.lst .own (dL gs)),some (.lst .own (ns.map .int))]=_
 have hit2:eIt (eVar 2) [some w.d,some (.lst .own (dL gs)),some (.lst .own (ns.map .int))]=.ok (true,ns.map .int):=by
  unfold eIt
  rw [show eVar 2 [some w.d,some (.lst .own (dL gs)),some (.lst .own (ns.map .int))]=.ok (.lst .bor (ns.map .int)) from var_own rfl (pure_ints ns)]
  rfl
 have hnl:ns.length <= 48:=by
  rw [<- hns,List.length_map]
  exact Nat.le_trans (List.length_filter_le _ _) lg
 have e3:eComp (eIt (eVar 2)) (gN 0) bTrue g_group_count_e1 1 [] [some w.d,some (.lst .own (dL gs)),some (.lst .own (ns.map .int))]=.ok (.lst .own (((gs.filter Wd.isF).map fw).map .int)):=by
  rw [eComp_all (fun d=>match d with | .int n=>.int (2 ^ n.toNat - n - 2) | _=>.int 0) hit2 (fun d m=>?_) (by rw [List.length_map]; omega),frz_ints,<- hns,List.map_map,List.map_map,List.map_map]
  ·rfl
  ·rw [frz_ints,<- hns] at m
   obtain ⟨n,mn,rfl⟩:=List.mem_map.mp m
   obtain ⟨g,mg,rfl⟩:=List.mem_map.mp mn
   refine ⟨?_,rfl⟩
   have hgl:=gg g (List.mem_filter.mp mg).1
   have ep:eCall G_power_of_two (aCons (eVar 0) aNil) (some (.int (g.brs.length:Nat)) :: capD [some w.d,some (.lst .own (dL gs)),some (.lst .own (ns.map .int))] [])=.ok (.int (2 ^ g.brs.length)):=eCall_pure (ds := [.int (g.brs.length:Nat)]) (aOne rfl) (pow2_eq _ hgl) rfl
   unfold g_group_count_e1
   rw [eBin_ok ((eBin_ok ep (show eVar 0 _=.ok (.int (g.brs.length:Nat)) from rfl)).trans rfl) rfl]
   rfl
 have e4:eA sumD (aCons (eComp (eIt (eVar 2)) (gN 0) bTrue g_group_count_e1 1 []) aNil) [some w.d,some (.lst .own (dL gs)),some (.lst .own (ns.map .int))]=.ok (.int ((gs.filter Wd.isF).map fw).sum):=by
  rw [eA_ok (aOne e3)]
  show (match intsOf ((((gs.filter Wd.isF).map fw)).map D.int) with | some ns=>Res.ok (D.int ns.sum) | none=>.bad)=_
  rw [intsOf_map]
 have e5:eA lenD (aCons (eVar 1) aNil) [some w.d,some (.lst .own (dL gs)),some (.lst .own (ns.map .int))]=.ok (.int (gs.length:Nat)):=by
  rw [len_ok (v1 _),dL_len]
 refine ret_ok ((add_ok e5 e4).trans ?_) rfl
 rw [<- ksum_subs w,<- ksum_perm pg]
 rfl
def cntSt (w:Wd) (x:Int) (o2 o3:Option D):SD := [some w.d,some (.int x),o2,o3]
theorem gcL_take {bs:List Wd}{j:Nat}{b:Wd} (h:bs[j]?=some b):gcL (bs.take (j + 1))=gcL (bs.take j) + b.gc:=by
 rw [gcL_sum,gcL_sum,List.take_add_one,h,ssum_append]
 rfl
theorem counted_eq:∀ (n:Nat) (w:Wd),w.deep <= n->w.good->w.leaves.length <= 24->G_Lcounted n [w.d]=.ok (.int (w.gc:Nat))
 | 0,w,hd,_,_=>by cases w <;> simp [Wd.deep] at hd
 | n + 1,w,hd,hg,hl=>by
  have hbs:=brs_le hg hl
  have br:∀ (x:Int) (o2 o3:Option D),w.isL=false->∃ o,sFor [0] (eIt (eBin ixD (eVar 0) (eC (.int 2)))) (gN 3) (g_Lcounted_b1 (G_Lcounted n)) (cntSt w x o2 o3)=.nx (cntSt w (x + (gcL w.brs:Nat)) o2 o):=fun x o2 o3 hL=>by
   obtain ⟨t,h1,o,h2⟩:=forD_inv (tg:=gN 3) (body:=g_Lcounted_b1 (G_Lcounted n)) (fun i t=>∃ o,t=cntSt w (x + (gcL (w.brs.take i):Nat)) o2 o) (ds:=dL w.brs) 0 (cntSt w x o2 o3) ⟨o3,by show _=cntSt w (x + 0) o2 o3; rw [Int.add_zero]⟩ fun j d t hx hP=>by
    obtain ⟨o,rfl⟩:=hP
    rw [Nat.zero_add] at *
    rw [dL_map,List.getElem?_map] at hx
    cases e:w.brs[j]? with
    | none=>rw [e] at hx; cases hx
    | some b =>
     rw [e] at hx
     cases hx
     obtain ⟨g1,g2,g3⟩:=hbs.2 b (List.mem_of_getElem? e)
     have ec:eCall (G_Lcounted n) (aCons (eVar 3) aNil) (cntSt w (x + (gcL (w.brs.take j):Nat)) o2 (some b.d))=.ok (.int (b.gc:Nat)):=eCall_pure (ds := [b.d]) (aOne (var_p rfl b.pure)) (by rw [frz1]; exact counted_eq n b (by omega) g1 g2) rfl
     refine ⟨_,_,rfl,.inl (set_nx (add_ok (a:=x + (gcL (w.brs.take j):Nat)) rfl ec) rfl),some b.d,?_⟩
     rw [gcL_take e]
     show cntSt w (x + (gcL (w.brs.take j):Nat) + (b.gc:Nat)) o2 (some b.d)=cntSt w (x + ((gcL (w.brs.take j) + b.gc:Nat):Int)) o2 (some b.d)
     congr 1
     omega
   rw [Nat.zero_add,dL_len,List.take_length] at h2
   subst h2
   refine ⟨o,?_⟩
   have hf:frzAt [0] (cntSt w x o2 o3)=cntSt w x o2 o3:=by
    show [some w.d.frz,_,_,_]=_
    rw [frz_pure _ w.pure]
    rfl
   have hi:eIt (eBin ixD (eVar 0) (eC (.int 2))) (cntSt w x o2 o3)=.ok (false,dL w.brs):=by
    refine it_tup (ix_ok (show eVar 0 _=.ok w.d from var_p rfl w.pure) (show eC (.int 2) _=.ok (.int 2) from rfl) ?_) (dL_pure w.brs)
    cases w with
    | leaf p=>cases hL
    | flat c bs=>exact ix_tup (j:=2) rfl rfl
    | prime rows bs=>exact ix_tup (j:=2) rfl rfl
   have e3:=for_at (tg:=gN 3) (body:=g_Lcounted_b1 (G_Lcounted n)) hf hi
   rw [frzL_pure _ (dL_pure _),h1] at e3
   exact e3
  refine run_rt (g:=g_Lcounted (G_Lcounted n)) (τ := [some w.d,none,none,none]) rfl rfl ?_
  unfold g_Lcounted
  rw [seq_nx (set_nx (show eC (.int 1) _=.ok (.int 1) from rfl) rfl)]
  show sSeq _ _ (cntSt w 1 none none)=_
  have v0:∀ x o2 o3,eVar 0 (cntSt w x o2 o3)=.ok w.d:=fun x o2 o3=>var_p rfl w.pure
  cases w with
  | leaf p =>
   have c1:eT (eUn (instD isTp) (eVar 0)) (cntSt (.leaf p) 1 none none)=.ok false:=eT_ok rfl
   rw [if_go c1]
   rfl
  | flat c bs =>
   have c1:eT (eUn (instD isTp) (eVar 0)) (cntSt (.flat c bs) 1 none none)=.ok true:=eT_ok (by unfold eUn; rw [v0]; rfl)
   have c2:eT (eBin eqD (eBin ixD (eVar 0) (eC (.int 0))) (eC (.str "flat"))) (cntSt (.flat c bs) 1 none none)=.ok true:=by
    refine eT_ok ?_
    rw [eBin_ok (ix_ok (v0 _ _ _) (show eC (.int 0) _=.ok (.int 0) from rfl) (ix_tup (j:=0) rfl rfl)) rfl]
    exact congrArg (fun b=>Res.ok (D.bl b)) (show xor false (decide (("flat" : Str) = "flat"))=true by decide +kernel)
   obtain ⟨t,h1,o,h2⟩:=forD_inv (tg:=gN 3) (body:=g_Lcounted_b2 (G_Lcounted n)) (fun i t=>∃ o,t=cntSt (.flat c bs) 1 (some (.int (2 ^ i))) o) (ds:=dL bs) 0 (cntSt (.flat c bs) 1 (some (.int 1)) none) ⟨none,rfl⟩ fun j d t hx hP=>by
    obtain ⟨o,rfl⟩:=hP
    rw [Nat.zero_add]
    refine ⟨_,_,rfl,.inl (set_nx (add_ok (a:=2 ^ j) (b:=2 ^ j) rfl rfl) rfl),some d,?_⟩
    show cntSt (.flat c bs) 1 (some (.int (2 ^ j + 2 ^ j))) (some d)=cntSt (.flat c bs) 1 (some (.int (2 ^ (j + 1)))) (some d)
    rw [show (2:Int) ^ (j + 1)=2 ^ j + 2 ^ j by rw [Int.pow_succ]; omega]
   rw [Nat.zero_add,dL_len] at h2
   subst h2
   have hf:frzAt [0] (cntSt (.flat c bs) 1 (some (.int 1)) none)=cntSt (.flat c bs) 1 (some (.int 1)) none:=by
    show [some (Wd.flat c bs).d.frz,_,_,_]=_
    rw [frz_pure _ (Wd.pure (.flat c bs))]
    rfl
   have i2:∀ x o2 o3,eBin ixD (eVar 0) (eC (.int 2)) (cntSt (.flat c bs) x o2 o3)=.ok (.tup (dL bs)):=fun x o2 o3=>ix_ok (v0 x o2 o3) (show eC (.int 2) _=.ok (.int 2) from rfl) (ix_tup (j:=2) rfl rfl)
   have e3:=for_at (tg:=gN 3) (body:=g_Lcounted_b2 (G_Lcounted n)) hf (it_tup (i2 _ _ _) (dL_pure bs))
   rw [frzL_pure _ (dL_pure _),h1] at e3
   have ln:eA lenD (aCons (eBin ixD (eVar 0) (eC (.int 2))) aNil) (cntSt (.flat c bs) 1 (some (.int (2 ^ bs.length))) o)=.ok (.int (bs.length:Nat)):=by
    rw [eA_ok (aOne (i2 _ _ _))]
    show Res.ok (D.int ((dL bs).length:Nat))=_
    rw [dL_len]
   have e4:eBin subD (eBin subD (eBin addD (eVar 1) (eVar 2)) (eA lenD (aCons (eBin ixD (eVar 0) (eC (.int 2))) aNil))) (eC (.int 2)) (cntSt (.flat c bs) 1 (some (.int (2 ^ bs.length))) o)=.ok (.int (1 + 2 ^ bs.length - (bs.length:Nat) - 2)):=(eBin_ok ((eBin_ok (add_ok (a:=1) (b:=2 ^ bs.length) rfl rfl) ln).trans rfl) rfl).trans rfl
   obtain ⟨o',e5⟩:=br (1 + 2 ^ bs.length - (bs.length:Nat) - 2) (some (.int (2 ^ bs.length))) o rfl
   have e6:sIf (eT (eBin eqD (eBin ixD (eVar 0) (eC (.int 0))) (eC (.str "flat")))) (sSeq (sSet 2 (eC (.int 1))) (sSeq (sFor [0] (eIt (eBin ixD (eVar 0) (eC (.int 2)))) (gN 3) (g_Lcounted_b2 (G_Lcounted n))) (sSet 1 (eBin subD (eBin subD (eBin addD (eVar 1) (eVar 2)) (eA lenD (aCons (eBin ixD (eVar 0) (eC (.int 2))) aNil))) (eC (.int 2)))))) sNext (cntSt (.flat c bs) 1 none none)=.nx (cntSt (.flat c bs) (1 + 2 ^ bs.length - (bs.length:Nat) - 2) (some (.int (2 ^ bs.length))) o):=by
    rw [if_t c2,seq_nx (set_nx (show eC (.int 1) _=.ok (.int 1) from rfl) rfl)]
    show sSeq _ _ (cntSt (.flat c bs) 1 (some (.int 1)) none)=_
    rw [seq_nx e3,set_nx e4 rfl]
    rfl
   have e7:sIf (eT (eUn (instD isTp) (eVar 0))) (sSeq (sIf (eT (eBin eqD (eBin ixD (eVar 0) (eC (.int 0))) (eC (.str "flat")))) (sSeq (sSet 2 (eC (.int 1))) (sSeq (sFor [0] (eIt (eBin ixD (eVar 0) (eC (.int 2)))) (gN 3) (g_Lcounted_b2 (G_Lcounted n))) (sSet 1 (eBin subD (eBin subD (eBin addD (eVar 1) (eVar 2)) (eA lenD (aCons (eBin ixD (eVar 0) (eC (.int 2))) aNil))) (eC (.int 2)))))) sNext) (sFor [0] (eIt (eBin ixD (eVar 0) (eC (.int 2)))) (gN 3) (g_Lcounted_b1 (G_Lcounted n)))) sNext (cntSt (.flat c bs) 1 none none)=.nx (cntSt (.flat c bs) (1 + 2 ^ bs.length - (bs.length:Nat) - 2 + (gcL bs:Nat)) (some (.int (2 ^ bs.length))) o'):=by
    rw [if_t c1,seq_nx e6,e5]
    rfl
   rw [seq_nx e7]
   show Fl.rt (D.int (1 + 2 ^ bs.length - (bs.length:Nat) - 2 + (gcL bs:Nat)))=Fl.rt (D.int ((gcL bs + (2 ^ bs.length - bs.length - 1):Nat):Int))
   have h:=pow_big bs.length
   have e2:((2 ^ bs.length:Nat):Int)=2 ^ bs.length:=by push_cast; rfl
   rw [<- e2]
   congr 2
   omega
  | prime rows bs =>
   have c1:eT (eUn (instD isTp) (eVar 0)) (cntSt (.prime rows bs) 1 none none)=.ok true:=eT_ok (by unfold eUn; rw [v0]; rfl)
   have c2:eT (eBin eqD (eBin ixD (eVar 0) (eC (.int 0))) (eC (.str "flat"))) (cntSt (.prime rows bs) 1 none none)=.ok false:=by
    refine eT_ok ?_
    rw [eBin_ok (ix_ok (v0 _ _ _) (show eC (.int 0) _=.ok (.int 0) from rfl) (ix_tup (j:=0) rfl rfl)) rfl]
    exact congrArg (fun b=>Res.ok (D.bl b)) (show xor false (decide (("prime" : Str) = "flat"))=false by decide +kernel)
   obtain ⟨o',e5⟩:=br 1 none none rfl
   have e7:sIf (eT (eUn (instD isTp) (eVar 0))) (sSeq (sIf (eT (eBin eqD (eBin ixD (eVar 0) (eC (.int 0))) (eC (.str "flat")))) (sSeq (sSet 2 (eC (.int 1))) (sSeq (sFor [0] (eIt (eBin ixD (eVar 0) (eC (.int 2)))) (gN 3) (g_Lcounted_b2 (G_Lcounted n))) (sSet 1 (eBin subD (eBin subD (eBin addD (eVar 1) (eVar 2)) (eA lenD (aCons (eBin ixD (eVar 0) (eC (.int 2))) aNil))) (eC (.int 2)))))) sNext) (sFor [0] (eIt (eBin ixD (eVar 0) (eC (.int 2)))) (gN 3) (g_Lcounted_b1 (G_Lcounted n)))) sNext (cntSt (.prime rows bs) 1 none none)=.nx (cntSt (.prime rows bs) (1 + (gcL bs:Nat)) none o'):=by
    rw [if_t c1,if_go c2]
    exact e5
   rw [seq_nx e7]
   show Fl.rt (D.int (1 + (gcL bs:Nat)))=Fl.rt (D.int ((gcL bs + 1:Nat):Int))
   congr 2
   omega
theorem rows_tri (w:Wd) {ps:List Int}:Tri (rowsW w ps):=fun i r h=>by
 have hi:i < ps.length:=by have:=(List.getElem?_eq_some_iff.mp h).1; simpa [rowsW] using this
 unfold rowsW at h
 rw [List.getElem?_map,List.getElem?_range hi] at h
 cases h
 unfold rowOf
 rw [List.length_map,List.length_take]
 omega
theorem rows_len (w:Wd) (ps:List Int):(rowsW w ps).length=ps.length:=by unfold rowsW; rw [List.length_map,List.length_range]
theorem rows_col (w:Wd) {ps:List Int}{x y:Nat} (hx:x < ps.length) (hy:y < ps.length) (hne:x ≠ y):col (rowsW w ps) x y=shd w.deep w (ps.getD x 0) (ps.getD y 0):=by
 have at_:∀ i j,i < ps.length->j < i->col (rowsW w ps) i j=shd w.deep w (ps.getD i 0) (ps.getD j 0):=fun i j hi hji=>by
  have er:(rowsW w ps)[i]?=some (rowOf w ps i):=by unfold rowsW; rw [List.getElem?_map,List.getElem?_range hi]; rfl
  have ec:(rowOf w ps i)[j]?=some (shd w.deep w (ps.getD i 0) (ps.getD j 0)):=by
   unfold rowOf
   rw [List.getElem?_map,List.getElem?_take_of_lt hji,List.getD_eq_getElem?_getD (i:=j),List.getElem?_eq_getElem (show j < ps.length by omega)]
   rfl
  unfold col
  rw [Nat.max_eq_left (by omega),Nat.min_eq_right (by omega),List.getD_eq_getElem?_getD,List.getD_eq_getElem?_getD,er,Option.getD_some,ec]
  rfl
 rcases Nat.lt_or_gt_of_ne hne with l | l
 ·rw [col_comm,at_ y x hy l,shd_comm]
 ·exact at_ x y hx l
def alSt (w:Wd) (ps S:List Int) (o3 o4 o5:Option D):SD := [some (netV w ps),some (li .frz S),some (.tup (ps.map .int)),o3,o4,o5]
section
variable {w:Wd}{ps S:List Int}
def seenL (w:Wd) (ps S:List Int) (x i:Nat):List Int:=((List.range i).filter fun y=>decide (ps.getD y 0 ∈ S)).map fun y=>shd w.deep w (ps.getD x 0) (ps.getD y 0)
theorem al_v0 {o3 o4 o5:Option D}:eVar 0 (alSt w ps S o3 o4 o5)=.ok (netV w ps):=var_p rfl (netV_pure w ps)
theorem al_v1 {o3 o4 o5:Option D}:eVar 1 (alSt w ps S o3 o4 o5)=.ok (li .frz S):=var_v rfl (li_view _ _)
theorem al_v2 {o3 o4 o5:Option D}:eVar 2 (alSt w ps S o3 o4 o5)=.ok (.tup (ps.map .int)):=var_p rfl (pure_ints ps)
theorem al_ix {f:SD->Res D}{o3 o4 o5:Option D}{y:Nat} (hy:y < ps.length) (hf:f (alSt w ps S o3 o4 o5)=.ok (.int y)):eBin ixD (eVar 2) f (alSt w ps S o3 o4 o5)=.ok (.int (ps.getD y 0)):=ix_ok al_v2 hf (ix_tup (j:=y) rfl (by rw [List.getElem?_map,List.getElem?_eq_getElem hy,List.getD_eq_getElem?_getD,List.getElem?_eq_getElem hy]; rfl))
theorem al_in {f:SD->Res D}{o3 o4 o5:Option D}{y:Nat} (b:Bool) (hy:y < ps.length) (hf:f (alSt w ps S o3 o4 o5)=.ok (.int y)):eT (eBin (inD b) (eBin ixD (eVar 2) f) (eVar 1)) (alSt w ps S o3 o4 o5)=.ok (if b then !decide (ps.getD y 0 ∈ S) else decide (ps.getD y 0 ∈ S)):=eT_ok ((eBin_ok (al_ix hy hf) al_v1).trans (in_ints b _ .frz S))
theorem al_len {o3 o4 o5:Option D}:eA lenD (aCons (eVar 2) aNil) (alSt w ps S o3 o4 o5)=.ok (.int (ps.length:Nat)):=by
 rw [eA_ok (aOne al_v2)]
 show Res.ok (D.int ((ps.map D.int).length:Nat))=_
 rw [List.length_map]
theorem al_b1 {x y:Nat} (hx:x < ps.length) (hy:y < ps.length) (hxS:ps.getD x 0 ∉ S) (hl:ps.length <= 24):g_Lalike_b1 (alSt w ps S (some (.int x)) (some (li .own (seenL w ps S x y))) (some (.int y)))=.nx (alSt w ps S (some (.int x)) (some (li .own (seenL w ps S x (y + 1)))) (some (.int y))):=by
 have c:=al_in (w:=w) (S:=S) (f:=eVar 5) (o3:=some (.int x)) (o4:=some (li .own (seenL w ps S x y))) (o5:=some (.int y)) false hy rfl
 have es:seenL w ps S x (y + 1)=seenL w ps S x y ++ if ps.getD y 0 ∈ S then [shd w.deep w (ps.getD x 0) (ps.getD y 0)] else []:=by
  unfold seenL
  rw [List.range_succ,List.filter_append,List.map_append]
  congr 1
  by_cases h:ps.getD y 0 ∈ S
  ·rw [if_pos h]; simp only [List.filter_cons,decide_eq_true h,if_true,List.filter_nil]; rfl
  ·rw [if_neg h]; simp only [List.filter_cons,decide_eq_false h,List.filter_nil]; rfl
 have hsl:(seenL w ps S x y).length <= 24:=by
  unfold seenL
  rw [List.length_map]
  have:=List.length_filter_le (fun y=>decide (ps.getD y 0 ∈ S)) (List.range y)
  rw [List.length_range] at this
  omega
 unfold g_Lalike_b1
 rw [es]
 by_cases h:ps.getD y 0 ∈ S
 ·rw [decide_eq_true h] at c
  have hne:x ≠ y:=fun e=>hxS (e ▸ h)
  have ec:=cell_tup (rows_tri w (ps:=ps)) (fr:=eBin ixD (eVar 0) (eC (.int 1))) (f:=eVar 3) (g:=eVar 5) (τ:=alSt w ps S (some (.int x)) (some (li .own (seenL w ps S x y))) (some (.int y))) (ix_ok al_v0 (show eC (.int 1) _=.ok (.int 1) from rfl) (ix_tup (j:=1) rfl rfl)) rfl rfl hne (by rw [rows_len]; exact hx) (by rw [rows_len]; exact hy)
  rw [rows_col w hx hy hne] at ec
  rw [if_t c,if_pos h,app_nx (xs:=(seenL w ps S x y).map .int) rfl ec rfl (by rw [List.length_map]; omega)]
  unfold alSt li
  rw [List.map_append]
  rfl
 ·rw [decide_eq_false h] at c
  rw [if_f c,if_neg h,List.append_nil]
  rfl
theorem al_seen {x:Nat} (hx:x < ps.length) (hxS:ps.getD x 0 ∉ S) (hl:ps.length <= 24) (o5:Option D):∃ o,sFor [] (eRng1 (aCons (eA lenD (aCons (eVar 2) aNil)) aNil)) (gN 5) g_Lalike_b1 (alSt w ps S (some (.int x)) (some (li .own [])) o5)=.nx (alSt w ps S (some (.int x)) (some (li .own (seenL w ps S x ps.length))) o):=by
 obtain ⟨t,h1,o,h2⟩:=forD_inv (tg:=gN 5) (body:=g_Lalike_b1) (fun i t=>∃ o,t=alSt w ps S (some (.int x)) (some (li .own (seenL w ps S x i))) o) (ds:=(List.range ps.length).map fun k:Nat=>D.int k) 0 (alSt w ps S (some (.int x)) (some (li .own [])) o5) ⟨o5,rfl⟩ fun k d t hd hP=>by
  obtain ⟨o,rfl⟩:=hP
  rw [Nat.zero_add] at *
  have hk:k < ps.length:=by have:=(List.getElem?_eq_some_iff.mp hd).1; simpa using this
  have ex:d=.int k:=by rw [List.getElem?_map,List.getElem?_range hk] at hd; cases hd; rfl
  subst ex
  exact ⟨_,_,rfl,.inl (al_b1 hx hk hxS hl),some (.int k),rfl⟩
 rw [Nat.zero_add,List.length_map,List.length_range] at h2
 subst h2
 have e3:=for_nil (tg:=gN 5) (body:=g_Lalike_b1) (rng_ok (al_len (w:=w) (ps:=ps) (S:=S) (o3:=some (.int x)) (o4:=some (li .own [])) (o5:=o5)) (by omega))
 rw [rng_frz,h1] at e3
 exact ⟨o,e3⟩
theorem mem_seen (hsub:∀ p ∈ S,p ∈ ps) {x:Nat}{v:Int}:v ∈ seenL w ps S x ps.length ↔ ∃ y ∈ S,v=shd w.deep w (ps.getD x 0) y:=by
 unfold seenL
 simp only [List.mem_map,List.mem_filter,List.mem_range,decide_eq_true_eq]
 refine ⟨fun ⟨y,⟨hy,hS⟩,e⟩=>⟨_,hS,e.symm⟩,fun ⟨y,hS,e⟩=>?_⟩
 obtain ⟨k,hk,rfl⟩:=List.mem_iff_getElem.mp (hsub y hS)
 have eg:ps.getD k 0=ps[k]:=by rw [List.getD_eq_getElem?_getD,List.getElem?_eq_getElem hk]; rfl
 exact ⟨k,⟨hk,by rw [eg]; exact hS⟩,by rw [eg,e]⟩
theorem alike_eq (hp:w.leaves.Perm ps) (hl:ps.length <= 24) (hS:S ≠ []) (hsub:∀ p ∈ S,p ∈ ps):∃ b,G_Lalike [netV w ps,li .frz S]=.ok (.bl b)/\(b=true ↔ Mod (shd w.deep w) w.leaves S):=by
 have step:∀ (x:Nat) (o4 o5:Option D),x < ps.length->(∃ t,g_Lalike_b2 (alSt w ps S (some (.int x)) o4 o5)=.nx t/\(∃ o3 o4 o5,t=alSt w ps S o3 o4 o5)/\(ps.getD x 0 ∉ S->∀ y ∈ S,∀ z ∈ S,shd w.deep w (ps.getD x 0) y=shd w.deep w (ps.getD x 0) z)) ∨ (∃ r,g_Lalike_b2 (alSt w ps S (some (.int x)) o4 o5)=.rt r/\r=.bl false/\¬ Mod (shd w.deep w) w.leaves S):=fun x o4 o5 hx=>by
  have c:=al_in (w:=w) (S:=S) (f:=eVar 3) (o3:=some (.int x)) (o4:=o4) (o5:=o5) true hx rfl
  unfold g_Lalike_b2
  by_cases h:ps.getD x 0 ∈ S
  ·have c:_=Res.ok (!decide (ps.getD x 0 ∈ S)):=c
   rw [decide_eq_true h] at c
   exact .inl ⟨_,by rw [if_f c]; rfl,⟨_,_,_,rfl⟩,fun z=>absurd h z⟩
  ·have c:_=Res.ok (!decide (ps.getD x 0 ∈ S)):=c
   rw [decide_eq_false h] at c
   rw [if_t c,seq_nx (set_nx (show eA lstD aNil _=.ok (li .own []) from rfl) rfl)]
   show (∃ t,sSeq _ _ (alSt w ps S (some (.int x)) (some (li .own [])) o5)=_/\_) ∨ (∃ r,sSeq _ _ (alSt w ps S (some (.int x)) (some (li .own [])) o5)=_/\_)
   obtain ⟨o,es⟩:=al_seen (w:=w) hx h hl o5
   rw [seq_nx es]
   have ms:∀ {v:Int},v ∈ seenL w ps S x ps.length ↔ ∃ y ∈ S,v=shd w.deep w (ps.getD x 0) y:=fun {v}=>mem_seen (w:=w) hsub (x:=x)
   generalize seenL w ps S x ps.length=sn at ms
   obtain ⟨s0,hs0⟩:=List.exists_mem_of_ne_nil _ hS
   have hne:sn ≠ []:=fun e=>by
    have:=ms.mpr ⟨s0,hs0,rfl⟩
    rw [e] at this
    cases this
   obtain ⟨a,r,rfl⟩:∃ a r,sn=a :: r:=by
    cases sn with
    | nil=>exact absurd rfl hne
    | cons a r=>exact ⟨a,r,rfl⟩
   have v4:eVar 4 (alSt w ps S (some (.int x)) (some (li .own (a :: r))) o)=.ok (li .bor (a :: r)):=var_v rfl (li_view _ _)
   have ec:eCnt (eVar 4) (eBin ixD (eVar 4) (eC (.int 0))) (alSt w ps S (some (.int x)) (some (li .own (a :: r))) o)=.ok (.int ((a :: r).countP (· == a):Nat)):=by
    unfold eCnt
    rw [v4,Res.bind_ok]
    show (eBin ixD (eVar 4) (eC (.int 0)) (alSt w ps S (some (.int x)) (some (li .own (a :: r))) o)).bind (cntD (li .bor (a :: r)))=_
    rw [ix_ok v4 (show eC (.int 0) _=.ok (.int 0) from rfl) (ix_lst (j:=0) (d := .int a) rfl rfl),Res.bind_ok]
    show (match intsOf ((a :: r).map D.int) with | some ns=>Res.ok (D.int (ns.countP (· == a):Nat)) | none=>.bad)=_
    rw [intsOf_map]
   have el:eA lenD (aCons (eVar 4) aNil) (alSt w ps S (some (.int x)) (some (li .own (a :: r))) o)=.ok (.int ((a :: r).length:Nat)):=by
    rw [len_ok v4,List.length_map]
   have cc:=lti_ok ec el
   by_cases hall:∀ v ∈ a :: r,v=a
   ·have e:(a :: r).countP (· == a)=(a :: r).length:=List.countP_eq_length.mpr fun v mv=>by rw [hall v mv]; exact beq_self_eq_true a
    rw [e,decide_eq_false (by omega)] at cc
    refine .inl ⟨_,by rw [if_f cc]; rfl,⟨_,_,_,rfl⟩,fun _ y my z mz=>?_⟩
    rw [hall _ (ms.mpr ⟨y,my,rfl⟩),hall _ (ms.mpr ⟨z,mz,rfl⟩)]
   ·have hlt:(a :: r).countP (· == a) < (a :: r).length:=by
     refine Nat.lt_of_le_of_ne List.countP_le_length fun e=>hall fun v mv=>?_
     have:=List.countP_eq_length.mp e v mv
     simpa using this
    rw [decide_eq_true (by omega)] at cc
    refine .inr ⟨_,by rw [if_t cc]; exact ret_ok rfl rfl,rfl,fun hM=>hall fun v mv=>?_⟩
    obtain ⟨y,my,rfl⟩:=ms.mp mv
    obtain ⟨z,mz,ez⟩:=ms.mp (List.mem_cons_self (a:=a) (l:=r))
    rw [ez]
    have ex:ps.getD x 0 ∈ w.leaves:=hp.mem_iff.mpr (by rw [List.getD_eq_getElem?_getD,List.getElem?_eq_getElem hx]; exact List.getElem_mem hx)
    exact hM _ ex h y my z mz
 have lp:=forD_or (tg:=gN 3) (body:=g_Lalike_b2) (fun t=>∃ o3 o4 o5,t=alSt w ps S o3 o4 o5) (fun r=>r=.bl false/\¬ Mod (shd w.deep w) w.leaves S) (fun d=>∀ x:Nat,d=.int x->ps.getD x 0 ∉ S->∀ y ∈ S,∀ z ∈ S,shd w.deep w (ps.getD x 0) y=shd w.deep w (ps.getD x 0) z) (ds:=(List.range ps.length).map fun k:Nat=>D.int k) (τ:=alSt w ps S none none none) (fun d m τ hP=>by
  obtain ⟨o3,o4,o5,rfl⟩:=hP
  obtain ⟨x,hx,rfl⟩:=List.mem_map.mp m
  refine ⟨alSt w ps S (some (.int x)) o4 o5,rfl,?_⟩
  rcases step x o4 o5 (List.mem_range.mp hx) with ⟨t,h1,h2,h3⟩ | h
  ·exact .inl ⟨t,h1,h2,fun x' e=>by cases Int.ofNat.inj (D.int.inj e); exact h3⟩
  ·exact .inr h) ⟨none,none,none,rfl⟩
 have hr:=for_nil (tg:=gN 3) (body:=g_Lalike_b2) (rng_ok (al_len (w:=w) (ps:=ps) (S:=S) (o3:=none) (o4:=none) (o5:=none)) (by omega))
 rw [rng_frz] at hr
 have e2:eBin ixD (eVar 0) (eC (.int 0)) [some (netV w ps),some (li .frz S),none,none,none,none]=.ok (.tup (ps.map .int)):=ix_ok (show eVar 0 _=.ok (netV w ps) from var_p rfl (netV_pure w ps)) (show eC (.int 0) _=.ok (.int 0) from rfl) (ix_tup (j:=0) rfl rfl)
 rcases lp with ⟨t,h1,⟨o3,o4,o5,rfl⟩,h3⟩ | ⟨r,h1,rfl,h2⟩
 ·refine ⟨true,run_rt (τ := [some (netV w ps),some (li .frz S),none,none,none,none]) rfl rfl ?_,fun _ x mx nx y my z mz=>?_,fun _=>rfl⟩
  ·unfold g_Lalike
   rw [seq_nx (set_nx e2 (hasBor_pure _ (pure_ints ps)))]
   rw [h1] at hr
   show sSeq _ _ (alSt w ps S none none none)=_
   rw [seq_nx hr]
   exact ret_ok rfl rfl
  ·obtain ⟨k,hk,rfl⟩:=List.mem_iff_getElem.mp (hp.mem_iff.mp mx)
   have eg:ps.getD k 0=ps[k]:=by rw [List.getD_eq_getElem?_getD,List.getElem?_eq_getElem hk]; rfl
   have:=h3 _ (List.mem_map.mpr ⟨k,List.mem_range.mpr hk,rfl⟩) k rfl (by rw [eg]; exact nx) y my z mz
   rw [eg] at this
   exact this
 ·refine ⟨false,run_rt (τ := [some (netV w ps),some (li .frz S),none,none,none,none]) rfl rfl ?_,fun z=>(Bool.false_ne_true z).elim,fun z=>absurd z h2⟩
  unfold g_Lalike
  rw [seq_nx (set_nx e2 (hasBor_pure _ (pure_ints ps)))]
  rw [h1] at hr
  exact seq_rt hr
end
theorem and1 (a:Nat):Builtin.bitAnd ((a:Nat):Int) 1=((a % 2:Nat):Int):=by
 unfold Builtin.bitAnd
 rw [decide_eq_true (Int.natCast_nonneg a),decide_eq_true (show (0:Int) <= 1 by decide)]
 show (((a:Int).toNat &&& (1:Int).toNat:Nat):Int)=_
 rw [Int.toNat_natCast,show (1:Int).toNat=1 from rfl,Nat.and_one_is_mod]
def lkSt (w:Wd) (ps:List Int) (x:Nat) (o:Option D):SD := [some w.d,some (netV w ps),some (.int (ps.length:Nat)),some (.int x),o]
theorem lk_comp {w:Wd}{ps:List Int}{x m:Nat} (hl:ps.length <= 24):eComp (eRng1 (aCons (eVar 2) aNil)) (gN 0) g_Llooked_c1 g_Llooked_e2 1 [("_law_net_here",1),("_law_mask",4)] (lkSt w ps x (some (.int m)))=.ok (li .own (mkn ps ps.length m)):=by
 have hN:=netV_pure w ps
 have ecap:capD (lkSt w ps x (some (.int m))) [("_law_net_here",1),("_law_mask",4)]=[some (netV w ps),some (.int m)]:=by
  show [some (netV w ps).frz,some (D.int m)]=_
  rw [frz_pure _ hN]
 rw [eComp_if (fun d=>match d with | .int k=>bit m k.toNat | _=>false) (fun d=>match d with | .int k=>.int (ps.getD k.toNat 0) | _=>.non) (rng_ok (f:=eVar 2) (τ:=lkSt w ps x (some (.int m))) (n:=ps.length) rfl (by omega)) (fun d md=>?_) (fun d md _=>?_) (by rw [List.length_map,List.length_range]; omega),rng_frz,List.filter_map,List.map_map]
 ·show Res.ok (D.lst .own _)=Res.ok (D.lst .own ((((List.range ps.length).filter (bit m)).map fun k=>ps.getD k 0).map .int))
  rw [List.map_map]
  rfl
 ·rw [rng_frz] at md
  obtain ⟨k,hk,rfl⟩:=List.mem_map.mp md
  rw [ecap]
  unfold g_Llooked_c1
  have es:eBin shrD (eVar 2) (eVar 0) [some (.int k),some (netV w ps),some (.int m)]=.ok (.int ((m / 2 ^ k:Nat):Int)):=by
   rw [eBin_ok (show eVar 2 _=.ok (.int m) from rfl) (show eVar 0 _=.ok (.int k) from rfl)]
   show (if (0:Int) <= (k:Nat) then Res.ok (D.int ((m:Nat) / 2 ^ (k:Int).toNat)) else .bad)=_
   rw [if_pos (Int.natCast_nonneg k),Int.toNat_natCast]
   congr 2
  have ea:eBin andD (eBin shrD (eVar 2) (eVar 0)) (eC (.int 1)) [some (.int k),some (netV w ps),some (.int m)]=.ok (.int ((m / 2 ^ k % 2:Nat):Int)):=by
   rw [eBin_ok es (show eC (.int 1) _=.ok (.int 1) from rfl)]
   show Res.ok (D.int (Builtin.bitAnd ((m / 2 ^ k:Nat):Int) 1))=_
   rw [and1]
  rw [eqi_ok ea (show eC (.int 1) _=.ok (.int 1) from rfl)]
  show Res.ok (decide (((m / 2 ^ k % 2:Nat):Int)=1))=Res.ok (decide (m / 2 ^ k % 2=1))
  congr 1
  exact decide_eq_decide.mpr ⟨fun h=>by omega,fun h=>by omega⟩
 ·rw [rng_frz] at md
  obtain ⟨k,hk,rfl⟩:=List.mem_map.mp md
  have hk:=List.mem_range.mp hk
  rw [ecap]
  refine ⟨?_,rfl⟩
  unfold g_Llooked_e2
  refine ix_ok (ix_ok (show eVar 1 _=.ok (netV w ps) from var_p rfl hN) (show eC (.int 0) _=.ok (.int 0) from rfl) (ix_tup (j:=0) (d := .tup (ps.map .int)) rfl rfl)) rfl (ix_tup (j:=k) rfl ?_)
  show _=some (D.int (ps.getD k 0))
  rw [List.getElem?_map,List.getElem?_eq_getElem hk,List.getD_eq_getElem?_getD,List.getElem?_eq_getElem hk]
  rfl
theorem mkn_sub {ps:List Int}{m p:Nat}{x:Int} (h:x ∈ mkn ps ps.length m):x ∈ ps:=by
 unfold mkn at h
 obtain ⟨k,hk,rfl⟩:=List.mem_map.mp h
 have hk:=List.mem_range.mp (List.mem_filter.mp hk).1
 rw [List.getD_eq_getElem?_getD,List.getElem?_eq_getElem hk]
 exact List.getElem_mem hk
theorem looked_eq {w:Wd}{ps:List Int} (hg:w.good) (hp:w.leaves.Perm ps) (hs:ps.Pairwise (· < ·)) (hl:ps.length <= 24):G_Llooked [w.d]=.ok (.int (w.gc:Nat)):=by
 have hN:=netV_pure w ps
 have hnd:w.leaves.Nodup:=hp.nodup_iff.mpr (hs.imp fun h=>Int.ne_of_lt h)
 refine run_rt (τ := [some w.d,none,none,none,none]) rfl rfl ?_
 unfold g_Llooked
 have e1:eCall G_Lnet (aCons (eVar 0) aNil) [some w.d,none,none,none,none]=.ok (netV w ps):=eCall_pure (ds := [w.d]) (aOne (var_p rfl w.pure)) (by rw [frz1]; exact law_net_eq hg hp hs hl) hN
 rw [seq_nx (set_nx e1 (hasBor_pure _ hN))]
 show sSeq _ _ [some w.d,some (netV w ps),none,none,none]=_
 have e2:eA lenD (aCons (eBin ixD (eVar 1) (eC (.int 0))) aNil) [some w.d,some (netV w ps),none,none,none]=.ok (.int (ps.length:Nat)):=by
  rw [eA_ok (aOne (ix_ok (show eVar 1 _=.ok (netV w ps) from var_p rfl hN) (show eC (.int 0) _=.ok (.int 0) from rfl) (ix_tup (j:=0) (d := .tup (ps.map .int)) rfl rfl)))]
  show Res.ok (D.int ((ps.map D.int).length:Nat))=_
  rw [List.length_map]
 rw [seq_nx (set_nx e2 rfl),seq_nx (set_nx (show eC (.int 0) _=.ok (.int 0) from rfl) rfl)]
 show sSeq _ _ (lkSt w ps 0 none)=_
 let G:=Grp (shd w.deep w) w
 let L:Nat->List (List Int):=fun i=>(List.range i).map fun k=>mkn ps ps.length (1 + k)
 have h24:2 ^ ps.length <= 2 ^ 24:=Nat.pow_le_pow_right (by decide) hl
 have hpos:1 <= 2 ^ ps.length:=Nat.two_pow_pos _
 obtain ⟨t,h1,o,h2⟩:=forD_inv (tg:=gN 4) (body:=g_Llooked_b3) (fun i t=>∃ o,t=lkSt w ps (cnt G (L i)) o) (ds:=(List.range (2 ^ ps.length - 1)).map fun k:Nat=>D.int ((1:Nat) + k)) 0 (lkSt w ps 0 none) ⟨none,rfl⟩ fun k d t hd hP=>by
  obtain ⟨o,rfl⟩:=hP
  rw [Nat.zero_add] at *
  have hk:k < 2 ^ ps.length - 1:=by have:=(List.getElem?_eq_some_iff.mp hd).1; simpa using this
  have ex:d=.int ((1 + k:Nat):Int):=by
   rw [List.getElem?_map,List.getElem?_range hk] at hd
   cases hd
   congr 1
  subst ex
  have hne:mkn ps ps.length (1 + k) ≠ []:=mkn_ne (by omega) (by omega)
  obtain ⟨b,eb,ib⟩:=alike_eq (w:=w) (ps:=ps) (S:=mkn ps ps.length (1 + k)) hp hl hne fun p mp=>mkn_sub (p:=0) mp
  have ec:eT (eCall G_Lalike (aCons (eVar 1) (aCons (eComp (eRng1 (aCons (eVar 2) aNil)) (gN 0) g_Llooked_c1 g_Llooked_e2 1 [("_law_net_here",1),("_law_mask",4)]) aNil))) (lkSt w ps (cnt G (L k)) (some (.int ((1 + k:Nat):Int))))=.ok b:=by
   refine eT_ok (eCall_pure (ds := [netV w ps,li .own (mkn ps ps.length (1 + k))]) (aCons_ok (var_p rfl hN) (aOne (lk_comp hl))) ?_ rfl)
   show G_Lalike [(netV w ps).frz,(li .own (mkn ps ps.length (1 + k))).frz]=_
   rw [frz_pure _ hN,li_frz]
   exact eb
  have el:L (k + 1)=L k ++ [mkn ps ps.length (1 + k)]:=by
   show (List.range (k + 1)).map _=_
   rw [List.range_succ,List.map_append]
   rfl
  refine ⟨lkSt w ps (cnt G (L k)) (some (.int ((1 + k:Nat):Int))),lkSt w ps (cnt G (L (k + 1))) (some (.int ((1 + k:Nat):Int))),rfl,.inl ?_,_,rfl⟩
  unfold g_Llooked_b3
  rw [el,cnt_append]
  cases b with
  | true =>
   rw [if_t ec,cnt_y ⟨hne,ib.mp rfl⟩,set_nx (add_ok (a:=(cnt G (L k):Nat)) (b:=1) rfl rfl) rfl]
   rfl
  | false =>
   rw [if_f ec,cnt_n fun z=>Bool.false_ne_true (ib.mpr z.2)]
   rfl
 rw [Nat.zero_add,List.length_map,List.length_range] at h2
 have ef:cnt G (L (2 ^ ps.length - 1))=w.gc:=by
  rw [<- grp_masks hg hp hnd]
  have er:List.range (2 ^ ps.length)=0 :: (List.range (2 ^ ps.length - 1)).map Nat.succ:=by
   conv=>lhs; rw [show 2 ^ ps.length=(2 ^ ps.length - 1) + 1 by omega]
   exact List.range_succ_eq_map
  have e0:mkn ps ps.length 0=[]:=by
   unfold mkn
   have:(List.range ps.length).filter (bit 0)=[]:=List.filter_eq_nil_iff.mpr fun k _=>by unfold bit; simp
   rw [this]
   rfl
  rw [er,List.map_cons,cnt_n fun z=>z.1 e0,List.map_map]
  show cnt G ((List.range (2 ^ ps.length - 1)).map _)=_
  congr 1
  refine List.map_congr_left fun k _=>?_
  show mkn ps ps.length (1 + k)=mkn ps ps.length (k + 1)
  rw [Nat.add_comm]
 rw [ef] at h2
 subst h2
 have hit:eRng2 (aCons (eC (.int 1)) (aCons (eBin shlD (eC (.int 1)) (eVar 2)) aNil)) (lkSt w ps 0 none)=.ok (false,(List.range (2 ^ ps.length - 1)).map fun k:Nat=>D.int ((1:Nat) + k)):=by
  have es:eBin shlD (eC (.int 1)) (eVar 2) (lkSt w ps 0 none)=.ok (.int ((2 ^ ps.length:Nat):Int)):=by
   rw [eBin_ok (show eC (.int 1) _=.ok (.int 1) from rfl) (show eVar 2 _=.ok (.int (ps.length:Nat)) from rfl)]
   show (if L2.CPow 1 (ps.length:Nat) then Res.ok (D.int (1 * 2 ^ (ps.length:Int).toNat)) else .bad)=_
   rw [if_pos ⟨Int.natCast_nonneg _,by omega,by decide⟩,Int.toNat_natCast,Int.one_mul]
   congr 2
  unfold eRng2
  rw [aCons_ok (show eC (.int 1) _=.ok (.int ((1:Nat):Int)) from rfl) (aOne es),Res.bind_ok]
  exact range2_nat (by omega) (by omega)
 have e3:=for_nil (tg:=gN 4) (body:=g_Llooked_b3) hit
 rw [show frzL ((List.range (2 ^ ps.length - 1)).map fun k:Nat=>D.int ((1:Nat) + k))=(List.range (2 ^ ps.length - 1)).map fun k:Nat=>D.int ((1:Nat) + k) from frzL_pure _ (pureL_of fun d m=>by obtain ⟨k,_,rfl⟩:=List.mem_map.mp m; rfl),h1] at e3
 rw [seq_nx e3]
 rfl
theorem cell_call {ns:List Int}{r:SD}{k:Nat}:eCall G_Lcell_at (aCons (eVar 0) (aCons (eC (.int k)) aNil)) (some (Sc ns) :: r)=.ok (.int (cellAt ns k)):=by
 refine eCall_own (ds := [Sc ns,.int k]) (aCons_ok (var_frz rfl (pure_ints ns)) (aOne rfl)) ?_ ?_
 ·show G_Lcell_at [.lst .frz (frzL (ns.map .int)),.int k]=_
  rw [frz_ints]
  exact cellAt_eq ns k
 ·show ((false || hasBorL (ns.map .int)) || (false || false))=false
  rw [bor_ints]
  rfl
theorem many_ok (ns:List Int) (r:SD):∃ m:Nat,1 <= m/\m <= 24/\∀ s:SF,sSeq (sSet 1 (eBin addD (eC (.int 1)) (eBin modD (eCall G_Lcell_at (aCons (eVar 0) (aCons (eC (.int 0)) aNil))) (eC (.int 9))))) (sSeq (sIf (eT (eBin eqD (eBin modD (eBin fdivD (eCall G_Lcell_at (aCons (eVar 0) (aCons (eC (.int 0)) aNil))) (eC (.int 9))) (eC (.int 8))) (eC (.int 1)))) (sSet 1 (eBin addD (eC (.int 10)) (eBin modD (eBin fdivD (eCall G_Lcell_at (aCons (eVar 0) (aCons (eC (.int 0)) aNil))) (eC (.int 72))) (eC (.int 15))))) sNext) s) (some (Sc ns) :: none :: r)=s (some (Sc ns) :: some (.int m) :: r):=by
 have cc:∀ r:SD,eCall G_Lcell_at (aCons (eVar 0) (aCons (eC (.int 0)) aNil)) (some (Sc ns) :: r)=.ok (.int (cellAt ns 0)):=fun r=>cell_call (k:=0)
 generalize cellAt ns 0=x at cc
 have a0:=Int.emod_nonneg x (show (9:Int) ≠ 0 by decide)
 have a1:=Int.emod_lt_of_pos x (show (0:Int) < 9 by decide)
 have b0:=Int.emod_nonneg (x / 72) (show (15:Int) ≠ 0 by decide)
 have b1:=Int.emod_lt_of_pos (x / 72) (show (0:Int) < 15 by decide)
 have e1:=add_ok (f:=eC (.int 1)) (τ:=some (Sc ns) :: none :: r) (a:=1) rfl (mod_ok (cc _) (show (0:Int) < 9 by decide))
 have ci:=eqi_ok (mod_ok (fdiv_ok (cc (some (.int (1 + x % 9)) :: r)) (show (0:Int) < 9/\(9:Int) < 1073741824 by decide)) (show (0:Int) < 8 by decide)) (show eC (.int 1) _=.ok (.int 1) from rfl)
 cases hb:decide (x / 9 % 8=1) with
 | true =>
  rw [hb] at ci
  have e2:=add_ok (f:=eC (.int 10)) (τ:=some (Sc ns) :: some (.int (1 + x % 9)) :: r) (a:=10) rfl (mod_ok (fdiv_ok (cc _) (show (0:Int) < 72/\(72:Int) < 1073741824 by decide)) (show (0:Int) < 15 by decide))
  refine ⟨(10 + x / 72 % 15).toNat,by omega,by omega,fun s=>?_⟩
  rw [seq_nx (set_nx e1 rfl)]
  show sSeq _ _ (some (Sc ns) :: some (.int (1 + x % 9)) :: r)=_
  rw [seq_nx ((if_t ci).trans (set_nx e2 rfl)),Int.toNat_of_nonneg (by omega)]
  rfl
 | false =>
  rw [hb] at ci
  refine ⟨(1 + x % 9).toNat,by omega,by omega,fun s=>?_⟩
  rw [seq_nx (set_nx e1 rfl)]
  show sSeq _ _ (some (Sc ns) :: some (.int (1 + x % 9)) :: r)=_
  rw [if_go ci,Int.toNat_of_nonneg (by omega)]
theorem whole_eq (a:Int):G_Lwhole [.int a,.int a]=.ok (.bl true):=by
 refine run_rt (τ := [some (.int a),some (.int a)]) rfl rfl ?_
 unfold g_Lwhole
 refine ret_ok ?_ rfl
 show Res.ok (D.bl (xor false (decide (a=a))))=_
 rw [decide_eq_true rfl]
 rfl
theorem whole_c {f g:SD->Res D}{τ:SD}{a:Int} (hf:f τ=.ok (.int a)) (hg:g τ=.ok (.int a)):eCall G_Lwhole (aCons f (aCons g aNil)) τ=.ok (.bl true):=eCall_pure (ds := [.int a,.int a]) (aCons_ok hf (aOne hg)) (whole_eq a) rfl
theorem gcL_leaf (ps:List Int):gcL (ps.map Wd.leaf)=ps.length:=by
 induction ps with
 | nil=>rfl
 | cons p r ih=>show 1 + gcL (r.map Wd.leaf)=r.length + 1; rw [ih]; omega
theorem dL_leaf (ps:List Int):dL (ps.map Wd.leaf)=ps.map .int:=by rw [dL_map,List.map_map]; rfl
theorem lL_leaf (ps:List Int):leavesL (ps.map Wd.leaf)=ps:=by
 induction ps with
 | nil=>rfl
 | cons p r ih=>show [p] ++ leavesL (r.map Wd.leaf)=p :: r; rw [ih]; rfl
theorem wood_c {ns cs ps sh:List Int}{fc fp fs:SD->Res D}{τ:SD}{t1 t2 t3:Tg}{w:Wd} (hc:fc τ=.ok (.lst t1 (cs.map .int))) (hp:fp τ=.ok (.lst t2 (ps.map .int))) (hs:fs τ=.ok (.lst t3 (sh.map .int))) (ew:G_Lwood [.lst .frz (cs.map .int),.lst .frz (ps.map .int),.lst .frz (sh.map .int)]=.ok w.d):eCall G_Lwood (aCons fc (aCons fp (aCons fs aNil))) τ=.ok w.d:=by
 refine eCall_pure (ds := [.lst t1 (cs.map .int),.lst t2 (ps.map .int),.lst t3 (sh.map .int)]) (aCons_ok hc (aCons_ok hp (aOne hs))) ?_ w.pure
 show G_Lwood [.lst .frz (frzL (cs.map .int)),.lst .frz (frzL (ps.map .int)),.lst .frz (frzL (sh.map .int))]=_
 rw [frz_ints,frz_ints,frz_ints]
 exact ew
theorem cells_c {ns:List Int}{r:SD} (k:Nat) (hns:ns.length <= 63):eBin addD (eCut (eVar 0) (eP (eC (.int k))) eP0) (eA lstD (aCons (eCall G_Lcell_at (aCons (eVar 0) (aCons (eC (.int k)) aNil))) aNil)) (some (Sc ns) :: r)=.ok (.lst .own ((ns.drop k ++ [cellAt ns k]).map .int)):=by
 have c1:eCut (eVar 0) (eP (eC (.int k))) eP0 (some (Sc ns) :: r)=.ok (.lst .own ((ns.map .int).drop k)):=cut_from_ok (k:=k) (t := .frz) (var_frz rfl (pure_ints ns)) rfl
 have c2:eA lstD (aCons (eCall G_Lcell_at (aCons (eVar 0) (aCons (eC (.int k)) aNil))) aNil) (some (Sc ns) :: r)=.ok (.lst .own [.int (cellAt ns k)]):=by
  rw [eA_ok (aOne (cell_call (k:=k)))]
  rfl
 rw [addL_ok c1 c2 (by simp; omega),List.map_append,List.map_drop]
 rfl
theorem law_true (ns:List Int) (hns:ns.length <= 63):G_law [.lst .frz (ns.map D.int)]=.ok (.bl true):=by
 refine run_rt (τ := [some (Sc ns),none,none,none,none,none,none]) rfl rfl ?_
 unfold g_law
 obtain ⟨m,m1,m2,em⟩:=many_ok ns [none,none,none,none,none]
 rw [em]
 obtain ⟨ps,pl,pp,pb,ep⟩:=places_ok (cellAt ns 1) m1 m2
 have e2:eCall G_Lplaces (aCons (eCall G_Lcell_at (aCons (eVar 0) (aCons (eC (.int 1)) aNil))) (aCons (eVar 1) aNil)) [some (Sc ns),some (.int m),none,none,none,none,none]=.ok (.lst .own (ps.map .int)):=eCall_own (ds := [.int (cellAt ns 1),.int m]) (aCons_ok (cell_call (k:=1)) (aOne rfl)) ep rfl
 rw [seq_nx (set_nx e2 (bor_row ps))]
 obtain ⟨sh,sl,sn,sb,es⟩:=shades_ok (cellAt ns 2)
 have e3:eCall G_Lshades (aCons (eCall G_Lcell_at (aCons (eVar 0) (aCons (eC (.int 2)) aNil))) aNil) [some (Sc ns),some (.int m),some (.lst .own (ps.map .int)),none,none,none,none]=.ok (.lst .own (sh.map .int)):=eCall_own (ds := [.int (cellAt ns 2)]) (aOne (cell_call (k:=2))) es rfl
 show sSeq _ _ [some (Sc ns),some (.int m),some (.lst .own (ps.map .int)),none,none,none,none]=_
 rw [seq_nx (set_nx e3 (bor_row sh))]
 show sSeq _ _ [some (Sc ns),some (.int m),some (.lst .own (ps.map .int)),some (.lst .own (sh.map .int)),none,none,none]=_
 have hsm:∀ x ∈ sh,small x:=fun x mx=>small_of (sb x mx).1 (by have:=(sb x mx).2; omega)
 obtain ⟨w,gw,pw,ew⟩:=wood_ok (cs:=ns.drop 3 ++ [cellAt ns 3]) (ps:=ps) (sh:=sh) (fun x mx=>small_of (pb x mx).1 (by have:=(pb x mx).2; omega)) hsm sn (by simp) (by omega) (by omega) sl
 have hwl:w.leaves.length <= 24:=by rw [pw.length_eq]; omega
 have x3:eBin addD (eCut (eVar 0) (eP (eC (.int 3))) eP0) (eA lstD (aCons (eCall G_Lcell_at (aCons (eVar 0) (aCons (eC (.int 3)) aNil))) aNil)) (some (Sc ns) :: [some (.int m),some (.lst .own (ps.map .int)),some (.lst .own (sh.map .int)),none,none,none])=.ok (.lst .own ((ns.drop 3 ++ [cellAt ns 3]).map .int)):=cells_c 3 hns
 have e4:=wood_c (ns:=ns) x3 (show eVar 2 _=.ok (.lst .bor (ps.map .int)) from var_own rfl (pure_ints ps)) (show eVar 3 _=.ok (.lst .bor (sh.map .int)) from var_own rfl (pure_ints sh)) ew
 rw [seq_nx (set_nx e4 (hasBor_pure _ w.pure))]
 show sSeq _ _ [some (Sc ns),some (.int m),some (.lst .own (ps.map .int)),some (.lst .own (sh.map .int)),some w.d,none,none]=_
 have hd:=w.deep_le gw
 have c1:bNot (eT (eCall G_Lwhole (aCons (eCall G_group_count (aCons (eVar 4) aNil)) (aCons (eCall (G_Lcounted 26) (aCons (eVar 4) aNil)) aNil)))) [some (Sc ns),some (.int m),some (.lst .own (ps.map .int)),some (.lst .own (sh.map .int)),some w.d,none,none]=.ok false :=
  not_ok (b:=true) (eT_ok (whole_c (eCall_pure (ds := [w.d]) (aOne (var_p rfl w.pure)) (by rw [frz1]; exact gcount_eq gw hwl) rfl) (eCall_pure (ds := [w.d]) (aOne (var_p rfl w.pure)) (by rw [frz1]; exact counted_eq 26 w (by omega) gw hwl) rfl)))
 rw [if_go c1]
 obtain ⟨qs,ql,qp,qb,eq⟩:=places_ok (cellAt ns 3) (m:=6) (by decide) (by decide)
 have e5:eCall G_Lplaces (aCons (eCall G_Lcell_at (aCons (eVar 0) (aCons (eC (.int 3)) aNil))) (aCons (eC (.int 6)) aNil)) [some (Sc ns),some (.int m),some (.lst .own (ps.map .int)),some (.lst .own (sh.map .int)),some w.d,none,none]=.ok (.lst .own (qs.map .int)):=eCall_own (ds := [.int (cellAt ns 3),.int 6]) (aCons_ok (cell_call (k:=3)) (aOne rfl)) eq rfl
 rw [seq_nx (set_nx e5 (bor_row qs))]
 show sSeq _ _ [some (Sc ns),some (.int m),some (.lst .own (ps.map .int)),some (.lst .own (sh.map .int)),some w.d,some (.lst .own (qs.map .int)),none]=_
 have a0:=Int.emod_nonneg (cellAt ns 4) (show (5:Int) ≠ 0 by decide)
 have a1:=Int.emod_lt_of_pos (cellAt ns 4) (show (0:Int) < 5 by decide)
 obtain ⟨k,hk⟩:=Int.eq_ofNat_of_zero_le (show 0 <= 2 + cellAt ns 4 % 5 by omega)
 have hk2:2 <= k/\k <= 6:=by omega
 have ek:eBin addD (eC (.int 2)) (eBin modD (eCall G_Lcell_at (aCons (eVar 0) (aCons (eC (.int 4)) aNil))) (eC (.int 5))) [some (Sc ns),some (.int m),some (.lst .own (ps.map .int)),some (.lst .own (sh.map .int)),some w.d,some (.lst .own (qs.map .int)),none]=.ok (.int k):=by
  have x:eCall G_Lcell_at (aCons (eVar 0) (aCons (eC (.int 4)) aNil)) [some (Sc ns),some (.int m),some (.lst .own (ps.map .int)),some (.lst .own (sh.map .int)),some w.d,some (.lst .own (qs.map .int)),none]=.ok (.int (cellAt ns 4)):=cell_call (k:=4)
  rw [add_ok (f:=eC (.int 2)) (a:=2) rfl (mod_ok x (show (0:Int) < 5 by decide)),hk]
 have ecut:eCut (eVar 5) eP0 (eP (eBin addD (eC (.int 2)) (eBin modD (eCall G_Lcell_at (aCons (eVar 0) (aCons (eC (.int 4)) aNil))) (eC (.int 5))))) [some (Sc ns),some (.int m),some (.lst .own (ps.map .int)),some (.lst .own (sh.map .int)),some w.d,some (.lst .own (qs.map .int)),none]=.ok (.lst .own ((qs.take k).map .int)):=by
  unfold eCut eP
  rw [show eVar 5 [some (Sc ns),some (.int m),some (.lst .own (ps.map .int)),some (.lst .own (sh.map .int)),some w.d,some (.lst .own (qs.map .int)),none]=.ok (.lst .bor (qs.map .int)) from var_own rfl (pure_ints qs),Res.bind_ok,ek]
  show Res.ok (D.lst .own (DL.cut (qs.map D.int) none (some (k:Int))))=_
  rw [cut_to,List.map_take]
 have qtl:(qs.take k).length=k:=by rw [List.length_take]; omega
 have qtp:(qs.take k).Pairwise (· < ·):=qp.sublist (List.take_sublist k qs)
 obtain ⟨v,gv,pv,ev⟩:=wood_ok (cs:=ns.drop 4 ++ [cellAt ns 4]) (ps:=qs.take k) (sh:=sh) (fun x mx=>by have mx:=List.mem_of_mem_take mx; exact small_of (qb x mx).1 (by have:=(qb x mx).2; omega)) hsm sn (by simp) (by omega) (by omega) sl
 have hvl:v.leaves.length <= 24:=by rw [pv.length_eq]; omega
 have x4:eBin addD (eCut (eVar 0) (eP (eC (.int 4))) eP0) (eA lstD (aCons (eCall G_Lcell_at (aCons (eVar 0) (aCons (eC (.int 4)) aNil))) aNil)) (some (Sc ns) :: [some (.int m),some (.lst .own (ps.map .int)),some (.lst .own (sh.map .int)),some w.d,some (.lst .own (qs.map .int)),none])=.ok (.lst .own ((ns.drop 4 ++ [cellAt ns 4]).map .int)):=cells_c 4 hns
 have e6:=wood_c (ns:=ns) x4 ecut (show eVar 3 _=.ok (.lst .bor (sh.map .int)) from var_own rfl (pure_ints sh)) ev
 rw [seq_nx (set_nx e6 (hasBor_pure _ v.pure))]
 show sSeq _ _ [some (Sc ns),some (.int m),some (.lst .own (ps.map .int)),some (.lst .own (sh.map .int)),some w.d,some (.lst .own (qs.map .int)),some v.d]=_
 have c2:bNot (eT (eCall G_Lwhole (aCons (eCall G_group_count (aCons (eVar 6) aNil)) (aCons (eCall G_Llooked (aCons (eVar 6) aNil)) aNil)))) [some (Sc ns),some (.int m),some (.lst .own (ps.map .int)),some (.lst .own (sh.map .int)),some w.d,some (.lst .own (qs.map .int)),some v.d]=.ok false :=
  not_ok (b:=true) (eT_ok (whole_c (eCall_pure (ds := [v.d]) (aOne (var_p rfl v.pure)) (by rw [frz1]; exact gcount_eq gv hvl) rfl) (eCall_pure (ds := [v.d]) (aOne (var_p rfl v.pure)) (by rw [frz1]; exact looked_eq gv pv qtp (by omega)) rfl)))
 rw [if_go c2]
 generalize hτ:([some (Sc ns),some (.int m),some (.lst .own (ps.map .int)),some (.lst .own (sh.map .int)),some w.d,some (.lst .own (qs.map .int)),some v.d]:SD)=τ
 have v1:eVar 1 τ=.ok (.int m):=by subst hτ; rfl
 have v2:eVar 2 τ=.ok (.lst .bor (ps.map .int)):=by subst hτ; exact var_own rfl (pure_ints ps)
 have v3:eVar 3 τ=.ok (.lst .bor (sh.map .int)):=by subst hτ; exact var_own rfl (pure_ints sh)
 have c3:=eqi_ok v1 (show eC (.int 1) τ=.ok (.int 1) from rfl)
 have hps:∀ x ∈ ps,small x:=fun x mx=>small_of (pb x mx).1 (by have:=(pb x mx).2; omega)
 by_cases he:((m:Nat):Int)=1
 ·rw [decide_eq_true he] at c3
  obtain ⟨p,rfl⟩:∃ p,ps=[p]:=by
   match ps,(show ps.length=1 by omega) with
   | [p],_=>exact ⟨p,rfl⟩
  have ei:eBin ixD (eVar 2) (eC (.int 0)) τ=.ok (.int p):=ix_ok v2 (show eC (.int 0) _=.ok (.int 0) from rfl) (ix_lst (j:=0) rfl rfl)
  exact if_rt c3 (ret_ok (whole_c (a:=1) (eCall_pure (ds := [.int p]) (aOne ei) (gcount_eq (w := .leaf p) (hps p List.mem_cons_self) (show 1 <= 24 by decide)) rfl) rfl) rfl)
 ·rw [decide_eq_false he] at c3
  rw [if_go c3]
  obtain ⟨s0,sr,rfl⟩:∃ s0 sr,sh=s0 :: sr:=by
   cases sh with
   | nil=>cases sl
   | cons a r=>exact ⟨a,r,rfl⟩
  have ei:eBin ixD (eVar 3) (eC (.int 0)) τ=.ok (.int s0):=ix_ok v3 (show eC (.int 0) _=.ok (.int 0) from rfl) (ix_lst (j:=0) rfl rfl)
  have et:eA tupleD (aCons (eVar 2) aNil) τ=.ok (.tup (ps.map .int)):=(eA_ok (aOne v2)).trans rfl
  let W:Wd := .flat s0 (ps.map Wd.leaf)
  have eW:eA tupD (aCons (eC (.str "flat")) (aCons (eBin ixD (eVar 3) (eC (.int 0))) (aCons (eA tupleD (aCons (eVar 2) aNil)) aNil))) τ=.ok W.d:=by
   rw [eA_ok (aCons_ok (show eC (.str "flat") τ=.ok (.str "flat") from rfl) (aCons_ok ei (aOne et)))]
   show Res.ok (D.tup [.str "flat",.int s0,.tup (ps.map .int)])=Res.ok (D.tup [.str "flat",.int s0,.tup (dL (ps.map Wd.leaf))])
   rw [dL_leaf]
  have gW:W.good:=⟨by rw [List.length_map]; omega,leaf_g ps hps,hsm s0 List.mem_cons_self,fun b mb=>by obtain ⟨p,_,rfl⟩:=List.mem_map.mp mb; exact fun z=>z⟩
  have lW:W.leaves.length <= 24:=by show (leavesL (ps.map Wd.leaf)).length <= 24; rw [lL_leaf]; omega
  have es2:eBin shlD (eC (.int 1)) (eVar 1) τ=.ok (.int ((2 ^ m:Nat):Int)):=by
   rw [eBin_ok (show eC (.int 1) _=.ok (.int 1) from rfl) v1]
   show (if L2.CPow 1 (m:Nat) then Res.ok (D.int (1 * 2 ^ (m:Int).toNat)) else .bad)=_
   rw [if_pos ⟨Int.natCast_nonneg _,by omega,by decide⟩,Int.toNat_natCast,Int.one_mul]
   congr 2
  have hgc:((W.gc:Nat):Int)=((2 ^ m:Nat):Int) - 1:=by
   show ((gcL (ps.map Wd.leaf) + (2 ^ (ps.map Wd.leaf).length - (ps.map Wd.leaf).length - 1):Nat):Int)=_
   rw [gcL_leaf,List.length_map,pl]
   have:=pow_big m
   omega
  refine ret_ok (whole_c (a:=(W.gc:Nat)) (eCall_pure (ds := [W.d]) (aOne eW) (by rw [frz1]; exact gcount_eq gW lW) rfl) ?_) rfl
  rw [eBin_ok es2 (show eC (.int 1) _=.ok (.int 1) from rfl),hgc]
  rfl
end KL
namespace KL
open PySem PySem.Spec PyProof.Rows L2 DL
theorem txt_mk {K:PySem.W.Frag}{h:Heap}{mg:Str->Option Value} (X:K.In h) (G:h.Ns mainGlobals mg) (z_bool:PySem.W.nsIn K mainGlobals "bool" = some none) (z_enumerate:PySem.W.nsIn K mainGlobals "enumerate" = some none) (z_int:PySem.W.nsIn K mainGlobals "int" = some none) (z_isinstance:PySem.W.nsIn K mainGlobals "isinstance" = some none) (z_len:PySem.W.nsIn K mainGlobals "len" = some none) (z_max:PySem.W.nsIn K mainGlobals "max" = some none) (z_min:PySem.W.nsIn K mainGlobals "min" = some none) (z_range:PySem.W.nsIn K mainGlobals "range" = some none) (z_sorted:PySem.W.nsIn K mainGlobals "sorted" = some none) (z_sum:PySem.W.nsIn K mainGlobals "sum" = some none) (z_tuple:PySem.W.nsIn K mainGlobals "tuple" = some none)  : Txt mg :=
 ⟨PySem.W.mg_none_of X G z_bool,PySem.W.mg_none_of X G z_enumerate,PySem.W.mg_none_of X G z_int,PySem.W.mg_none_of X G z_isinstance,PySem.W.mg_none_of X G z_len,PySem.W.mg_none_of X G z_max,PySem.W.mg_none_of X G z_min,PySem.W.mg_none_of X G z_range,PySem.W.mg_none_of X G z_sorted,PySem.W.mg_none_of X G z_sum,PySem.W.mg_none_of X G z_tuple⟩
theorem defs_ok {l:PySem.W.OpenLaw}{w:World}{K:PySem.W.Frag}{h:Heap}{mg:Str->Option Value}{fa:Addr} (X:K.In h) (G:h.Ns mainGlobals mg) (hfa:mg "law" = some (.ref fa)) (T:Txt mg)
  (D_is_leaf:Dfn K mg "is_leaf" s_is_leaf ["knot"])
  (D_is_flat:Dfn K mg "is_flat" s_is_flat ["knot"])
  (D_branches_of:Dfn K mg "branches_of" s_branches_of ["knot"])
  (D_knots_down:Dfn K mg "knots_down" s_knots_down ["wood"])
  (D_power_of_two:Dfn K mg "power_of_two" s_power_of_two ["exponent"])
  (D_group_count:Dfn K mg "group_count" s_group_count ["wood"])
  (D_Lcell_at:Dfn K mg "_law_cell_at" s_Lcell_at ["_law_script","_law_k"])
  (D_Lmix:Dfn K mg "_law_mix" s_Lmix ["_law_cell","_law_k","_law_many"])
  (D_Lleaves:Dfn K mg "_law_leaves" s_Lleaves ["_law_wood_here"])
  (D_Lhead:Dfn K mg "_law_head" s_Lhead ["_law_wood_here"])
  (D_Lflat:Dfn K mg "_law_flat" s_Lflat ["_law_shade","_law_woods"])
  (D_Lgrown:Dfn K mg "_law_grown" s_Lgrown ["_law_rows","_law_got"])
  (D_Lnone_together:Dfn K mg "_law_none_together" s_Lnone_together ["_law_rows"])
  (D_Lprime_rows:Dfn K mg "_law_prime_rows" s_Lprime_rows ["_law_cell","_law_many","_law_shades_here"])
  (D_Lprime:Dfn K mg "_law_prime" s_Lprime ["_law_cell","_law_woods","_law_shades_here"])
  (D_Lwood:Dfn K mg "_law_wood" s_Lwood ["_law_cells","_law_places_here","_law_shades_here"])
  (D_Lplaces:Dfn K mg "_law_places" s_Lplaces ["_law_cell","_law_many"])
  (D_Lshades:Dfn K mg "_law_shades" s_Lshades ["_law_cell"])
  (D_Lfill:Dfn K mg "_law_fill" s_Lfill ["_law_shade_of","_law_wood_here"])
  (D_Lnet:Dfn K mg "_law_net" s_Lnet ["_law_wood_here"])
  (D_Lalike:Dfn K mg "_law_alike" s_Lalike ["_law_net_here","_law_some"])
  (D_Lcounted:Dfn K mg "_law_counted" s_Lcounted ["_law_wood_here"])
  (D_Llooked:Dfn K mg "_law_looked" s_Llooked ["_law_wood_here"])
  (D_Lwhole:Dfn K mg "_law_whole" s_Lwhole ["_law_found","_law_due"])
  {f:Addr}{oc:Value}{od an:Option Addr}{osl:Array (Option Value)}{kV doc pm cdv ct:Value} (a:PySem.W.nsIn K mainGlobals "law" = some (some (.ref f)))
  (lk:K.lookup f=some ⟨oc,od,.func (PySem.W.fnOf "law" "law" (defArgs s_law) (defBody s_law) (defScope s_law) .none kV doc pm an cdv ct),osl⟩) (c:PySem.W.codeIn K cdv "law" = true) (k:PySem.W.keepIn K (.ref f)=true) :
  ∃ fd:FuncData,(∀ (s:Shared) (v:Value),BindsTo s fd ⟨[v],[]⟩ [("_law_script",v)])/\∀ base:Heap,K.In base->base.Ns mainGlobals mg->FnOk l.prog w K mg base CX0 33 fa fd ["_law_script"] (spF K G_law):=by
 have e:=hfa.symm.trans (PySem.W.mg_of X G a)
 cases e
 refine ⟨PySem.W.fnOf "law" "law" (defArgs s_law) (defBody s_law) (defScope s_law) .none kV doc pm an cdv ct,fun s v=>.of_eq rfl,fun base _ _=>?_⟩
 have C_is_leaf:=ok_is_leaf (P:=l.prog) (w:=w) (base:=base) T  D_is_leaf
 have C_is_flat:=ok_is_flat (P:=l.prog) (w:=w) (base:=base) T C_is_leaf D_is_flat
 have C_branches_of:=ok_branches_of (P:=l.prog) (w:=w) (base:=base) T C_is_leaf D_branches_of
 have C_knots_down:=ok_knots_down (P:=l.prog) (w:=w) (base:=base) T C_branches_of D_knots_down
 have C_power_of_two:=ok_power_of_two (P:=l.prog) (w:=w) (base:=base) T  D_power_of_two
 have C_group_count:=ok_group_count (P:=l.prog) (w:=w) (base:=base) T C_is_flat C_branches_of C_knots_down C_power_of_two D_group_count
 have C_Lcell_at:=ok_Lcell_at (P:=l.prog) (w:=w) (base:=base) T  D_Lcell_at
 have C_Lmix:=ok_Lmix (P:=l.prog) (w:=w) (base:=base) T  D_Lmix
 have C_Lleaves:=ok_Lleaves (P:=l.prog) (w:=w) (base:=base) T  D_Lleaves 26
 have C_Lhead:=ok_Lhead (P:=l.prog) (w:=w) (base:=base) T C_Lleaves D_Lhead
 have C_Lflat:=ok_Lflat (P:=l.prog) (w:=w) (base:=base) T C_Lhead D_Lflat
 have C_Lgrown:=ok_Lgrown (P:=l.prog) (w:=w) (base:=base) T  D_Lgrown
 have C_Lnone_together:=ok_Lnone_together (P:=l.prog) (w:=w) (base:=base) T C_Lgrown D_Lnone_together
 have C_Lprime_rows:=ok_Lprime_rows (P:=l.prog) (w:=w) (base:=base) T C_Lmix C_Lnone_together D_Lprime_rows
 have C_Lprime:=ok_Lprime (P:=l.prog) (w:=w) (base:=base) T C_Lhead C_Lprime_rows D_Lprime
 have C_Lwood:=ok_Lwood (P:=l.prog) (w:=w) (base:=base) T C_Lmix C_Lflat C_Lprime D_Lwood
 have C_Lplaces:=ok_Lplaces (P:=l.prog) (w:=w) (base:=base) T C_Lmix D_Lplaces
 have C_Lshades:=ok_Lshades (P:=l.prog) (w:=w) (base:=base) T  D_Lshades
 have C_Lfill:=ok_Lfill (P:=l.prog) (w:=w) (base:=base) T  D_Lfill 26
 have C_Lnet:=ok_Lnet (P:=l.prog) (w:=w) (base:=base) T C_Lfill D_Lnet
 have C_Lalike:=ok_Lalike (P:=l.prog) (w:=w) (base:=base) T  D_Lalike
 have C_Lcounted:=ok_Lcounted (P:=l.prog) (w:=w) (base:=base) T  D_Lcounted 26
 have C_Llooked:=ok_Llooked (P:=l.prog) (w:=w) (base:=base) T C_Lnet C_Lalike D_Llooked
 have C_Lwhole:=ok_Lwhole (P:=l.prog) (w:=w) (base:=base) T  D_Lwhole
 exact fn_law T C_group_count C_Lcell_at C_Lwood C_Lplaces C_Lshades C_Lcounted C_Llooked C_Lwhole (fun_mk (st:=s_law) lk c k)
end KL
open PySem PySem.W PyProof.Rows
set_option maxRecDepth 100000 in
set_option maxHeartbeats 0 in
theorem PySem.Challenge.cw_modulewood_k23_groups_counted_holds : PySem.Challenge.rw_modulewood_k23_groups_counted.Holds := by
 w_on; o_law; k_head; (case hw=>w_witness2)
 k_fill
 refine L2.walk_of (l:=PySem.Challenge.rw_modulewood_k23_groups_counted) (n:=63) (k:=33) (x := "_law_script") (CX:=fun _=>L2.CX0) (sp:=fun w=>DL.spF _ KL.G_law) rfl (by decide) rfl ⟨rfl,by decide,by decide⟩ (fun w h Y=>PySem.W.kIn_of Y) ?F (fun w H a ns hl _ hS=>DL.law_sp hS (KL.law_true ns hl)) fun _ _ _ _ _ z=>z
 case F =>
  intro w mg fa h KX G hmg
  have T:KL.Txt mg:=by
   refine' KL.txt_mk KX G ?z0 ?z1 ?z2 ?z3 ?z4 ?z5 ?z6 ?z7 ?z8 ?z9 ?z10
   (case z0=>k_is)
   (case z1=>k_is)
   (case z2=>k_is)
   (case z3=>k_is)
   (case z4=>k_is)
   (case z5=>k_is)
   (case z6=>k_is)
   (case z7=>k_is)
   (case z8=>k_is)
   (case z9=>k_is)
   (case z10=>k_is)
  have D_is_leaf:L2.Dfn (L2.KOf KX) mg "is_leaf" KL.s_is_leaf ["knot"]:=by
   dsimp only [L2.KOf]
   refine' DL.dfn_mk KX G ?a ?l ?c ?k (fun _ _ _ _ _ _ us hl=>match us,hl with | [_],_=>rfl)
   (case a=>k_is); (case l=>k_is); (case c=>k_is); (case k=>k_is)
  have D_is_flat:L2.Dfn (L2.KOf KX) mg "is_flat" KL.s_is_flat ["knot"]:=by
   dsimp only [L2.KOf]
   refine' DL.dfn_mk KX G ?a ?l ?c ?k (fun _ _ _ _ _ _ us hl=>match us,hl with | [_],_=>rfl)
   (case a=>k_is); (case l=>k_is); (case c=>k_is); (case k=>k_is)
  have D_branches_of:L2.Dfn (L2.KOf KX) mg "branches_of" KL.s_branches_of ["knot"]:=by
   dsimp only [L2.KOf]
   refine' DL.dfn_mk KX G ?a ?l ?c ?k (fun _ _ _ _ _ _ us hl=>match us,hl with | [_],_=>rfl)
   (case a=>k_is); (case l=>k_is); (case c=>k_is); (case k=>k_is)
  have D_knots_down:L2.Dfn (L2.KOf KX) mg "knots_down" KL.s_knots_down ["wood"]:=by
   dsimp only [L2.KOf]
   refine' DL.dfn_mk KX G ?a ?l ?c ?k (fun _ _ _ _ _ _ us hl=>match us,hl with | [_],_=>rfl)
   (case a=>k_is); (case l=>k_is); (case c=>k_is); (case k=>k_is)
  have D_power_of_two:L2.Dfn (L2.KOf KX) mg "power_of_two" KL.s_power_of_two ["exponent"]:=by
   dsimp only [L2.KOf]
   refine' DL.dfn_mk KX G ?a ?l ?c ?k (fun _ _ _ _ _ _ us hl=>match us,hl with | [_],_=>rfl)
   (case a=>k_is); (case l=>k_is); (case c=>k_is); (case k=>k_is)
  have D_group_count:L2.Dfn (L2.KOf KX) mg "group_count" KL.s_group_count ["wood"]:=by
   dsimp only [L2.KOf]
   refine' DL.dfn_mk KX G ?a ?l ?c ?k (fun _ _ _ _ _ _ us hl=>match us,hl with | [_],_=>rfl)
   (case a=>k_is); (case l=>k_is); (case c=>k_is); (case k=>k_is)
  have D_Lcell_at:L2.Dfn (L2.KOf KX) mg "_law_cell_at" KL.s_Lcell_at ["_law_script","_law_k"]:=by
   dsimp only [L2.KOf]
   refine' DL.dfn_mk KX G ?a ?l ?c ?k (fun _ _ _ _ _ _ us hl=>match us,hl with | [_,_],_=>rfl)
   (case a=>k_is); (case l=>k_is); (case c=>k_is); (case k=>k_is)
  have D_Lmix:L2.Dfn (L2.KOf KX) mg "_law_mix" KL.s_Lmix ["_law_cell","_law_k","_law_many"]:=by
   dsimp only [L2.KOf]
   refine' DL.dfn_mk KX G ?a ?l ?c ?k (fun _ _ _ _ _ _ us hl=>match us,hl with | [_,_,_],_=>rfl)
   (case a=>k_is); (case l=>k_is); (case c=>k_is); (case k=>k_is)
  have D_Lleaves:L2.Dfn (L2.KOf KX) mg "_law_leaves" KL.s_Lleaves ["_law_wood_here"]:=by
   dsimp only [L2.KOf]
   refine' DL.dfn_mk KX G ?a ?l ?c ?k (fun _ _ _ _ _ _ us hl=>match us,hl with | [_],_=>rfl)
   (case a=>k_is); (case l=>k_is); (case c=>k_is); (case k=>k_is)
  have D_Lhead:L2.Dfn (L2.KOf KX) mg "_law_head" KL.s_Lhead ["_law_wood_here"]:=by
   dsimp only [L2.KOf]
   refine' DL.dfn_mk KX G ?a ?l ?c ?k (fun _ _ _ _ _ _ us hl=>match us,hl with | [_],_=>rfl)
   (case a=>k_is); (case l=>k_is); (case c=>k_is); (case k=>k_is)
  have D_Lflat:L2.Dfn (L2.KOf KX) mg "_law_flat" KL.s_Lflat ["_law_shade","_law_woods"]:=by
   dsimp only [L2.KOf]
   refine' DL.dfn_mk KX G ?a ?l ?c ?k (fun _ _ _ _ _ _ us hl=>match us,hl with | [_,_],_=>rfl)
   (case a=>k_is); (case l=>k_is); (case c=>k_is); (case k=>k_is)
  have D_Lgrown:L2.Dfn (L2.KOf KX) mg "_law_grown" KL.s_Lgrown ["_law_rows","_law_got"]:=by
   dsimp only [L2.KOf]
   refine' DL.dfn_mk KX G ?a ?l ?c ?k (fun _ _ _ _ _ _ us hl=>match us,hl with | [_,_],_=>rfl)
   (case a=>k_is); (case l=>k_is); (case c=>k_is); (case k=>k_is)
  have D_Lnone_together:L2.Dfn (L2.KOf KX) mg "_law_none_together" KL.s_Lnone_together ["_law_rows"]:=by
   dsimp only [L2.KOf]
   refine' DL.dfn_mk KX G ?a ?l ?c ?k (fun _ _ _ _ _ _ us hl=>match us,hl with | [_],_=>rfl)
   (case a=>k_is); (case l=>k_is); (case c=>k_is); (case k=>k_is)
  have D_Lprime_rows:L2.Dfn (L2.KOf KX) mg "_law_prime_rows" KL.s_Lprime_rows ["_law_cell","_law_many","_law_shades_here"]:=by
   dsimp only [L2.KOf]
   refine' DL.dfn_mk KX G ?a ?l ?c ?k (fun _ _ _ _ _ _ us hl=>match us,hl with | [_,_,_],_=>rfl)
   (case a=>k_is); (case l=>k_is); (case c=>k_is); (case k=>k_is)
  have D_Lprime:L2.Dfn (L2.KOf KX) mg "_law_prime" KL.s_Lprime ["_law_cell","_law_woods","_law_shades_here"]:=by
   dsimp only [L2.KOf]
   refine' DL.dfn_mk KX G ?a ?l ?c ?k (fun _ _ _ _ _ _ us hl=>match us,hl with | [_,_,_],_=>rfl)
   (case a=>k_is); (case l=>k_is); (case c=>k_is); (case k=>k_is)
  have D_Lwood:L2.Dfn (L2.KOf KX) mg "_law_wood" KL.s_Lwood ["_law_cells","_law_places_here","_law_shades_here"]:=by
   dsimp only [L2.KOf]
   refine' DL.dfn_mk KX G ?a ?l ?c ?k (fun _ _ _ _ _ _ us hl=>match us,hl with | [_,_,_],_=>rfl)
   (case a=>k_is); (case l=>k_is); (case c=>k_is); (case k=>k_is)
  have D_Lplaces:L2.Dfn (L2.KOf KX) mg "_law_places" KL.s_Lplaces ["_law_cell","_law_many"]:=by
   dsimp only [L2.KOf]
   refine' DL.dfn_mk KX G ?a ?l ?c ?k (fun _ _ _ _ _ _ us hl=>match us,hl with | [_,_],_=>rfl)
   (case a=>k_is); (case l=>k_is); (case c=>k_is); (case k=>k_is)
  have D_Lshades:L2.Dfn (L2.KOf KX) mg "_law_shades" KL.s_Lshades ["_law_cell"]:=by
   dsimp only [L2.KOf]
   refine' DL.dfn_mk KX G ?a ?l ?c ?k (fun _ _ _ _ _ _ us hl=>match us,hl with | [_],_=>rfl)
   (case a=>k_is); (case l=>k_is); (case c=>k_is); (case k=>k_is)
  have D_Lfill:L2.Dfn (L2.KOf KX) mg "_law_fill" KL.s_Lfill ["_law_shade_of","_law_wood_here"]:=by
   dsimp only [L2.KOf]
   refine' DL.dfn_mk KX G ?a ?l ?c ?k (fun _ _ _ _ _ _ us hl=>match us,hl with | [_,_],_=>rfl)
   (case a=>k_is); (case l=>k_is); (case c=>k_is); (case k=>k_is)
  have D_Lnet:L2.Dfn (L2.KOf KX) mg "_law_net" KL.s_Lnet ["_law_wood_here"]:=by
   dsimp only [L2.KOf]
   refine' DL.dfn_mk KX G ?a ?l ?c ?k (fun _ _ _ _ _ _ us hl=>match us,hl with | [_],_=>rfl)
   (case a=>k_is); (case l=>k_is); (case c=>k_is); (case k=>k_is)
  have D_Lalike:L2.Dfn (L2.KOf KX) mg "_law_alike" KL.s_Lalike ["_law_net_here","_law_some"]:=by
   dsimp only [L2.KOf]
   refine' DL.dfn_mk KX G ?a ?l ?c ?k (fun _ _ _ _ _ _ us hl=>match us,hl with | [_,_],_=>rfl)
   (case a=>k_is); (case l=>k_is); (case c=>k_is); (case k=>k_is)
  have D_Lcounted:L2.Dfn (L2.KOf KX) mg "_law_counted" KL.s_Lcounted ["_law_wood_here"]:=by
   dsimp only [L2.KOf]
   refine' DL.dfn_mk KX G ?a ?l ?c ?k (fun _ _ _ _ _ _ us hl=>match us,hl with | [_],_=>rfl)
   (case a=>k_is); (case l=>k_is); (case c=>k_is); (case k=>k_is)
  have D_Llooked:L2.Dfn (L2.KOf KX) mg "_law_looked" KL.s_Llooked ["_law_wood_here"]:=by
   dsimp only [L2.KOf]
   refine' DL.dfn_mk KX G ?a ?l ?c ?k (fun _ _ _ _ _ _ us hl=>match us,hl with | [_],_=>rfl)
   (case a=>k_is); (case l=>k_is); (case c=>k_is); (case k=>k_is)
  have D_Lwhole:L2.Dfn (L2.KOf KX) mg "_law_whole" KL.s_Lwhole ["_law_found","_law_due"]:=by
   dsimp only [L2.KOf]
   refine' DL.dfn_mk KX G ?a ?l ?c ?k (fun _ _ _ _ _ _ us hl=>match us,hl with | [_,_],_=>rfl)
   (case a=>k_is); (case l=>k_is); (case c=>k_is); (case k=>k_is)
  refine' KL.defs_ok KX G hmg T D_is_leaf D_is_flat D_branches_of D_knots_down D_power_of_two D_group_count D_Lcell_at D_Lmix D_Lleaves D_Lhead D_Lflat D_Lgrown D_Lnone_together D_Lprime_rows D_Lprime D_Lwood D_Lplaces D_Lshades D_Lfill D_Lnet D_Lalike D_Lcounted D_Llooked D_Lwhole ?a ?l ?c ?k
  (case a=>k_is); (case l=>k_is); (case c=>k_is); (case k=>k_is)
