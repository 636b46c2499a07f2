import PyProof.Rows.All
import Wide.All
import OpenK.AllK
import Wide.FinOn
import PySem.Challenge.RW_modulewood_k07_pulled
import Lean
import PyProof.EqAt
import PyProof.EqKinds
import PyProof.TupleCall
import PyProof.SetScanFacts
import PyProof.Rows.SetFrom
import PyProof.FactsAll.set
import PyProof.Comp
import PyProof.Walks
import PyProof.TupleIter
import PyProof.CollectWalk
import PyProof.Rows.SortWalk
import PyProof.Rows.SortShell
import PyProof.DictIter
import PyProof.DictWalks
import PyProof.DictItems
import PyProof.EnumIter
import PyProof.Walk
import PyProof.WalkLemmas
import PyProof.NeKinds
noncomputable section
set_option Elab.async false
set_option linter.all false
set_option maxRecDepth 100000
set_option maxHeartbeats 0
namespace L2
theorem ex5 {α β:Sort _}{p q r:α->β->Prop}{C:Prop} (h:∃ a b,p a b/\q a b/\r a b) (k:∀ a b,p a b->q a b->r a b->C):C:=h.elim fun a h=>h.elim fun b h=>k a b h.1 h.2.1 h.2.2
open PySem PySem.Spec PyProof.Rows
def TupN (h:Heap) (a:Addr) (items:Array Value):Prop := ∃ n,h.get? a=some { cls := .type "tuple",data := .seq items n }
theorem TupN.is {h:Heap}{a:Addr}{items:Array Value} (x:TupN h a items):IsTup h a items:=let ⟨n,e⟩:=x; ⟨_,e,rfl,n,rfl⟩
theorem TupN.new (h:Heap) (items:Array Value):TupN (h.push { cls := .type "tuple",data := .seq items }) h.objs.size items:=⟨_,Heap.get?_push_size _ rfl⟩
abbrev Key:=Sum Int Str
def keyIs:Key->Value->Bool
 | .inl k,v=>Value.isInt k v
 | .inr x,v=>Value.isStrOf x v
def keyH (w:World):Key->Int
 | .inl k=>hashInt k
 | .inr x=>hashStr w x
theorem keyIs_shape:∀ {k:Key}{v:Value},keyIs k v=true->(∃ i t,k=Sum.inl i/\v=Value.int i t) ∨ (∃ x t,k=Sum.inr x/\v=Value.str x t)
 | .inl i,v,h=>by
  obtain ⟨t,e⟩:=Value.isInt_shape (k:=i) (v:=v) h
  exact .inl ⟨i,t,rfl,e⟩
 | .inr x,v,h=>by
  obtain ⟨t,e⟩:=Value.isStrOf_shape (x:=x) (v:=v) h
  exact .inr ⟨x,t,rfl,e⟩
theorem keyIs_int (i:Int) (t:Tok):keyIs (.inl i) (.int i t)=true:=by simp [keyIs,Value.isInt]
theorem keyIs_str (x:Str) (t:Tok):keyIs (.inr x) (.str x t)=true:=by simp [keyIs,Value.isStrOf]
theorem key_ll (a b:Int):decide ((Sum.inl a:Key)=Sum.inl b)=(a == b):=by
 by_cases e:a=b
 ·subst e; simp
 ·have h:¬ (Sum.inl a:Key)=Sum.inl b:=fun q=>e (Sum.inl.inj q)
  rw [decide_eq_false h]
  exact (beq_eq_false_iff_ne.mpr e).symm
theorem key_rr (a b:Str):decide ((Sum.inr a:Key)=Sum.inr b)=decide (a=b):=by
 by_cases e:a=b
 ·subst e; simp
 ·have h:¬ (Sum.inr a:Key)=Sum.inr b:=fun q=>e (Sum.inr.inj q)
  rw [decide_eq_false h,decide_eq_false e]
theorem key_lr (a:Int) (b:Str):decide ((Sum.inl a:Key)=Sum.inr b)=false:=decide_eq_false (fun q=>nomatch q)
theorem key_rl (a:Str) (b:Int):decide ((Sum.inr a:Key)=Sum.inl b)=false:=decide_eq_false (fun q=>nomatch q)
def mixKind (prog:Program) (w:World):PySem.KeyKind prog w Key where
 is:=keyIs
 hash:=keyH w
 inj:=fun v a b ha hb=>by
  rcases keyIs_shape ha with ⟨i,t,rfl,rfl⟩ | ⟨x,t,rfl,rfl⟩
  ·rcases keyIs_shape hb with ⟨j,u,rfl,e⟩ | ⟨y,u,rfl,e⟩
   ·injection e with e1 _; rw [e1]
   ·exact nomatch e
  ·rcases keyIs_shape hb with ⟨j,u,rfl,e⟩ | ⟨y,u,rfl,e⟩
   ·exact nomatch e
   ·injection e with e1 _; rw [e1]
 byValue:=fun k v h=>by
  rcases keyIs_shape h with ⟨i,t,rfl,rfl⟩ | ⟨x,t,rfl,rfl⟩ <;> rfl
 pyHash:=fun hv h=>by
  rcases keyIs_shape hv with ⟨i,t,rfl,rfl⟩ | ⟨x,t,rfl,rfl⟩
  ·exact wpAny_pyHash_int h
  ·exact wpAny_pyHash_str h
 eqBool:=fun hu hv h=>by
  rcases keyIs_shape hu with ⟨i,t,rfl,rfl⟩ | ⟨x,t,rfl,rfl⟩
  ·rcases keyIs_shape hv with ⟨j,u,rfl,rfl⟩ | ⟨y,u,rfl,rfl⟩
   ·rw [key_ll] at h; exact wpAny_eqBool_int h
   ·rw [key_lr] at h; exact SeqAt.EqAt.int_str i t y u _ _ _ _ h
  ·rcases keyIs_shape hv with ⟨j,u,rfl,rfl⟩ | ⟨y,u,rfl,rfl⟩
   ·rw [key_rl] at h; exact SeqAt.EqAt.str_int x t j u _ _ _ _ h
   ·rw [key_rr] at h; exact wpAny_eqBool_str h
 «strs» := fun k x t v h=>by
  rcases keyIs_shape h with ⟨i,u,rfl,e⟩ | ⟨y,u,rfl,e⟩
  ·exact nomatch e
  ·injection e with e1 _
   subst e1
   cases v <;> rfl
theorem mixKind_int (prog:Program) (w:World) (i:Int) (t:Tok):(mixKind prog w).is (.inl i) (.int i t)=true:=keyIs_int i t
theorem mixKind_str (prog:Program) (w:World) (x:Str) (t:Tok):(mixKind prog w).is (.inr x) (.str x t)=true:=keyIs_str x t
inductive V where
 | non | bl (b:Bool) | int (i:Int) | str (x:Str) | byt (b:Array UInt8) | flt (b:UInt64) | ref (a:Addr) | ty (n:String)
 deriving DecidableEq
def RelV:V->Value->Prop
 | .non,u=>u=Value.none
 | .bl b,u=>u=Value.bool b
 | .int i,u=>∃ t,u=Value.int i t
 | .str x,u=>∃ t,u=Value.str x t
 | .byt b,u=>∃ t,u=Value.bytes b t
 | .flt b,u=>∃ t,u=Value.float b t
 | .ref a,u=>u=Value.ref a
 | .ty n,u=>u=Value.type n
abbrev Vals:List V->List Value->Prop:=Paired RelV
theorem Vals.length {xs:List V}{us:List Value} (r:Vals xs us):xs.length=us.length:=Paired.length r
theorem Vals.get:∀ {xs:List V}{us:List Value}{i:Nat}{x:V},Vals xs us->xs[i]?=some x->∃ u,us[i]?=some u/\RelV x u
 | _,_,_,_,.nil,e=>by simp at e
 | _,_,0,_,.cons r _,e=>by simp at e; subst e; exact ⟨_,rfl,r⟩
 | _,_,i + 1,x,.cons _ t,e=>by
  obtain ⟨u,h1,h2⟩:=Vals.get (i:=i) (x:=x) t (by simpa using e)
  exact ⟨u,by simpa using h1,h2⟩
theorem Vals.append:∀ {xs ys:List V}{us ws:List Value},Vals xs us->Vals ys ws->Vals (xs ++ ys) (us ++ ws)
 | _,_,_,_,.nil,s=>s
 | _,_,_,_,.cons r t,s=>.cons r (Vals.append t s)
theorem Vals.take:∀ {xs:List V}{us:List Value} (n:Nat),Vals xs us->Vals (xs.take n) (us.take n)
 | _,_,0,_=>.nil
 | _,_,_ + 1,.nil=>.nil
 | _,_,n + 1,.cons r t=>.cons r (Vals.take n t)
theorem Vals.drop:∀ {xs:List V}{us:List Value} (n:Nat),Vals xs us->Vals (xs.drop n) (us.drop n)
 | _,_,0,r=>r
 | _,_,_ + 1,.nil=>.nil
 | _,_,n + 1,.cons _ t=>Vals.drop n t
def RelO:Option V->Option Value->Prop
 | some v,some u=>RelV v u
 | none,none=>True
 | _,_=>False
def KV {κ:Type}:List (κ × V)->List (κ × Value)->Prop:=Paired fun (p:κ × V) (q:κ × Value)=>p.1=q.1/\RelV p.2 q.2
def kV:Key->V
 | .inl i=>.int i
 | .inr x=>.str x
inductive HO where
 | lst (xs:List V)
 | tup (xs:List V)
 | dK (kvs:List (Key × V)) (ep:Nat) | dT (kvs:List (List Key × V)) (ep:Nat)
 | set (S:Int->Bool) (n:Nat)
 | ins (C dx:Addr) (fs:List (Str × V))
 | own (x:Addr)
 | xd (fs:List (Str × V))
 | met (f x:Addr)
 | rng (lo hi:Int)
 | frz (o:Obj) (u:HO)
 | tbl (ps:Array Value)
 | ext (φ:Heap->Prop)
abbrev Hp:=Addr->Option HO
def upd (H:Hp) (a:Addr) (o:HO):Hp:=fun b=>if b=a then some o else H b
theorem upd_same {H:Hp}{a:Addr}{o:HO}:upd H a o a=some o:=by unfold upd; rw [if_pos rfl]
theorem upd_ne {H:Hp}{a b:Addr}{o:HO} (h:b ≠ a):upd H a o b=H b:=by unfold upd; rw [if_neg h]
theorem ne_of {H:Hp}{a b:Addr}{o u:HO} (h:H a=some o) (h':H b=some u) (d:o ≠ u):a ≠ b:=by
 intro e; subst e; rw [h] at h'; exact d (Option.some.inj h')
theorem ne_of_none {H:Hp}{a b:Addr}{o:HO} (h:H a=some o) (h':H b=none):a ≠ b:=by
 intro e; subst e; rw [h] at h'; cases h'
section
variable (P:Program) (w:World)
def ObjOk (H:Hp) (h:Heap) (a:Addr):HO->Prop
 | .lst xs=>xs.length <= sizeLine/\∃ (its:List Value) (n:Nat),Vals xs its/\h.get? a=some { cls := .type "list",data := .seq its.toArray n }
 | .tup xs=>xs.length <= sizeLine/\∃ its:List Value,Vals xs its/\TupN h a its.toArray
 | .dK kvs ep=>kvs.length <= sizeLine/\(a == sysModules)=false/\∃ vs,KV kvs vs/\h.DictAt (mixKind P w) a vs ep
 | .dT kvs ep=>kvs.length <= sizeLine/\(a == sysModules)=false/\∃ xs:List (List Key × Addr × Value),
   Paired (fun (p:List Key × V) (q:List Key × Addr × Value)=>p.1=q.1/\H q.2.1=some (.tup (p.1.map kV))/\RelV p.2 q.2.2) kvs xs /\
   ∃ o es,h.get? a=some o/\o.ExactDict/\o.data=.dict es ep/\es.toList=xs.map (entryOfKey (tupleKind (mixKind P w)))/\(xs.map (·.1)).Nodup
 | .set S n=>h.SetOf (intKind P w) a S n
 | .ins C dx fs=>H dx=some (.own a)/\fs.length <= 1000/\dx ≠ a/\h.get? a=some (PySem.W.instObj C dx) /\
   ∃ mA,h.Ns1 dx mA/\(∀ f,RelO (fs.lookup f) (mA f))/\PySem.Within mA (fs.map (·.1))
 | .own _=>∃ o,h.get? a=some o
 | .xd fs=>∃ mA,h.Ns1 a mA/\∀ f,RelO (fs.lookup f) (mA f)
 | .rng lo hi=>∃ t u v,h.get? a=some { cls := .type "range",data := .fields #[.int lo t,.int hi u,.int 1 v] }
 | .frz o u=>h.get? a=some o/\ObjOk H h a u
 | .tbl ps=>h.get? a=some { cls := .none,data := .fields ps }
 | .met f x=>h.get? a=some (PySem.W.methodObj (.ref f) (.ref x))
 | .ext φ=>φ h/\(∃ o,h.get? a=some o)/\∀ h1 h2:Heap,φ h1->(∀ o,h1.get? a=some o->h2.get? a=some o)->φ h2
def HOk (H:Hp) (h:Heap):Prop := ∀ a o,H a=some o->ObjOk P w H h a o
end
section
variable {P:Program}{w:World}{H H':Hp}{h h':Heap}{a:Addr}{o:HO}
theorem ObjOk.lt (x:ObjOk P w H h a o):a < h.objs.size:=by
 cases o with
 | lst xs=>obtain ⟨_,_,_,_,e⟩:=x; exact Heap.lt_size e
 | tup xs=>obtain ⟨_,_,_,p⟩:=x; exact p.is.lt
 | dK kvs ep=>obtain ⟨_,_,_,_,o,_,e,_⟩:=x; exact Heap.lt_size e
 | dT kvs ep=>obtain ⟨_,_,_,_,o,_,e,_⟩:=x; exact Heap.lt_size e
 | set S n=>obtain ⟨o,_,_,_,e,_⟩:=x; exact Heap.lt_size e
 | ins C dx fs=>obtain ⟨_,_,_,e,_⟩:=x; exact Heap.lt_size e
 | own y=>obtain ⟨_,e⟩:=x; exact Heap.lt_size e
 | xd fs=>obtain ⟨_,⟨_,_,_,e,_⟩,_⟩:=x; exact Heap.lt_size e
 | rng lo hi=>obtain ⟨_,_,_,e⟩:=x; exact Heap.lt_size e
 | frz ob u=>obtain ⟨e,_⟩:=x; exact Heap.lt_size e
 | tbl ps=>exact Heap.lt_size (show h.get? a=some _ from x)
 | met f y=>exact Heap.lt_size (show h.get? a=some _ from x)
 | ext φ=>obtain ⟨_,⟨_,e⟩,_⟩:=x; exact Heap.lt_size e
theorem Paired.mapP {α β:Type}{F G:α->β->Prop}:∀ {l₁:List α}{l₂:List β},Paired F l₁ l₂->(∀ a b,F a b->G a b)->Paired G l₁ l₂
 | _,_,.nil,_=>.nil
 | _,_,.cons r t,f=>.cons (f _ _ r) (Paired.mapP t f)
theorem ObjOk.stay (x:ObjOk P w H h a o) (k:∀ b u,(b=a ∨ H b=some (.own a))->h.get? b=some u->h'.get? b=some u)
  (ho:∀ b,H b=some (.own a)->H' b=some (.own a)) (ht:∀ b xs,H b=some (.tup xs)->H' b=some (.tup xs)):ObjOk P w H' h' a o:=by
 induction o with
 | lst xs=>obtain ⟨z,its,n,r,e⟩:=x; exact ⟨z,its,n,r,k _ _ (.inl rfl) e⟩
 | tup xs=>obtain ⟨z,its,r,n,e⟩:=x; exact ⟨z,its,r,n,k _ _ (.inl rfl) e⟩
 | dK kvs ep=>obtain ⟨z,y,vs,r,ob,es,e,c⟩:=x; exact ⟨z,y,vs,r,ob,es,k _ _ (.inl rfl) e,c⟩
 | dT kvs ep =>
  obtain ⟨z,y,xs,r,ob,es,e,c⟩:=x
  exact ⟨z,y,xs,Paired.mapP r fun p q z=>⟨z.1,ht _ _ z.2.1,z.2.2⟩,ob,es,k _ _ (.inl rfl) e,c⟩
 | set S n=>obtain ⟨ob,es,ep,t,e,c⟩:=x; exact ⟨ob,es,ep,t,k _ _ (.inl rfl) e,c⟩
 | ins C dx fs =>
  obtain ⟨d,z,ne,e,mA,⟨od,es,ep,e2,c⟩,r⟩:=x
  exact ⟨ho _ d,z,ne,k _ _ (.inl rfl) e,mA,⟨od,es,ep,k _ _ (.inr d) e2,c⟩,r⟩
 | own y=>obtain ⟨ob,e⟩:=x; exact ⟨ob,k _ _ (.inl rfl) e⟩
 | xd fs=>obtain ⟨mA,⟨od,es,ep,e,c⟩,r⟩:=x; exact ⟨mA,⟨od,es,ep,k _ _ (.inl rfl) e,c⟩,r⟩
 | rng lo hi=>obtain ⟨t,u,v,e⟩:=x; exact ⟨t,u,v,k _ _ (.inl rfl) e⟩
 | frz ob u ih=>obtain ⟨e,q⟩:=x; exact ⟨k _ _ (.inl rfl) e,ih q⟩
 | tbl ps =>
  have e:h.get? a=some { cls := .none,data := .fields ps }:=x
  show h'.get? a=some { cls := .none,data := .fields ps }
  exact k a _ (.inl rfl) e
 | met f y =>
  have e:h.get? a=some (PySem.W.methodObj (.ref f) (.ref y)):=x
  show h'.get? a=some (PySem.W.methodObj (.ref f) (.ref y))
  exact k a _ (.inl rfl) e
 | ext φ=>obtain ⟨p,⟨o,e⟩,st⟩:=x; exact ⟨st _ _ p fun o q=>k _ _ (.inl rfl) q,⟨o,k _ _ (.inl rfl) e⟩,st⟩
theorem HOk.lt (x:HOk P w H h) (e:H a=some o):a < h.objs.size:=(x a o e).lt
theorem HOk.fresh (x:HOk P w H h) (e:h.objs.size <= a):H a=none:=by
 cases q:H a with
 | none=>rfl
 | some u=>exact absurd (Nat.lt_of_lt_of_le (x.lt q) e) (Nat.lt_irrefl _)
theorem HOk.kept (x:HOk P w H h) (k:∀ b u,h.get? b=some u->h'.get? b=some u):HOk P w H h' := fun a o e =>
 (x a o e).stay (fun b u _ q=>k b u q) (fun _ q=>q) fun _ _ q=>q
theorem HOk.laid (x:HOk P w H h) (k:∀ b u,h.get? b=some u->h'.get? b=some u) (hp:h.objs.size <= a) (new:ObjOk P w (upd H a o) h' a o):HOk P w (upd H a o) h' := fun b u e=>by
 have hn:=x.fresh hp
 by_cases hb:b=a
 ·subst hb; rw [upd_same] at e; cases e; exact new
 ·rw [upd_ne hb] at e
  exact (x b u e).stay (fun c v _ q=>k c v q) (fun c q=>by rw [upd_ne (ne_of_none q hn)]; exact q) fun c xs q=>by rw [upd_ne (ne_of_none q hn)]; exact q
end
def Rd (H:Hp) (a:Addr) (u:HO):Prop:=H a=some u ∨ ∃ o,H a=some (.frz o u)
theorem Rd.ok {P:Program}{w:World}{H:Hp}{h:Heap}{a:Addr}{u:HO} (r:Rd H a u) (x:HOk P w H h):ObjOk P w H h a u:=by
 rcases r with r | ⟨o,r⟩
 ·exact x a u r
 ·obtain ⟨_,q⟩:=x a _ r
  exact q
def Mut:Option HO->Prop
 | some (.lst _)=>True
 | some (.dK _ _)=>True
 | some (.dT _ _)=>True
 | some (.set _ _)=>True
 | some (.ins _ _ _)=>True
 | some (.ext _)=>True
 | _=>False
section
variable {P:Program}{w:World}{H:Hp}{h h':Heap}{x e:Addr}{o':HO}
theorem HOk.write (ok:HOk P w H h) (mu:Mut (H x)) (he:e=x ∨ H e=some (.own x)) (k:∀ b u,b ≠ e->h.get? b=some u->h'.get? b=some u) (heo:∃ u,h'.get? e=some u)
  (new:ObjOk P w (upd H x o') h' x o'):HOk P w (upd H x o') h' := fun b u q=>by
 have nown:∀ c y,H c=some (.own y)->c ≠ x:=fun c y r z=>by subst z; rw [r] at mu; exact mu
 have ntup:∀ c xs,H c=some (.tup xs)->c ≠ x:=fun c xs r z=>by subst z; rw [r] at mu; exact mu
 by_cases hb:b=x
 ·subst hb; rw [upd_same] at q; cases q; exact new
 ·rw [upd_ne hb] at q
  by_cases hbe:b=e
  ·have q':H b=some (.own x):=by
    rcases he with z | z
    ·exact absurd (hbe.trans z) hb
    ·rw [hbe]; exact z
   rw [q] at q'; cases q'
   obtain ⟨v,hv⟩:=heo
   exact ⟨v,by rw [hbe]; exact hv⟩
  ·refine (ok b u q).stay (fun c v hc r=>k c v ?_ r) (fun c r=>by rw [upd_ne (nown c b r)]; exact r) fun c xs r=>by rw [upd_ne (ntup c xs r)]; exact r
   rcases hc with rfl | hc
   ·exact hbe
   ·rintro rfl
    rcases he with z | z
    ·exact nown c b hc z
    ·rw [hc] at z; cases z; exact hb rfl
end
structure Un (fs ex:List Addr) (H H':Hp) (h h':Heap):Prop where
 keep:∀ b o,h.get? b=some o->H b=none->b ∉ fs->b ∉ ex->h'.get? b=some o
 slot:∀ b o,h.get? b=some o->H b=none->b ∈ fs->b ∉ ex->∃ sl,h'.get? b=some { o with slots:=sl }
 free:∀ b o,h.get? b=some o->H b=none->b ∉ ex->H' b=none
 there:∀ b o,h.get? b=some o->b ∉ ex->∃ o',h'.get? b=some o'
 tups:∀ b xs,H b=some (.tup xs)->H' b=some (.tup xs)
 frzs:∀ b o u,H b=some (.frz o u)->H' b=some (.frz o u)
 tbls:∀ b ps,H b=some (.tbl ps)->∃ more,H' b=some (.tbl (ps ++ more))
section
variable {fs fs' ex ex':List Addr}{H H1 H2:Hp}{h h1 h2 h':Heap}{a x e:Addr}{o:HO}
theorem Un.any (u:Un fs ex H H1 h h1) {b:Addr}{ob:Obj} (q:h.get? b=some ob) (n:H b=none) (hx:b ∉ ex):∃ sl,h1.get? b=some { ob with slots:=sl }:=by
 by_cases hb:b ∈ fs
 ·exact u.slot b ob q n hb hx
 ·exact ⟨ob.slots,u.keep b ob q n hb hx⟩
theorem Un.kept (k:∀ b u,h.get? b=some u->h'.get? b=some u):Un fs ex H H h h' :=
 ⟨fun b ob q _ _ _=>k b ob q,fun b ob q _ _ _=>⟨ob.slots,k b ob q⟩,fun _ _ _ n _=>n,fun b ob q _=>⟨ob,k b ob q⟩,fun _ _ q=>q,fun _ _ _ q=>q,fun _ ps q=>⟨#[],by rw [q]; simp⟩⟩
theorem Un.refl:Un fs ex H H h h:=Un.kept fun _ _ q=>q
theorem Un.laid (k:∀ b u,h.get? b=some u->h'.get? b=some u) (hp:h.objs.size <= a) (hn:H a=none):Un fs ex H (upd H a o) h h' where
 keep:=fun b u q _ _ _=>k b u q
 slot:=fun b u q _ _ _=>⟨u.slots,k b u q⟩
 free:=fun b u q n _=>by rw [upd_ne (Nat.ne_of_lt (Nat.lt_of_lt_of_le (Heap.lt_size q) hp))]; exact n
 there:=fun b u q _=>⟨u,k b u q⟩
 tups:=fun b xs q=>by rw [upd_ne (ne_of_none q hn)]; exact q
 frzs:=fun b u xs q=>by rw [upd_ne (ne_of_none q hn)]; exact q
 tbls:=fun b ps q=>⟨#[],by rw [upd_ne (ne_of_none q hn),q]; simp⟩
theorem Un.write (mu:Mut (H x)) (he:e=x ∨ H e=some (.own x)) (k:∀ b u,b ≠ e->h.get? b=some u->h'.get? b=some u) (heo:∃ u,h'.get? e=some u):Un fs ex H (upd H x o) h h' := by
 have hx:∀ b,H b=none->b ≠ x:=fun b n z=>by subst z; rw [n] at mu; exact mu
 have hb:∀ b,H b=none->b ≠ e:=fun b n z=>by
  subst z
  rcases he with r | r
  ·exact hx b n r
  ·rw [n] at r; cases r
 have hm:∀ b u,H b=some u->¬ Mut (some u)->b ≠ x:=fun b u q nm z=>by subst z; rw [q] at mu; exact nm mu
 refine ⟨fun b u q n _ _=>k b u (hb b n) q,fun b u q n _ _=>⟨u.slots,k b u (hb b n) q⟩,fun b u q n _=>by rw [upd_ne (hx b n)]; exact n,fun b u q _=>?_,
  fun b xs q=>by rw [upd_ne (hm b _ q fun z=>z)]; exact q,fun b u xs q=>by rw [upd_ne (hm b _ q fun z=>z)]; exact q,fun b ps q=>⟨#[],by rw [upd_ne (hm b _ q fun z=>z),q]; simp⟩⟩
 by_cases hbe:b=e
 ·subst hbe; exact heo
 ·exact ⟨u,k b u hbe q⟩
end
def trk (h:Heap) (H:Hp):List Addr:=(List.range h.objs.size).filter fun a=>(H a).isSome
def hidT (h:Heap) (H:Hp):Heap:=PySem.W.hideAll h (trk h H)
theorem hidT_size (h:Heap) (H:Hp):(hidT h H).objs.size=h.objs.size:=PySem.W.hideAll_size _ _
theorem hidT_get {h:Heap}{H:Hp}{b:Addr}{o:Obj} (e:h.get? b=some o) (n:H b=none):(hidT h H).get? b=some o :=
 PySem.W.hideAll_get _ e fun hm=>by
  have q:(H b).isSome=true:=(List.mem_filter.mp hm).2
  rw [n] at q; simp at q
theorem of_hidT {h:Heap}{H:Hp}{b:Addr}{o:Obj} (e:(hidT h H).get? b=some o):h.get? b=some o/\H b=none:=by
 have e':h.get? b=some o:=PySem.W.of_hideAll (trk h H) e
 refine ⟨e',?_⟩
 cases q:H b with
 | none=>rfl
 | some x =>
  have hm:b ∈ trk h H:=List.mem_filter.mpr ⟨List.mem_range.mpr (Heap.lt_size e'),by simp [q]⟩
  have z:(hidT h H).get? b=none:=PySem.W.hideAll_none (trk h H) hm
  rw [z] at e; cases e
structure Mod (K:PySem.W.Frag) (mg:Str->Option Value) (base:Heap):Prop where
 kin:K.In base
 glob:base.Ns mainGlobals mg
 blt:∃ mb,base.Ns builtinsNs mb/\∀ x:Str,x ≠ "__name__" -> mb x=bootBuiltins x
 nolimit:base.NoLimit
structure Cx where
 prog:Program
 w:World
 K:PySem.W.Frag
 mg:Str->Option Value
 base:Heap
 A:Around
 N:List Str
 s₀:Shared
 H₀:Hp
 env:Env
 outer:List Env
 stack:List Env
 ex:List Addr
 fn:Str->Bool
 calm:Bool
 pn:List (Addr × Obj)
 xe:Value->Shared->Prop
def frs (l:List Env):List Addr:=l.filterMap (·.frame)
abbrev Cx.fs (X:Cx):List Addr:=frs X.outer
def Vis (sc:Scope) (x:Str):Prop:=sc.names.lookup x=some .local ∨ sc.names.lookup x=some .cell ∨ sc.names.lookup x=some .free
def Loc (sc:Scope) (x:Str):Prop:=sc.names.lookup x=some .local ∨ sc.names.lookup x=some .cell
def Look (env:Env) (h:Heap) (m:Str->Option Value) (x:Str) (u:Value):Prop :=
 (env.kindOf x=some .local/\m x=some u) ∨ ((env.kindOf x=some .cell ∨ env.kindOf x=some .free)/\∃ c,env.cells.lookup x=some c/\h.IsCell c (some u))
structure Cx.Ok (X:Cx):Prop where
 mod:Mod X.K X.mg X.base
 kind:X.env.scope.kind=.function
 glob:X.env.globals=mainGlobals
 blt:X.env.builtins=builtinsNs
 above:X.s₀.heap.objs.size <= X.env.locals
 inj:∀ x y c,X.env.cells.lookup x=some c->X.env.cells.lookup y=some c->x=y
 has:∀ x,(X.env.kindOf x=some .cell ∨ X.env.kindOf x=some .free)->∃ c,X.env.cells.lookup x=some c
 cab:∀ x c,X.fn x=true->X.env.cells.lookup x=some c->X.s₀.heap.objs.size <= c
 hd:X.calm=true->X.A.handled=none
 frames:X.A.frames=some X.stack
 stk:X.stack=X.outer ∨ (X.stack=X.env :: X.outer/\X.env.frame=some X.env.locals)
 exf:∀ b ∈ X.ex,b ≠ X.env.locals/\∀ x c,X.env.cells.lookup x=some c->c ≠ b
 bs:∀ b o,X.base.get? b=some o->X.s₀.heap.get? b=some o/\X.H₀ b=none
 bsz:X.base.objs.size <= X.s₀.heap.objs.size
 noex:∀ b o,X.base.get? b=some o->b ∉ X.ex
 exfs:∀ b ∈ X.ex,b ∉ X.fs
 funs:X.s₀.heap.FunFrames X.base X.outer
 frf:∀ b ∈ X.fs,X.H₀ b=none
structure Inv (X:Cx) (pins:List (Addr × Obj)) (σ:List (Option V)) (H:Hp) (s:Shared):Prop where
 ok:X.Ok
 os:s.os=X.s₀.os
 bare:AllBare s.gens
 base:Un X.fs X.ex X.H₀ H X.s₀.heap s.heap
 loc:∃ m,s.heap.Ns X.env.locals m/\∀ (i:Nat) (x:Str) (v:V),X.N[i]?=some x->σ[i]?=some (some v)->Vis X.env.scope x->∃ u,RelV v u/\Look X.env s.heap m x u
 cell:∀ x c,X.env.cells.lookup x=some c->∃ v,s.heap.IsCell c v
 free:H X.env.locals=none
 freeC:∀ x c,X.env.cells.lookup x=some c->H c=none
 pin:∀ p ∈ X.pn ++ pins,s.heap.get? p.1=some p.2/\H p.1=none/\p.1 ≠ X.env.locals/\p.1 ∉ X.fs/\∀ v,p.2.data ≠ .cell v
 hok:HOk X.prog X.w H s.heap
 len:σ.length=X.N.length
section
variable {X:Cx}{pins:List (Addr × Obj)}{σ:List (Option V)}{H H':Hp}{s:Shared}{h':Heap}
theorem Cx.Ok.nofr (ok:X.Ok) {b:Addr}{o:Obj} (e:X.base.get? b=some o):b ∉ X.fs:=fun hb=>by
 have:=(ok.funs.mem hb).1
 rw [e] at this; cases this
theorem Inv.bs (I:Inv X pins σ H s):∀ b o,X.base.get? b=some o->s.heap.get? b=some o/\H b=none:=fun b o e =>
 ⟨I.base.keep b o (I.ok.bs b o e).1 (I.ok.bs b o e).2 (I.ok.nofr e) (I.ok.noex b o e),I.base.free b o (I.ok.bs b o e).1 (I.ok.bs b o e).2 (I.ok.noex b o e)⟩
theorem Inv.bk (I:Inv X pins σ H s):∀ b o,X.base.get? b=some o->s.heap.get? b=some o:=fun b o e=>(I.bs b o e).1
theorem Inv.mod (I:Inv X pins σ H s):Mod X.K X.mg X.base:=I.ok.mod
theorem Inv.kIn (I:Inv X pins σ H s):X.K.In s.heap:=I.ok.mod.kin.keeps I.bk
theorem Inv.lt (I:Inv X pins σ H s):X.env.locals < s.heap.objs.size:=let ⟨_,hn,_⟩:=I.loc; hn.lt
theorem Inv.sz (I:Inv X pins σ H s):X.s₀.heap.objs.size <= s.heap.objs.size:=Nat.le_trans I.ok.above (Nat.le_of_lt I.lt)
theorem Inv.nofs (I:Inv X pins σ H s) {a:Addr} (h:s.heap.objs.size <= a):a ∉ X.fs:=fun hb=>by
 obtain ⟨_,o,ho,_⟩:=I.ok.funs.mem hb
 exact absurd (Nat.lt_of_lt_of_le (Heap.lt_size ho) (Nat.le_trans I.sz h)) (Nat.lt_irrefl _)
theorem Inv.cne (I:Inv X pins σ H s):∀ x c,X.env.cells.lookup x=some c->c ≠ X.env.locals:=fun x c e z=>by
 obtain ⟨v,o,ho,hd⟩:=I.cell x c e
 obtain ⟨m,⟨o',es,ep,ho',hd',_⟩,_⟩:=I.loc
 rw [z,ho'] at ho; cases ho; rw [hd'] at hd; cases hd
theorem Inv.funs (I:Inv X pins σ H s):s.heap.FunFrames X.base X.outer:=by
 have all:∀ (l:List Env),(∀ b ∈ frs l,b ∈ X.fs)->X.s₀.heap.FunFrames X.base l->s.heap.FunFrames X.base l:=by
  intro l
  induction l with
  | nil=>intro _ _; trivial
  | cons env r ih =>
   intro hs hl
   obtain ⟨hk,⟨L,o,hf,hn,ho,hd⟩,hr⟩:=hl
   have hL:L ∈ X.fs:=hs L (by unfold frs; rw [List.filterMap_cons,hf]; exact List.mem_cons_self)
   obtain ⟨sl,e⟩:=I.base.slot L o ho (I.ok.frf L hL) hL fun z=>I.ok.exfs L z hL
   exact ⟨hk,⟨L,_,hf,hn,e,hd⟩,ih (fun b hb=>hs b (by unfold frs; rw [List.filterMap_cons,hf]; exact List.mem_cons_of_mem _ hb)) hr⟩
 exact all X.outer (fun _ hb=>hb) I.ok.funs
theorem Inv.stack (I:Inv X pins σ H s):s.heap.FunFrames X.base X.stack:=by
 rcases I.ok.stk with e | ⟨e,hf⟩
 ·rw [e]; exact I.funs
 ·rw [e]
  obtain ⟨m,hn,_⟩:=I.loc
  refine .cons (by rw [I.ok.kind]; decide) hf hn ?_ I.funs
  exact Heap.get?_none_of_le (Nat.le_trans I.ok.bsz I.ok.above)
theorem Inv.stkSub (I:Inv X pins σ H s):∀ b ∈ frs X.stack,b ∈ X.env.locals :: X.fs:=fun b hb=>by
 rcases I.ok.stk with e | ⟨e,hf⟩
 ·rw [e] at hb; exact List.mem_cons_of_mem _ hb
 ·rw [e] at hb
  unfold frs at hb
  rw [List.filterMap_cons,hf] at hb
  exact hb
theorem Inv.stkFree (I:Inv X pins σ H s):∀ b ∈ frs X.stack,H b=none:=fun b hb=>by
 rcases List.mem_cons.mp (I.stkSub b hb) with e | hb
 ·rw [e]; exact I.free
 ·obtain ⟨_,o,ho,_⟩:=I.ok.funs.mem hb
  exact I.base.free b o ho (I.ok.frf b hb) fun z=>I.ok.exfs b z hb
theorem Inv.step {g':Array GenState}{t':Nat}{d':Drawn}{ch:List Addr} (I:Inv X pins σ H s)
  (hch:∀ b ∈ ch,(b ∈ X.ex ∨ X.s₀.heap.objs.size <= b)/\b ≠ X.env.locals/\(∀ x c,X.env.cells.lookup x=some c->c ≠ b)/\∀ p ∈ X.pn ++ pins,p.1 ≠ b)
  (keep:∀ b o,b ≠ X.env.locals->b ∉ X.fs->b ∉ ch->s.heap.get? b=some o->H b=none->h'.get? b=some o)
  (slot:∀ b o,b ≠ X.env.locals->b ∈ X.fs->b ∉ ch->s.heap.get? b=some o->H b=none->∃ sl,h'.get? b=some { o with slots:=sl }) (free:∀ b o,b ∉ ch->s.heap.get? b=some o->H b=none->H' b=none)
  (there:∀ b o,b ∉ ch->s.heap.get? b=some o->∃ o',h'.get? b=some o')
  (tups:∀ b xs,H b=some (.tup xs)->H' b=some (.tup xs)) (frzs:∀ b o u,H b=some (.frz o u)->H' b=some (.frz o u)) (tbls:∀ b ps,H b=some (.tbl ps)->∃ more,H' b=some (.tbl (ps ++ more)))
  (ns:∀ m,s.heap.Ns X.env.locals m->h'.Ns X.env.locals m) (hok:HOk X.prog X.w H' h') (hg:AllBare g') :
  Inv X pins σ H' { s with heap:=h',gens:=g',drawn:=d',toks:=t' }:=by
 have neL:∀ b o,X.s₀.heap.get? b=some o->b ≠ X.env.locals:=fun b o e=>Nat.ne_of_lt (Nat.lt_of_lt_of_le (Heap.lt_size e) I.ok.above)
 have neC:∀ b o,X.s₀.heap.get? b=some o->b ∉ X.ex->b ∉ ch:=fun b o e hx hb=>by
  rcases (hch b hb).1 with z | z
  ·exact hx z
  ·exact absurd (Nat.lt_of_lt_of_le (Heap.lt_size e) z) (Nat.lt_irrefl _)
 have cellK:∀ x c,X.env.cells.lookup x=some c->∀ v,s.heap.IsCell c v->h'.IsCell c v:=fun x c e v ⟨o,ho,hd⟩=>by
  have nch:c ∉ ch:=fun z=>(hch c z).2.2.1 x c e rfl
  by_cases hc:c ∈ X.fs
  ·obtain ⟨sl,q⟩:=slot c o (I.cne x c e) hc nch ho (I.freeC x c e)
   exact ⟨_,q,hd⟩
  ·exact ⟨o,keep c o (I.cne x c e) hc nch ho (I.freeC x c e),hd⟩
 refine ⟨I.ok,I.os,hg,⟨fun b o e n hb hx=>?_,fun b o e n hb hx=>?_,fun b o e n hx=>?_,fun b o e hx=>?_,fun b xs e=>tups b xs (I.base.tups b xs e),fun b o xs e=>frzs b o xs (I.base.frzs b o xs e),fun b ps e=>?_⟩,?_,fun x c e=>?_,?_,fun x c e=>?_,fun p hp=>?_,hok,I.len⟩
 ·exact keep b o (neL b o e) hb (neC b o e hx) (I.base.keep b o e n hb hx) (I.base.free b o e n hx)
 ·obtain ⟨sl,e1⟩:=I.base.slot b o e n hb hx
  obtain ⟨sl',e2⟩:=slot b _ (neL b o e) hb (neC b o e hx) e1 (I.base.free b o e n hx)
  exact ⟨sl',e2⟩
 ·obtain ⟨o',e1⟩:=I.base.there b o e hx
  exact free b o' (neC b o e hx) e1 (I.base.free b o e n hx)
 ·obtain ⟨o',e1⟩:=I.base.there b o e hx
  exact there b o' (neC b o e hx) e1
 ·obtain ⟨m1,e1⟩:=I.base.tbls b ps e
  obtain ⟨m2,e2⟩:=tbls b _ e1
  exact ⟨m1 ++ m2,by rw [e2,Array.append_assoc]⟩
 ·obtain ⟨m,hn,hl⟩:=I.loc
  refine ⟨m,ns m hn,fun i x v e1 e2 e3=>?_⟩
  obtain ⟨u,r,l⟩:=hl i x v e1 e2 e3
  refine ⟨u,r,?_⟩
  rcases l with l | ⟨k,c,e,z⟩
  ·exact .inl l
  ·exact .inr ⟨k,c,e,cellK x c e _ z⟩
 ·obtain ⟨v,z⟩:=I.cell x c e
  exact ⟨v,cellK x c e v z⟩
 ·obtain ⟨m,⟨o,_,_,ho,_⟩,_⟩:=I.loc
  exact free _ o (fun z=>(hch _ z).2.1 rfl) ho I.free
 ·obtain ⟨v,o,ho,hd⟩:=I.cell x c e
  exact free c o (fun z=>(hch c z).2.2.1 x c e rfl) ho (I.freeC x c e)
 ·obtain ⟨e,n,ne,nf,d⟩:=I.pin p hp
  have nch:p.1 ∉ ch:=fun z=>(hch p.1 z).2.2.2 p hp rfl
  exact ⟨keep p.1 p.2 ne nf nch e n,free p.1 p.2 nch e n,ne,nf,d⟩
theorem Inv.un {t':Nat} (I:Inv X pins σ H s) (u:Un X.fs [] H H' s.heap h') (hok:HOk X.prog X.w H' h'):Inv X pins σ H' { s with heap:=h',toks:=t' }:=by
 obtain ⟨m,⟨o,es,ep,ho,r⟩,_⟩:=id I.loc
 obtain ⟨sl,hL⟩:=u.any ho I.free (by simp)
 exact I.step (g' := s.gens) (d' := s.drawn) (ch := []) (fun _ z=>nomatch z) (fun b o _ hb _ e n=>u.keep b o e n hb (by simp)) (fun b o _ hb _ e n=>u.slot b o e n hb (by simp)) (fun b o _ e n=>u.free b o e n (by simp)) (fun b o _ e=>u.there b o e (by simp)) u.tups u.frzs u.tbls (fun m' hm=>by
  obtain ⟨o',es',ep',ho',r'⟩:=hm
  rw [ho] at ho'; cases ho'
  exact ⟨_,es',ep',hL,r'⟩) hok I.bare
theorem Inv.call {g':Array GenState}{t':Nat}{d':Drawn}{ch:List Addr} (I:Inv X pins σ H s) (u:Un (frs X.stack) ch H H' s.heap h') (hok:HOk X.prog X.w H' h') (hg:AllBare g')
  (hch:∀ b ∈ ch,(b ∈ X.ex ∨ X.s₀.heap.objs.size <= b)/\b ≠ X.env.locals/\(∀ x c,X.env.cells.lookup x=some c->c ≠ b)/\∀ p ∈ X.pn ++ pins,p.1 ≠ b) :
  Inv X pins σ H' { s with heap:=h',gens:=g',drawn:=d',toks:=t' }:=by
 obtain ⟨m,⟨o,es,ep,ho,r⟩,_⟩:=id I.loc
 obtain ⟨sl,hL⟩:=u.any ho I.free fun z=>(hch _ z).2.1 rfl
 exact I.step (ch:=ch) hch (fun b o hL hb hc e n=>u.keep b o e n (fun z=>(List.mem_cons.mp (I.stkSub b z)).elim hL hb) hc) (fun b o _ _ hc e n=>u.any e n hc) (fun b o hc e n=>u.free b o e n hc) (fun b o hc e=>u.there b o e hc) u.tups u.frzs u.tbls (fun m' hm=>by
  obtain ⟨o',es',ep',ho',r'⟩:=hm
  rw [ho] at ho'; cases ho'
  exact ⟨_,es',ep',hL,r'⟩) hok hg
theorem Inv.turned {t':Nat}{it:Addr} (I:Inv X pins σ H s) (k:∀ b o,b ≠ it->s.heap.get? b=some o->h'.get? b=some o) (hn:H it=none) (hL:it ≠ X.env.locals)
  (h1:it ∈ X.ex ∨ X.s₀.heap.objs.size <= it) (h2:∀ x c,X.env.cells.lookup x=some c->c ≠ it) (h3:∀ p ∈ X.pn ++ pins,p.1 ≠ it):Inv X pins σ H { s with heap:=h',toks:=t' }:=by
 have nit:∀ b u,H b=some u->b ≠ it:=fun b u e z=>by rw [z,hn] at e; cases e
 refine I.step (g' := s.gens) (d' := s.drawn) (ch := [it]) (fun b hb=>?_) (fun b o _ _ hc e _=>k b o (fun z=>hc (by simp [z])) e) (fun b o _ _ hc e _=>⟨o.slots,k b o (fun z=>hc (by simp [z])) e⟩) (fun _ _ _ _ n=>n)
  (fun b o hc e=>⟨o,k b o (fun z=>hc (by simp [z])) e⟩) (fun _ _ e=>e) (fun _ _ _ e=>e) (fun b ps e=>⟨#[],by rw [e]; simp⟩) (fun m hm=>?_) (fun b u e=>?_) I.bare
 ·have e:b=it:=by simpa using hb
  subst e
  exact ⟨h1,hL,h2,h3⟩
 ·obtain ⟨o,es,ep,ho,r⟩:=hm
  exact ⟨o,es,ep,k _ o (Ne.symm hL) ho,r⟩
 ·refine (I.hok b u e).stay (fun c v hc q=>k c v ?_ q) (fun _ q=>q) fun _ _ q=>q
  rcases hc with z | z
  ·rw [z]; exact nit b u e
  ·exact nit c _ z
theorem Inv.tok (I:Inv X pins σ H s) (t:Nat):Inv X pins σ H { s with toks:=t }:=I.un (h' := s.heap) (t' := t) Un.refl I.hok
theorem Inv.kept {t':Nat} (I:Inv X pins σ H s) (k:∀ b u,s.heap.get? b=some u->h'.get? b=some u):Inv X pins σ H { s with heap:=h',toks:=t' }:=I.un (Un.kept k) (I.hok.kept k)
theorem Inv.laid {a:Addr}{o:HO}{t':Nat} (I:Inv X pins σ H s) (k:∀ b u,s.heap.get? b=some u->h'.get? b=some u) (hp:s.heap.objs.size <= a) (new:ObjOk X.prog X.w (upd H a o) h' a o) :
  Inv X pins σ (upd H a o) { s with heap:=h',toks:=t' }:=I.un (Un.laid k hp (I.hok.fresh hp)) (I.hok.laid k hp new)
theorem Inv.write {x e:Addr}{o:HO}{t':Nat} (I:Inv X pins σ H s) (mu:Mut (H x)) (he:e=x ∨ H e=some (.own x)) (k:∀ b u,b ≠ e->s.heap.get? b=some u->h'.get? b=some u) (heo:∃ u,h'.get? e=some u)
  (new:ObjOk X.prog X.w (upd H x o) h' x o):Inv X pins σ (upd H x o) { s with heap:=h',toks:=t' }:=I.un (Un.write mu he k heo) (I.hok.write mu he k heo new)
theorem Inv.pins_of {pins':List (Addr × Obj)} (I:Inv X pins σ H s) (h:∀ p ∈ pins',s.heap.get? p.1=some p.2/\H p.1=none/\p.1 ≠ X.env.locals/\p.1 ∉ X.fs/\∀ v,p.2.data ≠ .cell v):Inv X pins' σ H s :=
 ⟨I.ok,I.os,I.bare,I.base,I.loc,I.cell,I.free,I.freeC,fun p hp=>(List.mem_append.mp hp).elim (fun z=>I.pin p (List.mem_append_left _ z)) (h p),I.hok,I.len⟩
theorem nodup_ix {N:List Str} (hN:N.Nodup) {i j:Nat}{x:Str} (a:N[i]?=some x) (b:N[j]?=some x):i=j:=by
 obtain ⟨h1,e1⟩:=List.getElem?_eq_some_iff.mp a
 obtain ⟨h2,e2⟩:=List.getElem?_eq_some_iff.mp b
 exact (List.getElem_inj hN).mp (e1.trans e2.symm)
theorem store_ok2 {M:Model}{A:Around}{E:Value->Shared->Prop}{i:Nat}{x:Str}{v:V}{u:Value}{Q:Unit->Shared->Prop} (I:Inv X pins σ H s) (hN:X.N.Nodup) (hi:X.N[i]?=some x) (hx:Loc X.env.scope x) (r:RelV v u)
  (h:∀ s',Inv X pins (σ.set i (some v)) H s'->(∃ a,Heap.SameBut a s.heap s'.heap/\(a=X.env.locals ∨ X.env.cells.lookup x=some a))->Q () s') (hf:X.fn x=true ∨ X.env.scope.names.lookup x=some .local:=by first | exact .inl rfl | exact .inr rfl | assumption):wpAny M A (storeName X.env x u) Q E s:=by
 obtain ⟨m,hn,hl⟩:=id I.loc
 have hcls:(X.env.scope.kind == .class || (X.env.scope.kind == .module && X.env.locals != X.env.globals))=false:=by rw [I.ok.kind]; rfl
 have hiσ:i < σ.length:=by rw [I.len]; exact (List.getElem?_eq_some_iff.mp hi).1
 have cne:=I.cne
 have tracked:∀ {a:Addr}{h':Heap},(∃ o,s.heap.get? a=some o/\H a=none)->Heap.SameBut a s.heap h'->HOk X.prog X.w H h' := fun {a h'} ha hs b ob e=>by
  obtain ⟨_,_,hfree⟩:=ha
  refine (I.hok b ob e).stay (fun c w' hc q=>(hs.2 c ?_).trans q) (fun _ q=>q) fun _ _ q=>q
  rintro rfl
  rcases hc with rfl | hc
  ·rw [hfree] at e; cases e
  ·rw [hfree] at hc; cases hc
 rcases hx with hk | hk
 ·refine wpAny_storeName_local hk hn (fun h' hn' hs=>?_) hcls
  obtain ⟨oL,_,_,hoL,_⟩:=id hn
  refine h _ ⟨I.ok,I.os,I.bare,⟨fun b o e n hb hx=>?_,fun b o e n hb hx=>?_,I.base.free,fun b o e hx=>?_,I.base.tups,I.base.frzs,I.base.tbls⟩,⟨_,hn',fun j y v' e1 e2 e3=>?_⟩,fun y c e=>?_,I.free,I.freeC,fun p hp=>?_,tracked ⟨oL,hoL,I.free⟩ hs,by simpa using I.len⟩ ⟨_,hs,.inl rfl⟩
  ·exact (hs.2 b (Nat.ne_of_lt (Nat.lt_of_lt_of_le (Heap.lt_size e) I.ok.above))).trans (I.base.keep b o e n hb hx)
  ·obtain ⟨sl,e1⟩:=I.base.slot b o e n hb hx
   exact ⟨sl,(hs.2 b (Nat.ne_of_lt (Nat.lt_of_lt_of_le (Heap.lt_size e) I.ok.above))).trans e1⟩
  ·obtain ⟨o',e1⟩:=I.base.there b o e hx
   exact ⟨o',(hs.2 b (Nat.ne_of_lt (Nat.lt_of_lt_of_le (Heap.lt_size e) I.ok.above))).trans e1⟩
  ·by_cases hj:j=i
   ·subst hj
    rw [hi] at e1; cases e1
    rw [List.getElem?_set_self hiσ] at e2
    cases e2
    exact ⟨u,r,.inl ⟨hk,by simp⟩⟩
   ·rw [List.getElem?_set_ne (Ne.symm hj)] at e2
    obtain ⟨u',r',q⟩:=hl j y v' e1 e2 e3
    refine ⟨u',r',?_⟩
    rcases q with ⟨k,e⟩ | ⟨k,c,e,z⟩
    ·refine .inl ⟨k,?_⟩
     have:y ≠ x:=fun e=>hj (nodup_ix hN e1 (e ▸ hi))
     simp [this,e]
    ·exact .inr ⟨k,c,e,z.sameBut hs (cne y c e)⟩
  ·obtain ⟨w',z⟩:=I.cell y c e
   exact ⟨w',z.sameBut hs (cne y c e)⟩
  ·obtain ⟨e,n,ne,nf,d⟩:=I.pin p hp
   exact ⟨(hs.2 p.1 ne).trans e,n,ne,nf,d⟩
 ·have hfn:X.fn x=true:=by
   rcases hf with z | z
   ·exact z
   ·rw [z] at hk; cases hk
  obtain ⟨c,hc⟩:=I.ok.has x (.inl hk)
  obtain ⟨w',z⟩:=I.cell x c hc
  refine wpAny_storeName_cell I.ok.kind hk hc z (fun h' hc' hs=>?_)
  obtain ⟨oc,hoc,hocd⟩:=id z
  refine h { s with heap:=h' } ⟨I.ok,I.os,I.bare,⟨fun b o e n hb hx=>?_,fun b o e n hb hx=>?_,I.base.free,fun b o e hx=>?_,I.base.tups,I.base.frzs,I.base.tbls⟩,⟨m,hn.sameBut hs (Ne.symm (cne x c hc)),fun j y v' e1 e2 e3=>?_⟩,fun y c' e=>?_,I.free,I.freeC,fun p hp=>?_,tracked ⟨oc,hoc,I.freeC x c hc⟩ hs,by simpa using I.len⟩ ⟨c,hs,.inr hc⟩
  ·exact (hs.2 b (Nat.ne_of_lt (Nat.lt_of_lt_of_le (Heap.lt_size e) (I.ok.cab x c hfn hc)))).trans (I.base.keep b o e n hb hx)
  ·obtain ⟨sl,e1⟩:=I.base.slot b o e n hb hx
   exact ⟨sl,(hs.2 b (Nat.ne_of_lt (Nat.lt_of_lt_of_le (Heap.lt_size e) (I.ok.cab x c hfn hc)))).trans e1⟩
  ·obtain ⟨o',e1⟩:=I.base.there b o e hx
   exact ⟨o',(hs.2 b (Nat.ne_of_lt (Nat.lt_of_lt_of_le (Heap.lt_size e) (I.ok.cab x c hfn hc)))).trans e1⟩
  ·by_cases hj:j=i
   ·subst hj
    rw [hi] at e1; cases e1
    rw [List.getElem?_set_self hiσ] at e2
    cases e2
    exact ⟨u,r,.inr ⟨.inl hk,c,hc,hc'⟩⟩
   ·rw [List.getElem?_set_ne (Ne.symm hj)] at e2
    obtain ⟨u',r',q⟩:=hl j y v' e1 e2 e3
    refine ⟨u',r',?_⟩
    rcases q with q | ⟨k,c',e,z'⟩
    ·exact .inl q
    ·refine .inr ⟨k,c',e,z'.sameBut hs ?_⟩
     rintro rfl
     exact hj (nodup_ix hN e1 (I.ok.inj _ _ _ e hc ▸ hi))
  ·by_cases hcc:c'=c
   ·subst hcc; exact ⟨_,hc'⟩
   ·obtain ⟨w2,z2⟩:=I.cell y c' e
    exact ⟨w2,z2.sameBut hs hcc⟩
  ·obtain ⟨e,n,ne,nf,d⟩:=I.pin p hp
   refine ⟨(hs.2 p.1 ?_).trans e,n,ne,nf,d⟩
   intro q
   rw [q,hoc] at e
   have q':oc=p.2:=Option.some.inj e
   exact d w' (by rw [<- q']; exact hocd)
theorem store_ok {M:Model}{A:Around}{E:Value->Shared->Prop}{i:Nat}{x:Str}{v:V}{u:Value}{Q:Unit->Shared->Prop} (I:Inv X pins σ H s) (hN:X.N.Nodup) (hi:X.N[i]?=some x) (hx:Loc X.env.scope x) (r:RelV v u)
  (h:∀ s',Inv X pins (σ.set i (some v)) H s'->Q () s') (hf:X.fn x=true ∨ X.env.scope.names.lookup x=some .local:=by first | exact .inl rfl | exact .inr rfl | assumption):wpAny M A (storeName X.env x u) Q E s :=
 store_ok2 I hN hi hx r (fun s' I' _=>h s' I') hf
theorem Inv.call' {s':Shared}{ch:List Addr} (I:Inv X pins σ H s) (ho:s'.os=s.os) (u:Un (frs X.stack) ch H H' s.heap s'.heap) (hok:HOk X.prog X.w H' s'.heap) (hg:AllBare s'.gens)
  (hch:∀ b ∈ ch,(b ∈ X.ex ∨ X.s₀.heap.objs.size <= b)/\b ≠ X.env.locals/\(∀ x c,X.env.cells.lookup x=some c->c ≠ b)/\∀ p ∈ X.pn ++ pins,p.1 ≠ b):Inv X pins σ H' s' := by
 obtain ⟨h',g',d',t',o'⟩:=s'
 have e:o'=s.os:=ho
 subst e
 exact I.call (g' := g') (t' := t') (d' := d') u hok hg hch
end
abbrev XK:=Value->Option Addr->Hp->Prop
abbrev St:=List (Option V)
abbrev VK:=V->Hp->Prop
abbrev TE:=St->Hp->VK->Prop
abbrev TT:=St->Hp->(Bool->Hp->Prop)->Prop
abbrev TA:=St->Hp->(List V->Hp->Prop)->Prop
structure Ends where
 nx:St->Hp->Prop
 rt:VK
 bk:St->Hp->Prop:=fun _ _=>False
 ct:St->Hp->Prop:=fun _ _=>False
abbrev TS:=Ends->St->Hp->Prop
def EP (X:Cx) (pins:List (Addr × Obj)) (σ:St) (Q:VK) (u:Value) (s':Shared):Prop := ∃ v H',Inv X pins σ H' s'/\RelV v u/\Q v H'
def TP (X:Cx) (pins:List (Addr × Obj)) (σ:St) (Q:Bool->Hp->Prop) (b:Bool) (s':Shared):Prop := ∃ H',Inv X pins σ H' s'/\Q b H'
def AP (X:Cx) (pins:List (Addr × Obj)) (σ:St) (Q:List V->Hp->Prop) (us:List Value) (s':Shared):Prop := ∃ vs H',Inv X pins σ H' s'/\Vals vs us/\Q vs H'
def SP (X:Cx) (pins:List (Addr × Obj)) (D:Ends) (f:Flow) (s':Shared):Prop :=
 match f with
 | .next=>∃ σ' H',Inv X pins σ' H' s'/\D.nx σ' H'
 | .brk=>∃ σ' H',Inv X pins σ' H' s'/\D.bk σ' H'
 | .cont=>∃ σ' H',Inv X pins σ' H' s'/\D.ct σ' H'
 | .ret u=>∃ v σ' H',Inv X pins σ' H' s'/\RelV v u/\D.rt v H'
def PE (X:Cx) (e:Expr) (t:TE):Prop :=
 ∀ (pins:List (Addr × Obj)) (s:Shared) (σ:St) (H:Hp) (Q:VK),Inv X pins σ H s->t σ H Q->wpAny (model X.prog X.w) X.A (eval e X.env) (EP X pins σ Q) X.xe s
def PT (X:Cx) (e:Expr) (t:TT):Prop :=
 ∀ (pins:List (Addr × Obj)) (s:Shared) (σ:St) (H:Hp) (Q:Bool->Hp->Prop),Inv X pins σ H s->t σ H Q->wpAny (model X.prog X.w) X.A (isTrue e X.env (eval e X.env)) (TP X pins σ Q) X.xe s
def PW (X:Cx) (e:Expr) (t:TT):Prop :=
 ∀ (whole:Sem Value) (pins:List (Addr × Obj)) (s:Shared) (σ:St) (H:Hp) (Q:Bool->Hp->Prop),Inv X pins σ H s->t σ H Q->wpAny (model X.prog X.w) X.A (isTrue e X.env whole) (TP X pins σ Q) X.xe s
theorem PW.pt {X:Cx}{e:Expr}{t:TT} (h:PW X e t):PT X e t:=h _
def PA (X:Cx) (es:List Expr) (t:TA):Prop :=
 ∀ (pos:Pos) (pins:List (Addr × Obj)) (s:Shared) (σ:St) (H:Hp) (Q:List V->Hp->Prop),Inv X pins σ H s->t σ H Q->wpAny (model X.prog X.w) X.A (spliced (backTo pos (starEach es X.env))) (AP X pins σ Q) X.xe s
def PS (X:Cx) (st:Stmt) (t:TS):Prop :=
 ∀ (pins:List (Addr × Obj)) (s:Shared) (σ:St) (H:Hp) (D:Ends),Inv X pins σ H s->t D σ H->wpAny (model X.prog X.w) X.A (exec st X.env) (SP X pins D) X.xe s
def PSs (X:Cx) (st:List Stmt) (t:TS):Prop :=
 ∀ (pins:List (Addr × Obj)) (s:Shared) (σ:St) (H:Hp) (D:Ends),Inv X pins σ H s->t D σ H->wpAny (model X.prog X.w) X.A (execs st X.env) (SP X pins D) X.xe s
theorem thn {α:Type}{t:Sem α}{Q Q':α->Shared->Prop}{M:Model}{A:Around}{E:Value->Shared->Prop}{s:Shared} (h:wpAny M A t Q E s) (hQ:∀ a s,Q a s->Q' a s):wpAny M A t Q' E s:=wpAny_mono h hQ fun _ _ x=>x
section
variable {X:Cx}
def tVar (i:Nat):TE:=fun σ H Q=>∃ v,σ[i]?=some (some v)/\Q v H
def tC (v:V):TE:=fun _ H Q=>Q v H
theorem pe_var {i:Nat}{x:Str}{pos:Pos} (hN:X.N[i]?=some x) (hv:Vis X.env.scope x) (hd:(x == ("__debug__" : Str))=false:=by decide) (hcd:(x == ("__classdict__" : Str))=false:=by decide):PE X (.Name x pos) (tVar i):=by
 intro pins s σ H Q I h
 obtain ⟨v,e,h⟩:=h
 obtain ⟨m,hn,hl⟩:=I.loc
 obtain ⟨u,r,l⟩:=hl i x v hN e hv
 have fin:EP X pins σ Q u s:=⟨v,H,I,r,h⟩
 rcases l with ⟨hk,hm⟩ | ⟨hk,c,hc,hcell⟩
 ·exact wpAny_Name (wpAny_loadName_local I.ok.kind hk hn hm fin) hd
 ·rcases hk with hk | hk
  ·exact wpAny_Name (wpAny_loadName_cell I.ok.kind hk hc hcell fin) hd
  ·exact wpAny_Name (wpAny_loadName_free I.ok.kind hk hc hcell fin hcd) hd
theorem pe_int {i j pos}:PE X (.Constant (.int i) j pos) (tC (.int i)):=fun _ _ _ H _ I h=>wpAny_Constant_int ⟨.int i,H,I.tok _,⟨_,rfl⟩,h⟩
theorem pe_bl {b j pos}:PE X (.Constant (.bool b) j pos) (tC (.bl b)):=fun _ _ _ H _ I h=>Constant_bool ⟨.bl b,H,I,rfl,h⟩
theorem pe_non {j pos}:PE X (.Constant .none j pos) (tC .non):=fun _ _ _ H _ I h=>Constant_none ⟨.non,H,I,rfl,h⟩
def Gl (X:Cx) (x:Str):Prop:=X.env.kindOf x=some .globalImplicit
theorem ld_glob {E:Value->Shared->Prop}{pins:List (Addr × Obj)}{s:Shared}{σ:St}{H:Hp}{x:Str}{u:Value}{pos:Pos}{Q:Value->Shared->Prop} (I:Inv X pins σ H s) (hg:Gl X x) (hm:X.mg x=some u) (h:Q u s)
  (hd:(x == ("__debug__" : Str))=false:=by decide):wpAny (model X.prog X.w) X.A (eval (.Name x pos) X.env) Q E s :=
 Calls.Name_function_global I.ok.kind hg (Calls.loadGlobal_global (by rw [I.ok.glob]; exact I.mod.glob.keeps I.bk) hm h) hd
theorem ld_blt {E:Value->Shared->Prop}{pins:List (Addr × Obj)}{s:Shared}{σ:St}{H:Hp}{x:Str}{u:Value}{pos:Pos}{Q:Value->Shared->Prop} (I:Inv X pins σ H s) (hg:Gl X x) (hm:X.mg x=none) (hv:bootBuiltins x=some u) (h:Q u s)
  (hn:x ≠ "__name__" := by decide) (hd:(x == ("__debug__" : Str))=false:=by decide):wpAny (model X.prog X.w) X.A (eval (.Name x pos) X.env) Q E s:=by
 obtain ⟨mb,h1,h2⟩:=I.mod.blt
 exact Calls.Name_function_global I.ok.kind hg (Calls.loadGlobal_builtin (by rw [I.ok.glob]; exact I.mod.glob.keeps I.bk) hm (by rw [I.ok.blt]; exact h1.keeps I.bk) ((h2 x hn).trans hv) h) hd
theorem pe_bltn {x:Str}{v:V}{u:Value}{pos:Pos} (hg:Gl X x) (hm:X.mg x=none) (hv:bootBuiltins x=some u) (r:RelV v u) (hn:x ≠ "__name__" := by decide) (hd:(x == ("__debug__" : Str))=false:=by decide):PE X (.Name x pos) (tC v) :=
 fun _ _ _ H _ I h=>ld_blt I hg hm hv ⟨v,H,I,r,h⟩ hn hd
variable {a b:Expr}{ta tb:TE}{pos:Pos}
def tB (t:TE):TT:=fun σ H Q=>t σ H fun x H1=>∃ c,x=.bl c/\Q c H1
theorem pt_val {e:Expr}{t:TE} (h:PE X e t) (he:∀ whole,isTrue e X.env whole=(do let v <- whole; standAt e.pos; holding [v] (truthy v)):=by intro _; rfl):PT X e (tB t):=by
 intro pins s σ H Q I hw
 refine isTrue_plain (thn (h pins s σ H _ I hw) fun v s1 hq5=>L2.ex5 hq5 fun x H1 I1 r1 q1=>?_) (he _)
 obtain ⟨d,rfl,q⟩:=q1
 cases r1
 exact wpAny_truthy_bool ⟨H1,I1,q⟩
variable {tA tB':TT}{rest:List Expr}
def tAnd (t u:TT):TT:=fun σ H Q=>t σ H fun c H1=>if c=true then u σ H1 Q else Q false H1
def tOr (t u:TT):TT:=fun σ H Q=>t σ H fun c H1=>if c=true then Q true H1 else u σ H1 Q
def tNot (t:TT):TT:=fun σ H Q=>t σ H fun c H1=>Q (!c) H1
theorem pw_and1 (ha:PT X a tA):PW X (.BoolOp .And [a] pos) tA:=by
 intro wh pins s σ H Q I h
 refine isTrue_and (thn (ha pins s σ H Q I h) fun c s1 e=>?_)
 cases c with
 | true=>exact isTrue_and_nil e
 | false=>exact e
theorem pw_or1 (ha:PT X a tA):PW X (.BoolOp .Or [a] pos) tA:=by
 intro wh pins s σ H Q I h
 refine isTrue_or (thn (ha pins s σ H Q I h) fun c s1 e=>?_)
 cases c with
 | false=>exact isTrue_or_nil e
 | true=>exact e
theorem pw_and (ha:PT X a tA) (hb:PW X (.BoolOp .And (b :: rest) pos) tB'):PW X (.BoolOp .And (a :: b :: rest) pos) (tAnd tA tB'):=by
 intro wh pins s σ H Q I h
 refine isTrue_and (thn (ha pins s σ H _ I h) fun c s1 ⟨H1,I1,q1⟩=>?_)
 cases c with
 | true=>exact hb wh pins s1 σ H1 Q I1 q1
 | false=>exact ⟨H1,I1,q1⟩
theorem pw_or (ha:PT X a tA) (hb:PW X (.BoolOp .Or (b :: rest) pos) tB'):PW X (.BoolOp .Or (a :: b :: rest) pos) (tOr tA tB'):=by
 intro wh pins s σ H Q I h
 refine isTrue_or (thn (ha pins s σ H _ I h) fun c s1 ⟨H1,I1,q1⟩=>?_)
 cases c with
 | true=>exact ⟨H1,I1,q1⟩
 | false=>exact hb wh pins s1 σ H1 Q I1 q1
theorem pt_not (ha:PT X a tA):PT X (.UnaryOp .Not a pos) (tNot tA):=by
 intro pins s σ H Q I h
 exact isTrue_not (ha pins s σ H (fun c H1=>Q (!c) H1) I h)
def tAndV (ta tb:TE):TE:=fun σ H Q=>ta σ H fun x H1=>∃ c,x=.bl c/\if c=true then tb σ H1 Q else Q (.bl false) H1
def tNotV (ta:TE):TE:=fun σ H Q=>ta σ H fun x H1=>∃ c,x=.bl c/\Q (.bl (!c)) H1
theorem pe_one {op}{t:TE} (h:PE X a t):PE X (.BoolOp op [a] pos) t:=fun pins s σ H Q I hw=>BoolOp_one (h pins s σ H Q I hw)
theorem pe_and (ha:PE X a ta) (hb:PE X (.BoolOp .And (b :: rest) pos) tb):PE X (.BoolOp .And (a :: b :: rest) pos) (tAndV ta tb):=by
 intro pins s σ H Q I h
 refine BoolOp_and (thn (ha pins s σ H _ I h) fun v s1 hq5=>L2.ex5 hq5 fun x H1 I1 r1 q1=>?_)
 obtain ⟨c,rfl,q1⟩:=q1
 cases r1
 refine wpAny_truthy_bool ?_
 cases c with
 | true=>exact hb pins s1 σ H1 Q I1 q1
 | false=>exact ⟨.bl false,H1,I1,rfl,q1⟩
theorem pe_not (ha:PE X a ta):PE X (.UnaryOp .Not a pos) (tNotV ta):=by
 intro pins s σ H Q I h
 refine UnaryOp_ (thn (ha pins s σ H _ I h) fun v s1 hq5=>L2.ex5 hq5 fun x H1 I1 r1 q1=>?_)
 obtain ⟨c,rfl,q1⟩:=q1
 cases r1
 exact not_of (wpAny_truthy_bool ⟨.bl (!c),H1,I1,rfl,q1⟩)
def tIf (t:TT) (ta tb:TE):TE:=fun σ H Q=>t σ H fun c H1=>if c=true then ta σ H1 Q else tb σ H1 Q
theorem pe_ifExp {c:Expr} (hc:PT X c tA) (ha:PE X a ta) (hb:PE X b tb):PE X (.IfExp c a b pos) (tIf tA ta tb):=by
 intro pins s σ H Q I h
 refine wpAny_IfExp (thn (hc pins s σ H _ I h) fun d s1 ⟨H1,I1,q1⟩=>?_)
 cases d with
 | true=>exact ha pins s1 σ H1 Q I1 q1
 | false=>exact hb pins s1 σ H1 Q I1 q1
end
def SqL (K:PySem.W.Frag) (H:Hp) (a:Addr) (xs:List V):Prop :=
 Rd H a (.lst xs) ∨
  ∃ (o:Obj) (its:Array Value) (n:Nat),K.lookup a=some o/\o.cls=.type "list" /\ o.dict=none/\o.data=.seq its n/\its.size <= sizeLine/\Vals xs its.toList
def SqT (K:PySem.W.Frag) (H:Hp) (a:Addr) (xs:List V):Prop :=
 Rd H a (.tup xs) ∨
  ∃ (o:Obj) (its:Array Value) (n:Nat),K.lookup a=some o/\o.cls=.type "tuple" /\ o.data=.seq its n/\its.size <= sizeLine/\Vals xs its.toList
def absV:Value->Option V
 | .none=>some .non
 | .bool b=>some (.bl b)
 | .int i _=>some (.int i)
 | .str x _=>some (.str x)
 | .bytes b _=>some (.byt b)
 | .float b _=>some (.flt b)
 | .ref a=>some (.ref a)
 | .type n=>some (.ty n)
 | _=>none
theorem RelV.abs {x:V}{u:Value} (r:RelV x u):absV u=some x:=by
 cases x with
 | non=>cases r; rfl
 | bl _=>cases r; rfl
 | int _=>obtain ⟨t,rfl⟩:=r; rfl
 | str _=>obtain ⟨t,rfl⟩:=r; rfl
 | byt _=>obtain ⟨t,rfl⟩:=r; rfl
 | flt _=>obtain ⟨t,rfl⟩:=r; rfl
 | ref _=>cases r; rfl
 | ty _=>cases r; rfl
theorem RelV.inj {x y:V}{u:Value} (r:RelV x u) (q:RelV y u):x=y:=Option.some.inj (r.abs.symm.trans q.abs)
theorem Vals.inj:∀ {xs ys:List V}{us:List Value},Vals xs us->Vals ys us->xs=ys
 | _,_,_,.nil,.nil=>rfl
 | _,_,_,.cons r t,.cons r' t'=>by rw [r.inj r',Vals.inj t t']
section
variable {X:Cx}{pins:List (Addr × Obj)}{σ:St}{H:Hp}{s:Shared}{a:Addr}{xs ys:List V}
theorem SqL.of {K:PySem.W.Frag} (h:H a=some (.lst xs)):SqL K H a xs := .inl (.inl h)
theorem SqT.of {K:PySem.W.Frag} (h:H a=some (.tup xs)):SqT K H a xs := .inl (.inl h)
theorem Inv.list (I:Inv X pins σ H s) (h:SqL X.K H a xs):∃ its:List Value,Vals xs its/\PlainL s.heap a its.toArray/\xs.length <= sizeLine:=by
 rcases h with h | ⟨o,its,n,hk,hc,hd,hs,hz,r⟩
 ·obtain ⟨z,its,n,r,e⟩:=h.ok I.hok
  exact ⟨its,r,⟨_,n,e,rfl,rfl,rfl⟩,z⟩
 ·refine ⟨its.toList,r,⟨o,n,I.kIn a o hk,hc,hd,by simpa using hs⟩,?_⟩
  have e:=r.length
  simp only [Array.length_toList] at e
  omega
theorem Inv.tuple (I:Inv X pins σ H s) (h:SqT X.K H a xs):∃ its:List Value,Vals xs its/\IsTup s.heap a its.toArray/\xs.length <= sizeLine:=by
 rcases h with h | ⟨o,its,n,hk,hc,hs,hz,r⟩
 ·obtain ⟨z,its,r,p⟩:=h.ok I.hok
  exact ⟨its,r,p.is,z⟩
 ·refine ⟨its.toList,r,⟨o,I.kIn a o hk,hc,n,by simpa using hs⟩,?_⟩
  have e:=r.length
  simp only [Array.length_toList] at e
  omega
theorem Inv.list_inj (I:Inv X pins σ H s) (h:SqL X.K H a xs) (h':SqL X.K H a ys):xs=ys:=by
 obtain ⟨its,r,⟨o,n,e,_,_,d⟩,_⟩:=I.list h
 obtain ⟨its',r',⟨o',n',e',_,_,d'⟩,_⟩:=I.list h'
 rw [e] at e'; cases e'
 rw [d] at d'
 injection d' with d1 _
 have:its=its' := by simpa using congrArg Array.toList d1
 subst this
 exact r.inj r'
theorem Inv.tuple_inj (I:Inv X pins σ H s) (h:SqT X.K H a xs) (h':SqT X.K H a ys):xs=ys:=by
 obtain ⟨its,r,⟨o,e,_,n,d⟩,_⟩:=I.tuple h
 obtain ⟨its',r',⟨o',e',_,n',d'⟩,_⟩:=I.tuple h'
 rw [e] at e'; cases e'
 rw [d] at d'
 injection d' with d1 _
 have:its=its' := by simpa using congrArg Array.toList d1
 subst this
 exact r.inj r'
end
abbrev Cx.wish (X:Cx) (E:Value->Shared->Prop):Cx := { X with xe:=E }
abbrev Cx.nox (X:Cx):Cx:=X.wish fun _ _=>False
theorem Cx.Ok.wish {X:Cx} (ok:X.Ok) (E:Value->Shared->Prop):(X.wish E).Ok :=
 ⟨ok.mod,ok.kind,ok.glob,ok.blt,ok.above,ok.inj,ok.has,ok.cab,ok.hd,ok.frames,ok.stk,ok.exf,ok.bs,ok.bsz,ok.noex,ok.exfs,ok.funs,ok.frf⟩
theorem Cx.Ok.unwish {X:Cx}{E:Value->Shared->Prop} (ok:(X.wish E).Ok):X.Ok :=
 ⟨ok.mod,ok.kind,ok.glob,ok.blt,ok.above,ok.inj,ok.has,ok.cab,ok.hd,ok.frames,ok.stk,ok.exf,ok.bs,ok.bsz,ok.noex,ok.exfs,ok.funs,ok.frf⟩
section
variable {X:Cx}{pins:List (Addr × Obj)}{σ:St}{H:Hp}{s:Shared}{E:Value->Shared->Prop}
theorem Inv.wish (I:Inv X pins σ H s) (E:Value->Shared->Prop):Inv (X.wish E) pins σ H s:=⟨I.ok.wish E,I.os,I.bare,I.base,I.loc,I.cell,I.free,I.freeC,I.pin,I.hok,I.len⟩
theorem Inv.unwish (I:Inv (X.wish E) pins σ H s):Inv X pins σ H s:=⟨I.ok.unwish,I.os,I.bare,I.base,I.loc,I.cell,I.free,I.freeC,I.pin,I.hok,I.len⟩
theorem SP.unwish {D:Ends}{f:Flow}{s':Shared} (h:SP (X.wish E) pins D f s'):SP X pins D f s' := by
 cases f with
 | next=>obtain ⟨σ',H',I,q⟩:=h; exact ⟨σ',H',I.unwish,q⟩
 | brk=>obtain ⟨σ',H',I,q⟩:=h; exact ⟨σ',H',I.unwish,q⟩
 | cont=>obtain ⟨σ',H',I,q⟩:=h; exact ⟨σ',H',I.unwish,q⟩
 | ret u=>obtain ⟨v,σ',H',I,r,q⟩:=h; exact ⟨v,σ',H',I.unwish,r,q⟩
theorem PSs.nox {st:List Stmt}{t:TS} (h:PSs X.nox st t):PSs X st t:=fun pins s σ H D I hw =>
 wpAny_mono (h pins s σ H D (I.wish _) hw) (fun _ _ q=>q.unwish) fun _ _ z=>False.elim z
end
section
variable {X:Cx}{st:Stmt}{rest:List Stmt}{t u:TS}{e:Expr}{te:TE}{pos:Pos}
def tNext:TS:=fun D σ H=>D.nx σ H
def tSeq (t u:TS):TS:=fun D σ H=>t { D with nx:=u D } σ H
theorem pss_nil:PSs X [] tNext:=fun _ _ σ H _ I h=>wpAny_execs_nil ⟨σ,H,I,h⟩
theorem pss_cons (h1:PS X st t) (h2:PSs X rest u):PSs X (st :: rest) (tSeq t u):=by
 intro pins s σ H D I h
 refine wpAny_execs_cons (thn (h1 pins s σ H { D with nx:=u D } I h) fun f s1 q=>?_)
 cases f with
 | next =>
  obtain ⟨σ',H',I',q⟩:=q
  exact h2 pins s1 σ' H' D I' q
 | ret v=>exact q
 | brk=>exact q
 | cont=>exact q
theorem pss_one (h1:PS X st t):PSs X [st] t:=by
 intro pins s σ H D I h
 refine wpAny_execs_cons (thn (h1 pins s σ H D I h) fun f s1 q=>?_)
 cases f with
 | next=>exact wpAny_execs_nil q
 | ret v=>exact q
 | brk=>exact q
 | cont=>exact q
theorem Inv.quiet {pins:List (Addr × Obj)}{σ:St}{H:Hp}{s:Shared} (I:Inv X pins σ H s):interactive X.env=false:=by simp [interactive,I.ok.kind]
def tDrop (te:TE):TS:=fun D σ H=>te σ H fun _ H1=>D.nx σ H1
theorem ps_expr (he:PE X e te) (hs:swapsWith e none pos.line X.env=pure false:=by rfl):PS X (.Expr e pos) (tDrop te):=by
 intro pins s σ H D I h
 exact wpAny_Expr_any (thn (he pins s σ H _ I h) fun v s1 hq5=>L2.ex5 hq5 fun x H1 I1 r1 q1=>⟨σ,H1,I1,q1⟩) I.quiet hs
def tRet (te:TE):TS:=fun D σ H=>te σ H D.rt
theorem ps_ret (he:PE X e te):PS X (.Return (some e) pos) (tRet te):=by
 intro pins s σ H D I h
 exact wpAny_Return_some (thn (he pins s σ H _ I h) fun v s1 hq5=>L2.ex5 hq5 fun x H1 I1 r1 q1=>⟨x,σ,H1,I1,r1,q1⟩)
def tIfS (c:TT) (t u:TS):TS:=fun D σ H=>c σ H fun b H1=>if b=true then t D σ H1 else u D σ H1
theorem ps_if {c:Expr}{a b:List Stmt}{tc:TT} (hc:PT X c tc) (ha:PSs X a t) (hb:PSs X b u):PS X (.If c a b pos) (tIfS tc t u):=by
 intro pins s σ H D I h
 refine wpAny_If (thn (hc pins s σ H _ I h) fun d s1 ⟨H1,I1,q1⟩=>?_)
 cases d with
 | true=>exact ha pins s1 σ H1 D I1 q1
 | false=>exact hb pins s1 σ H1 D I1 q1
end
abbrev TG:=V->St->Hp->(St->Hp->Prop)->Prop
abbrev TGs:=List V->St->Hp->(St->Hp->Prop)->Prop
def PG (X:Cx) (target:Expr) (t:TG):Prop :=
 ∀ (pins:List (Addr × Obj)) (s:Shared) (σ:St) (H:Hp) (v:V) (u:Value) (Q:St->Hp->Prop),Inv X pins σ H s->RelV v u->t v σ H Q ->
  wpAny (model X.prog X.w) X.A (assign target X.env u) (fun _ s'=>∃ σ' H',Inv X pins σ' H' s'/\Q σ' H') X.xe s
def PGs (X:Cx) (ts:List Expr) (t:TGs):Prop :=
 ∀ (pins:List (Addr × Obj)) (s:Shared) (σ:St) (H:Hp) (vs:List V) (us:List Value) (Q:St->Hp->Prop),Inv X pins σ H s->Vals vs us->t vs σ H Q ->
  wpAny (model X.prog X.w) X.A (assignInOrder ((assignEach ts X.env).map (·.2)) us) (fun _ s'=>∃ σ' H',Inv X pins σ' H' s'/\Q σ' H') X.xe s
section
variable {X:Cx}{pos:Pos}
def gName (i:Nat):TG:=fun v σ H Q=>Q (σ.set i (some v)) H
theorem pg_name {i:Nat}{x:Str} (hN:X.N.Nodup) (hi:X.N[i]?=some x) (hx:Loc X.env.scope x) (hf:X.fn x=true ∨ X.env.scope.names.lookup x=some .local:=by first | exact .inl rfl | exact .inr rfl | assumption):PG X (.Name x pos) (gName i):=by
 intro pins s σ H v u Q I r h
 exact wpAny_assign_Name (store_ok I hN hi hx r (fun s' I'=>⟨_,H,I',h⟩) hf)
def gNil:TGs:=fun vs σ H Q=>vs=[]/\Q σ H
def gCons (t:TG) (u:TGs):TGs:=fun vs σ H Q=>∃ v r,vs=v :: r/\t v σ H fun σ' H'=>u r σ' H' Q
theorem pgs_nil:PGs X [] gNil:=by
 intro pins s σ H vs us Q I r h
 obtain ⟨e,h⟩:=h
 subst e
 cases r
 exact assignInOrder_nil ⟨σ,H,I,h⟩
theorem pgs_cons {e:Expr}{es:List Expr}{t:TG}{u:TGs} (h1:PG X e t) (h2:PGs X es u)
  (hs:(assignEach (e :: es) X.env).map (·.2)=assign e X.env :: (assignEach es X.env).map (·.2):=by rfl):PGs X (e :: es) (gCons t u):=by
 intro pins s σ H vs us Q I r h
 obtain ⟨v,vr,e1,h⟩:=h
 subst e1
 cases r with
 | cons r rr =>
  rw [hs]
  refine assignInOrder_cons (thn (h1 pins s σ H _ _ _ I r h) fun _ s1 ⟨σ1,H1,I1,q1⟩=>?_)
  exact h2 pins s1 σ1 H1 _ _ Q I1 rr q1
def gTup (K:PySem.W.Frag) (n:Nat) (t:TGs):TG:=fun v σ H Q=>∃ a xs,v=.ref a/\SqT K H a xs/\xs.length=n/\t xs σ H Q
theorem pg_tup {es:List Expr}{k:Nat}{t:TGs}{n:Nat} (hc:X.calm=true) (h:PGs X es t)
  (hn:(assignEach es X.env).length=n:=by rfl) (hst:(assignEach es X.env).findIdx? (·.1)=none:=by rfl):PG X (.Tuple es k pos) (gTup X.K n t):=by
 intro pins s σ H v u Q I r hw
 obtain ⟨a,xs,e1,hq,hl,hw⟩:=hw
 subst e1
 cases r
 obtain ⟨its,rv,ht,hz⟩:=I.tuple hq
 refine assign_Tuple_tuple (I.ok.hd hc) ht (by simp [hn,<- hl,rv.length]) hst fun h' hx=>?_
 have I1:Inv X pins σ H { s with heap:=h' }:=I.kept (t' := s.toks) fun b o e=>hx b o (Nat.ne_of_lt (Heap.lt_size e)) e
 exact h pins _ σ H xs _ Q I1 (by simpa using rv) hw
def tAsg (te:TE) (g:TG):TS:=fun D σ H=>te σ H fun x H1=>g x σ H1 D.nx
theorem ps_set {i:Nat}{x:Str}{e:Expr}{te:TE}{pos':Pos} (hN:X.N.Nodup) (hi:X.N[i]?=some x) (hx:Loc X.env.scope x) (he:PE X e te) (hs:swapsWith e (some (.Name x pos')) pos.line X.env=pure false:=by rfl) (hf:X.fn x=true ∨ X.env.scope.names.lookup x=some .local:=by first | exact .inl rfl | exact .inr rfl | assumption) :
  PS X (.Assign [.Name x pos'] e pos) (tAsg te (gName i)):=by
 intro pins s σ H D I h
 refine wpAny_Assign_Name (thn (he pins s σ H _ I h) fun v s1 hq5=>L2.ex5 hq5 fun y H1 I1 r1 q1=>?_) hs
 exact store_ok I1 hN hi hx r1 (fun s2 I2=>⟨_,H1,I2,q1⟩) hf
end
section
variable {X:Cx}{pos:Pos}
def tWhile (c:TT) (tb:TS):TS:=fun D σ H=>∃ W:Nat->St->Hp->Prop,(∃ m,W m σ H)/\∀ m σ H,W m σ H ->
 c σ H fun b H1=>if b=true then ∃ N:St->Hp->Prop,(∀ σ' H',N σ' H'->∃ m',m' < m/\W m' σ' H')/\tb { D with nx:=N,ct:=N,bk:=D.nx } σ H1 else D.nx σ H1
theorem ps_while {c:Expr}{body:List Stmt}{tc:TT}{tb:TS} (hp:PassesOwn (model X.prog X.w) X.A X.env X.xe) (hc:PT X c tc) (hb:PSs X body tb):PS X (.While c body [] pos) (tWhile tc tb):=by
 intro pins s σ H D I h
 obtain ⟨W,⟨m0,w0⟩,turn⟩:=h
 refine wpAny_While (codeAny_whileLoop (fun n s'=>∃ σ' H',Inv X pins σ' H' s'/\W n σ' H') ?_ m0 ⟨σ,H,I,w0⟩)
 rintro n s1 ⟨σ1,H1,I1,w1⟩
 refine wpAny_passesOwn hp (thn (hc pins s1 σ1 H1 _ I1 (turn n σ1 H1 w1)) fun b s2 ⟨H2,I2,q2⟩=>?_)
 cases b with
 | true =>
  obtain ⟨N,hN,q2⟩:=q2
  rw [if_pos rfl]
  refine wpAny_passesOwn hp (thn (hb pins s2 σ1 H2 _ I2 q2) fun f s3 q3=>?_)
  cases f with
  | next =>
   obtain ⟨σ3,H3,I3,n3⟩:=q3
   obtain ⟨m',hm,w3⟩:=hN σ3 H3 n3
   exact ⟨m',hm,σ3,H3,I3,w3⟩
  | cont =>
   obtain ⟨σ3,H3,I3,n3⟩:=q3
   obtain ⟨m',hm,w3⟩:=hN σ3 H3 n3
   exact ⟨m',hm,σ3,H3,I3,w3⟩
  | brk=>exact q3
  | ret v=>exact q3
 | false =>
  rw [if_neg Bool.false_ne_true]
  exact wpAny_execs_nil ⟨σ1,H2,I2,q2⟩
end
structure It where
 go:Nat->Hp->Prop
 yld:Nat->Hp->V->Hp->Prop
 stop:Nat->Hp->Prop
def FpOk (X:Cx) (pins:List (Addr × Obj)) (H:Hp) (b:Addr):Prop :=
 H b=none/\b ≠ X.env.locals/\b ∉ X.fs/\(b ∈ X.ex ∨ X.s₀.heap.objs.size <= b)/\(∀ x c,X.env.cells.lookup x=some c->c ≠ b)/\∀ p ∈ X.pn ++ pins,p.1 ≠ b
theorem Inv.fpOk {X:Cx}{pins:List (Addr × Obj)}{σ:St}{H H':Hp}{s:Shared}{b:Addr} (I:Inv X pins σ H s) (hb:s.heap.objs.size <= b) (hn:H' b=none):FpOk X pins H' b:=by
 refine ⟨hn,Nat.ne_of_gt (Nat.lt_of_lt_of_le I.lt hb),I.nofs hb,.inr (Nat.le_trans I.sz hb),fun x c e z=>?_,fun p hp z=>?_⟩
 ·obtain ⟨v,q⟩:=I.cell x c e
  exact absurd (Nat.lt_of_lt_of_le q.lt (by rw [z]; exact hb)) (Nat.lt_irrefl _)
 ·exact absurd (Nat.lt_of_lt_of_le (Heap.lt_size (I.pin p hp).1) (by rw [z]; exact hb)) (Nat.lt_irrefl _)
structure TurnC (cm:Cx->Prop) (P:Program) (w:World) (K:PySem.W.Frag) (tg:Expr) (J:It) (fp:List Addr) (it:Addr) (tn:Nat->Heap->Prop):Prop where
 mem:it ∈ fp
 obj:∀ i h,tn i h->∀ b ∈ fp,∃ o,h.get? b=some o/\∀ v,o.data ≠ .cell v
 keep:∀ i h h',tn i h->(∀ b ∈ fp,∀ o,h.get? b=some o->h'.get? b=some o)->tn i h'
 item:∀ (X:Cx),X.prog=P->X.w=w->X.K=K->cm X->∀ (i:Nat) (pins:List (Addr × Obj)) (s:Shared) (σ:St) (H:Hp) (E:Value->Shared->Prop),Inv X pins σ H s->(∀ b ∈ fp,FpOk X pins H b)->tn i s.heap->J.go i H ->
  wpAny (model P w) X.A (pyNext (.ref it)) (fun r s1=>∃ u,r=some u /\
   wpAny (model P w) X.A (letOwnedTupleGo tg (.ref it) u) (fun _ s2=>∃ x H',Inv X pins σ H' s2/\RelV x u/\J.yld i H x H'/\tn (i + 1) s2.heap/\∀ b ∈ fp,H' b=none) E s1) E s
 done:∀ (X:Cx),X.prog=P->X.w=w->X.K=K->cm X->∀ (i:Nat) (pins:List (Addr × Obj)) (s:Shared) (σ:St) (H:Hp) (E:Value->Shared->Prop),Inv X pins σ H s->(∀ b ∈ fp,FpOk X pins H b)->tn i s.heap->J.stop i H ->
  wpAny (model P w) X.A (pyNext (.ref it)) (fun r s1=>r=none/\Inv X pins σ H s1) E s
 self:∀ (A:Around) (i:Nat) (s:Shared) (Q:Value->Shared->Prop) (E:Value->Shared->Prop),tn i s.heap->Q (.ref it) s->wpAny (model P w) A (pyIter (.ref it)) Q E s
abbrev Turn:=TurnC fun X=>X.calm=true
abbrev TI:=St->Hp->(It->Hp->Prop)->Prop
def PIE (X:Cx) (pins:List (Addr × Obj)) (σ:St) (tg:Expr) (R:It->Hp->Prop) (itv:Value) (s2:Shared):Prop :=
 ∃ (it:Addr) (fp:List Addr) (tn:Nat->Heap->Prop) (J:It) (H':Hp),itv=.ref it/\Inv X pins σ H' s2/\Turn X.prog X.w X.K tg J fp it tn/\tn 0 s2.heap/\(∀ b ∈ fp,FpOk X pins H' b)/\R J H'
def PI (X:Cx) (tg iter:Expr) (wi:TI):Prop :=
 ∀ (pins:List (Addr × Obj)) (s:Shared) (σ:St) (H:Hp) (R:It->Hp->Prop),Inv X pins σ H s->wi σ H R ->
  wpAny (model X.prog X.w) X.A (eval iter X.env) (fun v s1=>wpAny (model X.prog X.w) X.A (pyIter v) (PIE X pins σ tg R) X.xe s1) X.xe s
theorem go_of {M : Model} {A : Around} {E : Value -> Shared -> Prop} {s : Shared} {tg : Expr} {it : Addr} {u : Value} {o : Obj} {n : String} {vs : Array Value} {Q : Unit -> Shared -> Prop} (ho : s.heap.get? it = some o) (hc : o.cls = .type n) (hd : o.data = .fields vs)
    (hn : ["enumerate", "zip", "dict_itemiterator", "dict_reverseitemiterator", "odict_iterator", "itertools.zip_longest", "itertools.pairwise"].contains n = false) (hQ : Q () s) : wpAny M A (letOwnedTupleGo tg (.ref it) u) Q E s:=by
  unfold letOwnedTupleGo
  cases tg <;> first
    | exact wpAny_pure hQ
    | (cases u <;> first
        | exact wpAny_pure hQ
        | (refine wpAny_bind (wpAny_load ho ?_)
           rw [hc, hd]
           show wpAny M A (if (["enumerate", "zip", "dict_itemiterator", "dict_reverseitemiterator", "odict_iterator", "itertools.zip_longest", "itertools.pairwise"].contains n && vs[0]? == some (rawInt _)) = true then _ else _) Q E s
           rw [if_neg (by intro h; rw [hn, Bool.false_and] at h; cases h)]
           exact wpAny_pure hQ))
def Itl (K:PySem.W.Frag) (a:Addr):It :=
 ⟨fun i H=>∃ xs x,SqL K H a xs/\xs[i]?=some x,fun i H x H'=>H'=H/\∀ xs,SqL K H a xs->xs[i]?=some x,fun i H=>∃ xs,SqL K H a xs/\xs.length <= i⟩
def Itt (K:PySem.W.Frag) (a:Addr):It :=
 ⟨fun i H=>∃ xs x,SqT K H a xs/\xs[i]?=some x,fun i H x H'=>H'=H/\∀ xs,SqT K H a xs->xs[i]?=some x,fun i H=>∃ xs,SqT K H a xs/\xs.length <= i⟩
def Itr (lo:Int) (n:Nat):It:=⟨fun i _=>i < n,fun i H x H'=>H'=H/\x=.int (lo + i),fun i _=>n <= i⟩
theorem turn_list {P:Program}{w:World}{K:PySem.W.Frag}{tg:Expr} (a it:Addr):Turn P w K tg (Itl K a) [it] it (fun i h=>h.IsListIter it a i) where
 mem:=by simp
 obj:=fun i h st b hb=>by
  have e:b=it:=by simpa using hb
  subst e
  obtain ⟨o,e,c,d⟩:=st
  exact ⟨o,e,fun v z=>by rw [d] at z; cases z⟩
 keep:=fun i h h' st k=>st.at fun o e=>k it (by simp) o e
 item:=by
  intro X hP hw hK hc i pins s σ H E I hf st hg
  subst hP hw hK
  obtain ⟨xs,x,hq,hx⟩:=hg
  obtain ⟨its,rv,p,hz⟩:=I.list hq
  obtain ⟨u,hu,ru⟩:=rv.get hx
  obtain ⟨f0,f1,f2,f3,f4,f5⟩:=hf it (by simp)
  refine wpAny_pyNext_list_item st p.isList (x:=u) (by simpa using hu) fun h' st' sb=>?_
  have I1:Inv X pins σ H { s with heap:=h' }:=I.turned (t' := s.toks) (fun b o hb e=>(sb.2 b hb).trans e) f0 f1 f3 f4 f5
  obtain ⟨o,e,c,d⟩:=id st'
  exact ⟨u,rfl,go_of (s := { s with heap:=h' }) e c d (by decide) ⟨x,H,I1,ru,⟨rfl,fun ys hy=>by rw [I.list_inj hy hq]; exact hx⟩,st',fun b hb=>(hf b hb).1⟩⟩
 done:=by
  intro X hP hw hK hc i pins s σ H E I hf st hg
  subst hP hw hK
  obtain ⟨xs,hq,hx⟩:=hg
  obtain ⟨its,rv,p,hz⟩:=I.list hq
  obtain ⟨f0,f1,f2,f3,f4,f5⟩:=hf it (by simp)
  have hl:=rv.length
  exact wpAny_pyNext_list_end (I.ok.hd hc) st p.isList (by simp; omega) fun h' eb=>⟨rfl,I.turned (t' := s.toks) (fun b o hb e=>eb b o hb e) f0 f1 f3 f4 f5⟩
 self:=fun _ _ _ _ _ st h=>wpAny_pyIter_listiter st h
theorem turn_tuple {P:Program}{w:World}{K:PySem.W.Frag}{tg:Expr} (a it:Addr):Turn P w K tg (Itt K a) [it] it (fun i h=>h.IsTupleIter it a i) where
 mem:=by simp
 obj:=fun i h st b hb=>by
  have e:b=it:=by simpa using hb
  subst e
  obtain ⟨o,e,c,d⟩:=st
  exact ⟨o,e,fun v z=>by rw [d] at z; cases z⟩
 keep:=fun i h h' st k=>st.at fun o e=>k it (by simp) o e
 item:=by
  intro X hP hw hK hc i pins s σ H E I hf st hg
  subst hP hw hK
  obtain ⟨xs,x,hq,hx⟩:=hg
  obtain ⟨its,rv,p,hz⟩:=I.tuple hq
  obtain ⟨u,hu,ru⟩:=rv.get hx
  obtain ⟨f0,f1,f2,f3,f4,f5⟩:=hf it (by simp)
  refine wpAny_pyNext_tuple_item st (show s.heap.IsTuple a its.toArray from p) (x:=u) (by simpa using hu) fun h' st' sb=>?_
  have I1:Inv X pins σ H { s with heap:=h' }:=I.turned (t' := s.toks) (fun b o hb e=>(sb.2 b hb).trans e) f0 f1 f3 f4 f5
  obtain ⟨o,e,c,d⟩:=id st'
  exact ⟨u,rfl,go_of (s := { s with heap:=h' }) e c d (by decide) ⟨x,H,I1,ru,⟨rfl,fun ys hy=>by rw [I.tuple_inj hy hq]; exact hx⟩,st',fun b hb=>(hf b hb).1⟩⟩
 done:=by
  intro X hP hw hK hc i pins s σ H E I hf st hg
  subst hP hw hK
  obtain ⟨xs,hq,hx⟩:=hg
  obtain ⟨its,rv,p,hz⟩:=I.tuple hq
  obtain ⟨f0,f1,f2,f3,f4,f5⟩:=hf it (by simp)
  have hl:=rv.length
  exact wpAny_pyNext_tuple_end (I.ok.hd hc) st (show s.heap.IsTuple a its.toArray from p) (by simp; omega) fun h' eb=>⟨rfl,I.turned (t' := s.toks) (fun b o hb e=>eb b o hb e) f0 f1 f3 f4 f5⟩
 self:=fun _ _ _ _ _ st h=>wpAny_pyIter_tupleiter st h
theorem turn_range {P:Program}{w:World}{K:PySem.W.Frag}{tg:Expr} (it:Addr) (lo:Int) (n:Nat):Turn P w K tg (Itr lo n) [it] it (fun i h=>IsRangeIter h it (lo + (i:Nat) * 1) ((n:Int) - (i:Nat)) 1) where
 mem:=by simp
 obj:=fun i h st b hb=>by
  have e:b=it:=by simpa using hb
  subst e
  exact ⟨_,st,fun v z=>by
   have z':Data.fields _=Data.cell v:=z
   cases z'⟩
 keep:=fun i h h' st k=>k it (by simp) _ st
 item:=by
  intro X hP hw hK hc i pins s σ H E I hf st hg
  subst hP hw hK
  obtain ⟨f0,f1,f2,f3,f4,f5⟩:=hf it (by simp)
  have W:=Walks.range (prog:=X.prog) (w:=X.w) (I.ok.hd hc) it lo 1 n
  refine W.item i s _ _ hg st fun v h' tk hv st' kk=>?_
  obtain ⟨t,rfl⟩:=hv
  have I1:Inv X pins σ H { s with heap:=h',toks:=tk }:=I.turned (fun b o hb e=>kk b o (by simpa using hb) e) f0 f1 f3 f4 f5
  refine ⟨_,rfl,go_of (s := { s with heap:=h',toks:=tk }) (n := "range_iterator") st' rfl rfl (by decide) ⟨.int (lo + i),H,I1,⟨t,?_⟩,⟨rfl,rfl⟩,st',fun b hb=>(hf b hb).1⟩⟩
  rw [Int.mul_one]
 done:=by
  intro X hP hw hK hc i pins s σ H E I hf st hg
  subst hP hw hK
  obtain ⟨f0,f1,f2,f3,f4,f5⟩:=hf it (by simp)
  exact wpAny_pyNext_range_end (I.ok.hd hc) st (by have:n <= i:=hg; omega) fun h' eb=>⟨rfl,I.turned (t' := s.toks) (fun b o hb e=>eb b o hb e) f0 f1 f3 f4 f5⟩
 self:=fun _ _ _ _ _ st h=>wpAny_pyIter_rangeiter st h
section
variable {X:Cx}{tg:Expr}
theorem range_it {pins:List (Addr × Obj)}{σ:St}{H:Hp}{s:Shared}{R:It->Hp->Prop}{E:Value->Shared->Prop}{lo hi:Int}{t u v:Tok}{tk:Nat} (I:Inv X pins σ H s) (h1 : -(2 ^ 62) <= lo) (h2:lo < 2 ^ 62) (h3 : -(2 ^ 62) <= hi) (h4:hi < 2 ^ 62)
  (q:R (Itr lo (hi - lo).toNat) H):wpAny (model X.prog X.w) X.A (pyIter (.ref s.heap.objs.size)) (PIE X pins σ tg R) E { s with heap:=s.heap.push { cls := .type "range",data := .fields #[.int lo t,.int hi u,.int 1 v] },toks:=tk }:=by
 refine wpAny_pyIter_range (IsRange.new ..) (small_one h1 h2 h3 h4) ?_
 have I1:Inv X pins σ H { s with heap:=s.heap.push { cls := .type "range",data := .fields #[.int lo t,.int hi u,.int 1 v] },toks:=tk }:=I.kept fun b o e=>Heap.get?_push_of_some _ e
 refine ⟨(s.heap.push { cls := .type "range",data := .fields #[.int lo t,.int hi u,.int 1 v] }).objs.size,[(s.heap.push { cls := .type "range",data := .fields #[.int lo t,.int hi u,.int 1 v] }).objs.size],_,_,H,rfl,
  I1.kept (t' := tk) fun b o e=>Heap.get?_push_of_some _ e,turn_range _ lo (hi - lo).toNat,?_,fun b hb=>?_,q⟩
 ·have e1:lo + ((0:Nat):Int) * 1=lo:=by simp
  have e2:(((hi - lo).toNat:Nat):Int) - ((0:Nat):Int)=Builtin.Range.rangeSize lo hi 1:=by rw [rangeSize_one]; split <;> omega
  show IsRangeIter _ _ (lo + ((0:Nat):Int) * 1) ((((hi - lo).toNat:Nat):Int) - ((0:Nat):Int)) 1
  rw [e1,e2]
  exact Heap.get?_push_size _ rfl
 ·have e:b=(s.heap.push { cls := .type "range",data := .fields #[.int lo t,.int hi u,.int 1 v] }).objs.size:=by simpa using hb
  subst e
  exact I1.fpOk (Nat.le_refl _) (I1.hok.fresh (Nat.le_refl _))
def iRng1 (ta:TA):TI:=fun σ H R=>ta σ H fun vs H1=>∃ j:Int,vs=[.int j] /\ -(2 ^ 62) <= j/\j < 2 ^ 62/\R (Itr 0 j.toNat) H1
theorem pi_range1 {a:Expr}{ta:TA}{p pos:Pos} (hg:Gl X "range") (hm:X.mg "range" = none) (ha:PA X [a] ta) (hs:starEach [a] X.env=[(false,eval a X.env)]:=by rfl):PI X tg (.Call (.Name "range" p) [a] [] pos) (iRng1 ta):=by
 intro pins s σ H R I h
 refine Call_ (ld_blt I hg hm boot_range (PyProof.Rows.callWith_type1 (thn (ha pos pins s σ H _ I h) fun us s1 hq5=>L2.ex5 hq5 fun vs H1 I1 r1 q1=>?_) hs rfl))
 obtain ⟨j,e,q1,q2,q⟩:=q1
 subst e
 cases r1 with
 | cons r rr =>
  cases rr
  obtain ⟨t,rfl⟩:=r
  exact call_range_1 (range_it I1 (by omega) (by omega) q1 q2 (by simpa using q))
def tFor (wi:TI) (g:TG) (tb:TS):TS:=fun D σ H=>wi σ H fun J H1=>∃ W:Nat->Nat->St->Hp->Prop,(∃ m,W 0 m σ H1)/\∀ i m σ H,W i m σ H ->
 (J.stop i H/\D.nx σ H) ∨ (J.go i H/\∃ N:St->Hp->Prop,(∀ σ' H',N σ' H'->∃ m',m' < m/\W (i + 1) m' σ' H')/\∀ x H',J.yld i H x H'->g x σ H' fun σ2 H2=>tb { D with nx:=N,ct:=N,bk:=D.nx } σ2 H2)
def pinsAt (fp:List Addr) (h:Heap):List (Addr × Obj):=fp.filterMap fun b=>(h.get? b).map fun o=>(b,o)
theorem mem_pinsAt {fp:List Addr}{h:Heap}{b:Addr}{o:Obj} (hb:b ∈ fp) (e:h.get? b=some o):(b,o) ∈ pinsAt fp h:=List.mem_filterMap.mpr ⟨b,hb,by rw [e]; rfl⟩
theorem of_pinsAt {fp:List Addr}{h:Heap}{p:Addr × Obj} (hp:p ∈ pinsAt fp h):p.1 ∈ fp/\h.get? p.1=some p.2:=by
 obtain ⟨b,hb,e⟩:=List.mem_filterMap.mp hp
 cases q:h.get? b with
 | none=>rw [q] at e; cases e
 | some o =>
  rw [q] at e
  have e':(b,o)=p:=Option.some.inj e
  subst e'
  exact ⟨hb,q⟩
theorem Inv.pinned {pins:List (Addr × Obj)}{σ:St}{H:Hp}{s:Shared}{fp:List Addr} (I:Inv X pins σ H s) (hf:∀ b ∈ fp,FpOk X pins H b) (ho:∀ b ∈ fp,∃ o,s.heap.get? b=some o/\∀ v,o.data ≠ .cell v):Inv X (pins ++ pinsAt fp s.heap) σ H s :=
 I.pins_of fun p hp=>(List.mem_append.mp hp).elim (fun z=>I.pin p (List.mem_append_right _ z)) fun z=>by
  obtain ⟨hb,e⟩:=of_pinsAt z
  obtain ⟨f0,f1,f2,_⟩:=hf p.1 hb
  obtain ⟨o,e',d⟩:=ho p.1 hb
  rw [e] at e'; cases e'
  exact ⟨e,f0,f1,f2,d⟩
theorem Inv.unpinned {pins pl:List (Addr × Obj)}{σ:St}{H:Hp}{s:Shared} (I:Inv X (pins ++ pl) σ H s):Inv X pins σ H s:=I.pins_of fun p hp=>I.pin p (List.mem_append_right _ (List.mem_append_left _ hp))
theorem ps_for {iter:Expr}{body:List Stmt}{wi:TI}{g:TG}{tb:TS}{pos:Pos} (hp:PassesOwn (model X.prog X.w) X.A X.env X.xe) (hc:X.calm=true) (hi:PI X tg iter wi) (hg:PG X tg g) (hb:PSs X body tb)
  (hs:∀ x,foldedSetIterable iter X.env x=pure x:=by intro _; rfl):PS X (.For tg iter body [] pos) (tFor wi g tb):=by
 intro pins s σ H D I h
 refine wpAny_For (thn (hi pins s σ H _ I h) fun v s1 h1=>thn h1 fun itv s2 h2=>?_) hs
 obtain ⟨it,fp,tn,J,H2,e,I2,T,st2,f2,W,⟨m0,w0⟩,turn⟩:=h2
 subst e
 have stat:∀ {H':Hp},(∀ b ∈ fp,H' b=none)->∀ b ∈ fp,FpOk X pins H' b:=fun hn b hb=>⟨hn b hb,(f2 b hb).2⟩
 refine codeAny_forLoop_any (fun n s'=>∃ i σ' H',Inv X pins σ' H' s'/\tn i s'.heap/\(∀ b ∈ fp,H' b=none)/\W i n σ' H') ?_ m0 ⟨0,σ,H2,I2,st2,fun b hb=>(f2 b hb).1,w0⟩
 rintro n s3 ⟨i,σ3,H3,I3,st3,fr3,w3⟩
 rcases turn i n σ3 H3 w3 with ⟨stop,qn⟩ | ⟨go,N,hN,step⟩
 ·refine wpAny_passesOwn hp (thn (T.done X rfl rfl rfl hc i pins s3 σ3 H3 X.xe I3 (stat fr3) st3 stop) fun r s4 ⟨hr,I4⟩=>?_)
  subst hr
  exact wpAny_execs_nil ⟨σ3,H3,I4,qn⟩
 ·refine wpAny_passesOwn hp (thn (T.item X rfl rfl rfl hc i pins s3 σ3 H3 X.xe I3 (stat fr3) st3 go) fun r s4 ⟨u,hr,h4⟩=>?_)
  subst hr
  refine wpAny_passesOwn hp (thn h4 fun _ s5 ⟨x,H5,I5,r5,y5,st5,fr5⟩=>?_)
  have I5' := I5.pinned (stat fr5) (T.obj _ _ st5)
  refine wpAny_passesOwn hp (thn (hg _ s5 σ3 H5 x u _ I5' r5 (step x H5 y5)) fun _ s6 ⟨σ6,H6,I6,q6⟩=>?_)
  refine wpAny_passesOwn hp (thn (hb _ s6 σ6 H6 _ I6 q6) fun f s7 q7=>?_)
  have again:∀ {σ7:St}{H7:Hp},Inv X (pins ++ pinsAt fp s5.heap) σ7 H7 s7->N σ7 H7->∃ m,m < n/\∃ i σ' H',Inv X pins σ' H' s7/\tn i s7.heap/\(∀ b ∈ fp,H' b=none)/\W i m σ' H' := fun {σ7 H7} I7 n7=>by
   obtain ⟨m',hm,w7⟩:=hN σ7 H7 n7
   refine ⟨m',hm,i + 1,σ7,H7,I7.unpinned,T.keep _ _ _ st5 fun b hb o e=>(I7.pin (b,o) (List.mem_append_right _ (List.mem_append_right _ (mem_pinsAt hb e)))).1,fun b hb=>?_,w7⟩
   obtain ⟨o,e,d⟩:=T.obj _ _ st5 b hb
   exact (I7.pin (b,o) (List.mem_append_right _ (List.mem_append_right _ (mem_pinsAt hb e)))).2.1
  cases f with
  | next=>obtain ⟨σ7,H7,I7,n7⟩:=q7; exact again I7 n7
  | cont=>obtain ⟨σ7,H7,I7,n7⟩:=q7; exact again I7 n7
  | brk=>obtain ⟨σ7,H7,I7,q7⟩:=q7; exact ⟨σ7,H7,I7.unpinned,q7⟩
  | ret v=>obtain ⟨x7,σ7,H7,I7,r7,q7⟩:=q7; exact ⟨x7,σ7,H7,I7.unpinned,r7,q7⟩
end
abbrev R2:=V->V->Hp->VK->Prop
def OpR (X:Cx) (f:Value->Value->Sem Value) (r:R2):Prop :=
 ∀ (pins:List (Addr × Obj)) (s:Shared) (σ:St) (H:Hp) (x y:V) (v u:Value) (Q:VK),Inv X pins σ H s->RelV x v->RelV y u->r x y H Q ->
  wpAny (model X.prog X.w) X.A (f v u) (EP X pins σ Q) X.xe s
def UnR (X:Cx) (f:Value->Sem Value) (r:V->Hp->VK->Prop):Prop :=
 ∀ (pins:List (Addr × Obj)) (s:Shared) (σ:St) (H:Hp) (x:V) (v:Value) (Q:VK),Inv X pins σ H s->RelV x v->r x H Q ->
  wpAny (model X.prog X.w) X.A (f v) (EP X pins σ Q) X.xe s
def CallR (X:Cx) (f:Value) (r:List V->Hp->VK->Prop):Prop :=
 ∀ (pins:List (Addr × Obj)) (s:Shared) (σ:St) (H:Hp) (xs:List V) (us:List Value) (Q:VK),Inv X pins σ H s->Vals xs us->r xs H Q ->
  wpAny (model X.prog X.w) X.A (call f us) (EP X pins σ Q) X.xe s
def TruR (X:Cx) (r:V->Hp->(Bool->Hp->Prop)->Prop):Prop :=
 ∀ (pins:List (Addr × Obj)) (s:Shared) (σ:St) (H:Hp) (x:V) (v:Value) (Q:Bool->Hp->Prop),Inv X pins σ H s->RelV x v->r x H Q ->
  wpAny (model X.prog X.w) X.A (truthy v) (TP X pins σ Q) X.xe s
def tOp (r:R2) (ta tb:TE):TE:=fun σ H Q=>ta σ H fun x H1=>tb σ H1 fun y H2=>r x y H2 Q
def tUn (r:V->Hp->VK->Prop) (ta:TE):TE:=fun σ H Q=>ta σ H fun x H1=>r x H1 Q
def rI (C:Int->Int->Prop) (g:Int->Int->V):R2:=fun x y H Q=>∃ i j,x=.int i/\y=.int j/\C i j/\Q (g i j) H
def rI0 (g:Int->Int->V):R2:=fun x y H Q=>∃ i j,x=.int i/\y=.int j/\Q (g i j) H
def rU (g:Int->V):V->Hp->VK->Prop:=fun x H Q=>∃ i,x=.int i/\Q (g i) H
section
variable {X:Cx}{a b c:Expr}{ta tb tc:TE}{pos:Pos}
theorem binT (ha:PE X a ta) (hb:PE X b tb) {pins:List (Addr × Obj)}{s:Shared}{σ:St}{H:Hp}{R:V->V->Hp->Prop} (I:Inv X pins σ H s)
  (h:ta σ H fun x H1=>tb σ H1 fun y H2=>R x y H2) {Q:Value->Shared->Prop}{f:Value->Value->Sem Value}
  (hf:∀ v u s2 x y H2,Inv X pins σ H2 s2->RelV x v->RelV y u->R x y H2->wpAny (model X.prog X.w) X.A (f v u) Q X.xe s2) :
  wpAny (model X.prog X.w) X.A (eval a X.env) (fun v s₁=>wpAny (model X.prog X.w) X.A (eval b X.env) (fun u s₂=>wpAny (model X.prog X.w) X.A (f v u) Q X.xe s₂) X.xe s₁) X.xe s:=by
 refine thn (ha pins s σ H _ I h) fun v s1 hq5=>L2.ex5 hq5 fun x H1 I1 r1 q1=>?_
 refine thn (hb pins s1 σ H1 _ I1 q1) fun u s2 hq5=>L2.ex5 hq5 fun y H2 I2 r2 q2=>?_
 exact hf v u s2 x y H2 I2 r1 r2 q2
theorem pe_op {op:Operator}{r:R2} (ho:OpR X (binaryOp op) r) (ha:PE X a ta) (hb:PE X b tb):PE X (.BinOp a op b pos) (tOp r ta tb):=by
 intro pins s σ H Q I h
 exact wpAny_BinOp (binT ha hb I h fun v u s2 x y H2 I2 rx ry q=>ho pins s2 σ H2 x y v u Q I2 rx ry q)
theorem pe_un {op:UnaryOp}{r:V->Hp->VK->Prop} (ho:UnR X (unaryOp op) r) (ha:PE X a ta):PE X (.UnaryOp op a pos) (tUn r ta):=by
 intro pins s σ H Q I h
 exact UnaryOp_ (thn (ha pins s σ H _ I h) fun v s1 hq5=>L2.ex5 hq5 fun x H1 I1 r1 q1=>ho pins s1 σ H1 x v Q I1 r1 q1)
theorem opI {f:Value->Value->Sem Value}{C:Int->Int->Prop}{g:Int->Int->Int}
  (rule:∀ (i j:Int) (t u:Tok) (s:Shared) (Q:Value->Shared->Prop) (E:Value->Shared->Prop),C i j->Q (.int (g i j) s.toks) { s with toks:=s.toks + 1 }->wpAny (model X.prog X.w) X.A (f (.int i t) (.int j u)) Q E s) :
  OpR X f (rI C fun i j=>.int (g i j)):=by
 intro pins s σ H x y v u Q I rx ry h
 obtain ⟨i,j,rfl,rfl,hc,q⟩:=h
 obtain ⟨t,rfl⟩:=rx
 obtain ⟨t',rfl⟩:=ry
 exact rule i j t t' s _ _ hc ⟨.int (g i j),H,I.tok _,⟨_,rfl⟩,q⟩
theorem opI0 {f:Value->Value->Sem Value}{g:Int->Int->Int}
  (rule:∀ (i j:Int) (t u:Tok) (s:Shared) (Q:Value->Shared->Prop) (E:Value->Shared->Prop),Q (.int (g i j) s.toks) { s with toks:=s.toks + 1 }->wpAny (model X.prog X.w) X.A (f (.int i t) (.int j u)) Q E s) :
  OpR X f (rI0 fun i j=>.int (g i j)):=by
 intro pins s σ H x y v u Q I rx ry h
 obtain ⟨i,j,rfl,rfl,q⟩:=h
 obtain ⟨t,rfl⟩:=rx
 obtain ⟨t',rfl⟩:=ry
 exact rule i j t t' s _ _ ⟨.int (g i j),H,I.tok _,⟨_,rfl⟩,q⟩
theorem opB0 {f:Value->Value->Sem Value}{g:Int->Int->Bool}
  (rule:∀ (i j:Int) (t u:Tok) (s:Shared) (Q:Value->Shared->Prop) (E:Value->Shared->Prop),Q (.bool (g i j)) s->wpAny (model X.prog X.w) X.A (f (.int i t) (.int j u)) Q E s) :
  OpR X f (rI0 fun i j=>.bl (g i j)):=by
 intro pins s σ H x y v u Q I rx ry h
 obtain ⟨i,j,rfl,rfl,q⟩:=h
 obtain ⟨t,rfl⟩:=rx
 obtain ⟨t',rfl⟩:=ry
 exact rule i j t t' s _ _ ⟨.bl (g i j),H,I,rfl,q⟩
def CDiv (i j:Int):Prop:=0 < j/\j < 1073741824
def CPow (i j:Int):Prop:=0 <= j/\j <= 1000000/\i.natAbs < 2 ^ 64
def CMul (i j:Int):Prop:=(-(2 ^ 64) < i/\i < 2 ^ 64) ∨ (-(2 ^ 64) < j/\j < 2 ^ 64)
theorem CMul.ok {i j:Int} (h:CMul i j):IntMulOk i j:=by
 rcases h with ⟨h1,h2⟩ | ⟨h1,h2⟩
 ·exact .of_left (intBits_le_64 h1 h2)
 ·exact .of_right (intBits_le_64 h1 h2)
theorem two_pow_nn (k:Nat):(0:Int) <= 2 ^ k:=by
 rw [two_pow_cast]
 exact Int.natCast_nonneg _
theorem op_add:OpR X (binaryOp .Add) (rI0 fun i j=>.int (i + j)):=opI0 fun _ _ _ _ _ _ _ q=>add_int q
theorem op_sub:OpR X (binaryOp .Sub) (rI0 fun i j=>.int (i - j)):=opI0 fun _ _ _ _ _ _ _ q=>sub_int q
theorem op_fdiv:OpR X (binaryOp .FloorDiv) (rI CDiv fun i j=>.int (i / j)):=opI fun i j _ _ _ _ _ hc q=>by
 have h1:(0:Int) < j:=hc.1
 have h2:j < 1073741824:=hc.2
 exact floordiv_int (by omega) (by rw [Int.fdiv_eq_ediv_of_nonneg i (by omega)]; exact q) (.inl (PyProof.noPylong_small (by omega)))
theorem op_mod:OpR X (binaryOp .Mod) (rI (fun _ j=>0 < j) fun i j=>.int (i % j)):=opI fun i j _ _ _ _ _ hc q=>by
 have h1:(0:Int) < j:=hc
 exact mod_int' (by omega) (by rw [Int.fmod_eq_emod_of_nonneg i (by omega)]; exact q)
theorem op_pow:OpR X (binaryOp .Pow) (rI CPow fun i j=>.int (i ^ j.toNat)):=opI fun _ _ _ _ _ _ _ hc q=>pow_int_small hc.1 hc.2.1 hc.2.2 q
theorem op_shr:OpR X (binaryOp .RShift) (rI (fun _ j=>0 <= j) fun i j=>.int (i / 2 ^ j.toNat)):=opI fun i j _ _ _ _ _ hc q =>
 rshift_int hc (by rw [Int.fdiv_eq_ediv_of_nonneg i (two_pow_nn _)]; exact q)
theorem unI {f:Value->Sem Value}{g:Int->Int}
  (rule:∀ (i:Int) (t:Tok) (s:Shared) (Q:Value->Shared->Prop) (E:Value->Shared->Prop),Q (.int (g i) s.toks) { s with toks:=s.toks + 1 }->wpAny (model X.prog X.w) X.A (f (.int i t)) Q E s) :
  UnR X f (rU fun i=>.int (g i)):=by
 intro pins s σ H x v Q I rx h
 obtain ⟨i,rfl,q⟩:=h
 obtain ⟨t,rfl⟩:=rx
 exact rule i t s _ _ ⟨.int (g i),H,I.tok _,⟨_,rfl⟩,q⟩
theorem un_neg:UnR X (unaryOp .USub) (rU fun i=>.int (-i)):=unI fun _ _ _ _ _ q=>neg_int q
end
def scal:V->V->Bool
 | .non,.non=>true | .non,.int _=>true | .int _,.non=>true | .non,.bl _=>true | .bl _,.non=>true | .non,.str _=>true | .str _,.non=>true
 | .int _,.int _=>true | .bl _,.bl _=>true | .str _,.str _=>true | .byt _,.byt _=>true
 | .int _,.str _=>true | .str _,.int _=>true | .bl _,.str _=>true | .str _,.bl _=>true
 | _,_=>false
def rEq:R2:=fun x y H Q=>scal x y=true/\Q (.bl (decide (x=y))) H
def rNe:R2:=fun x y H Q=>scal x y=true/\Q (.bl (!decide (x=y))) H
theorem dec_int {i j:Int}:decide (V.int i=V.int j)=(i == j):=by
 rw [Bool.eq_iff_iff]
 simp
theorem dec_bl {i j:Bool}:decide (V.bl i=V.bl j)=(i == j):=by
 rw [Bool.eq_iff_iff]
 simp
theorem dec_str {i j:Str}:decide (V.str i=V.str j)=(i == j):=by
 rw [Bool.eq_iff_iff]
 simp
theorem dec_byt {i j:Array UInt8}:decide (V.byt i=V.byt j)=(i.toList == j.toList):=by
 rw [Bool.eq_iff_iff]
 cases i
 cases j
 simp
section
variable {X:Cx}{a b c:Expr}{ta tb tc:TE}{pos:Pos}
theorem fin_bl {pins:List (Addr × Obj)}{σ:St}{H:Hp}{s:Shared}{Q:VK}{k k':Bool} (I:Inv X pins σ H s) (q:Q (.bl k) H) (e:k=k'):EP X pins σ Q (.bool k') s:=by
 subst e
 exact ⟨.bl k,H,I,rfl,q⟩
theorem op_eq:OpR X (compareOp .Eq) rEq:=by
 intro pins s σ H x y v u Q I rx ry h
 obtain ⟨hs,q⟩:=h
 cases x with
 | non =>
  cases rx
  cases y with
  | non=>cases ry; exact PySem.EqNone.eq_none_none (fin_bl I q (by simp))
  | bl j=>cases ry; exact PySem.EqNone.eq_none_bool (fin_bl I q (by simp))
  | int j=>obtain ⟨t',rfl⟩:=ry; exact PySem.EqNone.eq_none_int (fin_bl I q (by simp))
  | str j=>obtain ⟨t',rfl⟩:=ry; exact PySem.EqNone.eq_none_str (fin_bl I q (by simp))
  | _=>exact absurd (show false=true from hs) Bool.false_ne_true
 | bl i =>
  cases rx
  cases y with
  | non=>cases ry; exact PySem.EqNone.eq_bool_none (fin_bl I q (by simp))
  | bl j=>cases ry; exact eq_bool (fin_bl I q dec_bl)
  | str j=>obtain ⟨t',rfl⟩:=ry; exact PySem.EqMixed.eq_bool_str (fin_bl I q (by simp))
  | _=>exact absurd (show false=true from hs) Bool.false_ne_true
 | int i =>
  obtain ⟨t,rfl⟩:=rx
  cases y with
  | non=>cases ry; exact PySem.EqNone.eq_int_none (fin_bl I q (by simp))
  | int j=>obtain ⟨t',rfl⟩:=ry; exact eq_int (fin_bl I q dec_int)
  | str j=>obtain ⟨t',rfl⟩:=ry; exact PySem.EqMixed.eq_int_str (fin_bl I q (by simp))
  | _=>exact absurd (show false=true from hs) Bool.false_ne_true
 | str i =>
  obtain ⟨t,rfl⟩:=rx
  cases y with
  | non=>cases ry; exact PySem.EqNone.eq_str_none (fin_bl I q (by simp))
  | bl j=>cases ry; exact PySem.EqMixed.eq_str_bool (fin_bl I q (by simp))
  | int j=>obtain ⟨t',rfl⟩:=ry; exact PySem.EqMixed.eq_str_int (fin_bl I q (by simp))
  | str j=>obtain ⟨t',rfl⟩:=ry; exact eq_str (fin_bl I q dec_str)
  | _=>exact absurd (show false=true from hs) Bool.false_ne_true
 | byt i =>
  obtain ⟨t,rfl⟩:=rx
  cases y with
  | byt j=>obtain ⟨t',rfl⟩:=ry; exact PySem.W.eq_bytes (fin_bl I q dec_byt)
  | _=>exact absurd (show false=true from hs) Bool.false_ne_true
 | _=>cases y <;> exact absurd (show false=true from hs) Bool.false_ne_true
theorem op_ne:OpR X (compareOp .NotEq) rNe:=by
 intro pins s σ H x y v u Q I rx ry h
 obtain ⟨hs,q⟩:=h
 cases x with
 | non =>
  cases rx
  cases y with
  | non=>cases ry; exact PySem.EqNone.ne_none_none (fin_bl I q (by simp))
  | bl j=>cases ry; exact PySem.EqNone.ne_none_bool (fin_bl I q (by simp))
  | int j=>obtain ⟨t',rfl⟩:=ry; exact PySem.EqNone.ne_none_int (fin_bl I q (by simp))
  | str j=>obtain ⟨t',rfl⟩:=ry; exact PySem.EqNone.ne_none_str (fin_bl I q (by simp))
  | _=>exact absurd (show false=true from hs) Bool.false_ne_true
 | bl i =>
  cases rx
  cases y with
  | non=>cases ry; exact PySem.EqNone.ne_bool_none (fin_bl I q (by simp))
  | bl j=>cases ry; exact ne_bool (fin_bl I q (congrArg not dec_bl))
  | str j=>obtain ⟨t',rfl⟩:=ry; exact PySem.EqMixed.ne_bool_str (fin_bl I q (by simp))
  | _=>exact absurd (show false=true from hs) Bool.false_ne_true
 | int i =>
  obtain ⟨t,rfl⟩:=rx
  cases y with
  | non=>cases ry; exact PySem.EqNone.ne_int_none (fin_bl I q (by simp))
  | int j=>obtain ⟨t',rfl⟩:=ry; exact ne_int (fin_bl I q (congrArg not dec_int))
  | str j=>obtain ⟨t',rfl⟩:=ry; exact PySem.EqMixed.ne_int_str (fin_bl I q (by simp))
  | _=>exact absurd (show false=true from hs) Bool.false_ne_true
 | str i =>
  obtain ⟨t,rfl⟩:=rx
  cases y with
  | non=>cases ry; exact PySem.EqNone.ne_str_none (fin_bl I q (by simp))
  | bl j=>cases ry; exact PySem.EqMixed.ne_str_bool (fin_bl I q (by simp))
  | int j=>obtain ⟨t',rfl⟩:=ry; exact PySem.EqMixed.ne_str_int (fin_bl I q (by simp))
  | str j=>obtain ⟨t',rfl⟩:=ry; exact ne_str (fin_bl I q (congrArg not dec_str))
  | _=>exact absurd (show false=true from hs) Bool.false_ne_true
 | byt i =>
  obtain ⟨t,rfl⟩:=rx
  cases y with
  | byt j=>obtain ⟨t',rfl⟩:=ry; exact PySem.W.ne_bytes (fin_bl I q (congrArg not dec_byt))
  | _=>exact absurd (show false=true from hs) Bool.false_ne_true
 | _=>cases y <;> exact absurd (show false=true from hs) Bool.false_ne_true
theorem op_lt:OpR X (compareOp .Lt) (rI0 fun i j=>.bl (decide (i < j))):=opB0 fun _ _ _ _ _ _ _ q=>lt_int q
theorem op_gt:OpR X (compareOp .Gt) (rI0 fun i j=>.bl (decide (j < i))):=opB0 fun _ _ _ _ _ _ _ q=>gt_int q
theorem op_ge:OpR X (compareOp .GtE) (rI0 fun i j=>.bl (decide (j <= i))):=opB0 fun _ _ _ _ _ _ _ q=>ge_int q
theorem op_notN:OpR X (compareOp .IsNot) (fun x y H Q=>y=.non/\Q (.bl (!decide (x=.non))) H):=by
 intro pins s σ H x y v u Q I rx ry h
 obtain ⟨rfl,q⟩:=h
 cases ry
 refine isnot_none_gen (fin_bl I q ?_)
 cases x <;> first
  | (cases rx; rfl)
  | (obtain ⟨t,rfl⟩:=rx; rfl)
theorem nomark (b:Expr) {op:CmpOp} (h:op ≠ .In:=by decide) (h2:op ≠ .NotIn:=by decide):behindInMarks op b=false:=by
 have e1:(op == CmpOp.In)=false:=by cases op <;> first | rfl | exact absurd rfl h
 have e2:(op == CmpOp.NotIn)=false:=by cases op <;> first | rfl | exact absurd rfl h2
 cases b <;> simp [behindInMarks,e1,e2]
theorem pe_cmpR {op:CmpOp}{r:R2} (ho:OpR X (compareOp op) r) (ha:PE X a ta) (hb:PE X b tb) (hm:behindInMarks op b=false):PE X (.Compare a [op] [b] pos) (tOp r ta tb):=by
 intro pins s σ H Q I h
 exact wpAny_Compare1 (binT ha hb I h fun v u s2 x y H2 I2 rx ry q=>ho pins s2 σ H2 x y v u Q I2 rx ry q) hm
def tTest (t:TE):TT:=fun σ H Q=>t σ H fun x H'=>∃ k,x=.bl k/\Q k H'
theorem pt_cmpR {op:CmpOp}{r:R2} (ho:OpR X (compareOp op) r) (ha:PE X a ta) (hb:PE X b tb) (hm:behindInMarks op b=false):PT X (.Compare a [op] [b] pos) (tTest (tOp r ta tb)):=by
 intro pins s σ H Q I h
 refine wpAny_isTrue_Compare1 (thn (ha pins s σ H _ I h) fun v s1 hq5=>L2.ex5 hq5 fun x H1 I1 r1 q1=>thn (hb pins s1 σ H1 _ I1 q1) fun u s2 hq5=>L2.ex5 hq5 fun y H2 I2 r2 q2 =>
  thn (ho pins s2 σ H2 x y v u _ I2 r1 r2 q2) fun c s3 ⟨z,H3,I3,r3,k,e,q3⟩=>?_) hm
 subst e
 cases r3
 exact wpAny_truthy_bool ⟨H3,I3,q3⟩
def TruV (K:PySem.W.Frag) (x:V) (H:Hp) (k:Bool):Prop :=
 match x with
 | .non=>k=false
 | .bl b=>k=b
 | .int i=>k=(i != 0)
 | .str y=>y.length <= sizeLine/\k=((y.length:Int) != 0)
 | .byt y=>y.size <= sizeLine/\k=((y.size:Int) != 0)
 | .ref p=>(∃ xs,SqL K H p xs/\k = !xs.isEmpty) ∨ (∃ xs,SqT K H p xs/\k = !xs.isEmpty) ∨ ∃ kvs ep,H p=some (.dK kvs ep)/\k = !kvs.isEmpty
 | _=>False
theorem isEmpty_kv {κ:Type}{kvs:List (κ × V)}{vs:List (κ × Value)} (r:KV kvs vs):(!vs.isEmpty) = !kvs.isEmpty:=by
 cases r <;> rfl
theorem isEmpty_of {xs:List V}{its:List Value} (r:Vals xs its):(!its.toArray.isEmpty) = !xs.isEmpty:=by
 cases r <;> simp
theorem line63:(sizeLine:Nat) < 2 ^ 63:=by rw [sizeLine_eq]; decide
theorem tru_ok:TruR X (fun x H Q=>∃ k,TruV X.K x H k/\Q k H):=by
 intro pins s σ H x v Q I rx h
 obtain ⟨k,e,q⟩:=h
 have hl:=line63
 have hs:sizeLine=16777216:=sizeLine_eq
 cases x with
 | non =>
  cases rx
  have e':k=false:=e
  subst e'
  exact truthy_none ⟨H,I,q⟩
 | bl b =>
  cases rx
  have e':k=b:=e
  subst e'
  exact wpAny_truthy_bool ⟨H,I,q⟩
 | int i =>
  obtain ⟨t,rfl⟩:=rx
  have e':k=(i != 0):=e
  subst e'
  exact PySem.P.truthy_int ⟨H,I,q⟩
 | str y =>
  obtain ⟨t,rfl⟩:=rx
  obtain ⟨hy,e'⟩:y.length <= sizeLine/\k=((y.length:Int) != 0):=e
  subst e'
  exact PySem.P.truthy_str (by omega) ⟨H,I.tok _,q⟩
 | byt y =>
  obtain ⟨t,rfl⟩:=rx
  obtain ⟨hy,e'⟩:y.size <= sizeLine/\k=((y.size:Int) != 0):=e
  subst e'
  exact PySem.W.truthy_bytes (by omega) ⟨H,I.tok _,q⟩
 | ref p =>
  cases rx
  have e':(∃ xs,SqL X.K H p xs/\k = !xs.isEmpty) ∨ (∃ xs,SqT X.K H p xs/\k = !xs.isEmpty) ∨ ∃ kvs ep,H p=some (.dK kvs ep)/\k = !kvs.isEmpty:=e
  rcases e' with ⟨xs,hx,e'⟩ | ⟨xs,hx,e'⟩ | ⟨kvs,ep,hx,e'⟩
  ·subst e'
   obtain ⟨its,r,pl,hz⟩:=I.list hx
   have hlen:=r.length
   exact wpAny_truthy_list pl.isList (by simp only [List.size_toArray]; omega) ⟨H,I.tok _,by rw [isEmpty_of r]; exact q⟩
  ·subst e'
   obtain ⟨its,r,pl,hz⟩:=I.tuple hx
   have hlen:=r.length
   exact truthy_tuple pl (by simp only [List.size_toArray]; omega) ⟨H,I.tok _,by rw [isEmpty_of r]; exact q⟩
  ·subst e'
   obtain ⟨hz,hS,vs,r,m⟩:kvs.length <= sizeLine/\(p == sysModules)=false/\∃ vs,KV kvs vs/\s.heap.DictAt (mixKind X.prog X.w) p vs ep:=I.hok p _ hx
   have hlen:kvs.length=vs.length:=Paired.length r
   exact wpAny_truthy_dict hS m.dictOf (by omega) ⟨H,I.tok _,by rw [isEmpty_kv r]; exact q⟩
 | _=>exact (show False from e).elim
theorem pt_truth (ha:PE X a ta) (he:∀ whole,isTrue a X.env whole=(do let v <- whole; standAt a.pos; holding [v] (truthy v))) :
  PT X a (fun σ H Q=>ta σ H fun x H'=>∃ k,TruV X.K x H' k/\Q k H'):=by
 intro pins s σ H Q I h
 exact isTrue_plain (thn (ha pins s σ H _ I h) fun v s1 hq5=>L2.ex5 hq5 fun x H1 I1 r1 q1=>tru_ok pins s1 σ H1 x v Q I1 r1 q1) (he _)
theorem op_add_str:OpR X (binaryOp .Add) (fun x y H Q=>∃ i j,x=.str i/\y=.str j/\i.length + j.length <= sizeLine/\Q (.str (i ++ j)) H):=by
 intro pins s σ H x y v u Q I rx ry h
 obtain ⟨i,j,rfl,rfl,hz,q⟩:=h
 obtain ⟨t,rfl⟩:=rx
 obtain ⟨t',rfl⟩:=ry
 exact add_str (fun t' tk=>⟨.str (i ++ j),H,I.tok _,⟨_,rfl⟩,q⟩) hz
theorem vals1 {x:V}{us:List Value} (r:Vals [x] us):∃ u,us=[u]/\RelV x u:=by
 cases r with
 | cons r1 r2=>cases r2; exact ⟨_,rfl,r1⟩
theorem vals2 {x y:V}{us:List Value} (r:Vals [x,y] us):∃ u w',us=[u,w']/\RelV x u/\RelV y w' := by
 cases r with
 | cons r1 r2 =>
  cases r2 with
  | cons r3 r4=>cases r4; exact ⟨_,_,rfl,r1,r3⟩
theorem call_max2 (hc:X.calm=true):CallR X (.builtin "max") (fun xs H Q=>∃ i j,xs=[.int i,.int j]/\Q (.int (if j > i then j else i)) H):=by
 intro pins s σ H xs us Q I r h
 obtain ⟨i,j,rfl,q⟩:=h
 obtain ⟨u,w',rfl,⟨t,rfl⟩,⟨t',rfl⟩⟩:=vals2 r
 refine max_two_ints (I.ok.hd hc) fun h' tk k=>⟨_,H,I.kept k,?_,q⟩
 by_cases hj:j > i
 ·rw [if_pos hj,if_pos hj]; exact ⟨_,rfl⟩
 ·rw [if_neg hj,if_neg hj]; exact ⟨_,rfl⟩
theorem call_min2 (hc:X.calm=true):CallR X (.builtin "min") (fun xs H Q=>∃ i j,xs=[.int i,.int j]/\Q (.int (if j < i then j else i)) H):=by
 intro pins s σ H xs us Q I r h
 obtain ⟨i,j,rfl,q⟩:=h
 obtain ⟨u,w',rfl,⟨t,rfl⟩,⟨t',rfl⟩⟩:=vals2 r
 refine min_two_ints (I.ok.hd hc) fun h' tk k=>⟨_,H,I.kept k,?_,q⟩
 by_cases hj:j < i
 ·rw [if_pos hj,if_pos hj]; exact ⟨_,rfl⟩
 ·rw [if_neg hj,if_neg hj]; exact ⟨_,rfl⟩
end
structure ObjM (h:Heap) (x dx C:Addr) (mA:Str->Option Value):Prop where
 obj:h.get? x=some (PySem.W.instObj C dx)
 ns:h.Ns1 dx mA
 ne:dx ≠ x
theorem lookIn_ns {h:Heap}{dx:Addr}{mA:Str->Option Value} (n:h.Ns1 dx mA):∃ od,h.get? dx=some od/\∀ name,PySem.W.lookIn name od=some (mA name):=by
 obtain ⟨o,es,ep,ho,hd,hk,_,hm⟩:=n
 refine ⟨o,ho,fun name=>?_⟩
 have e:=hm name
 unfold nsFind findBy at e
 rw [<- Array.find?_toList] at e
 unfold PySem.W.lookIn
 rw [hd]
 dsimp only
 split
 ·rename_i y q
  rw [q] at e
  exact congrArg some e
 ·rename_i q
  rw [q] at e
  have a:es.toList.any (·.refKey)=false:=by
   rw [List.any_eq_false]
   intro y hy
   obtain ⟨z,t,hkey⟩:=hk y (Array.mem_toList_iff.mp hy)
   simp [DictEntry.refKey,hkey]
  have a':¬ es.toList.any (·.refKey)=true:=by rw [a]; exact Bool.false_ne_true
  rw [if_neg a']
  exact congrArg some e
theorem ObjM.look {h:Heap}{x dx C:Addr}{mA:Str->Option Value} (I:ObjM h x dx C mA):∃ od,PySem.W.InstAt h x (PySem.W.instObj C dx) C (some od)/\∀ name,PySem.W.lookIn name od=some (mA name) :=
 let ⟨od,ho,hl⟩:=lookIn_ns I.ns
 ⟨od,⟨I.obj,rfl,rfl,ho⟩,hl⟩
section
variable {prog:Program}{w:World}{A:Around}{E:Value->Shared->Prop}{s:Shared}{K:PySem.W.Frag}{x dx C f:Addr}{mA:Str->Option Value}{name:Str}{v:Value}
end
theorem RelO.some_of {v:V}{o:Option Value} (r:RelO (some v) o):∃ u,o=some u/\RelV v u:=by
 cases o with
 | none=>exact (show False from r).elim
 | some u=>exact ⟨u,rfl,r⟩
section
variable {P:Program}{w:World}{H H':Hp}{h h':Heap}{a C dx:Addr}{fs fs':List (Str × V)}
theorem ins_get (hok:HOk P w H h) (e:H a=some (.ins C dx fs)):∃ mA,ObjM h a dx C mA/\(∀ f,RelO (fs.lookup f) (mA f))/\PySem.Within mA (fs.map (·.1))/\fs.length <= 1000/\H dx=some (.own a):=by
 obtain ⟨d,z,ne,ob,mA,n,r,q⟩:=(show ObjOk P w H h a (.ins C dx fs) from hok a _ e)
 exact ⟨mA,⟨ob,n,ne⟩,r,q,z,d⟩
end
structure Cls (K:PySem.W.Frag) (C:Addr):Prop where
 pg:PySem.W.plainGet K C Str.empty=true
 hd:PySem.W.hasDictIn K C=true
 po:PySem.W.plainOver K C=true
 sa:PySem.W.findIn K (.ref C) "__setattr__" = some (some (.builtin "object.__setattr__"))
theorem Cls.get {K:PySem.W.Frag}{C:Addr} (c:Cls K C) (f:Str):PySem.W.plainGet K C f=true:=c.pg
section
variable {X:Cx}{pins:List (Addr × Obj)}{σ:St}{H:Hp}{s:Shared}{a C dx:Addr}{fs:List (Str × V)}{f:Str}{v:V}{A:Around}{E:Value->Shared->Prop}
end
section
variable {X:Cx}{o e value:Expr}{f:Str}{pos pos' tpos:Pos}{ta tv:TE}
end
section
variable {X:Cx}{pins:List (Addr × Obj)}{σ:St}{H:Hp}{s:Shared}{A:Around}{E:Value->Shared->Prop}{Q:Value->Shared->Prop}{c:Value}{b:Bool}
inductive TyOf (K:PySem.W.Frag) (H:Hp):V->Value->Prop where
 | non:TyOf K H .non (.type "NoneType")
 | bl (x:Bool):TyOf K H (.bl x) (.type "bool")
 | int (i:Int):TyOf K H (.int i) (.type "int")
 | str (x:Str):TyOf K H (.str x) (.type "str")
 | flt (x:UInt64):TyOf K H (.flt x) (.type "float")
 | lst {a:Addr}{xs:List V} (e:H a=some (.lst xs)):TyOf K H (.ref a) (.type "list")
 | frz {a:Addr}{o:Obj}{xs:List V} (e:H a=some (.frz o (.lst xs))):TyOf K H (.ref a) (.type "list")
 | tup {a:Addr}{xs:List V} (e:H a=some (.tup xs)):TyOf K H (.ref a) (.type "tuple")
 | dK {a:Addr}{kvs:List (Key × V)}{ep:Nat} (e:H a=some (.dK kvs ep)):TyOf K H (.ref a) (.type "dict")
 | dT {a:Addr}{kvs:List (List Key × V)}{ep:Nat} (e:H a=some (.dT kvs ep)):TyOf K H (.ref a) (.type "dict")
 | ins {a C dx:Addr}{fs:List (Str × V)} (e:H a=some (.ins C dx fs)) (cl:Cls K C) (ha:PySem.W.findIn K (.ref C) "__class__" = some (some (.builtin "object.__class__")))
   (hn:PySem.W.specialIn K (.builtin "object.__class__") "__get__" = some (some (.builtin "getset_descriptor.__get__"))) (htk:PySem.W.takesIn K (.builtin "object.__class__")=some true)
   (hm:PySem.W.mroIn K C (.type "object")=some true):TyOf K H (.ref a) (.ref C)
theorem isinst_ok {x:V}{u t:Value} (I:Inv X pins σ H s) (rx:RelV x u) (ty:TyOf X.K H x t) (e:PySem.W.kitOne X.K t c=some b) (h:∀ tk,Q (.bool b) { s with toks:=tk }) :
  wpAny (model X.prog X.w) A (call (.builtin "isinstance") [u,c]) Q E s:=by
 cases ty with
 | non=>cases (show u=Value.none from rx); exact PySem.W.kia_one PySem.W.kitx_none I.kIn True.intro e (fun z=>nomatch z) h
 | bl y=>cases (show u=Value.bool y from rx); exact PySem.W.kia_one PySem.W.kitx_bool I.kIn True.intro e (fun z=>nomatch z) h
 | int i=>obtain ⟨t,q⟩:=(show ∃ t,u=Value.int i t from rx); cases q; exact PySem.W.kia_one PySem.W.kitx_int I.kIn True.intro e (fun z=>nomatch z) h
 | str y=>obtain ⟨t,q⟩:=(show ∃ t,u=Value.str y t from rx); cases q; exact PySem.W.kia_one PySem.W.kitx_str I.kIn True.intro e (fun z=>nomatch z) h
 | flt y=>obtain ⟨t,q⟩:=(show ∃ t,u=Value.float y t from rx); cases q; exact PySem.W.kia_one PySem.W.kitx_float I.kIn True.intro e (fun z=>nomatch z) h
 | @lst a xs ea =>
  cases (show u=Value.ref a from rx)
  obtain ⟨_,_,n,_,h1⟩:=(show ObjOk X.prog X.w H s.heap a (.lst xs) from I.hok a _ ea)
  exact PySem.W.kia_one PySem.W.kitx_list I.kIn ⟨_,h1,rfl⟩ e (fun z=>nomatch z) h
 | @frz a ob xs ea =>
  cases (show u=Value.ref a from rx)
  obtain ⟨_,_,_,n,_,h1⟩:=(show ObjOk X.prog X.w H s.heap a (.frz ob (.lst xs)) from I.hok a _ ea)
  exact PySem.W.kia_one PySem.W.kitx_list I.kIn ⟨_,h1,rfl⟩ e (fun z=>nomatch z) h
 | @tup a xs ea =>
  cases (show u=Value.ref a from rx)
  obtain ⟨_,_,_,p⟩:=(show ObjOk X.prog X.w H s.heap a (.tup xs) from I.hok a _ ea)
  obtain ⟨o,h1,h2,_⟩:=p.is
  exact PySem.W.kia_one PySem.W.kitx_tuple I.kIn ⟨o,h1,h2⟩ e (fun z=>nomatch z) h
 | @dK a kvs ep ea =>
  cases (show u=Value.ref a from rx)
  obtain ⟨_,_,vs,_,p⟩:=(show ObjOk X.prog X.w H s.heap a (.dK kvs ep) from I.hok a _ ea)
  obtain ⟨o,es,h1,h2,_⟩:=p
  exact PySem.W.kia_one PySem.W.kitx_dict I.kIn ⟨o,h1,h2.1⟩ e (fun z=>nomatch z) h
 | @dT a kvs ep ea =>
  cases (show u=Value.ref a from rx)
  obtain ⟨_,_,xs,_,o,es,h1,h2,_⟩:=(show ObjOk X.prog X.w H s.heap a (.dT kvs ep) from I.hok a _ ea)
  exact PySem.W.kia_one PySem.W.kitx_dict I.kIn ⟨o,h1,h2.1⟩ e (fun z=>nomatch z) h
 | @ins a C dx fs ea cl ha hn htk hm =>
  cases (show u=Value.ref a from rx)
  obtain ⟨mA,O,_⟩:=ins_get I.hok ea
  obtain ⟨od,J,_⟩:=O.look
  exact PySem.W.kia_one (PySem.W.kitx_own (cl.get _) cl.hd ha hn htk hm) I.kIn J e (fun z=>nomatch z) h
end
structure Room (k:Nat) (A:Around):Prop where
 hd:A.handled=none
 dp:A.depth + 3 * k + 5 < recursionLimit
 un:A.units + 16 * k + 200 < cLine
theorem Room.mono {j k:Nat}{A:Around} (r:Room k A) (h:j <= k):Room j A:=⟨r.hd,by have:=r.dp; omega,by have:=r.un; omega⟩
theorem Room.deeper {k:Nat}{A:Around} (r:Room (k + 1) A) (env:Env):Room k (A.deeper env) :=
 ⟨r.hd,by have:=r.dp; show A.depth + 1 + 3 * k + 5 < _; omega,by have:=r.un; show A.units + 3 + 16 * k + 200 < _; omega⟩
theorem Room.depth {k:Nat}{A:Around} (r:Room k A):A.depth < recursionLimit:=by have:=r.dp; omega
theorem Room.units {k:Nat}{A:Around} (r:Room k A):A.units + 64 < cLine:=by have:=r.un; omega
def tNil:TA:=fun _ H Q=>Q [] H
def tCons (ta:TE) (tr:TA):TA:=fun σ H Q=>ta σ H fun x H1=>tr σ H1 fun xs H2=>Q (x :: xs) H2
section
variable {X:Cx}{e:Expr}{es:List Expr}{te:TE}{t:TA}{pos:Pos}
theorem pa_nil:PA X [] tNil:=fun _ _ _ _ H Q I h=>Calls.spliced_nil ⟨[],H,I,.nil,h⟩
theorem pa_cons (ha:PE X e te) (hr:PA X es t) (hs:starEach (e :: es) X.env=(false,eval e X.env) :: starEach es X.env:=by rfl):PA X (e :: es) (tCons te t):=by
 intro pos pins s σ H Q I h
 rw [hs]
 show wpAny _ _ (spliced ((false,eval e X.env) :: backTo pos (starEach es X.env))) _ _ s
 refine Calls.spliced_cons (thn (ha pins s σ H _ I h) fun u s1 hq5=>L2.ex5 hq5 fun x H1 I1 r1 q1=>?_)
 exact thn (hr pos pins s1 σ H1 _ I1 q1) fun us s2 hq5=>L2.ex5 hq5 fun xs H2 I2 r2 q2=>⟨x :: xs,H2,I2,.cons r1 r2,q2⟩
def tTup (t:TA):TE:=fun σ H Q=>t σ H fun xs H1=>xs.length <= sizeLine/\∀ p,H1 p=none->Q (.ref p) (upd H1 p (.tup xs))
def tLst (t:TA):TE:=fun σ H Q=>t σ H fun xs H1=>xs.length <= sizeLine/\∀ p,H1 p=none->Q (.ref p) (upd H1 p (.lst xs))
theorem pe_tup {x1} (h:PA X es t):PE X (.Tuple es x1 pos) (tTup t):=by
 intro pins s σ H Q I hq
 refine wpAny_Tuple_spliced (thn (h pos pins s σ H _ I hq) fun us s1 ⟨xs,H1,I1,r,z,q⟩=>⟨by rw [<- r.length]; exact z,?_⟩)
 have hf:H1 s1.heap.objs.size=none:=I1.hok.fresh (Nat.le_refl _)
 refine ⟨.ref s1.heap.objs.size,upd H1 s1.heap.objs.size (.tup xs),I1.laid (t' := s1.toks) (fun b u e=>Heap.get?_push_of_some _ e) (Nat.le_refl _) ?_,rfl,q _ hf⟩
 exact ⟨z,us,r,⟨_,Heap.get?_push_size _ rfl⟩⟩
theorem pe_lst (h:PA X es t):PE X (.List es pos) (tLst t):=by
 intro pins s σ H Q I hq
 refine wpAny_List_spliced (thn (h pos pins s σ H _ I hq) fun us s1 ⟨xs,H1,I1,r,z,q⟩=>⟨by rw [<- r.length]; exact z,?_⟩)
 have hf:H1 s1.heap.objs.size=none:=I1.hok.fresh (Nat.le_refl _)
 refine ⟨.ref s1.heap.objs.size,upd H1 s1.heap.objs.size (.lst xs),I1.laid (t' := s1.toks) (fun b u e=>Heap.get?_push_of_some _ e) (Nat.le_refl _) ?_,rfl,q _ hf⟩
 exact ⟨z,us,0,r,Heap.get?_push_size _ rfl⟩
end
abbrev Sp:=List V->Hp->VK->XK->Prop
abbrev CXT:=List Env->Hp->Shared->XK->Value->Shared->Prop
structure Env0 (P:Program) (w:World) (K:PySem.W.Frag) (mg:Str->Option Value) (base:Heap) (A:Around) (outer:List Env) (s:Shared) (H:Hp):Prop where
 frames:A.frames=some outer
 mod:Mod K mg base
 bs:∀ b o,base.get? b=some o->s.heap.get? b=some o/\H b=none
 bsz:base.objs.size <= s.heap.objs.size
 funs:s.heap.FunFrames base outer
 frf:∀ b ∈ frs outer,H b=none
 hok:HOk P w H s.heap
 bare:AllBare s.gens
def CE (outer:List Env) (P:Program) (w:World) (H:Hp) (s:Shared) (Q:VK) (u:Value) (s':Shared):Prop :=
 ∃ v H',s'.os=s.os/\AllBare s'.gens/\Un (frs outer) [] H H' s.heap s'.heap/\HOk P w H' s'.heap/\RelV v u/\Q v H'
def CR (CX:CXT) (outer:List Env) (P:Program) (w:World) (H:Hp) (s:Shared) (Q:VK) (E:XK) (r:Result) (s':Shared):Prop :=
 match r with
 | .ok (.ret u)=>CE outer P w H s Q u s'
 | .ok _=>False
 | .error e=>CX outer H s E e s'
structure FnOk (P:Program) (w:World) (K:PySem.W.Frag) (mg:Str->Option Value) (base:Heap) (CX:CXT) (k:Nat) (f:Addr) (fd:FuncData) (ps:List Str) (sp:Sp):Prop where
 len:∀ vs H Q E,sp vs H Q E->vs.length=ps.length
 run:∀ (A:Around) (outer:List Env) (s:Shared) (H:Hp) (args:Args) (us:List Value) (vs:List V) (Q:VK) (E:XK),Room k A->Env0 P w K mg base A outer s H->BindsTo s fd args (ps.zip us)->Vals vs us->sp vs H Q E ->
  codeAny (model P w) A (.call (.ref f) args) (CR CX outer P w H s Q E) s
section
variable {X:Cx}{pins:List (Addr × Obj)}{σ:St}{H:Hp}{s s':Shared}
theorem Inv.env0 (I:Inv X pins σ H s):Env0 X.prog X.w X.K X.mg X.base X.A X.stack s H :=
 ⟨I.ok.frames,I.ok.mod,I.bs,Nat.le_trans I.ok.bsz I.sz,I.stack,I.stkFree,I.hok,I.bare⟩
theorem Inv.after {Q:VK}{u:Value} (I:Inv X pins σ H s) (h:CE X.stack X.prog X.w H s Q u s'):EP X pins σ Q u s' := by
 obtain ⟨v,H',os,bare,un,hok,r,q⟩:=h
 obtain ⟨hh,g,d,t,os'⟩:=s'
 obtain rfl:os'=s.os:=os
 exact ⟨v,H',I.call (h' := hh) (g' := g) (d' := d) (t' := t) (ch := []) un hok bare (fun b z=>absurd z (by simp)),r,q⟩
end
def tCall (sp:Sp) (dvs:List V) (E:XK) (t:TA):TE:=fun σ H Q=>t σ H fun vs H1=>sp (vs ++ dvs) H1 Q E
def Binds (K:PySem.W.Frag) (fd:FuncData) (ps:List Str) (ds:List Value):Prop :=
 ∀ (s:Shared) (us:List Value),K.In s.heap->(us ++ ds).length=ps.length->BindsTo s fd ⟨us,[]⟩ (ps.zip (us ++ ds))
theorem Binds.all {K:PySem.W.Frag}{fd:FuncData}{ps:List Str} (h:∀ us:List Value,us.length=ps.length->bindArgs fd ⟨us,[]⟩=pure (ps.zip us)):Binds K fd ps []:=fun s us _ hl=>by
 rw [List.append_nil] at hl ⊢
 exact .of_eq (h us hl)
def Passes (CX:CXT) (X:Cx) (E:XK):Prop := ∀ (pins:List (Addr × Obj)) (σ:St) (H:Hp) (s:Shared) (e:Value) (s':Shared),Inv X pins σ H s->CX X.stack H s E e s'->X.xe e s'
section
variable {X:Cx}{CX:CXT}{k:Nat}{f C:Addr}{fd:FuncData}{ps:List Str}{sp:Sp}{dvs:List V}{ds:List Value}{E:XK}{x m:Str}{p pos apos:Pos}{e o:Expr}{es:List Expr}{ta:TE}{t:TA}
theorem run_fn {pins:List (Addr × Obj)}{σ:St}{H:Hp}{s:Shared}{Q:VK}{us:List Value}{vs:List V} (F:FnOk X.prog X.w X.K X.mg X.base CX k f fd ps sp) (hr:Room k X.A) (hb:Binds X.K fd ps ds) (hd:Vals dvs ds) (hx:Passes CX X E)
  (I:Inv X pins σ H s) (r:Vals vs us) (h:sp (vs ++ dvs) H Q E):wpAny (model X.prog X.w) X.A (call (.ref f) us) (EP X pins σ Q) X.xe s:=by
 have r2:Vals (vs ++ dvs) (us ++ ds):=r.append hd
 have hl:(us ++ ds).length=ps.length:=by rw [<- r2.length]; exact F.len _ _ _ _ h
 refine wpAny_call (codeAny_mono (F.run X.A X.stack s H ⟨us,[]⟩ (us ++ ds) (vs ++ dvs) Q E hr I.env0 (hb s us I.kIn hl) r2 h) fun r s' hq=>?_)
 cases r with
 | error e=>exact hx pins σ H s e s' I hq
 | ok fl =>
  cases fl with
  | ret u=>exact I.after hq
  | next=>exact False.elim hq
  | brk=>exact False.elim hq
  | cont=>exact False.elim hq
theorem pe_call (F:FnOk X.prog X.w X.K X.mg X.base CX k f fd ps sp) (hr:Room k X.A) (hg:Gl X x) (hm:X.mg x=some (.ref f)) (hk:PySem.W.keepIn X.K (.ref f)=true) (hb:Binds X.K fd ps ds) (hd:Vals dvs ds) (hx:Passes CX X E)
  (ha:PA X (e :: es) t) (hdb:(x == ("__debug__" : Str))=false:=by decide) (he:starEach (e :: es) X.env=(false,eval e X.env) :: starEach es X.env:=by rfl) (hpl:(backTo pos (starEach es X.env)).any (·.1)=false:=by rfl) :
  PE X (.Call (.Name x p) (e :: es) [] pos) (tCall sp dvs E t):=by
 intro pins s σ H Q I h
 refine wpAny_Call_Name_kw (ld_glob I hg hm ?_ hdb)
 refine PySem.W.callWith_K (h₀:=X.base) I.ok.mod.kin hk (thn (ha pos pins s σ H _ I h) fun us s1 hq5=>L2.ex5 hq5 fun vs H1 I1 r q=>⟨I1.kIn,?_⟩) he hpl
 exact run_fn F hr hb hd hx I1 r q
end
section
variable {X:Cx}{CX:CXT}{k:Nat}{f C:Addr}{fd:FuncData}{ps ks:List Str}{sp:Sp}{E:XK}{x m:Str}{p pos apos kpos:Pos}{e o:Expr}{es:List Expr}{kws:List Keyword}{te ta:TE}{t tk:TA}{nm:Option Str}
variable {g:List Value->List Value->List Value}{gV:List V->List V->List V}
end
structure FnScope (N P:List Str) (sc:Scope):Prop where
 kind:sc.kind=.function
 co:sc.isCoroutine=false
 gen:sc.isGenerator=false
 nd:N.Nodup
 pre:N.take P.length=P
 par:∀ x ∈ P,sc.names.lookup x=some .local ∨ sc.names.lookup x=some .cell
 nofree:∀ y ∈ sc.names,y.2 ≠ .free
theorem bindL_out {kindOf:Str->Option NameKind}{x:Str}:∀ {binds:List (Str × Value)}{m:Str->Option Value},(∀ v,(x,v) ∉ binds)->bindL kindOf binds m x=m x
 | [],_,_=>rfl
 | (n,v) :: r,m,h=>by
  unfold bindL
  rw [bindL_out fun w hw=>h w (List.mem_cons_of_mem _ hw)]
  split
  ·have:x ≠ n:=by rintro rfl; exact h v List.mem_cons_self
   simp [this]
  ·rfl
theorem bindC_out {kindOf:Str->Option NameKind}{x:Str}:∀ {binds:List (Str × Value)}{m:Str->Option Value},(∀ v,(x,v) ∉ binds)->bindC kindOf binds m x=m x
 | [],_,_=>rfl
 | (n,v) :: r,m,h=>by
  unfold bindC
  rw [bindC_out fun w hw=>h w (List.mem_cons_of_mem _ hw)]
  split
  ·rfl
  ·have:x ≠ n:=by rintro rfl; exact h v List.mem_cons_self
   simp [this]
theorem bindL_get {kindOf:Str->Option NameKind}{x:Str}{v:Value}:∀ {P:List Str}{vs:List Value}{i:Nat}{m:Str->Option Value},P.Nodup->P[i]?=some x->vs[i]?=some v->kindOf x=some .local ->
  bindL kindOf (P.zip vs) m x=some v
 | [],_,_,_,_,h,_,_=>by simp at h
 | _ :: _,[],_,_,_,_,h,_=>by simp at h
 | p :: P,w :: vs,0,m,nd,h1,h2,hk=>by
  simp at h1 h2; subst h1; subst h2
  show bindL kindOf ((p,w) :: P.zip vs) m p=_
  unfold bindL
  rw [bindL_out fun v hv=>(List.nodup_cons.mp nd).1 (List.of_mem_zip hv).1,if_pos hk]
  simp
 | p :: P,w :: vs,i + 1,m,nd,h1,h2,hk=>by
  show bindL kindOf ((p,w) :: P.zip vs) m x=_
  unfold bindL
  exact bindL_get (i:=i) (List.nodup_cons.mp nd).2 (by simpa using h1) (by simpa using h2) hk
theorem bindC_get {kindOf:Str->Option NameKind}{x:Str}{v:Value}:∀ {P:List Str}{vs:List Value}{i:Nat}{m:Str->Option Value},P.Nodup->P[i]?=some x->vs[i]?=some v->kindOf x ≠ some .local ->
  bindC kindOf (P.zip vs) m x=some v
 | [],_,_,_,_,h,_,_=>by simp at h
 | _ :: _,[],_,_,_,_,h,_=>by simp at h
 | p :: P,w :: vs,0,m,nd,h1,h2,hk=>by
  simp at h1 h2; subst h1; subst h2
  show bindC kindOf ((p,w) :: P.zip vs) m p=_
  unfold bindC
  rw [bindC_out fun v hv=>(List.nodup_cons.mp nd).1 (List.of_mem_zip hv).1,if_neg hk]
  simp
 | p :: P,w :: vs,i + 1,m,nd,h1,h2,hk=>by
  show bindC kindOf ((p,w) :: P.zip vs) m x=_
  unfold bindC
  exact bindC_get (i:=i) (List.nodup_cons.mp nd).2 (by simpa using h1) (by simpa using h2) hk
def start (N:List Str) (vs:List V):St:=vs.map some ++ List.replicate (N.length - vs.length) none
def cxOf (CX:CXT) (P:Program) (w:World) (K:PySem.W.Frag) (mg:Str->Option Value) (base:Heap) (N:List Str) (qual:Str) (scope:Scope) (f:Addr) (cd:Value) (A:Around) (outer:List Env) (s:Shared) (H:Hp) (E:XK):Cx where
 prog:=P
 w:=w
 K:=K
 mg:=mg
 base:=base
 A:=A.deeper (envOfC qual scope s.heap.objs.size f cd)
 N:=N
 s₀:=s
 H₀:=H
 env:=envOfC qual scope s.heap.objs.size f cd
 outer:=outer
 stack:=envOfC qual scope s.heap.objs.size f cd :: outer
 ex := []
 calm:=true
 fn:=fun _=>true
 pn := []
 xe:=fun e s'=>wpAny (model P w) (A.deeper (envOfC qual scope s.heap.objs.size f cd)) (leaving (envOfC qual scope s.heap.objs.size f cd) e) (fun _ s''=>CX outer H s E e s'') (fun e' s''=>CX outer H s E e' s'') s'
theorem cell_has {sc:Scope}{n:Nat}{x:Str} (h:sc.names.lookup x=some .cell):∃ c,(cellsFrom n sc.names []).lookup x=some c:=by
 have q:=PySem.W.cellsFrom_some sc.names n [] (.inl h)
 exact Option.isSome_iff_exists.mp q
theorem inv_start {CX:CXT}{P:Program}{w:World}{K:PySem.W.Frag}{mg:Str->Option Value}{base:Heap}{N ps:List Str}{qual:Str}{scope:Scope}{f:Addr}{cd:Value}{A:Around}{outer:List Env}{s s1:Shared}{H:Hp}{E:XK}{us:List Value}{vs:List V}
  (S:FnScope N ps scope) (hd:A.handled=none) (e0:Env0 P w K mg base A outer s H) (hl:vs.length=ps.length) (r:Vals vs us)
  (x:InCallC s s.heap.objs.size (bindL (envOfC qual scope s.heap.objs.size f cd).kindOf (ps.zip us) fun _=>none) (cellsFrom (s.heap.objs.size + 1) scope.names []) (bindC (envOfC qual scope s.heap.objs.size f cd).kindOf (ps.zip us) fun _=>none) s1) :
  Inv (cxOf CX P w K mg base N qual scope f cd A outer s H E) [] (start N vs) H s1:=by
 have hpl:ps.length <= N.length:=by have:=congrArg List.length S.pre; rw [List.length_take] at this; omega
 obtain ⟨h1,tk,rfl,hk⟩:=x.done
 have noA:∀ b:Addr,b ∉ (cxOf CX P w K mg base N qual scope f cd A outer s H E).ex:=fun b z=>absurd (show b ∈ ([]:List Addr) from z) (by simp)
 refine ⟨⟨e0.mod,S.kind,rfl,rfl,Nat.le_refl _,fun y z c h1 h2=>?_,fun y hy=>?_,fun y c _ h=>?_,fun _=>hd,Around.frames_deeper e0.frames,.inr ⟨rfl,rfl⟩,fun b z=>absurd z (noA b),e0.bs,e0.bsz,fun b _ _=>noA b,fun b z=>absurd z (noA b),e0.funs,e0.frf⟩,
  rfl,e0.bare,Un.kept hk,⟨_,x.toInCall.ns,fun i y v h1 h2 h3=>?_⟩,fun y c h=>⟨_,x.cell y c h⟩,e0.hok.fresh (Nat.le_refl _),fun y c h=>?_,fun p hp=>absurd (show p ∈ ([]:List (Addr × Obj)) from hp) (by simp),e0.hok.kept hk,?_⟩
 ·exact name_of_addr x.apart (PySem.mem_of_lookup h1) (PySem.mem_of_lookup h2)
 ·have hy:scope.names.lookup y=some .cell ∨ scope.names.lookup y=some .free:=hy
  rcases hy with hy | hy
  ·exact cell_has hy
  ·exact absurd rfl (S.nofree _ (PySem.mem_of_lookup hy))
 ·exact Nat.le_of_lt (x.above y c (PySem.mem_of_lookup h))
 ·have hi:i < vs.length:=by
   unfold start at h2
   by_cases hi:i < vs.length
   ·exact hi
   ·rw [List.getElem?_append_right (by simpa using hi)] at h2
    rw [List.getElem?_replicate] at h2
    split at h2 <;> cases h2
  have ha:vs[i]?=some v:=by
   unfold start at h2
   rw [List.getElem?_append_left (by simpa using hi),List.getElem?_map] at h2
   cases e:vs[i]? with
   | none=>rw [e] at h2; cases h2
   | some a=>rw [e] at h2; cases h2; rfl
  obtain ⟨u,hu,rv⟩:=r.get ha
  have hp:ps[i]?=some y:=by
   rw [<- S.pre,List.getElem?_take_of_lt (by omega)]; exact h1
  have ndP:ps.Nodup:=by rw [<- S.pre]; exact S.nd.sublist (List.take_sublist _ _)
  refine ⟨u,rv,?_⟩
  rcases S.par y (List.mem_of_getElem? hp) with k | k
  ·exact .inl ⟨k,bindL_get ndP hp hu k⟩
  ·obtain ⟨c,e⟩:=cell_has (n:=s.heap.objs.size + 1) k
   refine .inr ⟨.inl k,c,e,?_⟩
   have q:=x.cell y c e
   rw [bindC_get ndP hp hu (by show scope.names.lookup y ≠ _; rw [k]; decide)] at q
   exact q
 ·exact e0.hok.fresh (Nat.le_of_lt (x.above y c (PySem.mem_of_lookup h)))
 ·unfold start
  show _=N.length
  rw [List.length_append,List.length_map,List.length_replicate]
  omega
theorem fn_of {CX:CXT}{P:Program}{w:World}{K:PySem.W.Frag}{mg:Str->Option Value}{base:Heap}{k:Nat}{f:Addr}{name qual:Str}{params:Arguments}{body:List Stmt}{scope:Scope}{dV kV doc pm cdv ct oc:Value}{an od:Option Addr}
  {osl:Array (Option Value)}{N ps:List Str}{sp:Sp} (lk:K.lookup f=some ⟨oc,od,.func (PySem.W.fnOf name qual params body scope dV kV doc pm an cdv ct),osl⟩) (hcd:PySem.W.codeIn K cdv qual=true) (S:FnScope N ps scope)
  (len:∀ vs H Q E,sp vs H Q E->vs.length=ps.length)
  (hbody:∀ (A:Around) (outer:List Env) (s:Shared) (H:Hp) (vs:List V) (Q:VK) (E:XK),Room k (A.deeper (envOfC qual scope s.heap.objs.size f cdv))->sp vs H Q E ->
   ∃ t,PSs (cxOf CX P w K mg base N qual scope f cdv A outer s H E) body t/\t { nx:=fun _ H'=>Q .non H',rt:=Q } (start N vs) H) :
  FnOk P w K mg base CX (k + 1) f (PySem.W.fnOf name qual params body scope dV kV doc pm an cdv ct) ps sp:=by
 refine ⟨len,fun A outer s H args us vs Q E hr e0 hb r hsp=>?_⟩
 have hl:=len _ _ _ _ hsp
 have KX:K.In s.heap:=e0.mod.kin.keeps fun b o e=>(e0.bs b o e).1
 have lim:s.heap.NoLimit:=e0.mod.nolimit.keeps fun b o e=>(e0.bs b o e).1
 have hkind:∀ y ∈ ps.zip us,scope.names.lookup y.1=some .local ∨ (scope.names.lookup y.1=some .cell/\((cellsFrom (s.heap.objs.size + 1) scope.names []).lookup y.1).isSome=true):=fun ⟨n,v⟩ hy=>by
  rcases S.par n (List.of_mem_zip hy).1 with q | q
  ·exact .inl q
  ·exact .inr ⟨q,PySem.W.cellsFrom_some _ _ _ (.inl q)⟩
 refine codeAny_call_function hr.depth (KX _ _ lk) rfl S.co S.gen rfl (PySem.W.codeRec_of KX hcd) (hb _ _ _ _ ?_)
 refine wpAny_newFunctionEnv_cells S.kind hkind fun env he s1 x=>?_
 subst he
 refine ⟨lim.keeps x.toInCall.keep,codeAny_func ?_⟩
 obtain ⟨t,ht,hq⟩:=hbody A outer s H vs Q E (hr.deeper _) hsp
 have I:Inv (cxOf CX P w K mg base N qual scope f cdv A outer s H E) [] (start N vs) H s1:=inv_start S hr.hd e0 hl r x
 refine wpAny_mono (ht [] s1 (start N vs) H _ I hq) (fun fl s' hs=>?_) fun e s' hs=>hs
 have fin:∀ {σ':St}{H':Hp}{v:V}{u:Value},Inv (cxOf CX P w K mg base N qual scope f cdv A outer s H E) [] σ' H' s'->RelV v u->Q v H'->CE outer P w H s Q u s' :=
  fun {σ' H' v u} J rv q=>⟨v,H',J.os,J.bare,J.base,J.hok,rv,q⟩
 cases fl with
 | ret u =>
  obtain ⟨v,σ',H',J,rv,q⟩:=hs
  exact fin J rv q
 | next =>
  obtain ⟨σ',H',J,q⟩:=hs
  exact fin (v:=V.non) (u:=Value.none) J rfl q
 | brk =>
  obtain ⟨_,_,_,q⟩:=hs
  exact False.elim q
 | cont =>
  obtain ⟨_,_,_,q⟩:=hs
  exact False.elim q
section
variable {X:Cx}{x:Str}{p pos:Pos}{e:Expr}{es:List Expr}{t:TA}{id T:String}{r:List V->Hp->VK->Prop}
def tCB (r:List V->Hp->VK->Prop) (t:TA):TE:=fun σ H Q=>t σ H fun vs H1=>r vs H1 Q
theorem pe_callB (hc:CallR X (.builtin id) r) (hg:Gl X x) (hm:X.mg x=none) (hv:bootBuiltins x=some (.builtin id)) (ha:PA X (e :: es) t) (hn:x ≠ "__name__" := by decide) (hdb:(x == ("__debug__" : Str))=false:=by decide)
  (he:starEach (e :: es) X.env=(false,eval e X.env) :: starEach es X.env:=by rfl) (hpl:(backTo pos (starEach es X.env)).any (·.1)=false:=by rfl):PE X (.Call (.Name x p) (e :: es) [] pos) (tCB r t):=by
 intro pins s σ H Q I h
 refine wpAny_Call_Name_kw (ld_blt I hg hm hv ?_ hn hdb)
 exact PyProof.Rows.callWith_builtin1 (thn (ha pos pins s σ H _ I h) fun us s1 hq5=>L2.ex5 hq5 fun vs H1 I1 r1 q1=>hc pins s1 σ H1 vs us Q I1 r1 q1) he hpl
theorem pe_callTy (hc:CallR X (.type T) r) (hg:Gl X x) (hm:X.mg x=none) (hv:bootBuiltins x=some (.type T)) (ha:PA X (e :: es) t) (hn:x ≠ "__name__" := by decide) (hdb:(x == ("__debug__" : Str))=false:=by decide)
  (he:starEach (e :: es) X.env=(false,eval e X.env) :: starEach es X.env:=by rfl) (hpl:(backTo pos (starEach es X.env)).any (·.1)=false:=by rfl):PE X (.Call (.Name x p) (e :: es) [] pos) (tCB r t):=by
 intro pins s σ H Q I h
 refine wpAny_Call_Name_kw (ld_blt I hg hm hv ?_ hn hdb)
 exact PyProof.Rows.callWith_type1 (thn (ha pos pins s σ H _ I h) fun us s1 hq5=>L2.ex5 hq5 fun vs H1 I1 r1 q1=>hc pins s1 σ H1 vs us Q I1 r1 q1) he hpl
end
end L2
namespace HT
open PySem PyProof.Rows
section
open PySem.SeqAt
open PySem.AutoSeq1 (wpAny_loadPart')
open PySem.MeetsSeq PySem.MeetsSeq2 PySem.MeetsSeq3
end
section
variable {prog:Program}{w:World}{A:Around}{E:Value->Shared->Prop}{s:Shared}
theorem cat_tup {t b:Addr}{vs ws:List Value}{Q:Value->Shared->Prop} (ht:IsTup s.heap t vs.toArray) (hb:IsTup s.heap b ws.toArray) (hv:vs ≠ [])
  (h1:ws=[]->Q (.ref t) s) (h2:ws ≠ []->Q (.ref s.heap.objs.size) { s with heap:=s.heap.push { cls := .type "tuple",data := .seq (vs ++ ws).toArray } })
  (hsz:vs.length + ws.length <= sizeLine):wpAny (model prog w) A (binaryOp .Add (.ref t) (.ref b)) Q E s:=by
 obtain ⟨⟨cls,dd,data,sl⟩,ho,hc,n,hd⟩:=id ht
 obtain ⟨⟨cls2,dd2,data2,sl2⟩,ho2,hc2,n2,hd2⟩:=id hb
 simp only at hc hd hc2 hd2
 subst hc hd hc2 hd2
 have e:vs.toArray ++ ws.toArray=(vs ++ ws).toArray:=by simp
 by_cases hw:ws=[]
 ·exact concat_meets ⟨_,ho,rfl⟩ ⟨_,ho2,rfl⟩ noFill_tuple_add seq_tuple_add PySem.F.slot_tuple_add PySem.F.entry_tuple_add (PySem.F.args_tuple_add_2 _ _)
   (tuple_addW1 t b vs.toArray ws.toArray n n2 dd dd2 sl sl2 (by simpa using hv) (by simp [hw])) ⟨ho,ho2,h1 hw⟩
 ·refine concat_meets ⟨_,ho,rfl⟩ ⟨_,ho2,rfl⟩ noFill_tuple_add seq_tuple_add PySem.F.slot_tuple_add PySem.F.entry_tuple_add (PySem.F.args_tuple_add_2 _ _)
   (tuple_addW2 t b vs.toArray ws.toArray n n2 dd dd2 sl sl2 (by simpa using hv) (by simpa using hw) (by rw [List.size_toArray,List.size_toArray]; exact hsz)) ⟨ho,ho2,?_⟩
  rw [e]
  exact h2 hw
def sIx (n d:Nat):Option Int->Nat
 | none=>d
 | some v=>if v < 0 then (v + (n:Int)).toNat else min v.toNat n
theorem sIx_le (n d:Nat) (hd:d <= n) (o:Option Int):sIx n d o <= n:=by
 cases o with
 | none=>exact hd
 | some v =>
  show (if v < 0 then (v + (n:Int)).toNat else min v.toNat n) <= n
  by_cases hv:v < 0
  ·rw [if_pos hv]; omega
  ·rw [if_neg hv]; exact Nat.min_le_right _ _
theorem clip_eq (v:Int) (n d:Nat):(if v < 0 then max (v + (n:Int)) 0 else min v (n:Int))=((sIx n d (some v):Nat):Int):=by
 show (if v < 0 then max (v + (n:Int)) 0 else min v (n:Int))=(((if v < 0 then (v + (n:Int)).toNat else min v.toNat n):Nat):Int)
 by_cases hv:v < 0
 ·simp only [if_pos hv]; omega
 ·simp only [if_neg hv]; omega
theorem adjust_gen (lo hi:Option Int) (n:Nat):Builtin.Slice.sliceAdjust lo hi 1 (n:Int)=(((sIx n 0 lo:Nat):Int),((sIx n n hi:Nat):Int)):=by
 have h1:¬ ((1:Int) < 0):=by omega
 unfold Builtin.Slice.sliceAdjust
 simp only [h1,if_false]
 refine Prod.ext ?_ ?_
 ·cases lo with
  | none=>rfl
  | some v=>exact clip_eq v n 0
 ·cases hi with
  | none=>rfl
  | some v=>exact clip_eq v n n
theorem places_gen (i j:Nat):Builtin.Slice.slicePlaces (i:Int) (j:Int) 1=j - i:=by
 unfold Builtin.Slice.slicePlaces
 have h1:(1:Int) > 0:=by omega
 simp only [h1,if_true,Int.ediv_one]
 split <;> omega
theorem slicePart_ {v:Value}{o:Option Int}{Q:Option Int->Shared->Prop} (p:IsPart v o) (h:Q o s):wpAny (model prog w) A (Builtin.Slice.slicePartIndex v) Q E s:=by
 cases p with
 | none=>exact slicePart_none h
 | int i t=>exact slicePart_int h
theorem sliceApplied_gen {sl:Addr}{vl vu:Value}{lo hi:Option Int}{n:Nat}{Q:Int × Int × Nat->Shared->Prop} (hs:s.heap.IsSliceOf sl vl vu .none) (pl:IsPart vl lo) (pu:IsPart vu hi)
  (h:Q (((sIx n 0 lo:Nat):Int),1,sIx n n hi - sIx n 0 lo) s):wpAny (model prog w) A (Builtin.Slice.sliceApplied (.ref sl) (pure (n:Int))) Q E s:=by
 obtain ⟨os,hos,hcs,hds⟩:=id hs
 unfold Builtin.Slice.sliceApplied Builtin.Slice.sliceFields
 refine wpAny_bind (wpAny_bind (wpAny_field hos hds (x:=vl) rfl (wpAny_bind (wpAny_field hos hds (x:=vu) rfl (wpAny_bind (wpAny_field hos hds (x := .none) rfl (wpAny_pure ?_)))))))
 refine wpAny_bind (slicePart_none ?_)
 show wpAny _ _ (if ((1:Int) == 0)=true then _ else _) _ _ s
 rw [if_neg (by decide)]
 refine wpAny_bind (slicePart_ pl (wpAny_bind (slicePart_ pu (wpAny_bind (wpAny_pure ?_)))))
 show wpAny _ _ (match Builtin.Slice.sliceAdjust lo hi 1 (n:Int) with | (lo,hi)=>pure (lo,(1:Int),Builtin.Slice.slicePlaces lo hi 1)) _ _ s
 rw [adjust_gen lo hi n]
 show wpAny _ _ (pure (((sIx n 0 lo:Nat):Int),(1:Int),Builtin.Slice.slicePlaces ((sIx n 0 lo:Nat):Int) ((sIx n n hi:Nat):Int) 1)) _ _ s
 rw [places_gen]
 exact wpAny_pure h
theorem pick_gen (xs:Array Value) (i k:Nat):((List.range k).filterMap fun (m:Nat)=>xs[((i:Int) + (m:Int) * 1).toNat]?).toArray=((xs.toList.drop i).take k).toArray:=by
 have e:(fun (m:Nat)=>xs[((i:Int) + (m:Int) * 1).toNat]?)=fun m=>xs[i + m]? := by
  funext m
  have:((i:Int) + (m:Int) * 1).toNat=i + m:=by omega
  rw [this]
 rw [e]
 have:=pick_run xs i k
 rw [List.filterMap_map] at this
 have e2:((fun x=>xs[x]?) ∘ fun x=>i + x)=fun m=>xs[i + m]? := rfl
 rw [e2] at this
 rw [this]
theorem getItem_tuple_cut {t sl:Addr}{items:Array Value}{vl vu:Value}{lo hi:Option Int}{Q:Value->Shared->Prop} (ht:IsTup s.heap t items) (hs:s.heap.IsSliceOf sl vl vu .none) (pl:IsPart vl lo) (pu:IsPart vu hi)
  (hw:¬ (sIx items.size 0 lo=0/\sIx items.size items.size hi=items.size))
  (h:Q (.ref s.heap.objs.size) { s with heap:=s.heap.push { cls := .type "tuple",data := .seq ((items.toList.drop (sIx items.size 0 lo)).take (sIx items.size items.size hi - sIx items.size 0 lo)).toArray } })
  (hsz:items.size <= sizeLine):wpAny (model prog w) A (getItem (.ref t) (.ref sl)) Q E s:=by
 have htake:sizeOk (.seq ((items.toList.drop (sIx items.size 0 lo)).take (sIx items.size items.size hi - sIx items.size 0 lo)).toArray):=by
  show ((items.toList.drop (sIx items.size 0 lo)).take (sIx items.size items.size hi - sIx items.size 0 lo)).toArray.size <= sizeLine
  rw [List.size_toArray,List.length_take,List.length_drop,Array.length_toList]
  omega
 have hj:sIx items.size items.size hi <= items.size:=sIx_le _ _ (Nat.le_refl _) hi
 obtain ⟨os,hos,hcs,hds⟩:=id hs
 have hTs:s.TypeIs (.ref sl) "slice" := ⟨os,hos,hcs⟩
 unfold getItem
 try with_reducible refine wpAny_holding ?_
 first | refine wpAny_bind (wpAny_pure ?_) | skip
 refine wpAny_bind (wpAny_sequenceKey ht.typeIs (by decide) ?_)
 refine wpAny_bind (wpAny_callSpecial?_slot (name:=Str.ofString "__getitem__") ht.typeIs PyProof.Rows.slot_tuple_getitem
  (wpAny_call_entry PyProof.Rows.slot_tuple_getitem ht.typeIs entry_tuple_getitem ?_ (args_tuple_getitem _ _)))
 show wpAny _ _ (Builtin.Tuple.tupleItemsOf (.ref t) >>= _) _ _ s
 refine wpAny_bind (tupleItemsOf_ ht ?_)
 refine wpAny_bind (wpAny_typeOf hTs ?_)
 rw [if_pos (by decide)]
 refine wpAny_bind (sliceApplied_gen hs pl pu ?_)
 have hno:¬ ((((sIx items.size 0 lo:Nat):Int) == 0 && (1:Int) == 1 && (sIx items.size items.size hi - sIx items.size 0 lo) == items.size)=true):=by
  intro q
  rw [Bool.and_eq_true,Bool.and_eq_true] at q
  have q1:((sIx items.size 0 lo:Nat):Int)=0:=eq_of_beq q.1.1
  have q2:sIx items.size items.size hi - sIx items.size 0 lo=items.size:=eq_of_beq q.2
  exact hw ⟨by omega,by omega⟩
 show wpAny _ _ (if (((sIx items.size 0 lo:Nat):Int) == 0 && (1:Int) == 1 && (sIx items.size items.size hi - sIx items.size 0 lo) == items.size)=true then _ else _) _ _ s
 rw [if_neg hno,pick_gen]
 first
  | exact wpAny_bind (m:=Builtin.Tuple.tupleExact _) (wpAny_newObj_type (wpAny_pure ⟨_,rfl,wpAny_pure h⟩) htake)
  | exact wpAny_bind (m:=Builtin.Tuple.tupleExact _) (wpAny_newObj_type (wpAny_bind (wpAny_pure (wpAny_pure ⟨_,rfl,wpAny_pure h⟩))) htake)
  | exact wpAny_bind (wpAny_bind (m:=Builtin.Tuple.tupleExact _) (wpAny_newObj_type (wpAny_pure (wpAny_pure ⟨_,rfl,wpAny_pure h⟩)) htake))
  | exact wpAny_bind (wpAny_bind (m:=Builtin.Tuple.tupleExact _) (wpAny_newObj_type (wpAny_pure ⟨_,rfl,wpAny_pure h⟩) htake))
end
end HT
namespace L2
open PySem PySem.Spec PyProof.Rows
abbrev TO:=St->Hp->(Option Int->Hp->Prop)->Prop
def PO (X:Cx) (e:Option Expr) (t:TO):Prop :=
 ∀ (pins:List (Addr × Obj)) (s:Shared) (σ:St) (H:Hp) (Q:Option Int->Hp->Prop),Inv X pins σ H s->t σ H Q ->
  wpAny (model X.prog X.w) X.A (evalPart e X.env) (fun u s'=>∃ o H',Inv X pins σ H' s'/\IsPart u o/\Q o H') X.xe s
def tNoPart:TO:=fun _ H Q=>Q none H
def tPart (t:TE):TO:=fun σ H Q=>t σ H fun x H1=>∃ i,x=.int i/\Q (some i) H1
theorem intsAre_of {ns:List Int}:∀ {us:List Value},Vals (ns.map V.int) us->IntsAre us ns:=by
 induction ns with
 | nil=>intro us r; rw [List.map_nil] at r; cases r; exact .nil
 | cons n ns ih =>
  intro us r
  rw [List.map_cons] at r
  cases r with
  | cons r1 r2 =>
   obtain ⟨t,e⟩:=r1
   subst e
   exact .cons n t (ih r2)
section
variable {X:Cx}{e:Expr}{te:TE}{lo hi:Option Expr}{tl th:TO}{pos p2:Pos}
theorem po_none:PO X none tNoPart:=by
 intro pins s σ H Q I h
 rw [evalPart_none]
 exact wpAny_pure ⟨none,H,I,.none,h⟩
theorem po_some (h:PE X e te):PO X (some e) (tPart te):=by
 intro pins s σ H Q I hw
 rw [evalPart_some]
 refine thn (h pins s σ H _ I hw) fun u s1 hq5=>L2.ex5 hq5 fun x H1 I1 r1 q1=>?_
 obtain ⟨i,rfl,q⟩:=q1
 obtain ⟨t,rfl⟩:=r1
 exact ⟨some i,H1,I1,.int i t,q⟩
def SlR (X:Cx) (r:V->Option Int->Option Int->Hp->VK->Prop):Prop :=
 ∀ (pins:List (Addr × Obj)) (s:Shared) (σ:St) (H:Hp) (x:V) (v vl vu:Value) (lo hi:Option Int) (sl:Addr) (Q:VK),Inv X pins σ H s->RelV x v->s.heap.IsSliceOf sl vl vu .none->IsPart vl lo->IsPart vu hi->r x lo hi H Q ->
  ∃ T id,typeLookup (.type T) "__getitem__" = pure (some (.builtin id))/\s.TypeIs v T/\wpAny (model X.prog X.w) X.A (getItem v (.ref sl)) (EP X pins σ Q) X.xe s
theorem SlR.or {r r':V->Option Int->Option Int->Hp->VK->Prop} (h:SlR X r) (h':SlR X r'):SlR X (fun x lo hi H Q=>r x lo hi H Q ∨ r' x lo hi H Q):=by
 intro pins s σ H x v vl vu lo hi sl Q I rx hs pl pu q
 rcases q with q | q
 ·exact h pins s σ H x v vl vu lo hi sl Q I rx hs pl pu q
 ·exact h' pins s σ H x v vl vu lo hi sl Q I rx hs pl pu q
def tSl (r:V->Option Int->Option Int->Hp->VK->Prop) (te:TE) (tl th:TO):TE:=fun σ H Q=>te σ H fun x H1=>tl σ H1 fun l H2=>th σ H2 fun u H3=>r x l u H3 Q
theorem pe_slice {r:V->Option Int->Option Int->Hp->VK->Prop} (hr:SlR X r) (he:PE X e te) (hl:PO X lo tl) (hu:PO X hi th):PE X (.Subscript e (.Slice lo hi none p2) pos) (tSl r te tl th):=by
 intro pins s σ H Q I h
 refine Subscript_ (thn (he pins s σ H _ I h) fun v s1 hq5=>L2.ex5 hq5 fun x H1 I1 r1 q1=>?_)
 refine wpAny_Slice (thn (hl pins s1 σ H1 _ I1 q1) fun vl s2 hq5=>L2.ex5 hq5 fun l H2 I2 pl q2=>thn (hu pins s2 σ H2 _ I2 q2) fun vu s3 hq5=>L2.ex5 hq5 fun u H3 I3 pu q3=>?_)
 rw [evalPart_none]
 refine wpAny_pure ?_
 have I4:Inv X pins σ H3 { s3 with heap:=s3.heap.push { cls := .type "slice",data := .fields #[vl,vu,.none] } }:=I3.kept (t' := s3.toks) fun b ob q=>Heap.get?_push_of_some _ q
 obtain ⟨T,id,hT,ht,hg⟩:=hr pins { s3 with heap:=s3.heap.push { cls := .type "slice",data := .fields #[vl,vu,.none] } } σ H3 x v vl vu l u s3.heap.objs.size Q I4 r1 (Heap.IsSliceOf.new ..) pl pu q3
 show wpAny (model X.prog X.w) X.A (subscriptTail e (.Slice lo hi none p2) v (.ref s3.heap.objs.size)) (EP X pins σ Q) X.xe { s3 with heap:=s3.heap.push { cls := .type "slice",data := .fields #[vl,vu,.none] } }
 exact tail_any (ops := [.ref s3.heap.objs.size,v]) ht hT hg (by with_unfolding_all rfl)
def cutV (xs:List V) (lo hi:Option Int):List V:=(xs.drop (HT.sIx xs.length 0 lo)).take (HT.sIx xs.length xs.length hi - HT.sIx xs.length 0 lo)
theorem cutV_length (xs:List V) (lo hi:Option Int):(cutV xs lo hi).length <= xs.length:=by
 unfold cutV
 rw [List.length_take,List.length_drop]
 omega
def rSlT (K:PySem.W.Frag):V->Option Int->Option Int->Hp->VK->Prop:=fun x lo hi H Q=>∃ a xs,x=.ref a/\SqT K H a xs /\
 ¬ (HT.sIx xs.length 0 lo=0/\HT.sIx xs.length xs.length hi=xs.length)/\∀ p,H p=none->Q (.ref p) (upd H p (.tup (cutV xs lo hi)))
theorem sl_tup:SlR X (rSlT X.K):=by
 intro pins s σ H x v vl vu lo hi sl Q I rx hs pl pu h
 obtain ⟨a,xs,rfl,hx,hw,q⟩:=h
 cases rx
 obtain ⟨its,r,ht,hz⟩:=I.tuple hx
 have hlen:its.toArray.size=xs.length:=by rw [List.size_toArray]; exact r.length.symm
 refine ⟨"tuple",_,PyProof.Rows.slot_tuple_getitem.lookup,ht.typeIs,?_⟩
 refine HT.getItem_tuple_cut ht hs pl pu (by rw [hlen]; exact hw) ?_ (by rw [hlen]; exact hz)
 rw [hlen]
 refine ⟨.ref s.heap.objs.size,_,I.laid (t' := s.toks) (o := .tup (cutV xs lo hi)) (fun b ob q=>Heap.get?_push_of_some _ q) (Nat.le_refl _) ?_,rfl,q _ (I.hok.fresh (Nat.le_refl _))⟩
 exact ⟨Nat.le_trans (cutV_length xs lo hi) hz,_,(r.drop (HT.sIx xs.length 0 lo)).take (HT.sIx xs.length xs.length hi - HT.sIx xs.length 0 lo),TupN.new _ _⟩
def rCatT (K:PySem.W.Frag):R2:=fun x y H Q=>∃ a b xs ys,x=.ref a/\y=.ref b/\SqT K H a xs/\SqT K H b ys/\xs ≠ []/\xs.length + ys.length <= sizeLine /\
 (ys=[]->Q (.ref a) H)/\(ys ≠ []->∀ p,H p=none->Q (.ref p) (upd H p (.tup (xs ++ ys))))
theorem Vals.nil_iff {xs:List V}{us:List Value} (r:Vals xs us):us=[] ↔ xs=[]:=by
 cases r with
 | nil=>simp
 | cons _ _=>simp
theorem op_catT:OpR X (binaryOp .Add) (rCatT X.K):=by
 intro pins s σ H x y v u Q I rx ry h
 obtain ⟨a,b,xs,ys,rfl,rfl,ha,hb,hx,hz,q1,q2⟩:=h
 cases rx
 cases ry
 obtain ⟨its,r1,p1,_⟩:=I.tuple ha
 obtain ⟨its2,r2,p2,_⟩:=I.tuple hb
 refine HT.cat_tup p1 p2 (fun z=>hx (r1.nil_iff.mp z)) (fun z=>⟨.ref a,H,I,rfl,q1 (r2.nil_iff.mp z)⟩) (fun z=>?_) (by rw [<- r1.length,<- r2.length]; exact hz)
 refine ⟨.ref s.heap.objs.size,_,I.laid (t' := s.toks) (o := .tup (xs ++ ys)) (fun b ob q=>Heap.get?_push_of_some _ q) (Nat.le_refl _) ?_,rfl,q2 (fun w=>z (r2.nil_iff.mpr w)) _ (I.hok.fresh (Nat.le_refl _))⟩
 exact ⟨by rw [List.length_append]; exact hz,_,r1.append r2,TupN.new _ _⟩
end
def ixN (n:Nat) (i:Int):Option Nat:=if 0 <= i then (if i < n then some i.toNat else none) else if -(n:Int) <= i then some (i + n).toNat else none
def atI {α:Type} (xs:List α) (i:Int):Option α:=(ixN xs.length i).bind fun j=>xs[j]?
theorem ixN_seq {n:Nat}{i:Int}{j:Nat} (h:ixN n i=some j):seqIndex? i n=some j/\j < n /\ -(n:Int) <= i/\i < n:=by
 unfold ixN at h
 by_cases h0:0 <= i
 ·rw [if_pos h0] at h
  by_cases h1:i < n
  ·rw [if_pos h1] at h
   have e:i.toNat=j:=Option.some.inj h
   exact ⟨by rw [seqIndex_of h0 h1,e],by omega,by omega,h1⟩
  ·rw [if_neg h1] at h; cases h
 ·rw [if_neg h0] at h
  by_cases h1 : -(n:Int) <= i
  ·rw [if_pos h1] at h
   have e:(i + n).toNat=j:=Option.some.inj h
   exact ⟨by rw [seqIndex_neg (by omega) h1,e],by omega,h1,by omega⟩
  ·rw [if_neg h1] at h; cases h
theorem atI_get {α:Type}{xs:List α}{i:Int}{v:α} (h:atI xs i=some v):∃ j,seqIndex? i xs.length=some j/\xs[j]?=some v/\j < xs.length /\ -(xs.length:Int) <= i/\i < xs.length:=by
 unfold atI at h
 cases e:ixN xs.length i with
 | none=>rw [e] at h; cases h
 | some j =>
  rw [e] at h
  obtain ⟨h1,h2,h3,h4⟩:=ixN_seq e
  exact ⟨j,h1,h,h2,h3,h4⟩
theorem atI_nat {α:Type}{xs:List α}{j:Nat}{v:α} (h:xs[j]?=some v):atI xs (j:Int)=some v:=by
 have hj:j < xs.length:=(List.getElem?_eq_some_iff.mp h).1
 have e:ixN xs.length (j:Int)=some j:=by
  unfold ixN
  rw [if_pos (by omega),if_pos (by omega)]; simp
 unfold atI; rw [e]; exact h
def PlainIx (b:Expr):Prop := ∀ o i,subscripted b false o i=operate [o,i] (getItem o i)
def IxR (X:Cx) (r:R2):Prop :=
 ∀ (value slice:Expr) (pins:List (Addr × Obj)) (s:Shared) (σ:St) (H:Hp) (x y:V) (v u:Value) (Q:VK),Inv X pins σ H s->RelV x v->RelV y u->r x y H Q ->
  subscripted slice false v u=operate [v,u] (getItem v u)->wpAny (model X.prog X.w) X.A (subscriptTail value slice v u) (EP X pins σ Q) X.xe s
def MtR (X:Cx) (id:String) (r:V->List V->Hp->VK->Prop):Prop :=
 ∀ (pins:List (Addr × Obj)) (s:Shared) (σ:St) (H:Hp) (x:V) (xs:List V) (v:Value) (us:List Value) (Q:VK),Inv X pins σ H s->RelV x v->Vals xs us->r x xs H Q ->
  wpAny (model X.prog X.w) X.A (call (.builtin id) (v :: us)) (EP X pins σ Q) X.xe s
section
variable {X:Cx}{a b:Expr}{ta tb:TE}{pos:Pos}
theorem IxR.or {r r':R2} (h:IxR X r) (h':IxR X r'):IxR X (fun x y H Q=>r x y H Q ∨ r' x y H Q):=by
 intro value slice pins s σ H x y v u Q I rx ry q hs
 rcases q with q | q
 ·exact h value slice pins s σ H x y v u Q I rx ry q hs
 ·exact h' value slice pins s σ H x y v u Q I rx ry q hs
theorem pe_ix {r:R2} (hr:IxR X r) (ha:PE X a ta) (hb:PE X b tb) (hs:PlainIx b):PE X (.Subscript a b pos) (tOp r ta tb):=by
 intro pins s σ H Q I h
 exact Subscript_ (binT ha hb I h fun v u s2 x y H2 I2 rx ry q=>hr a b pins s2 σ H2 x y v u Q I2 rx ry q (hs _ _))
def rIxL (K:PySem.W.Frag):R2:=fun x y H Q=>∃ p xs i v,x=.ref p/\y=.int i/\SqL K H p xs/\atI xs i=some v/\Q v H
def rIxT (K:PySem.W.Frag):R2:=fun x y H Q=>∃ p xs i v,x=.ref p/\y=.int i/\SqT K H p xs/\atI xs i=some v/\Q v H
def rIxS:R2:=fun x y H Q=>∃ z i c,x=.str z/\y=.int i/\z.length <= sizeLine/\atI z.cps.toList i=some c/\Q (.str ⟨#[c]⟩) H
theorem ix_list:IxR X (rIxL X.K):=by
 intro value slice pins s σ H x y v u Q I rx ry h hs
 obtain ⟨p,xs,i,z,rfl,rfl,hq,he,q⟩:=h
 cases rx
 obtain ⟨t,rfl⟩:=ry
 obtain ⟨its,r,pl,hz⟩:=I.list hq
 obtain ⟨j,h1,h2,h3,h4,h5⟩:=atI_get he
 obtain ⟨w,ew,rw'⟩:=r.get h2
 have hl:=r.length
 have hn:=line63
 have fin:EP X pins σ Q w s:=⟨z,H,I,rw',q⟩
 by_cases h0:0 <= i
 ·have hj:i.toNat=j:=by
   rw [seqIndex_of h0 h5] at h1
   exact Option.some.inj h1
  exact item_listR pl.isList h0 (by omega) (by rw [hj]; simpa using ew) fin hs
 ·have hj:(i + (its.toArray.size:Int)).toNat=j:=by
   rw [seqIndex_neg (by omega) h4] at h1
   rw [List.size_toArray,<- hl]
   exact Option.some.inj h1
  exact subscriptTail_builtinR (x:=w) pl.isList.typeIs slot_list_getitem.lookup
   (wpAny_getItem_list_neg (Q:=fun r s'=>r=w/\EP X pins σ Q r s') pl.isList (by omega) (by rw [List.size_toArray] <;> omega) (by omega) (by rw [hj]; simpa using ew) ⟨rfl,fin⟩) hs
theorem ix_tup:IxR X (rIxT X.K):=by
 intro value slice pins s σ H x y v u Q I rx ry h hs
 obtain ⟨p,xs,i,z,rfl,rfl,hq,he,q⟩:=h
 cases rx
 obtain ⟨t,rfl⟩:=ry
 obtain ⟨its,r,pl,hz⟩:=I.tuple hq
 obtain ⟨j,h1,h2,h3,h4,h5⟩:=atI_get he
 obtain ⟨w,ew,rw'⟩:=r.get h2
 have hl:=r.length
 have hn:=line63
 have fin:EP X pins σ Q w s:=⟨z,H,I,rw',q⟩
 exact subscriptTail_builtinR (x:=w) pl.typeIs slot_tuple_getitem.lookup
  (getItem_tuple (j:=j) (Q:=fun r s'=>r=w/\EP X pins σ Q r s') pl (by omega) (by omega) (by rw [List.size_toArray,<- hl]; exact h1) (by simpa using ew) ⟨rfl,fin⟩) hs
theorem ix_str:IxR X rIxS:=by
 intro value slice pins s σ H x y v u Q I rx ry h hs
 obtain ⟨z,i,c,rfl,rfl,hz,he,q⟩:=h
 obtain ⟨t,rfl⟩:=rx
 obtain ⟨t',rfl⟩:=ry
 obtain ⟨j,h1,h2,h3,h4,h5⟩:=atI_get he
 have hl:z.cps.toList.length=z.length:=by simp [Str.length]
 rw [hl] at h1 h4 h5
 have hn:=line63
 exact tail_any (typeIs_str s z t) slot_str_getitem.lookup (getItem_str (c:=c) (by
  have e1:decide (i < -(2 ^ 63:Int))=false:=decide_eq_false (by omega)
  have e2:decide (i ≥ 2 ^ 63)=false:=decide_eq_false (by omega)
  rw [e1,e2,Bool.or_false]) (by rw [h1]; simpa using h2) ⟨.str ⟨#[c]⟩,H,I.tok _,⟨_,rfl⟩,q⟩) hs
def rIx (K:PySem.W.Frag):R2:=fun x y H Q=>rIxL K x y H Q ∨ rIxT K x y H Q ∨ rIxS x y H Q
theorem ix_seq:IxR X (rIx X.K):=ix_list.or (ix_tup.or ix_str)
theorem slice_bounds (lo hi:Option Int) (n:Nat):(sliceBounds lo hi none n).1=((HT.sIx n 0 lo:Nat):Int)/\(sliceBounds lo hi none n).2.1=((HT.sIx n n hi:Nat):Int)/\(sliceBounds lo hi none n).2.2=1:=by
 refine ⟨?_,?_,rfl⟩
 ·cases lo with
  | none=>simp [sliceBounds,HT.sIx]
  | some i =>
   simp only [sliceBounds,HT.sIx,Option.getD_none,show (1:Int) > 0 by decide,if_true]
   by_cases h:i < 0
   ·simp only [h,if_true] <;> omega
   ·simp only [h,if_false] <;> omega
 ·cases hi with
  | none=>simp [sliceBounds,HT.sIx]
  | some i =>
   simp only [sliceBounds,HT.sIx,Option.getD_none,show (1:Int) > 0 by decide,if_true]
   by_cases h:i < 0
   ·simp only [h,if_true] <;> omega
   ·simp only [h,if_false] <;> omega
theorem slicePick_cut (its:List Value) (lo hi:Option Int):slicePick its.toArray lo hi none=((its.drop (HT.sIx its.length 0 lo)).take (HT.sIx its.length its.length hi - HT.sIx its.length 0 lo)).toArray:=by
 obtain ⟨h1,h2,h3⟩:=slice_bounds lo hi its.toArray.size
 unfold slicePick
 rw [h1,h2,h3]
 simp only [sliceRange_one,pick_run,List.size_toArray] <;> rfl
def rSlL (K:PySem.W.Frag):V->Option Int->Option Int->Hp->VK->Prop:=fun x lo hi H Q=>∃ a xs,x=.ref a/\SqL K H a xs/\∀ p,H p=none->Q (.ref p) (upd H p (.lst (cutV xs lo hi)))
theorem sl_list:SlR X (rSlL X.K):=by
 intro pins s σ H x v vl vu lo hi sl Q I rx hs pl pu h
 obtain ⟨a,xs,rfl,hx,q⟩:=h
 cases rx
 obtain ⟨its,r,ht,hz⟩:=I.list hx
 have hlen:=r.length
 refine ⟨"list",_,slot_list_getitem.lookup,ht.isList.typeIs,?_⟩
 refine wpAny_getItem_list_slice ht.isList hs pl pu .none (by simp) ?_ (by rw [List.size_toArray] <;> omega)
 rw [slicePick_cut,<- hlen]
 refine ⟨.ref s.heap.objs.size,_,I.laid (t' := s.toks) (o := .lst (cutV xs lo hi)) (fun b ob q=>Heap.get?_push_of_some _ q) (Nat.le_refl _) ?_,rfl,q _ (I.hok.fresh (Nat.le_refl _))⟩
 exact ⟨Nat.le_trans (cutV_length xs lo hi) hz,_,0,(r.drop (HT.sIx xs.length 0 lo)).take (HT.sIx xs.length xs.length hi - HT.sIx xs.length 0 lo),Heap.get?_push_size _ rfl⟩
def flatV:V->Bool
 | .non=>true
 | .bl _=>true
 | .int _=>true
 | .str _=>true
 | _=>false
def eqV:V->V->Bool
 | .non,.non=>true
 | .bl a,.bl b=>a == b
 | .bl a,.int b=>(if a then 1 else 0) == b
 | .int a,.bl b=>a == (if b then 1 else 0)
 | .int a,.int b=>a == b
 | .str a,.str b=>a == b
 | _,_=>false
theorem eqAt_V {A:Around}{s:Shared}{y x:V}{u v:Value} (ry:RelV y u) (rx:RelV x v) (fy:flatV y=true) (fx:flatV x=true):SeqAt.EqAt A s u v (eqV y x):=by
 cases y with
 | non =>
  cases ry
  cases x with
  | non=>cases rx; exact SeqAt.EqAt.same _
  | bl b=>cases rx; exact SeqAt.EqAt.none_bool b
  | int b=>obtain ⟨t,rfl⟩:=rx; exact SeqAt.EqAt.none_int b t
  | str b=>obtain ⟨t,rfl⟩:=rx; exact SeqAt.EqAt.none_str b t
  | _=>exact absurd (show false=true from fx) Bool.false_ne_true
 | bl a =>
  cases ry
  cases x with
  | non=>cases rx; exact SeqAt.EqAt.bool_none a
  | bl b=>cases rx; exact SeqAt.EqAt.bool_bool a b
  | int b=>obtain ⟨t,rfl⟩:=rx; exact SeqAt.EqAt.bool_int a b t
  | str b=>obtain ⟨t,rfl⟩:=rx; exact SeqAt.EqAt.bool_str a b t
  | _=>exact absurd (show false=true from fx) Bool.false_ne_true
 | int a =>
  obtain ⟨t',rfl⟩:=ry
  cases x with
  | non=>cases rx; exact SeqAt.EqAt.int_none a t'
  | bl b=>cases rx; exact SeqAt.EqAt.int_bool a t' b
  | int b=>obtain ⟨t,rfl⟩:=rx; exact SeqAt.EqAt.int_int a t' b t
  | str b=>obtain ⟨t,rfl⟩:=rx; exact SeqAt.EqAt.int_str a t' b t
  | _=>exact absurd (show false=true from fx) Bool.false_ne_true
 | str a =>
  obtain ⟨t',rfl⟩:=ry
  cases x with
  | non=>cases rx; exact SeqAt.EqAt.str_none a t'
  | bl b=>cases rx; exact SeqAt.EqAt.str_bool a t' b
  | int b=>obtain ⟨t,rfl⟩:=rx; exact SeqAt.EqAt.str_int a t' b t
  | str b=>obtain ⟨t,rfl⟩:=rx; exact SeqAt.EqAt.str_str a t' b t
  | _=>exact absurd (show false=true from fx) Bool.false_ne_true
 | _=>exact absurd (show false=true from fy) Bool.false_ne_true
def eqU (x:V) (u:Value):Bool:=match u with
 | .none=>eqV .non x
 | .bool b=>eqV (.bl b) x
 | .int i _=>eqV (.int i) x
 | .str z _=>eqV (.str z) x
 | _=>false
theorem eqU_of {x y:V}{u:Value} (r:RelV y u) (f:flatV y=true):eqU x u=eqV y x:=by
 cases y with
 | non=>cases r; rfl
 | bl b=>cases r; rfl
 | int i=>obtain ⟨t,rfl⟩:=r; rfl
 | str z=>obtain ⟨t,rfl⟩:=r; rfl
 | _=>exact absurd (show false=true from f) Bool.false_ne_true
theorem any_eqU {x:V}:∀ {xs:List V}{us:List Value},Vals xs us->xs.all flatV=true->us.any (eqU x)=xs.any fun y=>eqV y x
 | _,_,.nil,_=>rfl
 | y :: xs,u :: us,.cons r t,f=>by
  rw [List.all_cons,Bool.and_eq_true] at f
  rw [List.any_cons,List.any_cons,eqU_of r f.1,any_eqU t f.2]
theorem mem_eqAt {A:Around}{s:Shared}{x:V}{v:Value} (rx:RelV x v) (fx:flatV x=true):∀ {xs:List V}{us:List Value},Vals xs us->xs.all flatV=true->∀ u ∈ us,SeqAt.EqAt A s u v (eqU x u)
 | _,_,.nil,_=>fun u hu=>by cases hu
 | y :: xs,u :: us,.cons r t,f=>fun u' hu=>by
  rw [List.all_cons,Bool.and_eq_true] at f
  rcases List.mem_cons.mp hu with rfl | hu
  ·rw [eqU_of r f.1]; exact eqAt_V r rx f.1 fx
  ·exact mem_eqAt rx fx t f.2 u' hu
def inV (x:V) (xs:List V):Bool:=xs.any fun y=>eqV y x
def rIn (K:PySem.W.Frag) (neg:Bool):R2:=fun x y H Q=>∃ p xs,y=.ref p/\(SqL K H p xs ∨ SqT K H p xs)/\flatV x=true/\xs.all flatV=true/\Q (.bl (if neg then !inV x xs else inV x xs)) H
theorem op_in_seq:OpR X (compareOp .In) (rIn X.K false):=by
 intro pins s σ H x y v u Q I rx ry h
 obtain ⟨p,xs,rfl,hq,fx,fs,q⟩:=h
 cases ry
 rcases hq with hq | hq
 ·obtain ⟨its,r,pl,hz⟩:=I.list hq
  refine SeqAt.in_listAt (eqU x) pl.isList (fun w hw=>mem_eqAt rx fx r fs w (by simpa using hw)) ⟨.bl _,H,I,rfl,?_⟩
  rw [show its.toArray.any (eqU x)=its.any (eqU x) by simp,any_eqU r fs]
  exact q
 ·obtain ⟨its,r,pl,hz⟩:=I.tuple hq
  refine SeqAt.in_tupleAt (eqU x) pl (fun w hw=>mem_eqAt rx fx r fs w (by simpa using hw)) ⟨.bl _,H,I,rfl,?_⟩
  rw [show its.toArray.any (eqU x)=its.any (eqU x) by simp,any_eqU r fs]
  exact q
theorem op_notIn_seq:OpR X (compareOp .NotIn) (rIn X.K true):=by
 intro pins s σ H x y v u Q I rx ry h
 obtain ⟨p,xs,rfl,hq,fx,fs,q⟩:=h
 cases ry
 rcases hq with hq | hq
 ·obtain ⟨its,r,pl,hz⟩:=I.list hq
  refine SeqAt.notIn_listAt (eqU x) pl.isList (fun w hw=>mem_eqAt rx fx r fs w (by simpa using hw)) ⟨.bl _,H,I,rfl,?_⟩
  rw [show its.toArray.any (eqU x)=its.any (eqU x) by simp,any_eqU r fs]
  exact q
 ·obtain ⟨its,r,pl,hz⟩:=I.tuple hq
  refine SeqAt.notIn_tupleAt (eqU x) pl (fun w hw=>mem_eqAt rx fx r fs w (by simpa using hw)) ⟨.bl _,H,I,rfl,?_⟩
  rw [show its.toArray.any (eqU x)=its.any (eqU x) by simp,any_eqU r fs]
  exact q
theorem call_len_seq:CallR X (.builtin "len") (fun xs H Q=>∃ p ys,xs=[.ref p]/\(SqL X.K H p ys ∨ SqT X.K H p ys)/\Q (.int ys.length) H):=by
 intro pins s σ H xs us Q I r h
 obtain ⟨p,ys,rfl,hq,q⟩:=h
 obtain ⟨u,rfl,rx⟩:=vals1 r
 cases rx
 have hn:=line63
 rcases hq with hq | hq
 ·obtain ⟨its,r',pl,hz⟩:=I.list hq
  have hlen:=r'.length
  exact Calls.call_len_list pl.isList (by simp only [List.size_toArray] <;> omega) ⟨.int ys.length,H,I.tok _,⟨s.toks + 1,by rw [List.size_toArray,hlen]⟩,q⟩
 ·obtain ⟨its,r',pl,hz⟩:=I.tuple hq
  have hlen:=r'.length
  exact len_tuple pl (by simp only [List.size_toArray] <;> omega) ⟨.int ys.length,H,I.tok _,⟨s.toks + 1,by rw [List.size_toArray,hlen]⟩,q⟩
theorem call_len_str:CallR X (.builtin "len") (fun xs H Q=>∃ z,xs=[.str z]/\z.length <= sizeLine/\Q (.int z.length) H):=by
 intro pins s σ H xs us Q I r h
 obtain ⟨z,rfl,hz,q⟩:=h
 obtain ⟨u,rfl,t,rfl⟩:=vals1 r
 have hn:=line63
 exact len_str (by omega) ⟨.int z.length,H,I.tok _,⟨_,rfl⟩,q⟩
theorem CallR.or {f:Value}{r r':List V->Hp->VK->Prop} (h:CallR X f r) (h':CallR X f r'):CallR X f (fun xs H Q=>r xs H Q ∨ r' xs H Q):=by
 intro pins s σ H xs us Q I rs q
 rcases q with q | q
 ·exact h pins s σ H xs us Q I rs q
 ·exact h' pins s σ H xs us Q I rs q
theorem call_list_of:CallR X (.type "list") (fun xs H Q=>∃ p ys,xs=[.ref p]/\(SqL X.K H p ys ∨ SqT X.K H p ys)/\∀ l,H l=none->Q (.ref l) (upd H l (.lst ys))):=by
 intro pins s σ H xs us Q I r h
 obtain ⟨p,ys,rfl,hq,q⟩:=h
 obtain ⟨u,rfl,rx⟩:=vals1 r
 cases rx
 have fin:∀ (its:List Value),Vals ys its->ys.length <= sizeLine->∀ (h':Heap) (c':Nat),(∀ b o',s.heap.get? b=some o'->h'.get? b=some o') ->
   h'.get? s.heap.objs.size=some { cls := .type "list",dict:=none,data := .seq its.toArray c',slots := #[] }->EP X pins σ Q (.ref s.heap.objs.size) { s with heap:=h' }:=fun its r' hz h' c' kp e =>
  ⟨.ref s.heap.objs.size,_,I.laid (t' := s.toks) kp (Nat.le_refl _) (show ObjOk X.prog X.w _ h' _ (.lst ys) from ⟨hz,its,c',r',e⟩),rfl,q _ (I.hok.fresh (Nat.le_refl _))⟩
 rcases hq with hq | hq
 ·obtain ⟨its,r',pl,hz⟩:=I.list hq
  have hlen:=r'.length
  obtain ⟨o,ho,hc,n,hd⟩:=pl.isList
  exact call_list_seq p (.inl rfl) ho hc hd (fun h' c' kp e=>fin its r' hz h' c' kp e) (by simp only [List.size_toArray] <;> omega)
 ·obtain ⟨its,r',pl,hz⟩:=I.tuple hq
  have hlen:=r'.length
  obtain ⟨o,ho,hc,n,hd⟩:=pl
  exact call_list_seq p (.inr rfl) ho hc hd (fun h' c' kp e=>fin its r' hz h' c' kp e) (by simp only [List.size_toArray] <;> omega)
theorem call_tuple_of:CallR X (.type "tuple") (fun xs H Q=>∃ p ys,xs=[.ref p]/\((SqL X.K H p ys/\∀ l,H l=none->Q (.ref l) (upd H l (.tup ys))) ∨ (SqT X.K H p ys/\Q (.ref p) H))):=by
 intro pins s σ H xs us Q I r h
 obtain ⟨p,ys,rfl,h⟩:=h
 obtain ⟨u,rfl,rx⟩:=vals1 r
 cases rx
 rcases h with ⟨hq,q⟩ | ⟨hq,q⟩
 ·obtain ⟨its,r',pl,hz⟩:=I.list hq
  have hlen:=r'.length
  refine call_tuple_list pl.isList (fun h' kp=>?_) (by simp only [List.size_toArray] <;> omega)
  have I1:Inv X pins σ H { s with heap:=h' }:=I.kept (t' := s.toks) kp
  have I2:Inv X pins σ (upd H h'.objs.size (.tup ys)) { s with heap:=h'.push { cls := .type "tuple",data := .seq its.toArray } } :=
   I1.laid (t' := s.toks) (fun b o e=>Heap.get?_push_of_some _ e) (Nat.le_refl _) (show ObjOk X.prog X.w _ _ _ (.tup ys) from ⟨hz,its,r',TupN.new _ _⟩)
  exact ⟨.ref h'.objs.size,_,I2,rfl,q _ (I1.hok.fresh (Nat.le_refl _))⟩
 ·obtain ⟨its,r',pl,hz⟩:=I.tuple hq
  exact call_tuple_same pl ⟨.ref p,H,I,rfl,q⟩
def tyV (K:PySem.W.Frag) (T:String) (x:V) (H:Hp):Prop:=match x with
 | .str _=>T = "str"
 | .int _=>T = "int"
 | .ref p=>(T = "list" /\ ∃ xs,SqL K H p xs) ∨ (T = "tuple" /\ ∃ o,K.lookup p=some o/\o.cls=.type "tuple" /\ o.dict=none) ∨
   (T = "dict" /\ ((∃ kvs ep,H p=some (.dK kvs ep)) ∨ ∃ kvs ep,H p=some (.dT kvs ep))) ∨ (T = "set" /\ ∃ S n,H p=some (.set S n))
 | _=>False
theorem tyV_is {pins:List (Addr × Obj)}{σ:St}{H:Hp}{s:Shared}{T:String}{x:V}{v:Value} (I:Inv X pins σ H s) (r:RelV x v) (ty:tyV X.K T x H) :
  s.TypeIs v T/\∀ a,v=.ref a->∃ ob,s.heap.get? a=some ob/\ob.dict=none:=by
 cases x with
 | str z =>
  obtain ⟨t,rfl⟩:=r
  cases (show T = "str" from ty)
  exact ⟨typeIs_str s z t,fun _ e=>nomatch e⟩
 | int i =>
  obtain ⟨t,rfl⟩:=r
  cases (show T = "int" from ty)
  exact ⟨typeIs_int s i t,fun _ e=>nomatch e⟩
 | ref p =>
  cases r
  rcases ty with ⟨rfl,xs,hq⟩ | ⟨rfl,o,hk,hc,hd⟩ | ⟨rfl,hk⟩ | ⟨rfl,S,n,hk⟩
  ·obtain ⟨its,_,pl,_⟩:=I.list hq
   refine ⟨pl.isList.typeIs,fun a e=>?_⟩
   cases e
   obtain ⟨o,n,e,c,hd,_⟩:=pl
   exact ⟨o,e,hd⟩
  ·refine ⟨⟨o,I.kIn p o hk,hc⟩,fun a e=>?_⟩
   cases e
   exact ⟨o,I.kIn _ o hk,hd⟩
  ·have z:∃ o,s.heap.get? p=some o/\o.ExactDict:=by
    rcases hk with ⟨kvs,ep,hk⟩ | ⟨kvs,ep,hk⟩
    ·obtain ⟨_,_,_,_,o,_,e,ex,_⟩:=I.hok p _ hk
     exact ⟨o,e,ex⟩
    ·obtain ⟨_,_,_,_,o,_,e,ex,_⟩:=I.hok p _ hk
     exact ⟨o,e,ex⟩
   obtain ⟨o,e,ex⟩:=z
   refine ⟨⟨o,e,ex.1⟩,fun a e2=>?_⟩
   cases e2
   exact ⟨o,e,ex.2.1⟩
  ·obtain ⟨o,_,_,_,e,ex,_⟩:=I.hok p _ hk
   refine ⟨⟨o,e,ex.1⟩,fun a e2=>?_⟩
   cases e2
   exact ⟨o,e,ex.2.1⟩
 | _=>exact False.elim ty
def tBM0 (K:PySem.W.Frag) (T:String) (r:V->List V->Hp->VK->Prop) (to:TE):TE:=fun σ H Q=>to σ H fun x H1=>tyV K T x H1/\r x [] H1 Q
def tBM (K:PySem.W.Frag) (T:String) (r:V->List V->Hp->VK->Prop) (to:TE) (t:TA):TE:=fun σ H Q=>to σ H fun x H1=>tyV K T x H1/\t σ H1 fun xs H2=>r x xs H2 Q
variable {o e:Expr}{es:List Expr}{to:TE}{t:TA}{name:Str}{apos cpos:Pos}{T id:String}{r:V->List V->Hp->VK->Prop}
theorem pe_bm0 (pa:PlainAttrs T) (slot:Slot T name id) (hty:typeOf (.builtin id)=pure (.type "method_descriptor")) (hm:MtR X id r) (ho:PE X o to)
  (hbase:attributeBase o name X.env (eval o X.env)=eval o X.env:=by rfl) (hline:(apos.endLine == cpos.line)=true:=by rfl):PE X (.Call (.Attribute o name apos) [] [] cpos) (tBM0 X.K T r to):=by
 intro pins s σ H Q I h
 refine wpAny_Call_method0_late hbase hline (thn (ho pins s σ H _ I h) fun v s1 ⟨x,H1,I1,r1,ty,q1⟩=>?_)
 obtain ⟨h1,h2⟩:=tyV_is I1 r1 ty
 exact ⟨T,id,pa,slot,hty,h1,h2,Calls.callWith_builtin rfl (PySem.evalArgs_none (hm pins s1 σ H1 x [] v [] Q I1 r1 .nil q1))⟩
theorem pe_bm (pa:PlainAttrs T) (slot:Slot T name id) (hty:typeOf (.builtin id)=pure (.type "method_descriptor")) (hm:MtR X id r) (ho:PE X o to) (ha:PA X (e :: es) t)
  (hbase:attributeBase o name X.env (eval o X.env)=eval o X.env:=by rfl)
  (hfew:((backTo cpos (starEach (e :: es) X.env)).all (fun x=>!x.1) && (backToKw cpos (keywordEach [] X.env)).all (fun x=>x.1.isSome)
   && decide ((e :: es).length + ([]:List Keyword).length + (if ([]:List Keyword).isEmpty then 0 else 1) < 30))=true:=by rfl)
  (hline:(apos.endLine == cpos.line)=true:=by rfl) (hs:starEach (e :: es) X.env=(false,eval e X.env) :: starEach es X.env:=by rfl) (hplain:(backTo cpos (starEach es X.env)).any (·.1)=false:=by rfl) :
  PE X (.Call (.Attribute o name apos) (e :: es) [] cpos) (tBM X.K T r to t):=by
 intro pins s σ H Q I h
 refine wpAny_Call_method_late hbase hfew hline rfl (thn (ho pins s σ H _ I h) fun v s1 ⟨x,H1,I1,r1,ty,q1⟩=>?_)
 obtain ⟨h1,h2⟩:=tyV_is I1 r1 ty
 refine ⟨T,id,pa,slot,hty,h1,h2,?_⟩
 have hA:=ha cpos pins s1 σ H1 _ I1 q1
 rw [hs] at hA ⊢
 refine Calls.callWith_builtin (by show (false || (backTo cpos (starEach es X.env)).any (·.1))=false; rw [hplain] <;> rfl) (Calls.evalArgs_plain ?_)
 exact thn hA fun us s2 hq5=>L2.ex5 hq5 fun vs H2 I2 r2 q2=>hm pins s2 σ H2 x vs v us Q I2 r1 r2 q2
end
def MtM (X:Cx) (id:String) (r:V->List V->Hp->VK->Prop):Prop :=
 ∀ (pins:List (Addr × Obj)) (s:Shared) (σ:St) (H:Hp) (x:V) (xs:List V) (v:Value) (us:List Value) (Q:VK),Inv X pins σ H s->RelV x v->Vals xs us->r x xs H Q ->
  wpAny (model X.prog X.w) X.A (call (.builtin id) (v :: us)) (EP X pins σ Q) X.xe s
theorem Vals.one {x:V}{us:List Value} (h:Vals [x] us):∃ u,us=[u]/\RelV x u:=by
 cases h with
 | cons r h=>cases h; exact ⟨_,rfl,r⟩
theorem Vals.zero:∀ {us:List Value},Vals [] us->us=[]
 | _,.nil=>rfl
theorem Vals.dropLast {xs:List V}{us:List Value} (h:Vals xs us):Vals xs.dropLast us.dropLast:=by
 induction h with
 | nil=>exact .nil
 | cons r t ih =>
  cases t with
  | nil=>exact .nil
  | cons q t'=>exact .cons r ih
theorem Vals.reverse {xs:List V}{us:List Value} (h:Vals xs us):Vals xs.reverse us.reverse:=by
 induction h with
 | nil=>exact .nil
 | cons r t ih=>rw [List.reverse_cons,List.reverse_cons]; exact Vals.append ih (.cons r .nil)
theorem erase_last {α:Type} (l:List α):l.eraseIdx (l.length - 1)=l.dropLast:=by
 induction l with
 | nil=>rfl
 | cons a r ih =>
  cases r with
  | nil=>rfl
  | cons b r =>
   have e:(a :: b :: r).length - 1=((b :: r).length - 1) + 1:=by
    have h1:(a :: b :: r).length=r.length + 2:=rfl
    have h2:(b :: r).length=r.length + 1:=rfl
    omega
   rw [e,List.eraseIdx_cons_succ,ih]
   all_goals rfl
section
variable {X:Cx}{pins:List (Addr × Obj)}{σ:St}{H:Hp}{s:Shared}{l b:Addr}{xs ys zs:List V}
theorem Inv.lset {its its':List Value}{n:Nat}{f:Array Value->Array Value}{t':Nat} (I:Inv X pins σ H s) (hH:H l=some (.lst xs))
  (e:s.heap.get? l=some { cls := .type "list",data := .seq its.toArray n }) (hf:f its.toArray=its'.toArray) (hv:Vals ys its') (hz:ys.length <= sizeLine) :
  Inv X pins σ (upd H l (.lst ys)) { s with heap:=s.heap.update l (Obj.mapSeq f),toks:=t' }:=by
 have q:=PySem.IsL.update e f
 rw [hf] at q
 refine I.write (x:=l) (e:=l) (by rw [hH]; exact trivial) (.inl rfl) (fun b' u hb hu=>(Heap.get?_update_other s.heap (Obj.mapSeq f) (Ne.symm hb)).trans hu) ⟨_,q⟩ ?_
 exact ⟨hz,its',_,hv,q⟩
theorem Inv.lnew {its:List Value}{t':Nat} (I:Inv X pins σ H s) (hv:Vals ys its) (hz:ys.length <= sizeLine) :
  Inv X pins σ (upd H s.heap.objs.size (.lst ys)) { s with heap:=s.heap.push { cls := .type "list",data := .seq its.toArray },toks:=t' } :=
 I.laid (fun _ _ q=>Heap.get?_push_of_some _ q) (Nat.le_refl _) ⟨hz,its,0,hv,Heap.get?_push_size _ rfl⟩
theorem Inv.fresh (I:Inv X pins σ H s):H s.heap.objs.size=none:=I.hok.fresh (Nat.le_refl _)
theorem Inv.lstM (I:Inv X pins σ H s) (hH:H l=some (.lst xs)):xs.length <= sizeLine/\∃ (its:List Value) (n:Nat),Vals xs its/\xs.length=its.length/\s.heap.get? l=some { cls := .type "list",data := .seq its.toArray n }:=by
 obtain ⟨z,its,n,r,e⟩:=I.hok l _ hH
 exact ⟨z,its,n,r,r.length,e⟩
theorem notLongL {n:Nat} (h:n <= sizeLine):Builtin.List.listTooLong n=false:=by
 unfold Builtin.List.listTooLong
 exact decide_eq_false (by omega)
end
section
variable {X:Cx}
def rAppend:V->List V->Hp->VK->Prop:=fun x vs H Q=>∃ l xs y,x=.ref l/\vs=[y]/\H l=some (.lst xs)/\xs.length < sizeLine/\Q .non (upd H l (.lst (xs ++ [y])))
theorem mt_append:MtM X "list.append" rAppend:=by
 intro pins s σ H x vs v us Q I rx rv h
 obtain ⟨l,xs,y,rfl,rfl,hH,hz,q⟩:=h
 cases rx
 obtain ⟨u,rfl,ru⟩:=rv.one
 obtain ⟨z,its,n,r,hl,e⟩:=I.lstM hH
 refine call_meets F.slot_list_append ⟨_,e,rfl⟩ F.entry_list_append (F.args_list_append_2 _ _) (PySem.list_append l its.toArray n u (by rw [List.size_toArray]; omega)) ⟨e,?_⟩
 refine ⟨.non,_,I.lset (its' := its ++ [u]) hH e (by simp) (r.append (.cons ru .nil)) ?_,rfl,q⟩
 rw [List.length_append,List.length_singleton]
 omega
def rExtend:V->List V->Hp->VK->Prop:=fun x vs H Q=>∃ l b xs zs,x=.ref l/\vs=[.ref b]/\H l=some (.lst xs)/\H b=some (.lst zs)/\xs.length + zs.length <= sizeLine/\Q .non (upd H l (.lst (xs ++ zs)))
theorem mt_extend:MtM X "list.extend" rExtend:=by
 intro pins s σ H x vs v us Q I rx rv h
 obtain ⟨l,b,xs,zs,rfl,rfl,hH,hB,hz,q⟩:=h
 cases rx
 obtain ⟨u,rfl,ru⟩:=rv.one
 cases ru
 obtain ⟨z,its,n,r,hl,e⟩:=I.lstM hH
 obtain ⟨z2,its2,n2,r2,hl2,e2⟩:=I.lstM hB
 have hsz:its.toArray.size + its2.toArray.size <= sizeLine:=by rw [List.size_toArray,List.size_toArray]; omega
 have hlong:¬ (!its.toArray.isEmpty && Builtin.List.listTooLong (its.toArray.size + its2.toArray.size))=true:=by
  rw [notLongL hsz,Bool.and_false]
  exact Bool.false_ne_true
 refine call_meets F.slot_list_extend ⟨_,e,rfl⟩ F.entry_list_extend (F.args_list_extend_2 _ _)
  (AutoSeq1.list_extend_list_list_0 l its.toArray n b its2.toArray n2 hlong (by rw [List.size_toArray]; omega) (by omega)) ⟨e,e2,?_⟩
 refine ⟨.non,_,I.lset (its' := its ++ its2) hH e (by simp) (r.append r2) ?_,rfl,q⟩
 rw [List.length_append]
 omega
def rPop:V->List V->Hp->VK->Prop:=fun x vs H Q=>∃ l xs y,x=.ref l/\vs=[]/\H l=some (.lst xs)/\xs[xs.length - 1]?=some y/\Q y (upd H l (.lst xs.dropLast))
theorem mt_pop:MtM X "list.pop" rPop:=by
 intro pins s σ H x vs v us Q I rx rv h
 obtain ⟨l,xs,y,rfl,rfl,hH,hy,q⟩:=h
 cases rx
 have hus:=rv.zero
 subst hus
 obtain ⟨z,its,n,r,hl,e⟩:=I.lstM hH
 obtain ⟨u,hu,ru⟩:=r.get hy
 have hy':its.toArray[its.toArray.size - 1]?=some u:=by
  show its.toArray[its.length - 1]?=some u
  rw [<- Array.getElem?_toList,<- hl]
  exact hu
 refine call_meets F.slot_list_pop ⟨_,e,rfl⟩ F.entry_list_pop (F.args_list_pop_1 _) (MeetsSeq.list_pop_last l its.toArray n u hy' (by rw [List.size_toArray]; omega)) ⟨e,?_⟩
 refine ⟨y,_,I.lset (its' := its.dropLast) hH e ?_ r.dropLast ?_,ru,q⟩
 ·show its.toArray.eraseIdxIfInBounds (its.toArray.size - 1)=its.dropLast.toArray
  rw [List.size_toArray,List.eraseIdxIfInBounds_toArray,erase_last]
 ·rw [List.length_dropLast]
  omega
def rReverse:V->List V->Hp->VK->Prop:=fun x vs H Q=>∃ l xs,x=.ref l/\vs=[]/\H l=some (.lst xs)/\Q .non (upd H l (.lst xs.reverse))
theorem mt_reverse:MtM X "list.reverse" rReverse:=by
 intro pins s σ H x vs v us Q I rx rv h
 obtain ⟨l,xs,rfl,rfl,hH,q⟩:=h
 cases rx
 have hus:=rv.zero
 subst hus
 obtain ⟨z,its,n,r,hl,e⟩:=I.lstM hH
 refine call_meets F.slot_list_reverse ⟨_,e,rfl⟩ F.entry_list_reverse (F.args_list_reverse_1 _) (AutoSeq1.list_reverse_list_0 l its.toArray n (by rw [List.size_toArray]; omega)) ⟨e,?_⟩
 refine ⟨.non,_,I.lset (its' := its.reverse) hH e (by simp) r.reverse ?_,rfl,q⟩
 rw [List.length_reverse]
 omega
end
section
variable {prog:Program}{w:World}{A:Around}{E:Value->Shared->Prop}{s:Shared}
end
section
variable {X:Cx}
end
section
variable {κ:Type} [DecidableEq κ]
def valV (kvs:List (κ × V)) (k:κ):Option V:=(kvs.find? fun kv=>decide (kv.1=k)).map (·.2)
def putK (kvs:List (κ × V)) (k:κ) (v:V):List (κ × V) :=
 if (kvs.any fun kv=>decide (kv.1=k))=true then kvs.map (fun kv=>if kv.1=k then (kv.1,v) else kv) else kvs ++ [(k,v)]
theorem valV_pos {p:κ × V}{r:List (κ × V)}{k:κ} (e:p.1=k):valV (p :: r) k=some p.2:=by simp [valV,List.find?_cons,e]
theorem valV_neg {p:κ × V}{r:List (κ × V)}{k:κ} (e:¬ p.1=k):valV (p :: r) k=valV r k:=by simp [valV,List.find?_cons,e]
theorem valV_any (k:κ):∀ kvs:List (κ × V),(kvs.any fun kv=>decide (kv.1=k))=(valV kvs k).isSome
 | []=>rfl
 | p :: r=>by
  rw [List.any_cons]
  by_cases e:p.1=k
  ·simp only [valV_pos e,decide_eq_true e,Bool.true_or,Option.isSome_some]
  ·rw [valV_neg e,decide_eq_false e,Bool.false_or]; exact valV_any k r
theorem length_putK (kvs:List (κ × V)) (k:κ) (v:V):(putK kvs k v).length <= kvs.length + 1:=by
 unfold putK
 split
 ·rw [List.length_map]; omega
 ·rw [List.length_append,List.length_cons,List.length_nil]; omega
theorem RelO.isSome_eq {o:Option V}{u:Option Value} (r:RelO o u):o.isSome=u.isSome:=by
 cases o with
 | none=>cases u with
  | none=>rfl
  | some _=>exact (show False from r).elim
 | some _=>cases u with
  | none=>exact (show False from r).elim
  | some _=>rfl
theorem KV.val {kvs:List (κ × V)}{vs:List (κ × Value)} (r:KV kvs vs) (k:κ):RelO (valV kvs k) (valueAt vs k):=by
 unfold KV at r
 induction r with
 | nil=>exact True.intro
 | @cons p q ps qs h t ih =>
  obtain ⟨h1,h2⟩:=h
  by_cases e:p.1=k
  ·have e':q.1=k:=h1.symm.trans e
   have b:valueAt (q :: qs) k=some q.2:=by simp [valueAt,List.find?_cons,e']
   rw [valV_pos e,b]; exact h2
  ·have e':¬ q.1=k:=fun z=>e (h1.trans z)
   have b:valueAt (q :: qs) k=valueAt qs k:=by simp [valueAt,List.find?_cons,e']
   rw [valV_neg e,b]; exact ih
theorem KV.any {kvs:List (κ × V)}{vs:List (κ × Value)} (r:KV kvs vs) (k:κ):(kvs.any fun kv=>decide (kv.1=k))=vs.any fun kv=>decide (kv.1=k):=by
 unfold KV at r
 induction r with
 | nil=>rfl
 | cons h t ih=>rw [List.any_cons,List.any_cons,ih,h.1]
theorem KV.repl {kvs:List (κ × V)}{vs:List (κ × Value)} (r:KV kvs vs) (k:κ) {y:V}{u:Value} (ry:RelV y u) :
  KV (kvs.map fun kv=>if kv.1=k then (kv.1,y) else kv) (vs.map fun kv=>if kv.1=k then (kv.1,u) else kv):=by
 unfold KV at r ⊢
 induction r with
 | nil=>exact .nil
 | @cons p q ps qs h t ih =>
  rw [List.map_cons,List.map_cons]
  refine .cons ?_ ih
  obtain ⟨h1,h2⟩:=h
  by_cases e:p.1=k
  ·rw [if_pos e,if_pos (h1.symm.trans e)]; exact ⟨h1,ry⟩
  ·rw [if_neg e,if_neg (fun z=>e (h1.trans z))]; exact ⟨h1,h2⟩
theorem KV.put {kvs:List (κ × V)}{vs:List (κ × Value)} (r:KV kvs vs) (k:κ) {y:V}{u:Value} (ry:RelV y u):KV (putK kvs k y) (stored vs k u):=by
 unfold putK stored
 rw [r.any k]
 by_cases e:(vs.any fun kv=>decide (kv.1=k))=true
 ·rw [if_pos e,if_pos e]; exact r.repl k ry
 ·rw [if_neg e,if_neg e]; exact Paired.snoc r ⟨rfl,ry⟩
theorem KV.length {kvs:List (κ × V)}{vs:List (κ × Value)} (r:KV kvs vs):kvs.length=vs.length:=Paired.length r
end
theorem kV_is {P:Program}{w:World}{k:Key}{u:Value} (r:RelV (kV k) u):(mixKind P w).is k u=true:=by
 cases k with
 | inl i=>obtain ⟨t,e⟩:=(show ∃ t,u=Value.int i t from r); subst e; exact mixKind_int P w i t
 | inr x=>obtain ⟨t,e⟩:=(show ∃ t,u=Value.str x t from r); subst e; exact mixKind_str P w x t
theorem items_are {P:Program}{w:World}:∀ {ks:List Key}{us:List Value},Vals (ks.map kV) us->ItemsAre (mixKind P w) ks us
 | [],_,r=>by rw [List.map_nil] at r; cases r; exact .nil
 | k :: ks,_,r=>by
  rw [List.map_cons] at r
  cases r with
  | cons h t=>exact .cons (kV_is h) (items_are t)
abbrev KT (H:Hp):List (List Key × V)->List (List Key × Addr × Value)->Prop:=Paired fun p q=>p.1=q.1/\H q.2.1=some (.tup (p.1.map kV))/\RelV p.2 q.2.2
theorem KT.val {H:Hp}{kvs:List (List Key × V)}{xs:List (List Key × Addr × Value)} (r:KT H kvs xs) (k:List Key):RelO (valV kvs k) ((atKey xs k).map (·.2)):=by
 induction r with
 | nil=>exact True.intro
 | @cons p q ps qs h t ih =>
  obtain ⟨h1,_,h2⟩:=h
  by_cases e:p.1=k
  ·have e':q.1=k:=h1.symm.trans e
   have b:atKey (q :: qs) k=some q.2:=by simp [atKey,List.find?_cons,e']
   rw [valV_pos e,b]; exact h2
  ·have e':¬ q.1=k:=fun z=>e (h1.trans z)
   have b:atKey (q :: qs) k=atKey qs k:=by simp [atKey,List.find?_cons,e']
   rw [valV_neg e,b]; exact ih
theorem KT.repl {H:Hp}{kvs:List (List Key × V)}{xs:List (List Key × Addr × Value)} (r:KT H kvs xs) (k:List Key) {y:V}{u:Value} (ry:RelV y u) :
  KT H (kvs.map fun kv=>if kv.1=k then (kv.1,y) else kv) (xs.map (putAt k u)):=by
 induction r with
 | nil=>exact .nil
 | @cons p q ps qs h t ih =>
  rw [List.map_cons,List.map_cons]
  refine .cons ?_ ih
  obtain ⟨h1,h2,h3⟩:=h
  unfold putAt
  by_cases e:p.1=k
  ·rw [if_pos e,if_pos (h1.symm.trans e)]; exact ⟨h1,h2,ry⟩
  ·rw [if_neg e,if_neg (fun z=>e (h1.trans z))]; exact ⟨h1,h2,h3⟩
theorem KT.put {H:Hp}{kvs:List (List Key × V)}{xs:List (List Key × Addr × Value)} (r:KT H kvs xs) (k:List Key) {b:Addr}{y:V}{u:Value} (hb:H b=some (.tup (k.map kV))) (ry:RelV y u) :
  KT H (putK kvs k y) (storedH xs k b u):=by
 have e:(kvs.any fun kv=>decide (kv.1=k))=(atKey xs k).isSome:=by
  rw [valV_any,(r.val k).isSome_eq,Option.isSome_map]
 unfold putK storedH
 rw [e]
 by_cases q:(atKey xs k).isSome=true
 ·rw [if_pos q,if_pos q]; exact r.repl k ry
 ·rw [if_neg q,if_neg q]; exact Paired.snoc r ⟨rfl,hb,ry⟩
theorem KT.keeps {H H':Hp}{kvs:List (List Key × V)}{xs:List (List Key × Addr × Value)} (r:KT H kvs xs) (ht:∀ b ys,H b=some (.tup ys)->H' b=some (.tup ys)):KT H' kvs xs :=
 Paired.mapP r fun _ _ z=>⟨z.1,ht _ _ z.2.1,z.2.2⟩
section
variable {P:Program}{w:World}{H:Hp}{h:Heap}{a:Addr}
theorem rd_of {u:HO} (ok:HOk P w H h) (e:Rd H a u):ObjOk P w H h a u:=e.ok ok
def RdK (H:Hp) (a:Addr) (kvs:List (Key × V)):Prop := ∃ ep,Rd H a (.dK kvs ep)
def RdT (H:Hp) (a:Addr) (kvs:List (List Key × V)):Prop := ∃ ep,Rd H a (.dT kvs ep)
def HK (H:Hp) (a:Addr) (kvs:List (Key × V)):Prop := ∃ ep,H a=some (.dK kvs ep)
def HT (H:Hp) (a:Addr) (kvs:List (List Key × V)):Prop := ∃ ep,H a=some (.dT kvs ep)
theorem HK.rd {H:Hp}{a:Addr}{kvs:List (Key × V)} (e:HK H a kvs):RdK H a kvs:=let ⟨ep,e⟩:=e; ⟨ep,.inl e⟩
theorem HT.rd {H:Hp}{a:Addr}{kvs:List (List Key × V)} (e:HT H a kvs):RdT H a kvs:=let ⟨ep,e⟩:=e; ⟨ep,.inl e⟩
theorem dk_rd {kvs:List (Key × V)} (ok:HOk P w H h) (e:RdK H a kvs):kvs.length <= sizeLine/\(a == sysModules)=false/\∃ vs,KV kvs vs/\h.DictOf (mixKind P w) a vs :=
 by
 obtain ⟨ep,e⟩:=e
 obtain ⟨z,y,vs,r,d⟩:=(show ObjOk P w H h a (.dK kvs ep) from rd_of ok e)
 exact ⟨z,y,vs,r,d.dictOf⟩
theorem dk_of {kvs:List (Key × V)} (ok:HOk P w H h) (e:HK H a kvs):kvs.length <= sizeLine/\(a == sysModules)=false/\∃ vs,KV kvs vs/\h.DictOf (mixKind P w) a vs:=dk_rd ok e.rd
theorem key_of {ks:List Key} (ok:HOk P w H h) (e:H a=some (.tup (ks.map kV))):(tupleKind (mixKind P w)).is h ks a:=by
 obtain ⟨_,its,r,tn⟩:=(show ObjOk P w H h a (.tup (ks.map kV)) from ok a _ e)
 obtain ⟨o,h1,h2,n,h3⟩:=tn.is
 exact ⟨o,its.toArray,n,h1,h2,h3,by simpa using items_are r⟩
theorem dt_rd {kvs:List (List Key × V)} (ok:HOk P w H h) (e:RdT H a kvs):kvs.length <= sizeLine/\(a == sysModules)=false /\
  ∃ xs,KT H kvs xs/\h.DictOfH (tupleKind (mixKind P w)) a xs:=by
 obtain ⟨ep,e⟩:=e
 obtain ⟨z,y,xs,r,o,es,h1,h2,h3,h4,h5⟩:=(show ObjOk P w H h a (.dT kvs ep) from rd_of ok e)
 refine ⟨z,y,xs,r,o,es,ep,h1,h2,h3,h4,fun x hx=>?_,h5⟩
 have all:∀ {l:List (List Key × V)}{m:List (List Key × Addr × Value)},KT H l m->∀ x ∈ m,(tupleKind (mixKind P w)).is h x.1 x.2.1:=by
  intro l m q
  induction q with
  | nil=>intro x hx; exact nomatch hx
  | @cons p q ps qs hq t ih =>
   intro x hx
   rcases List.mem_cons.mp hx with e | hx
   ·subst e
    exact key_of ok (by rw [<- hq.1]; exact hq.2.1)
   ·exact ih x hx
 exact all r x hx
theorem dt_of {kvs:List (List Key × V)} (ok:HOk P w H h) (e:HT H a kvs):kvs.length <= sizeLine/\(a == sysModules)=false /\
  ∃ xs,KT H kvs xs/\h.DictOfH (tupleKind (mixKind P w)) a xs:=dt_rd ok e.rd
end
def DGet (H:Hp) (a:Addr) (y:V) (r:Option V):Prop :=
 (∃ kvs k,RdK H a kvs/\y=kV k/\r=valV kvs k) ∨ ∃ kvs k b,RdT H a kvs/\y=.ref b/\H b=some (.tup (k.map kV))/\r=valV kvs k
def DPut (H:Hp) (a:Addr) (y v:V) (K:Hp->Prop):Prop :=
 (∃ kvs k,HK H a kvs/\y=kV k/\kvs.length < sizeLine/\∀ ep,K (upd H a (.dK (putK kvs k v) ep))) ∨
 ∃ kvs k b,HT H a kvs/\y=.ref b/\H b=some (.tup (k.map kV))/\kvs.length < sizeLine/\∀ ep,K (upd H a (.dT (putK kvs k v) ep))
theorem DGet.k {H:Hp}{a:Addr}{kvs:List (Key × V)}{k:Key} (e:HK H a kvs):DGet H a (kV k) (valV kvs k) := .inl ⟨kvs,k,e.rd,rfl,rfl⟩
theorem DGet.t {H:Hp}{a b:Addr}{kvs:List (List Key × V)}{k:List Key} (e:HT H a kvs) (eb:H b=some (.tup (k.map kV))):DGet H a (.ref b) (valV kvs k) := .inr ⟨kvs,k,b,e.rd,rfl,eb,rfl⟩
section
variable {X:Cx}{pins:List (Addr × Obj)}{σ:St}{H:Hp}{s:Shared}{a:Addr}{y v:V}{u r:Value}{o:Option V}{A:Around}{E:Value->Shared->Prop}
theorem Inv.big (I:Inv X pins σ H s):sysModules < s.heap.objs.size:=by
 have h:mainGlobals < s.heap.objs.size:=(I.mod.glob.keeps I.bk).lt
 exact Nat.lt_trans (by decide) h
theorem d_getItem {Q:Value->Shared->Prop} (hu:A.units + 1 < cLine) (I:Inv X pins σ H s) (g:DGet H a y (some v)) (ry:RelV y u) (h:∀ w' s',Inv X pins σ H s'->RelV v w'->Q w' s') :
  wpAny (model X.prog X.w) A (getItem (.ref a) u) Q E s:=by
 rcases g with ⟨kvs,k,e,ey,l⟩ | ⟨kvs,k,b,e,ey,eb,l⟩
 ·subst ey
  obtain ⟨z,hd,vs,rel,dd⟩:=dk_rd I.hok e
  obtain ⟨w',hw,rw'⟩:=RelO.some_of (v:=v) (o:=valueAt vs k) (by rw [l]; exact rel.val k)
  exact wpAny_getItem_of (kV_is ry) dd.mapOf hw (h w' _ (I.tok _) rw')
 ·subst ey
  cases (show u=Value.ref b from ry)
  obtain ⟨z,hd,xs,rel,dd⟩:=dt_rd I.hok e
  obtain ⟨w',hw,rw'⟩:=RelO.some_of (v:=v) (o:=(atKey xs k).map (·.2)) (by rw [l]; exact rel.val k)
  obtain ⟨p,hp,hp2⟩:=Option.map_eq_some_iff.mp hw
  refine wpAny_getItem_heap (tupleKind_room_in1 hu) (key_of I.hok eb) dd hp ?_
  rw [hp2]
  exact h w' _ (I.tok _) rw'
theorem d_write {h':Heap}{t':Nat}{ob:HO} (I:Inv X pins σ H s) (mu:Mut (H a)) (hs:Heap.SameBut a s.heap h') (he:∃ q,h'.get? a=some q) (new:ObjOk X.prog X.w (upd H a ob) h' a ob) :
  Inv X pins σ (upd H a ob) { s with heap:=h',toks:=t' } :=
 I.write (x:=a) (e:=a) mu (.inl rfl) (fun b q hb z=>(hs.2 b hb).trans z) he new
theorem dk_new {P:Program}{w:World}{H':Hp}{h':Heap}{kvs:List (Key × V)}{vs:List (Key × Value)}{ep:Nat} (z:kvs.length <= sizeLine) (hd:(a == sysModules)=false) (rel:KV kvs vs) (dd:h'.DictAt (mixKind P w) a vs ep) :
  ObjOk P w H' h' a (.dK kvs ep):=⟨z,hd,vs,rel,dd⟩
theorem d_setItem {K:Hp->Prop}{Q:Unit->Shared->Prop} (hu:A.units + 1 < cLine) (I:Inv X pins σ H s) (g:DPut H a y v K) (ry:RelV y u) (rv:RelV v r) (h:∀ H' s',K H'->Inv X pins σ H' s'->Q () s') :
  wpAny (model X.prog X.w) A (setItem (.ref a) u r) Q E s:=by
 rcases g with ⟨kvs,k,e,ey,l,eH⟩ | ⟨kvs,k,b,e,ey,eb,l,eH⟩
 ·subst ey
  obtain ⟨ep0,e0⟩:=id e
  obtain ⟨z,hd,vs,rel,dd⟩:=dk_of I.hok e
  have hz:vs.length <= sizeLine:=by rw [<- rel.length]; exact z
  have hl:(putK kvs k v).length <= sizeLine:=by have:=length_putK kvs k v; omega
  refine wpAny_setItem_pairs (hsz:=hz) (kV_is ry) dd fun h' dd' hs=>?_
  obtain ⟨ep',dd'⟩:=dd'.dictAt
  refine h _ _ (eH ep') ?_
  have he:∃ q,h'.get? a=some q:=let ⟨q,_,hq,_⟩:=dd'; ⟨q,hq⟩
  exact d_write I (by rw [e0]; exact True.intro) hs he (dk_new hl hd (rel.put k rv) dd')
 ·subst ey
  obtain ⟨ep0,e0⟩:=id e
  cases (show u=Value.ref b from ry)
  obtain ⟨z,hd,xs,rel,dd⟩:=dt_of I.hok e
  have hz:xs.length <= sizeLine:=by rw [<- Paired.length rel]; exact z
  have hl:(putK kvs k v).length <= sizeLine:=by have:=length_putK kvs k v; omega
  refine wpAny_setItem_heap (hsz:=hz) (tupleKind_room_in1 hu) (key_of I.hok eb) dd fun h' dd' hs=>?_
  obtain ⟨q,es,ep,hq,h2,h3,h4,_,h5⟩:=dd'
  refine h _ _ (eH ep) ?_
  refine d_write I (by rw [e0]; exact True.intro) hs ⟨q,hq⟩ ⟨hl,hd,_,(rel.put k eb rv).keeps fun c ys ec=>?_,q,es,hq,h2,h3,h4,h5⟩
  rw [upd_ne (ne_of ec e0 (fun z=>nomatch z))]
  exact ec
end
section
variable {X:Cx}{pins:List (Addr × Obj)}{σ:St}{H:Hp}{s:Shared}{a:Addr}{kvs:List (Key × V)}{k:Key}{u:Value}{A:Around}{E:Value->Shared->Prop}
end
def NoSl (i:Expr):Prop := ∀ ov iv,subscripted i false ov iv=operate [ov,iv] (getItem ov iv)
theorem subD_of {prog:Program}{w:World}{A:Around}{E:Value->Shared->Prop}{s:Shared}{env:Env}{value slice:Expr}{pos:Pos}{T id:String}{Q:Value->Shared->Prop}
  (hl:typeLookup (.type T) "__getitem__" = pure (some (.builtin id))) (hs:NoSl slice)
  (h:wpAny (model prog w) A (eval value env) (fun o s₁=>wpAny (model prog w) A (eval slice env) (fun i s₂=>s₂.TypeIs o T/\wpAny (model prog w) A (getItem o i) Q E s₂) E s₁) E s) :
  wpAny (model prog w) A (eval (.Subscript value slice pos) env) Q E s:=by
 refine Subscript_ (wpAny_mono h (fun o s₁ h₁=>wpAny_mono h₁ (fun i s₂ h₂=>?_) fun _ _ x=>x) fun _ _ x=>x)
 obtain ⟨hT,h₂⟩:=h₂
 unfold subscriptTail
 refine wpAny_bind ?_
 rw [getitemInPython_of_ne hT.not_modules]
 refine wpAny_bind (wpAny_specialOf hT hl ?_)
 have fin:wpAny (model prog w) A (subscripted slice false o i) (fun r s₃=>wpAny (model prog w) A (letTemporaryGo value o r >>= fun _=>pure r) Q E s₃) E s₂:=by
  rw [hs o i]
  exact wpAny_operating (wpAny_mono h₂ (fun r s₃ h₃=>wpAny_bind (wpAny_letTemporaryGo (wpAny_pure h₃))) fun _ _ x=>x)
 first
  | exact wpAny_pure (wpAny_bind fin)
  | exact wpAny_bind (wpAny_pure (wpAny_bind fin))
  | exact wpAny_bind fin
theorem dict_typeIs {X:Cx}{pins:List (Addr × Obj)}{σ:St}{H:Hp}{s:Shared}{a:Addr}{y:V}{o:Option V} (I:Inv X pins σ H s) (g:DGet H a y o):s.TypeIs (.ref a) "dict" := by
 rcases g with ⟨kvs,k,e,_,_⟩ | ⟨kvs,k,b,e,_,_,_⟩
 ·obtain ⟨_,_,vs,_,dd⟩:=dk_rd I.hok e
  exact dd.typeIs
 ·obtain ⟨_,_,xs,_,dd⟩:=dt_rd I.hok e
  exact dd.typeIs
def tDGet (td ty:TE):TE:=fun σ H Q=>td σ H fun x H1=>ty σ H1 fun y H2=>∃ a v,x=.ref a/\DGet H2 a y (some v)/\Q v H2
def sDPut (td ty tv:TE):TS:=fun D σ H=>tv σ H fun v H1=>td σ H1 fun x H2=>ty σ H2 fun y H3=>∃ a,x=.ref a/\DPut H3 a y v (D.nx σ)
section
variable {X:Cx}{o i e value:Expr}{pos pos' tpos:Pos}{td ty tv:TE}
theorem pe_dget (hu:X.A.units + 1 < cLine) (ho:PE X o td) (hi:PE X i ty) (hs:NoSl i):PE X (.Subscript o i pos) (tDGet td ty):=by
 intro pins s σ H Q I h
 refine subD_of PySem.F.slot_dict_getitem.lookup hs (thn (ho pins s σ H _ I h) fun u s1 hq5=>L2.ex5 hq5 fun x H1 I1 rx q1=>thn (hi pins s1 σ H1 _ I1 q1) fun iv s2 ⟨y,H2,I2,ry,a,v,ex,g,q2⟩=>?_)
 subst ex
 obtain rfl:u=Value.ref a:=rx
 exact ⟨dict_typeIs I2 g,d_getItem hu I2 g ry fun w' s3 I3 rw'=>⟨v,H2,I3,rw',q2⟩⟩
theorem ps_dput (hu:X.A.units + 1 < cLine) (ho:PE X o td) (hi:PE X i ty) (hv:PE X value tv) (hs:swapsWith value (some (.Subscript o i pos')) pos.line X.env=pure false) :
  PS X (.Assign [.Subscript o i pos'] value pos) (sDPut td ty tv):=by
 intro pins s σ H D I h
 refine wpAny_Assign_Subscript (thn (hv pins s σ H _ I h) fun r s1 hq5=>L2.ex5 hq5 fun v H1 I1 rv q1=>thn (ho pins s1 σ H1 _ I1 q1) fun u s2 hq5=>L2.ex5 hq5 fun x H2 I2 rx q2=>thn (hi pins s2 σ H2 _ I2 q2) fun iv s3 ⟨y,H3,I3,ry,a,ex,g⟩=>?_) hs
 subst ex
 obtain rfl:u=Value.ref a:=rx
 exact d_setItem hu I3 g ry rv fun H4 s4 q3 I4=>⟨σ,H4,I4,q3⟩
end
theorem dk_empty {P:Program}{w:World}{H:Hp} (h:Heap) (hb:sysModules < h.objs.size):ObjOk P w H (h.push { cls := .type "dict",data := .dict #[] }) h.objs.size (.dK [] 0) :=
 ⟨Nat.zero_le _,beq_eq_false_iff_ne.mpr (Ne.symm (Nat.ne_of_lt hb)),[],.nil,_,#[],Heap.get?_push_size _ rfl,⟨rfl,rfl,rfl⟩,rfl,fun _ he=>by simp at he,Pairs.nil,List.nodup_nil⟩
theorem dt_empty {P:Program}{w:World}{H:Hp} (h:Heap) (hb:sysModules < h.objs.size):ObjOk P w H (h.push { cls := .type "dict",data := .dict #[] }) h.objs.size (.dT [] 0) :=
 ⟨Nat.zero_le _,beq_eq_false_iff_ne.mpr (Ne.symm (Nat.ne_of_lt hb)),[],.nil,_,#[],Heap.get?_push_size _ rfl,⟨rfl,rfl,rfl⟩,rfl,rfl,List.nodup_nil⟩
def tDNewK:TE:=fun _ H Q=>∀ p,H p=none->Q (.ref p) (upd H p (.dK [] 0))
def tDNewT:TE:=fun _ H Q=>∀ p,H p=none->Q (.ref p) (upd H p (.dT [] 0))
section
variable {X:Cx}{pos:Pos}
theorem pe_dnewK:PE X (.Dict [] [] pos) tDNewK:=fun pins s σ H Q I h =>
 wpAny_Dict_empty ⟨.ref s.heap.objs.size,_,I.laid (a:=s.heap.objs.size) (o := .dK [] 0) (t' := s.toks) (fun _ _ q=>Heap.get?_push_of_some _ q) (Nat.le_refl _) (dk_empty s.heap I.big),rfl,h _ (I.hok.fresh (Nat.le_refl _))⟩
theorem pe_dnewT:PE X (.Dict [] [] pos) tDNewT:=fun pins s σ H Q I h =>
 wpAny_Dict_empty ⟨.ref s.heap.objs.size,_,I.laid (a:=s.heap.objs.size) (o := .dT [] 0) (t' := s.toks) (fun _ _ q=>Heap.get?_push_of_some _ q) (Nat.le_refl _) (dt_empty s.heap I.big),rfl,h _ (I.hok.fresh (Nat.le_refl _))⟩
end
section
variable {X:Cx}{pins:List (Addr × Obj)}{σ:St}{H:Hp}{s:Shared}{a:Addr}{y d:V}{u r:Value}{o:Option V}{A:Around}{E:Value->Shared->Prop}
end
section
variable {X:Cx}{o e f:Expr}{apos cpos:Pos}{td ty tx:TE}
end
section
variable {X:Cx}{pins:List (Addr × Obj)}{σ:St}{H:Hp}{s:Shared}{a:Addr}{kvs:List (Key × V)}{A:Around}{E:Value->Shared->Prop}
end
section
variable {X:Cx}{pins:List (Addr × Obj)}{σ:St}{H:Hp}{s:Shared}{a:Addr}{y:V}{u:Value}{A:Around}{E:Value->Shared->Prop}
end
end L2
namespace Att
open PySem PySem.W PySem.Calls PyProof.Rows
theorem ints_of_wellAll {P:Params}{h:Heap}:∀ (ns:List Int) (vs:List Value),WellAll P h vs (ns.map WData.int)->IntsAre vs ns:=by
 intro ns
 induction ns with
 | nil =>
  intro vs w
  rw [List.map_nil] at w
  cases w
  exact .nil
 | cons n ns ih =>
  intro vs w
  rw [List.map_cons] at w
  cases w with
  | cons a b =>
   cases a
   exact .cons _ _ (ih _ b)
theorem script_of {l:OpenLaw}{n:Nat} (hn:l.most=some n) {P:Params}{h:Heap}{args:List WData}{vals:List Value}
  (hpre:l.row.toRowW.claim.pre args=true) (hwl:WellAll P h vals args) :
  ∃ a vs ns,vals=[Value.ref a]/\args=[WData.list (ns.map WData.int)]/\h.get? a=some { cls := .type "list",data := .seq vs.toArray }/\IntsAre vs ns/\ns.length <= n:=by
 have hsh:WShape.hasAll [] args [.list .int]=true:=(pre_splitW hpre).1
 have hc:l.pre.holds [] { args:=args }=true:=(pre_splitW hpre).2
 obtain ⟨d,r,rfl,h1,h2⟩:=hasAllW_cons hsh
 obtain rfl:=hasAllW_nil h2
 obtain ⟨xs,rfl,h3⟩:=hasW_list h1
 obtain ⟨ns,rfl⟩:=items_int h3
 have hlen:ns.length <= n:=by
  unfold OpenLaw.pre at hc
  have h4:(WTm.not (.lt (.lit (.int (n:Int))) (.len (.arg 0)))).holds [] { args := [.list (ns.map .int)] }=true:=by
   have h4:=(holds_andW hc).1
   rw [hn] at h4
   exact h4
  have h5:=condW_of h4 (w_not (w_lt w_lit (w_len_list (w_arg rfl))))
  rw [List.length_map] at h5
  refine Nat.le_of_not_lt fun q=>?_
  have q':(n:Int) < ((ns.length:Nat):Int):=by omega
  first
   | (rw [decide_eq_true q'] at h5; exact absurd h5 (by decide))
   | (simp at h5; omega)
 cases hwl with
 | cons w1 w2 =>
  cases w2
  cases w1 with
  | list ho hall=>exact ⟨_,_,ns,rfl,rfl,ho,ints_of_wellAll ns _ hall,hlen⟩
theorem post_true (l:OpenLaw) (args:List WData):l.row.toRowW.claim.post args (.bool true) args=true :=
 postW_of (r:=l.row.toRowW) (X:=(true == true))
  (show WShape.has [] (.bool true) .bool=true by first | rfl | decide | simp [WShape.has,WShape.arms,WShape.armsAll])
  (show (WTm.eq .res (.lit (.bool true))).value [] { args:=args,res:=some (.bool true),after:=args }=some (.bool (true == true)) from w_eq_bool (w_res rfl) w_lit) rfl
theorem attach_call {l:OpenLaw}{n:Nat}{q:Program}{loose:List Str}{XP:(Str->Option Value)->Heap->Prop}{YP:World->Heap->Prop}{d:DefRec}
  (hn:l.most=some n) (hdf:d.params.defaults=[])
  (call:∀ (w:World) (s₀ s₁:Shared) (mg mb:Str->Option Value) (fa:Addr) (o:Obj) (pm cd doc:Value) (a:Addr) (vs:List Value) (ns:List Int),
   Ground q loose [] XP w s₀ mg mb s₁.heap->YP w s₁.heap ->
   s₁.heap.get? fa=some o->o.data=.func (docDef d.name d.params d.body d.scope pm cd doc)->s₁.heap.CodeRec cd d.name->mg d.name=some (.ref fa) ->
   s₁.heap.get? a=some { cls := .type "list",data := .seq vs.toArray }->IntsAre vs ns->ns.length <= n->s₁.gens = #[] ->
   codeAny (model l.prog w) callerA (.call (.ref fa) ⟨[.ref a],[]⟩) (fun r s'=>r=.ok (.ret (.bool true))/\OldK s₁.heap s'.heap/\s'.os=s₁.os/\AllBare s'.gens) s₁) :
  WalkO q loose XP YP l.row.toRowW d [] (fun f vs=>PySem.call f vs):=by
 intro w s₀ s₁ mg mb G Y fa o pm cd doc dV kV ho hd hcd hD hmg hg args vals as hpre hlay hrd hwl hlo
 obtain rfl:dV=.none:=Dflts.none hD hdf
 obtain rfl:kV=.none:=Dflts.noKw hD
 obtain ⟨a,vs,ns,rfl,rfl,hobj,hints,hlen⟩:=script_of hn hpre hwl
 refine enter_call (codeAny_mono (call w s₀ s₁ mg mb fa o pm cd doc a vs ns G Y ho (fd_plain hd) hcd hmg hobj hints hlen hg) fun r s' hq=>?_)
 obtain ⟨rfl,h2,h3,h4⟩:=hq
 exact ⟨.inl ⟨.bool true,.bool true,[],rfl,fun _=>rfl,.bool true,post_true l _,fun _=>⟨List.Pairwise.nil,fun _ hm=>(nomatch hm)⟩⟩,h2,h3,h4⟩
section
variable {prog:Program}{w:World}{A:Around}{E:Value->Shared->Prop}{s:Shared}{K:Frag}
end
end Att
namespace L2
open PySem PySem.Spec PyProof.Rows
theorem vals_ints:∀ {vs:List Value}{ns:List Int},IntsAre vs ns->Vals (ns.map V.int) vs
 | _,_,.nil=>.nil
 | _,_,.cons n t h=>.cons ⟨t,rfl⟩ (vals_ints h)
def Only (H:Hp):Prop := ∀ b,H b=none ∨ ∃ o xs,H b=some (.frz o (.lst xs))
theorem law_call {P:Program}{w:World}{K:PySem.W.Frag}{mg mb:Str->Option Value}{CX:CXT}{k:Nat}{fa a:Addr}{fd:FuncData}{x:Str}{sp:Sp}{s₁:Shared}{vs:List Value}{ns:List Int}
  (KX:K.In s₁.heap) (hns:s₁.heap.Ns mainGlobals mg) (hb:s₁.heap.Ns builtinsNs mb) (hbb:∀ x:Str,x ≠ "__name__" -> mb x=bootBuiltins x) (hlim:s₁.heap.NoLimit) (hg:s₁.gens = #[])
  (ha:s₁.heap.get? a=some { cls := .type "list",data := .seq vs.toArray }) (hi:IntsAre vs ns) (hl:ns.length <= sizeLine) (hr:Room k callerA)
  (F:∀ base:Heap,K.In base->base.Ns mainGlobals mg->FnOk P w K mg base CX k fa fd [x] sp) (hbind:∀ (s:Shared) (u:Value),BindsTo s fd ⟨[u],[]⟩ [(x,u)])
  (hsp:∀ H:Hp,Only H->SqL K H a (ns.map V.int)->sp [.ref a] H (fun v _=>v=.bl true) fun _ _ _=>False)
  (hCX:∀ H e s',CX [] H s₁ (fun _ _ _=>False) e s'->False) :
  codeAny (model P w) callerA (.call (.ref fa) ⟨[.ref a],[]⟩) (fun r s'=>r=.ok (.ret (.bool true))/\OldK s₁.heap s'.heap/\s'.os=s₁.os/\AllBare s'.gens) s₁:=by
 have rv:=vals_ints hi
 have lenV:=hi.length
 have core:∀ H:Hp,Only H->SqL K H a (ns.map V.int)->HOk P w H s₁.heap->(∀ b,H b ≠ none->b=a)->(H a ≠ none->K.lookup a=none) ->
   codeAny (model P w) callerA (.call (.ref fa) ⟨[.ref a],[]⟩) (fun r s'=>r=.ok (.ret (.bool true))/\OldK s₁.heap s'.heap/\s'.os=s₁.os/\AllBare s'.gens) s₁:=by
  intro H hO hS hok hA hK
  have base_of:∀ {b:Addr}{o:Obj},s₁.heap.get? b=some o->H b=none->(hidT s₁.heap H).get? b=some o:=fun e n=>hidT_get e n
  have noA:∀ {b:Addr}{o:Obj}{es:Array DictEntry}{ep:Nat},s₁.heap.get? b=some o->o.data=.dict es ep->H b=none:=fun {b o es ep} e d=>by
   cases q:H b with
   | none=>rfl
   | some u =>
    have e':b=a:=hA b (by rw [q]; simp)
    subst e'
    rw [ha] at e; cases e
    have d':Data.seq vs.toArray _=Data.dict es ep:=d
    cases d'
  have nsK:∀ {b:Addr}{m:Str->Option Value},s₁.heap.Ns b m->(hidT s₁.heap H).Ns b m:=fun {b m} ⟨o,es,ep,e,d,r⟩=>⟨o,es,ep,base_of e (noA e d),d,r⟩
  have hKb:K.In (hidT s₁.heap H):=fun b o e=>base_of (KX b o e) (by
   cases q:H b with
   | none=>rfl
   | some u =>
    have e':b=a:=hA b (by rw [q]; simp)
    subst e'
    rw [hK (by rw [q]; simp)] at e; cases e)
  have hM:Mod K mg (hidT s₁.heap H):=⟨hKb,nsK hns,⟨mb,nsK hb,hbb⟩,let ⟨mc,h1,h2⟩:=hlim; ⟨mc,nsK h1,h2⟩⟩
  have e0:Env0 P w K mg (hidT s₁.heap H) callerA [] s₁ H:=⟨rfl,hM,fun b o e=>of_hidT e,Nat.le_of_eq (hidT_size _ _),trivial,fun b hb=>absurd (show b ∈ ([]:List Addr) from hb) (by simp),hok,.of_eq hg⟩
  refine codeAny_mono ((F _ hKb (nsK hns)).run callerA [] s₁ H ⟨[.ref a],[]⟩ [.ref a] [.ref a] _ _ hr e0 (hbind s₁ (.ref a)) (.cons rfl .nil) (hsp H hO hS)) fun r s' h=>?_
  cases r with
  | error e=>exact (hCX H e s' h).elim
  | ok fl =>
   cases fl with
   | next=>exact False.elim h
   | brk=>exact False.elim h
   | cont=>exact False.elim h
   | ret u =>
    obtain ⟨v,H',os,bare,un,hok',r',q⟩:=h
    have q':v=.bl true:=q
    subst q'
    obtain rfl:u=Value.bool true:=r'
    refine ⟨rfl,OldK.of_keep fun b o e=>?_,os,bare⟩
    cases q:H b with
    | none=>exact un.keep b o e q (by intro z; exact absurd (show b ∈ ([]:List Addr) from z) (by simp)) (by simp)
    | some u =>
     rcases hO b with z | ⟨ob,xs,z⟩
     ·rw [q] at z; cases z
     ·have z2:=un.frzs b ob _ z
      obtain ⟨e1,_⟩:=hok b _ z
      obtain ⟨e2,_⟩:=hok' b _ z2
      rw [e] at e1; cases e1
      exact e2
 cases hk:K.lookup a with
 | some o =>
  have e:=KX a o hk
  rw [ha] at e
  cases e
  refine core (fun _=>none) (fun _=>.inl rfl) (.inr ⟨_,vs.toArray,_,hk,rfl,rfl,rfl,by rw [List.size_toArray,lenV]; exact hl,by simpa using rv⟩) (fun b u z=>by have z':(none:Option HO)=some u:=z; cases z') (fun b z=>absurd rfl z) fun z=>absurd rfl z
 | none =>
  refine core (fun b=>if b=a then some (.frz { cls := .type "list",data := .seq vs.toArray } (.lst (ns.map V.int))) else none) (fun b=>?_) (.inl (.inr ⟨{ cls := .type "list",data := .seq vs.toArray },if_pos rfl⟩)) (fun b u z=>?_) (fun b z=>?_) fun _=>hk
  ·by_cases hb:b=a
   ·exact .inr ⟨_,_,if_pos hb⟩
   ·exact .inl (if_neg hb)
  ·by_cases hb:b=a
   ·have z' := (if_pos hb).symm.trans z
    cases z'
    subst hb
    exact ⟨ha,by rw [List.length_map]; exact hl,vs,_,rv,ha⟩
   ·have z' := (if_neg hb).symm.trans z
    cases z'
  ·by_cases hb:b=a
   ·exact hb
   ·exact absurd (if_neg hb) z
abbrev KOf {K:PySem.W.Frag}{h:Heap} (_:K.In h):PySem.W.Frag:=K
theorem walk_of {l:PySem.W.OpenLaw}{n k:Nat}{q:Program}{loose:List Str}{XP:(Str->Option Value)->Heap->Prop}{YP:World->Heap->Prop}{d:DefRec}{K:Params->PySem.W.Frag}{CX:World->CXT}{sp:World->Sp}{x:Str}
  (hn:l.most=some n) (hn2:n <= sizeLine) (hdf:d.params.defaults=[]) (hr:Room k callerA)
  (hY:∀ (w:World) (h:Heap),YP w h->(K w.params).In h)
  (F:∀ (w:World) (mg:Str->Option Value) (fa:Addr) (h:Heap),(K w.params).In h->h.Ns mainGlobals mg->mg d.name=some (.ref fa) ->
   ∃ fd:FuncData,(∀ (s:Shared) (u:Value),BindsTo s fd ⟨[u],[]⟩ [(x,u)]) /\
    ∀ base:Heap,(K w.params).In base->base.Ns mainGlobals mg->FnOk l.prog w (K w.params) mg base (CX w) k fa fd [x] (sp w))
  (hsp:∀ (w:World) (H:Hp) (a:Addr) (ns:List Int),ns.length <= n->Only H->SqL (K w.params) H a (ns.map V.int)->sp w [.ref a] H (fun v _=>v=.bl true) fun _ _ _=>False)
  (hCX:∀ (w:World) (H:Hp) (s:Shared) (e:Value) (s':Shared),CX w [] H s (fun _ _ _=>False) e s'->False) :
  PySem.W.WalkO q loose XP YP l.row.toRowW d [] (fun f vs=>PySem.call f vs):=by
 refine Att.attach_call hn hdf fun w s₀ s₁ mg mb fa o pm cd doc a vs ns G Y ho hd hcd hmg hobj hints hlen hg=>?_
 have KX:=hY w _ Y
 obtain ⟨fd,hb,hF⟩:=F w mg fa _ KX G.T.g hmg
 exact law_call KX G.T.g G.T.b G.T.builtins G.T.nolimit hg hobj hints (Nat.le_trans hlen hn2) hr hF hb (fun H hO hS=>hsp w H a ns hlen hO hS) fun H e s'=>hCX w H s₁ e s'
def defArgs (s:Stmt):Arguments:=match s with
 | .FunctionDef _ a _ _ _ _ _ _ _ _=>a
 | _=>{ posonlyargs := [],args := [],vararg:=none,kwonlyargs := [],kw_defaults := [],kwarg:=none,defaults := [] }
def defBody (s:Stmt):List Stmt:=match s with
 | .FunctionDef _ _ b _ _ _ _ _ _ _=>b
 | _=>[]
def defScope (s:Stmt):Scope:=match s with
 | .FunctionDef _ _ _ _ _ _ sc _ _ _=>sc
 | _=>{ kind := .function,names := [],isGenerator:=false,isCoroutine:=false }
abbrev CX0:CXT:=fun _ _ _ _ _ _=>False
abbrev E0:XK:=fun _ _ _=>False
theorem pass0 {X:Cx}:Passes CX0 X E0:=fun _ _ _ _ _ _ _ h=>h.elim
structure Fun (K:PySem.W.Frag) (x qual:Str) (st:Stmt) (f:Addr) (fd:FuncData):Prop where
 ex:∃ (oc:Value) (od:Option Addr) (kV doc pm:Value) (an:Option Addr) (cdv ct:Value) (osl:Array (Option Value)),
  fd=PySem.W.fnOf x qual (defArgs st) (defBody st) (defScope st) .none kV doc pm an cdv ct/\K.lookup f=some ⟨oc,od,.func fd,osl⟩/\PySem.W.codeIn K cdv qual=true
 kp:PySem.W.keepIn K (.ref f)=true
section
variable {P:Program}{w:World}{K:PySem.W.Frag}{mg:Str->Option Value}{base:Heap}
theorem Fun.ok {x qual:Str}{st:Stmt}{f:Addr}{fd:FuncData}{N ps:List Str}{k:Nat}{sp:Sp} (F:Fun K x qual st f fd) (S:FnScope N ps (defScope st)) (len:∀ vs H Q E,sp vs H Q E->vs.length=ps.length)
  (hbody:∀ (cdv:Value) (A:Around) (outer:List Env) (s:Shared) (H:Hp) (vs:List V) (Q:VK) (E:XK),Room k (A.deeper (envOfC qual (defScope st) s.heap.objs.size f cdv))->sp vs H Q E ->
   ∃ t,PSs (cxOf CX0 P w K mg base N qual (defScope st) f cdv A outer s H E).nox (defBody st) t/\t { nx:=fun _ H'=>Q .non H',rt:=Q } (start N vs) H):FnOk P w K mg base CX0 (k + 1) f fd ps sp:=by
 obtain ⟨oc,od,kV,doc,pm,an,cdv,ct,osl,rfl,lk,hcd⟩:=F.ex
 refine fn_of lk hcd S len fun A outer s H vs Q E hr hsp=>?_
 obtain ⟨t,h,q⟩:=hbody cdv A outer s H vs Q E hr hsp
 exact ⟨t,h.nox,q⟩
theorem Fun.binds {x qual:Str}{st:Stmt}{f:Addr}{fd:FuncData}{ps:List Str} (F:Fun K x qual st f fd)
  (h:∀ (kV doc pm:Value) (an:Option Addr) (cdv ct:Value) (us:List Value),us.length=ps.length->bindArgs (PySem.W.fnOf x qual (defArgs st) (defBody st) (defScope st) .none kV doc pm an cdv ct) ⟨us,[]⟩=pure (ps.zip us)):Binds K fd ps []:=by
 obtain ⟨oc,od,kV,doc,pm,an,cdv,ct,osl,rfl,lk,hcd⟩:=F.ex
 exact .all (h kV doc pm an cdv ct)
theorem fun_mk {x qual:Str}{st:Stmt}{f:Addr}{oc:Value}{od an:Option Addr}{osl:Array (Option Value)}{kV doc pm cdv ct:Value} (l:K.lookup f=some ⟨oc,od,.func (PySem.W.fnOf x qual (defArgs st) (defBody st) (defScope st) .none kV doc pm an cdv ct),osl⟩)
  (c:PySem.W.codeIn K cdv qual=true) (k:PySem.W.keepIn K (.ref f)=true):Fun K x qual st f (PySem.W.fnOf x qual (defArgs st) (defBody st) (defScope st) .none kV doc pm an cdv ct):=⟨⟨oc,od,kV,doc,pm,an,cdv,ct,osl,rfl,l,c⟩,k⟩
end
theorem hu_of {A:Around}{k:Nat} (hr:Room k A):A.units + 1 < cLine:=Nat.lt_of_le_of_lt (Nat.add_le_add_left (by decide:1 <= 64) _) hr.units
section
variable {X:Cx}
end
def Same (H H':Hp):Prop := ∀ b o,H b=some o->H' b=some o
theorem Same.refl (H:Hp):Same H H:=fun _ _ h=>h
theorem Same.trans {H H1 H2:Hp} (a:Same H H1) (b:Same H1 H2):Same H H2:=fun c o h=>b c o (a c o h)
theorem Same.free {H H':Hp} (e:Same H H') {l:Addr} (h:H' l=Option.none):H l=Option.none:=by
 cases q:H l with
 | none=>rfl
 | some o =>
  rw [e l o q] at h
  cases h
theorem Same.seq {K:PySem.W.Frag}{H H':Hp}{a:Addr}{xs:List V} (e:Same H H') (h:SqL K H a xs):SqL K H' a xs:=by
 rcases h with (h | ⟨o,h⟩) | h
 ·exact .inl (.inl (e _ _ h))
 ·exact .inl (.inr ⟨o,e _ _ h⟩)
 ·exact .inr h
section
variable {X:Cx}
end
section
variable {κ:Type} [DecidableEq κ]
end
section
variable {X:Cx}{pins:List (Addr × Obj)}{σ:St}{H H':Hp}{s s':Shared}
end
theorem lookup_mem {α:Type}{y:Str}{v:α}:∀ {l:List (Str × α)},l.lookup y=some v->(y,v) ∈ l
 | [],h=>by cases h
 | (n,k) :: r,h=>by
  rw [List.lookup_cons] at h
  cases hb:y == n with
  | true =>
   rw [hb] at h
   cases h
   rw [beq_iff_eq.mp hb]
   exact List.mem_cons_self
  | false =>
   rw [hb] at h
   exact List.mem_cons_of_mem _ (lookup_mem h)
theorem lookup_of_nd {α:Type}{y:Str}{v:α}:∀ {l:List (Str × α)},(l.map (·.1)).Nodup->(y,v) ∈ l->l.lookup y=some v
 | [],_,h=>by cases h
 | (n,k) :: r,hn,h=>by
  have hn':(n :: r.map (·.1)).Nodup:=hn
  obtain ⟨h1,h2⟩:=List.nodup_cons.mp hn'
  rw [List.lookup_cons]
  rcases List.mem_cons.mp h with e | e
  ·cases e
   simp
  ·have hne:(y == n)=false:=by
    refine beq_eq_false_iff_ne.mpr fun z=>h1 ?_
    rw [<- z]
    exact List.mem_map.mpr ⟨(y,v),e,rfl⟩
   rw [hne]
   exact lookup_of_nd h2 e
def relK (env:Env) (y:Str) (k:NameKind):NameKind:=if (k == NameKind.free && env.scope.kind == .function && env.kindOf y == some .cell)=true then .cell else k
theorem lookup_relabel (scope:Scope) (env:Env) (y:Str):(relabel scope env).names.lookup y=(scope.names.lookup y).map (relK env y):=by
 show (scope.names.map fun (n,k)=>if (k == NameKind.free && env.scope.kind == .function && env.kindOf n == some .cell)=true then (n,NameKind.cell) else (n,k)).lookup y=_
 induction scope.names with
 | nil=>rfl
 | cons p r ih =>
  obtain ⟨n,k⟩:=p
  rw [List.map_cons]
  by_cases hc:(k == NameKind.free && env.scope.kind == .function && env.kindOf n == some .cell)=true
  ·simp only [if_pos hc,List.lookup_cons]
   cases hb:y == n with
   | true =>
    have e:y=n:=beq_iff_eq.mp hb
    subst e
    simp only [Option.map_some,relK,if_pos hc]
   | false=>exact ih
  ·simp only [if_neg hc,List.lookup_cons]
   cases hb:y == n with
   | true =>
    have e:y=n:=beq_iff_eq.mp hb
    subst e
    simp only [Option.map_some,relK,if_neg hc]
   | false=>exact ih
theorem closure_go {env:Env} (f:Str × NameKind->List (Str × Addr)->Sem (ForInStep (List (Str × Addr))))
  (hf:∀ name kind cs,f (name,kind) cs=if (kind == .free)=true then (do let a <- cellOf env name; pure (.yield ((name,a) :: cs))) else pure (.yield cs)) :
  ∀ (names:List (Str × NameKind)) (acc:List (Str × Addr)),(∀ y ∈ names,y.2=.free->∃ c,env.cells.lookup y.1=some c) ->
   ∃ cl,(forIn names acc f:Sem (List (Str × Addr)))=pure cl/\(∀ y c,cl.lookup y=some c->acc.lookup y=some c ∨ (env.cells.lookup y=some c/\(y,NameKind.free) ∈ names)) /\
    (∀ y,(y,NameKind.free) ∈ names ∨ (acc.lookup y).isSome=true->∃ c,cl.lookup y=some c)
 | [],acc,_=>⟨acc,by rw [List.forIn_nil],fun y c e=>.inl e,fun y h=>by
   rcases h with h | h
   ·cases h
   ·exact Option.isSome_iff_exists.mp h⟩
 | (name,kind) :: r,acc,h=>by
  have hr:∀ y ∈ r,y.2=.free->∃ c,env.cells.lookup y.1=some c:=fun y hy=>h y (List.mem_cons_of_mem _ hy)
  by_cases hk:(kind == NameKind.free)=true
  ·have e:kind=.free:=beq_iff_eq.mp hk
   subst e
   obtain ⟨c0,hc0⟩:=h (name,.free) List.mem_cons_self rfl
   have hc0:env.cells.lookup name=some c0:=hc0
   obtain ⟨cl,h1,h2,h3⟩:=closure_go f hf r ((name,c0) :: acc) hr
   refine ⟨cl,?_,fun y c e=>?_,fun y hy=>?_⟩
   ·rw [List.forIn_cons,hf,if_pos hk]
    unfold cellOf
    rw [hc0]
    exact h1
   ·rcases h2 y c e with q | ⟨q1,q2⟩
    ·rw [List.lookup_cons] at q
     cases hb:y == name with
     | true =>
      rw [hb] at q
      cases q
      have e:y=name:=beq_iff_eq.mp hb
      subst e
      exact .inr ⟨hc0,List.mem_cons_self⟩
     | false =>
      rw [hb] at q
      exact .inl q
    ·exact .inr ⟨q1,List.mem_cons_of_mem _ q2⟩
   ·refine h3 y ?_
    rw [List.lookup_cons]
    cases hb:y == name with
    | true=>exact .inr rfl
    | false =>
     rcases hy with hy | hy
     ·rcases List.mem_cons.mp hy with z | z
      ·cases z
       simp at hb
      ·exact .inl z
     ·exact .inr hy
  ·obtain ⟨cl,h1,h2,h3⟩:=closure_go f hf r acc hr
   refine ⟨cl,?_,fun y c e=>(h2 y c e).imp id fun q=>⟨q.1,List.mem_cons_of_mem _ q.2⟩,fun y hy=>h3 y (hy.imp (fun hy=>?_) id)⟩
   ·rw [List.forIn_cons,hf,if_neg hk]
    exact h1
   ·rcases List.mem_cons.mp hy with z | z
    ·cases z
     exact absurd rfl hk
    ·exact z
theorem closure_ok {scope:Scope}{env:Env} (h:∀ y ∈ scope.names,y.2=.free->∃ c,env.cells.lookup y.1=some c) :
  ∃ cl,closureFor scope env=pure cl/\(∀ y c,cl.lookup y=some c->env.cells.lookup y=some c/\(y,NameKind.free) ∈ scope.names)/\(∀ y,(y,NameKind.free) ∈ scope.names->∃ c,cl.lookup y=some c):=by
 have key:∀ f:Str × NameKind->List (Str × Addr)->Sem (ForInStep (List (Str × Addr))),
   (∀ name kind cs,f (name,kind) cs=if (kind == .free)=true then (do let a <- cellOf env name; pure (.yield ((name,a) :: cs))) else pure (.yield cs)) ->
   closureFor scope env=(forIn scope.names [] f >>= fun r=>pure r) ->
   ∃ cl,closureFor scope env=pure cl/\(∀ y c,cl.lookup y=some c->env.cells.lookup y=some c/\(y,NameKind.free) ∈ scope.names)/\(∀ y,(y,NameKind.free) ∈ scope.names->∃ c,cl.lookup y=some c):=by
  intro f hf e
  obtain ⟨cl,h1,h2,h3⟩:=closure_go f hf scope.names [] h
  refine ⟨cl,?_,fun y c q=>(h2 y c q).resolve_left (fun z=>by cases z),fun y hy=>h3 y (.inl hy)⟩
  rw [e,h1]
  rfl
 refine key _ (fun name kind cs=>?_) rfl
 by_cases hk:(kind == NameKind.free)=true
 ·simp only [hk,if_true]
 ·simp only [hk,if_false]
theorem cells_split:∀ (names:List (Str × NameKind)) (h:Heap) (acc:List (Str × Addr)) (y:Str) (c:Addr),(cellsFrom h.objs.size names acc).lookup y=some c ->
  acc.lookup y=some c ∨ (h.objs.size <= c/\(y,NameKind.cell) ∈ names/\(pushCells h names).IsCell c none)
 | [],_,_,_,_,e=>.inl e
 | (name,kind) :: r,h,acc,y,c,e=>by
  unfold cellsFrom at e
  unfold pushCells
  by_cases hk:(kind == NameKind.cell)=true
  ·rw [if_pos hk] at e ⊢
   have ek:kind=.cell:=beq_iff_eq.mp hk
   subst ek
   have sz:(h.push { cls := .type "cell",data := .cell none }).objs.size=h.objs.size + 1:=Heap.size_push ..
   rw [<- sz] at e
   rcases cells_split r _ _ y c e with q | ⟨q1,q2,q3⟩
   ·rw [List.lookup_cons] at q
    cases hb:y == name with
    | true =>
     rw [hb] at q
     cases q
     have e:y=name:=beq_iff_eq.mp hb
     subst e
     exact .inr ⟨Nat.le_refl _,List.mem_cons_self,⟨_,pushCells_keeps _ _ _ _ (Heap.get?_push_size _ rfl),rfl⟩⟩
    | false =>
     rw [hb] at q
     exact .inl q
   ·rw [sz] at q1
    exact .inr ⟨Nat.le_of_succ_le q1,List.mem_cons_of_mem _ q2,q3⟩
  ·rw [if_neg hk] at e ⊢
   rcases cells_split r _ _ y c e with q | ⟨q1,q2,q3⟩
   ·exact .inl q
   ·exact .inr ⟨q1,List.mem_cons_of_mem _ q2,q3⟩
theorem cells_inj:∀ (names:List (Str × NameKind)) (n:Nat) (acc:List (Str × Addr)),(∀ y z c,acc.lookup y=some c->acc.lookup z=some c->y=z)->(∀ y c,acc.lookup y=some c->c < n) ->
  ∀ y z c,(cellsFrom n names acc).lookup y=some c->(cellsFrom n names acc).lookup z=some c->y=z
 | [],_,_,h,_,y,z,c,e1,e2=>h y z c e1 e2
 | (name,kind) :: r,n,acc,h,hl,y,z,c,e1,e2=>by
  unfold cellsFrom at e1 e2
  by_cases hk:(kind == NameKind.cell)=true
  ·rw [if_pos hk] at e1 e2
   refine cells_inj r (n + 1) _ (fun y z c q1 q2=>?_) (fun y c q=>?_) y z c e1 e2
   ·rw [List.lookup_cons] at q1 q2
    cases b1:y == name with
    | true =>
     rw [b1] at q1
     cases q1
     cases b2:z == name with
     | true=>rw [beq_iff_eq.mp b1,beq_iff_eq.mp b2]
     | false =>
      rw [b2] at q2
      exact absurd (hl z _ q2) (Nat.lt_irrefl _)
    | false =>
     rw [b1] at q1
     cases b2:z == name with
     | true =>
      rw [b2] at q2
      cases q2
      exact absurd (hl y _ q1) (Nat.lt_irrefl _)
     | false =>
      rw [b2] at q2
      exact h y z c q1 q2
   ·rw [List.lookup_cons] at q
    cases b:y == name with
    | true =>
     rw [b] at q
     cases q
     exact Nat.lt_succ_self _
    | false =>
     rw [b] at q
     exact Nat.lt_succ_of_lt (hl y c q)
  ·rw [if_neg hk] at e1 e2
   exact cells_inj r n acc h hl y z c e1 e2
theorem newCompEnv {M:Model}{A:Around}{E:Value->Shared->Prop}{s:Shared}{scope:Scope}{env:Env}{cl:List (Str × Addr)}{Q:Env->Shared->Prop}
  (hQ:Q { scope:=scope,locals:=s.heap.objs.size,globals:=env.globals,cells:=cellsFrom (s.heap.objs.size + 1) scope.names cl,qual:=env.qual,func:=none,code:=env.code,frame:=env.frame,builtins:=env.builtins }
   { s with heap:=pushCells (s.heap.push { cls := .type "dict",data := .dict #[] }) scope.names }) :
  wpAny M A (newFunctionEnv scope env.globals cl [] env.qual none .none (some env)) Q E s:=by
 simp only [newFunctionEnv,Option.isSome_some,if_true]
 refine wpAny_bind (wpAny_alloc ?_)
 refine wpAny_bind (wpAny_layCells _ (fun name kind cells=>by cases hkc:kind == NameKind.cell <;> simp [hkc]) _ _ _ _ ?_)
 rw [show ({ s with heap:=s.heap.push { cls := .type "dict",data := .dict #[] } }:Shared).heap.objs.size=s.heap.objs.size + 1 from Heap.size_push ..]
 refine wpAny_bind ?_
 rw [List.forIn_nil]
 exact wpAny_pure (wpAny_pure hQ)
section
variable {prog:Program}{w:World}{A:Around}{R:Result->Shared->Prop}{s:Shared}
theorem compLoopG {elt target iter:Expr}{ifs:List Expr}{scope:Scope}{pos:Pos}{it acc:Value}{env:Env} (I:Nat->Shared->Prop)
  (turn:∀ n s,I n s->wpAny (model prog w) A (pyNext it) (fun r s₁=>match r with
   | none=>R (.ok .next) s₁
   | some v=>wpAny (model prog w) A (letOwnedTupleGo target it v) (fun _ s₁'=>wpAny (model prog w) A (assign target env v) (fun _ s₂ =>
     wpAny (model prog w) A (forIn ifs true fun c r=>if r=true then do let ok <- isTrue c env (eval c env); pure (ForInStep.yield ok) else pure (ForInStep.yield r)) (fun ok s₂' =>
      if ok=true then wpAny (model prog w) A (eval elt env) (fun x s₃ =>
       wpAny (model prog w) A (call (.builtin "list.append") [acc,x]) (fun _ s₄=>∃ m,m < n/\I m s₄) (fun _ _=>False) s₃) (fun _ _=>False) s₂'
      else ∃ m,m < n/\I m s₂') (fun _ _=>False) s₂) (fun _ _=>False) s₁') (fun _ _=>False) s₁) (fun _ _=>False) s)
  (n:Nat) (h:I n s):codeAny (model prog w) A (.compLoop (.ListComp elt [⟨target,iter,ifs,0⟩] scope pos) 0 it acc env) R s:=by
 refine codeAny_loop rfl I (fun n s hI=>?_) n h
 show wpAny _ _ ((compTurn (.ListComp elt [⟨target,iter,ifs,0⟩] scope pos) 0 it acc env).onRaise (fun x=>do noteFrame x env; theTreesLotGoes x)) _ _ s
 refine wpAny_noted ?_
 rw [compTurn_list]
 refine wpAny_bind (wpAny_standAt (wpAny_bind (wpAny_mono (turn n s hI) (fun r s₁ h₁=>?_) fun _ _ h'=>h'.elim)))
 cases r with
 | none=>exact wpAny_pure h₁
 | some v =>
  refine wpAny_bind (wpAny_mono h₁ (fun _ s₁' h₁'=>?_) fun _ _ h'=>h'.elim)
  refine wpAny_bind (wpAny_mono h₁' (fun _ s₂ h₂=>wpAny_bind (wpAny_mono h₂ (fun ok s₃ h₃=>?_) fun _ _ h'=>h'.elim)) fun _ _ h'=>h'.elim)
  cases ok with
  | false=>exact wpAny_pure ⟨rfl,h₃⟩
  | true =>
   exact wpAny_bind (wpAny_bind (wpAny_mono h₃ (fun x s₄ h₄=>wpAny_bind (wpAny_mono h₄ (fun _ s₅ h₅=>wpAny_pure (wpAny_pure ⟨rfl,h₅⟩)) fun _ _ h'=>h'.elim)) fun _ _ h'=>h'.elim))
def PIf (X:Cx) (ifs:List Expr) (t:TT):Prop := ∀ (pins:List (Addr × Obj)) (s:Shared) (σ:St) (H:Hp) (Q:Bool->Hp->Prop),Inv X pins σ H s->t σ H Q ->
 wpAny (model X.prog X.w) X.A (forIn ifs true fun c r=>if r=true then do let ok <- isTrue c X.env (eval c X.env); pure (ForInStep.yield ok) else pure (ForInStep.yield r)) (TP X pins σ Q) X.xe s
def tAll:TT:=fun _ H Q=>Q true H
theorem pif_nil {X:Cx}:PIf X [] tAll:=fun pins s σ H Q I h=>wpAny_tests_nil ⟨H,I,h⟩
theorem pif_one {X:Cx}{c:Expr}{t:TT} (h:PT X c t):PIf X [c] t:=fun pins s σ H Q I hw=>wpAny_tests_one (h pins s σ H Q I hw)
end
structure CompOk (X:Cx) (scope:Scope) (own:List Str) (cap:List (Str × Nat)):Prop where
 kind:scope.kind=.function
 nd:(scope.names.map (·.1)).Nodup
 free:∀ y ∈ scope.names,y.2=.free->X.env.kindOf y.1=some .cell ∨ X.env.kindOf y.1=some .free
 capN:∀ p ∈ cap,X.N[p.2]?=some p.1/\(p.1,NameKind.free) ∈ scope.names
def capV (σ:St) (cap:List (Str × Nat)):St:=cap.map fun p=>(σ[p.2]?).join
def cxComp (X:Cx) (scope:Scope) (cs:List (Str × Addr)) (C:Addr) (N:List Str) (s0:Shared) (H0:Hp) (fp:List Addr):Cx where
 prog:=X.prog
 w:=X.w
 K:=X.K
 mg:=X.mg
 base:=X.base
 A:=X.A
 N:=N
 s₀:=s0
 H₀:=H0
 env:=compEnvC scope cs C X.env
 outer:=X.stack
 stack:=X.stack
 ex:=fp
 fn:=fun y=>decide (scope.names.lookup y=some .cell)
 calm:=X.calm
 pn:=X.pn
 xe:=fun _ _=>False
section
variable {X:Cx}{pins:List (Addr × Obj)}{σ:St}{H:Hp}{s:Shared}
theorem vis_of_cell {env:Env}{y:Str} (h:env.kindOf y=some .cell ∨ env.kindOf y=some .free):Vis env.scope y := .inr h
theorem inv_comp {scope:Scope}{own:List Str}{cap:List (Str × Nat)}{cl:List (Str × Addr)}{fp:List Addr} (I:Inv X pins σ H s) (ok:CompOk X scope own cap)
  (hcl:∀ y c,cl.lookup y=some c->X.env.cells.lookup y=some c/\(y,NameKind.free) ∈ scope.names) (hcl2:∀ y,(y,NameKind.free) ∈ scope.names->∃ c,cl.lookup y=some c)
  (f2:∀ b ∈ fp,FpOk X pins H b) (fo:∀ b ∈ fp,b < s.heap.objs.size) :
  Inv (cxComp X scope (cellsFrom (s.heap.objs.size + 1) scope.names cl) s.heap.objs.size (own ++ cap.map (·.1)) s H fp) pins (List.replicate own.length none ++ capV σ cap) H
   { s with heap:=pushCells (s.heap.push { cls := .type "dict",data := .dict #[] }) scope.names }:=by
 have szC:(s.heap.push { cls := .type "dict",data := .dict #[] }).objs.size=s.heap.objs.size + 1:=Heap.size_push ..
 have kp:∀ b o,s.heap.get? b=some o->(pushCells (s.heap.push { cls := .type "dict",data := .dict #[] }) scope.names).get? b=some o:=fun b o e=>pushCells_keeps _ _ b o (Heap.get?_push_of_some _ e)
 have sp:∀ y c,(cellsFrom (s.heap.objs.size + 1) scope.names cl).lookup y=some c->(X.env.cells.lookup y=some c/\(y,NameKind.free) ∈ scope.names) ∨
   (s.heap.objs.size + 1 <= c/\(y,NameKind.cell) ∈ scope.names/\(pushCells (s.heap.push { cls := .type "dict",data := .dict #[] }) scope.names).IsCell c none):=fun y c e=>by
  rw [<- szC] at e
  rcases cells_split _ _ _ y c e with q | q
  ·exact .inl (hcl y c q)
  ·rw [szC] at q
   exact .inr q
 have clt:∀ y c,X.env.cells.lookup y=some c->c < s.heap.objs.size:=fun y c e=>by
  obtain ⟨v,o,ho,_⟩:=I.cell y c e
  exact Heap.lt_size ho
 have kfree:∀ y,(y,NameKind.free) ∈ scope.names->scope.names.lookup y=some .free:=fun y h=>lookup_of_nd ok.nd h
 have kcell:∀ y,(y,NameKind.cell) ∈ scope.names->scope.names.lookup y=some .cell:=fun y h=>lookup_of_nd ok.nd h
 have okY:(cxComp X scope (cellsFrom (s.heap.objs.size + 1) scope.names cl) s.heap.objs.size (own ++ cap.map (·.1)) s H fp).Ok := {
  mod:=I.ok.mod
  kind:=ok.kind
  glob:=I.ok.glob
  blt:=I.ok.blt
  above:=Nat.le_refl _
  inj:=fun x y c e1 e2=>cells_inj scope.names (s.heap.objs.size + 1) cl (fun y z c q1 q2=>I.ok.inj y z c (hcl y c q1).1 (hcl z c q2).1) (fun y c q=>Nat.lt_succ_of_lt (clt y c (hcl y c q).1)) x y c e1 e2
  has:=fun y hy=>by
   have hy':(relabel scope X.env).names.lookup y=some .cell ∨ (relabel scope X.env).names.lookup y=some .free:=hy
   rw [lookup_relabel] at hy'
   refine Option.isSome_iff_exists.mp (PySem.W.cellsFrom_some scope.names _ _ ?_)
   cases q:scope.names.lookup y with
   | none =>
    rw [q] at hy'
    rcases hy' with z | z <;> cases z
   | some k =>
    by_cases hk:k=.cell
    ·subst hk
     exact .inl rfl
    ·by_cases hf:k=.free
     ·subst hf
      obtain ⟨c,hc⟩:=hcl2 y (lookup_mem q)
      exact .inr (by rw [hc]; rfl)
     ·rw [q] at hy'
      exfalso
      have hb:(k == NameKind.free)=false:=by simpa using hf
      rcases hy' with z | z
      ·simp [relK,hb] at z
       exact hk z
      ·simp [relK,hb] at z
       exact hf z
  cab:=fun y c hf e=>by
   have hf':scope.names.lookup y=some .cell:=of_decide_eq_true hf
   rcases sp y c e with ⟨_,q⟩ | ⟨q,_⟩
   ·rw [kfree y q] at hf'
    cases hf'
   ·exact Nat.le_of_succ_le q
  hd:=I.ok.hd
  frames:=I.ok.frames
  stk := .inl rfl
  exf:=fun b hb=>⟨Nat.ne_of_lt (fo b hb),fun x c e z=>by
   subst z
   rcases sp x c e with ⟨q,_⟩ | ⟨q,_⟩
   ·exact (f2 c hb).2.2.2.2.1 x c q rfl
   ·exact absurd (Nat.lt_of_lt_of_le (fo c hb) (Nat.le_of_succ_le q)) (Nat.lt_irrefl _)⟩
  bs:=I.bs
  bsz:=Nat.le_trans I.ok.bsz I.sz
  noex:=fun b o e hb=>by
   rcases (f2 b hb).2.2.2.1 with q | q
   ·exact I.ok.noex b o e q
   ·exact absurd (Nat.lt_of_lt_of_le (Heap.lt_size e) (Nat.le_trans I.ok.bsz q)) (Nat.lt_irrefl _)
  exfs:=fun b hb z=>by
   rcases List.mem_cons.mp (I.stkSub b z) with q | q
   ·exact (f2 b hb).2.1 q
   ·exact (f2 b hb).2.2.1 q
  funs:=I.stack
  frf:=I.stkFree }
 obtain ⟨m,hns,hl⟩:=id I.loc
 refine ⟨okY,rfl,I.bare,Un.kept kp,⟨fun _=>none,(Heap.Ns.new s.heap (.type "dict")).keeps (pushCells_keeps _ _),fun i x v e1 e2 e3=>?_⟩,fun y c e=>?_,I.fresh,fun y c e=>?_,fun p hp=>?_,I.hok.kept kp,?_⟩
 ·
  have e1:(own ++ cap.map (·.1))[i]?=some x:=e1
  by_cases hi:i < own.length
  ·rw [List.getElem?_append_left (by simpa using hi)] at e2
   simp [hi] at e2
  ·have hi':own.length <= i:=Nat.not_lt.mp hi
   rw [List.getElem?_append_right (by simpa using hi')] at e2
   rw [List.getElem?_append_right hi'] at e1
   rw [List.length_replicate] at e2
   unfold capV at e2
   rw [List.getElem?_map] at e1 e2
   cases q:cap[i - own.length]? with
   | none =>
    rw [q] at e1
    cases e1
   | some p =>
    rw [q] at e1 e2
    obtain ⟨p1,p2⟩:=p
    have e1:p1=x:=Option.some.inj e1
    subst e1
    have e2:(σ[p2]?).join=some v:=Option.some.inj e2
    have e2:σ[p2]?=some (some v):=by
     cases z:σ[p2]? with
     | none=>rw [z] at e2; cases e2
     | some z'=>rw [z] at e2; exact congrArg some e2
    obtain ⟨hN,hfr⟩:=ok.capN (p1,p2) (List.mem_of_getElem? q)
    have hk:=ok.free (p1,.free) hfr rfl
    obtain ⟨u,r,L⟩:=hl p2 p1 v hN e2 (vis_of_cell hk)
    refine ⟨u,r,?_⟩
    rcases L with ⟨k,_⟩ | ⟨_,c,hc,hcell⟩
    ·have hk:X.env.kindOf p1=some .cell ∨ X.env.kindOf p1=some .free:=hk
     rw [k] at hk
     rcases hk with z | z <;> cases z
    ·refine .inr ⟨?_,c,?_,hcell.keeps kp⟩
     ·show (relabel scope X.env).names.lookup p1=some .cell ∨ (relabel scope X.env).names.lookup p1=some .free
      rw [lookup_relabel,kfree _ hfr,Option.map_some]
      unfold relK
      split
      ·exact .inl rfl
      ·exact .inr rfl
     ·obtain ⟨c',hc'⟩:=hcl2 p1 hfr
      obtain ⟨c2,hc2⟩:=Option.isSome_iff_exists.mp (PySem.W.cellsFrom_some scope.names (s.heap.objs.size + 1) cl (.inr (by rw [hc']; rfl):scope.names.lookup p1=some .cell ∨ (cl.lookup p1).isSome=true))
      have hc2':(cellsFrom (s.heap.objs.size + 1) scope.names cl).lookup p1=some c2:=hc2
      rcases sp p1 c2 hc2' with ⟨q1,_⟩ | ⟨_,q2,_⟩
      ·rw [hc] at q1
       cases q1
       exact hc2'
      ·have:=kcell p1 q2
       rw [kfree p1 hfr] at this
       cases this
 ·rcases sp y c e with ⟨q,_⟩ | ⟨_,_,q⟩
  ·obtain ⟨v,hv⟩:=I.cell y c q
   exact ⟨v,hv.keeps kp⟩
  ·exact ⟨none,q⟩
 ·rcases sp y c e with ⟨q,_⟩ | ⟨q,_⟩
  ·exact I.freeC y c q
  ·exact I.hok.fresh (Nat.le_of_succ_le q)
 ·obtain ⟨a1,a2,a3,a4,a5⟩:=I.pin p hp
  refine ⟨kp _ _ a1,a2,Nat.ne_of_lt (Heap.lt_size a1),fun z=>?_,a5⟩
  rcases List.mem_cons.mp (I.stkSub p.1 z) with q | q
  ·exact a3 q
  ·exact a4 q
 ·show (List.replicate own.length none ++ capV σ cap).length=(own ++ cap.map (·.1)).length
  simp [capV]
theorem inv_compEnd {scope:Scope}{cs:List (Str × Addr)}{C:Addr}{N:List Str}{fp:List Addr}{τ:St}{H':Hp}{s':Shared}{h':Heap} (I:Inv X pins σ H s) (f2:∀ b ∈ fp,FpOk X pins H b)
  (hC:s.heap.objs.size <= C) (J:Inv (cxComp X scope cs C N s H fp) pins τ H' s') (hs:Heap.SameBut C s'.heap h'):Inv X pins σ H' { s' with heap:=h' }:=by
 have u:Un (frs X.stack) fp H H' s.heap s'.heap:=J.base
 have ne:∀ b o,s.heap.get? b=some o->b ≠ C:=fun b o e=>Nat.ne_of_lt (Nat.lt_of_lt_of_le (Heap.lt_size e) hC)
 refine I.call' (s' := { s' with heap:=h' }) (ch:=fp) J.os ⟨fun b o e n hf hx=>?_,fun b o e n hf hx=>?_,u.free,fun b o e hx=>?_,u.tups,u.frzs,u.tbls⟩ (fun a o e=>?_) J.bare fun b hb=>⟨(f2 b hb).2.2.2.1,(f2 b hb).2.1,(f2 b hb).2.2.2.2.1,(f2 b hb).2.2.2.2.2⟩
 ·exact (hs.2 b (ne b o e)).trans (u.keep b o e n hf hx)
 ·obtain ⟨sl,q⟩:=u.slot b o e n hf hx
  exact ⟨sl,(hs.2 b (ne b o e)).trans q⟩
 ·obtain ⟨o',q⟩:=u.there b o e hx
  exact ⟨o',(hs.2 b (ne b o e)).trans q⟩
 ·refine (J.hok a o e).stay (fun b v hb q=>(hs.2 b ?_).trans q) (fun _ q=>q) fun _ _ q=>q
  rintro rfl
  have fr:H' b=none:=J.free
  rcases hb with rfl | hb
  ·rw [fr] at e
   cases e
  ·rw [fr] at hb
   cases hb
end
def tComp (wi:TI) (g:TG) (tt:TT) (te:TE) (k:Nat) (cap:List (Str × Nat)):TE:=fun σ H Q=>wi σ H fun J H1=>∀ acc,H1 acc=none->∃ W:Nat->Nat->St->List V->Hp->Prop,
 (∃ m,W 0 m (List.replicate k none ++ capV σ cap) [] (upd H1 acc (.lst []))) /\
 ∀ i m τ ys H,W i m τ ys H->(J.stop i H/\Q (.ref acc) H) ∨ (J.go i H/\∀ x H',J.yld i H x H'->g x τ H' fun τ2 H2=>tt τ2 H2 fun b H2'=>if b=true then te τ2 H2' fun v H3 =>
  H3 acc=some (.lst ys)/\ys.length < sizeLine/\∃ m',m' < m/\W (i + 1) m' τ2 (ys ++ [v]) (upd H3 acc (.lst (ys ++ [v]))) else ∃ m',m' < m/\W (i + 1) m' τ2 ys H2')
structure BlockOk (X:Cx) (scope:Scope) (own:List Str) (cap:List (Str × Nat)) (tg:Expr) (ifs:List Expr) (elt:Expr) (g:TG) (tt:TT) (te:TE):Prop where
 tgt:∀ cs C s0 H0 fp,PG (cxComp X scope cs C (own ++ cap.map (·.1)) s0 H0 fp) tg g
 tst:∀ cs C s0 H0 fp,PIf (cxComp X scope cs C (own ++ cap.map (·.1)) s0 H0 fp) ifs tt
 elm:∀ cs C s0 H0 fp,PE (cxComp X scope cs C (own ++ cap.map (·.1)) s0 H0 fp) elt te
section
variable {X:Cx}{tg elt iter:Expr}{ifs:List Expr}{tt:TT}{scope:Scope}{pos:Pos}{own:List Str}{cap:List (Str × Nat)}{wi:TI}{g:TG}{te:TE}
theorem comp_block {pins:List (Addr × Obj)}{σ:St}{H2:Hp}{s2:Shared}{Q:VK}{it:Addr}{fp:List Addr}{tn:Nat->Heap->Prop}{J:It}{cl:List (Str × Addr)}{RR:Value->Addr->Result->Shared->Prop}
  {cm:Cx->Prop} (ok:CompOk X scope own cap) (hc:∀ cs C N s0 H0 fp,Inv X pins σ H0 s0->cm (cxComp X scope cs C N s0 H0 fp)) (B:BlockOk X scope own cap tg ifs elt g tt te)
  (hcl:∀ y c,cl.lookup y=some c->X.env.cells.lookup y=some c/\(y,NameKind.free) ∈ scope.names) (hcl2:∀ y,(y,NameKind.free) ∈ scope.names->∃ c,cl.lookup y=some c)
  (I2:Inv X pins σ H2 s2) (T:TurnC cm X.prog X.w X.K tg J fp it tn) (st2:tn 0 s2.heap) (f2:∀ b ∈ fp,FpOk X pins H2 b)
  (h:∀ acc,H2 acc=none->∃ W:Nat->Nat->St->List V->Hp->Prop,(∃ m,W 0 m (List.replicate own.length none ++ capV σ cap) [] (upd H2 acc (.lst []))) /\
   ∀ i m τ ys H,W i m τ ys H->(J.stop i H/\Q (.ref acc) H) ∨ (J.go i H/\∀ x H',J.yld i H x H'->g x τ H' fun τ2 H2=>tt τ2 H2 fun b H2'=>if b=true then te τ2 H2' fun v H3 =>
    H3 acc=some (.lst ys)/\ys.length < sizeLine/\∃ m',m' < m/\W (i + 1) m' τ2 (ys ++ [v]) (upd H3 acc (.lst (ys ++ [v]))) else ∃ m',m' < m/\W (i + 1) m' τ2 ys H2'))
  (hR:∀ D C H' s',(∀ h',Heap.SameBut C s'.heap h'->Inv X pins σ H' { s' with heap:=h' })->(∃ m,s'.heap.Ns C m)->H' C=none->X.s₀.heap.objs.size <= C->C ≠ X.env.locals->(∀ x c,X.env.cells.lookup x=some c->c ≠ C)->(∀ p ∈ X.pn ++ pins,p.1 ≠ C) ->
   Q (.ref D) H'->RR (.ref D) C (.ok .next) s') {E:Value->Shared->Prop} :
  wpAny (model X.prog X.w) X.A (newList []) (fun acc s₃=>wpAny (model X.prog X.w) X.A (newFunctionEnv scope X.env.globals cl [] X.env.qual none .none (some X.env)) (fun cenv s₄ =>
   codeAny (model X.prog X.w) X.A (.compStart (.ListComp elt [⟨tg,iter,ifs,0⟩] scope pos) 0 (.ref it) acc { cenv with scope:=relabel scope X.env }) (RR acc cenv.locals) s₄) E s₃) E s2:=by
 refine wpAny_newObj_type ?_
 have fresh:H2 s2.heap.objs.size=none:=I2.fresh
 have I3:Inv X pins σ (upd H2 s2.heap.objs.size (.lst [])) { s2 with heap:=s2.heap.push { cls := .type "list",data := .seq ([]:List Value).toArray } }:=I2.lnew (its := []) (ys := []) (t' := s2.toks) .nil (Nat.zero_le _)
 have ob2:=T.obj _ _ st2
 have lt2:∀ b ∈ fp,b < s2.heap.objs.size:=fun b hb=>let ⟨o,e,_⟩:=ob2 b hb; Heap.lt_size e
 have f3:∀ b ∈ fp,FpOk X pins (upd H2 s2.heap.objs.size (.lst [])) b:=fun b hb=>⟨by rw [upd_ne (Nat.ne_of_lt (lt2 b hb))]; exact (f2 b hb).1,(f2 b hb).2⟩
 have kp3:∀ b o,s2.heap.get? b=some o->(s2.heap.push { cls := .type "list",data := .seq ([]:List Value).toArray }).get? b=some o:=fun b o e=>Heap.get?_push_of_some _ e
 generalize hs3:({ s2 with heap:=s2.heap.push { cls := .type "list",data := .seq ([]:List Value).toArray } }:Shared)=s3 at I3 ⊢
 have k3:∀ b o,s2.heap.get? b=some o->s3.heap.get? b=some o:=fun b o e=>by rw [<- hs3]; exact kp3 b o e
 refine newCompEnv ?_
 have lt3:∀ b ∈ fp,b < s3.heap.objs.size:=fun b hb=>let ⟨o,e,_⟩:=ob2 b hb; Heap.lt_size (k3 b o e)
 have I4:=inv_comp (own:=own) (cap:=cap) (fp:=fp) I3 ok hcl hcl2 f3 lt3
 have st4:tn 0 (pushCells (s3.heap.push { cls := .type "dict",data := .dict #[] }) scope.names):=T.keep _ _ _ st2 fun b _ o e=>pushCells_keeps _ _ b o (Heap.get?_push_of_some _ (k3 b o e))
 obtain ⟨W,⟨m0,w0⟩,turn⟩:=h s2.heap.objs.size fresh
 let Y:=cxComp X scope (cellsFrom (s3.heap.objs.size + 1) scope.names cl) s3.heap.objs.size (own ++ cap.map (·.1)) s3 (upd H2 s2.heap.objs.size (.lst [])) fp
 have I4:Inv Y pins (List.replicate own.length none ++ capV σ cap) (upd H2 s2.heap.objs.size (.lst [])) { s3 with heap:=pushCells (s3.heap.push { cls := .type "dict",data := .dict #[] }) scope.names }:=I4
 have f4:∀ {H':Hp},(∀ b ∈ fp,H' b=none)->∀ b ∈ fp,FpOk Y pins H' b:=fun {H'} hn b hb=>by
  refine ⟨hn b hb,Nat.ne_of_lt (lt3 b hb),fun z=>?_,.inl hb,(I4.ok.exf b hb).2,(f2 b hb).2.2.2.2.2⟩
  exact I4.ok.exfs b hb z
 have loop:codeAny (model X.prog X.w) X.A (.compLoop (.ListComp elt [⟨tg,iter,ifs,0⟩] scope pos) 0 (.ref it) (.ref s2.heap.objs.size) Y.env) (RR (.ref s2.heap.objs.size) s3.heap.objs.size)
   { s3 with heap:=pushCells (s3.heap.push { cls := .type "dict",data := .dict #[] }) scope.names }:=by
  refine compLoopG (fun n s'=>∃ i τ ys H',Inv Y pins τ H' s'/\tn i s'.heap/\(∀ b ∈ fp,H' b=none)/\W i n τ ys H') ?_ m0 ⟨0,_,[],_,I4,st4,fun b hb=>(f3 b hb).1,w0⟩
  rintro n s5 ⟨i,τ,ys,H5,I5,st5,fr5,w5⟩
  rcases turn i n τ ys H5 w5 with ⟨stop,q⟩ | ⟨go,step⟩
  ·refine thn (T.done Y rfl rfl rfl (hc _ _ _ _ _ _ I3) i pins s5 τ H5 (fun _ _=>False) I5 (f4 fr5) st5 stop) fun r s6 ⟨hr,I6⟩=>?_
   subst hr
   obtain ⟨m,hns,_⟩:=I6.loc
   have hC:X.s₀.heap.objs.size <= s3.heap.objs.size:=I3.sz
   refine hR _ _ H5 s6 (fun h' hs'=>inv_compEnd I3 f3 (Nat.le_refl _) I6 hs') ⟨m,hns⟩ I6.free hC (fun z=>?_) (fun x c e z=>?_) (fun p hp z=>?_) q
   ·exact Nat.lt_irrefl _ (z ▸ I3.lt)
   ·obtain ⟨v,o,ho,_⟩:=I3.cell x c e
    rw [z] at ho
    exact Nat.lt_irrefl _ (Heap.lt_size ho)
   ·have e:=(I3.pin p hp).1
    rw [z] at e
    exact Nat.lt_irrefl _ (Heap.lt_size e)
  ·refine thn (T.item Y rfl rfl rfl (hc _ _ _ _ _ _ I3) i pins s5 τ H5 (fun _ _=>False) I5 (f4 fr5) st5 go) fun r s6 ⟨u,hr,h6⟩=>?_
   subst hr
   refine thn h6 fun _ s7 ⟨x,H7,I7,r7,y7,st7,fr7⟩=>?_
   have I7' := I7.pinned (f4 fr7) (T.obj _ _ st7)
   refine thn (B.tgt _ _ _ _ _ _ s7 τ H7 x u _ I7' r7 (step x H7 y7)) fun _ s8 ⟨τ8,H8,I8,q8⟩=>?_
   refine thn (B.tst _ _ _ _ _ _ s8 τ8 H8 _ I8 q8) fun ok s8' ⟨H8',I8',q8'⟩=>?_
   have again:∀ {H':Hp}{s':Shared},Inv Y (pins ++ pinsAt fp s7.heap) τ8 H' s'->Inv Y pins τ8 H' s'/\tn (i + 1) s'.heap/\∀ b ∈ fp,H' b=none:=fun {H' s'} I'=>by
    refine ⟨I'.unpinned,T.keep _ _ _ st7 fun b hb o e=>(I'.pin (b,o) (List.mem_append_right _ (List.mem_append_right _ (mem_pinsAt hb e)))).1,fun b hb=>?_⟩
    obtain ⟨o,e,d⟩:=T.obj _ _ st7 b hb
    exact (I'.pin (b,o) (List.mem_append_right _ (List.mem_append_right _ (mem_pinsAt hb e)))).2.1
   cases ok with
   | false =>
    rw [if_neg Bool.false_ne_true] at q8' ⊢
    obtain ⟨m',hm,w9⟩:=q8'
    obtain ⟨z1,z2,z3⟩:=again I8'
    exact ⟨m',hm,i + 1,τ8,ys,H8',z1,z2,z3,w9⟩
   | true =>
    rw [if_pos rfl] at q8' ⊢
    refine thn (B.elm _ _ _ _ _ _ s8' τ8 H8' _ I8' q8') fun v s9 ⟨y,H9,I9,r9,hacc,hlen,m',hm,w9⟩=>?_
    refine thn (mt_append _ s9 τ8 H9 (.ref s2.heap.objs.size) [y] (.ref s2.heap.objs.size) [v] (fun z H'=>z=.non/\H'=upd H9 s2.heap.objs.size (.lst (ys ++ [y]))) I9 rfl (.cons r9 .nil) ⟨_,ys,y,rfl,rfl,hacc,hlen,rfl,rfl⟩) fun _ s10 ⟨z,H10,I10,_,_,e10⟩=>?_
    subst e10
    obtain ⟨z1,z2,z3⟩:=again I10
    exact ⟨m',hm,i + 1,τ8,ys ++ [y],_,z1,z2,z3,w9⟩
 exact codeAny_compStart_list loop (T.self X.A 0 _ _ _ st4 loop)
theorem comp_closure {pins:List (Addr × Obj)}{σ:St}{H:Hp}{s:Shared} (I:Inv X pins σ H s) (ok:CompOk X scope own cap):∃ cl,closureFor scope X.env=pure cl/\(∀ y c,cl.lookup y=some c->X.env.cells.lookup y=some c/\(y,NameKind.free) ∈ scope.names)/\(∀ y,(y,NameKind.free) ∈ scope.names->∃ c,cl.lookup y=some c) :=
 closure_ok fun y hy hk=>I.ok.has y.1 (ok.free y hy hk)
theorem comp_names (ok:CompOk X scope own cap):∀ x ∈ scope.names,x.2=.local->scope.names.lookup x.1=some .local:=fun x hx hl=>lookup_of_nd ok.nd (by rw [<- hl]; exact hx)
def PIEC (cm:Cx->Prop) (X:Cx) (pins:List (Addr × Obj)) (σ:St) (tg:Expr) (R:It->Hp->Prop) (itv:Value) (s2:Shared):Prop :=
 ∃ (it:Addr) (fp:List Addr) (tn:Nat->Heap->Prop) (J:It) (H':Hp),itv=.ref it/\Inv X pins σ H' s2/\TurnC cm X.prog X.w X.K tg J fp it tn/\tn 0 s2.heap/\(∀ b ∈ fp,FpOk X pins H' b)/\R J H'
def PIC (cm:Cx->Prop) (X:Cx) (tg iter:Expr) (wi:TI):Prop :=
 ∀ (pins:List (Addr × Obj)) (s:Shared) (σ:St) (H:Hp) (R:It->Hp->Prop),Inv X pins σ H s->wi σ H R ->
  wpAny (model X.prog X.w) X.A (eval iter X.env) (fun v s1=>wpAny (model X.prog X.w) X.A (pyIter v) (PIEC cm X pins σ tg R) X.xe s1) X.xe s
theorem pe_compC {cm:Cx->Prop} (ok:CompOk X scope own cap) (hc:∀ pins σ cs C N s0 H0 fp,Inv X pins σ H0 s0->cm (cxComp X scope cs C N s0 H0 fp)) (hi:PIC cm X tg iter wi) (B:BlockOk X scope own cap tg ifs elt g tt te) (hs:∀ x,foldedSetIterable iter X.env x=pure x:=by intro _; rfl) :
  PE X (.ListComp elt [⟨tg,iter,ifs,0⟩] scope pos) (tComp wi g tt te own.length cap):=by
 intro pins s σ H Q I h
 obtain ⟨cl,hclos,hcl,hcl2⟩:=comp_closure I ok
 rw [eval_ListComp]
 refine wpAny_comprehension_free (use:=none) rfl hs hclos ok.kind (comp_names ok) (thn (hi pins s σ H _ I h) fun xv s1 h1=>thn h1 fun itv s2 h2=>?_)
 obtain ⟨it,fp,tn,J,H2,e,I2,T,st2,f2,hW⟩:=h2
 subst e
 refine comp_block (Q:=Q) (RR:=fun acc C=>compPost (model X.prog X.w) X.A X.xe none (EP X pins σ Q) acc C) ok (hc pins σ) B hcl hcl2 I2 T st2 f2 hW ?_
 rintro D C H' s' hI ⟨m,hm⟩ _ _ _ _ _ q
 exact ⟨m,hm,fun h' hs'=>⟨.ref D,H',hI h' hs',rfl,q⟩⟩
theorem ps_setCompC {cm:Cx->Prop}{i:Nat}{y:Str}{py spos:Pos} (hN:X.N.Nodup) (hi':X.N[i]?=some y) (hy:Loc X.env.scope y) (ok:CompOk X scope own cap) (hc:∀ pins σ cs C N s0 H0 fp,Inv X pins σ H0 s0->cm (cxComp X scope cs C N s0 H0 fp)) (hi:PIC cm X tg iter wi) (B:BlockOk X scope own cap tg ifs elt g tt te)
  (hsw:swapsWith (.ListComp elt [⟨tg,iter,ifs,0⟩] scope pos) (some (.Name y py)) spos.line X.env=pure true:=by rfl)
  (hf:X.fn y=true ∨ X.env.scope.names.lookup y=some .local:=by first | exact .inl rfl | exact .inr rfl) (hs:∀ x,foldedSetIterable iter X.env x=pure x:=by intro _; rfl) :
  PS X (.Assign [.Name y py] (.ListComp elt [⟨tg,iter,ifs,0⟩] scope pos) spos) (tAsg (tComp wi g tt te own.length cap) (gName i)):=by
 intro pins s σ H D I h
 obtain ⟨cl,hclos,hcl,hcl2⟩:=comp_closure I ok
 rw [exec_Assign_Name_used _ _ _ _ hsw]
 refine wpAny_bind (wpAny_standAt (wpAny_bind ?_))
 show wpAny _ X.A (do let _ <- comprehension (.ListComp elt [⟨tg,iter,ifs,0⟩] scope pos) scope X.env _ (newList []) false (eval iter X.env) (some (assign (.Name y py) X.env))) _ _ s
 refine wpAny_bind (wpAny_mono (wpAny_comprehension_free (use:=some (assign (.Name y py) X.env)) (Q:=fun _ s'=>SP X pins D .next s') rfl hs hclos ok.kind (comp_names ok) (thn (hi pins s σ H _ I h) fun xv s1 h1=>thn h1 fun itv s2 h2=>?_)) (fun _ s' hq=>wpAny_pure (wpAny_pure hq)) fun _ _ e=>e)
 obtain ⟨it,fp,tn,J,H2,e,I2,T,st2,f2,hW⟩:=h2
 subst e
 refine comp_block (Q:=fun v H'=>gName i v σ H' D.nx) (RR:=fun acc C=>compPost (model X.prog X.w) X.A X.xe (some (assign (.Name y py) X.env)) (fun _ s'=>SP X pins D .next s') acc C) ok (hc pins σ) B hcl hcl2 I2 T st2 f2 hW ?_
 rintro D' C H' s' hI ⟨m,hm⟩ hHC hC1 hC2 hC3 hC4 q
 have I':Inv X pins σ H' s' := hI s'.heap (.refl ..)
 show wpAny _ X.A (assign (.Name y py) X.env (.ref D')) _ _ s'
 refine wpAny_assign_Name (store_ok2 I' hN hi' hy (show RelV (.ref D') (.ref D') from rfl) (fun s'' I'' ⟨a,hsa,ha⟩=>?_) hf)
 have ne:C ≠ a:=by
  rcases ha with rfl | ha
  ·exact hC2
  ·exact fun z=>hC3 y a ha z.symm
 refine ⟨m,hm.sameBut hsa ne,fun h' hs'=>?_⟩
 refine ⟨_,H',I''.turned (t' := s''.toks) (h' := h') (it:=C) (fun b o hb e=>(hs'.2 b hb).trans e) hHC hC2 (.inr hC1) (fun x c e z=>hC3 x c e z) hC4,q⟩
theorem pe_comp (ok:CompOk X scope own cap) (hc:X.calm=true) (hi:PI X tg iter wi) (B:BlockOk X scope own cap tg ifs elt g tt te) (hs:∀ x,foldedSetIterable iter X.env x=pure x:=by intro _; rfl) :
  PE X (.ListComp elt [⟨tg,iter,ifs,0⟩] scope pos) (tComp wi g tt te own.length cap):=pe_compC (cm:=fun X=>X.calm=true) ok (fun _ _ _ _ _ _ _ _ _=>hc) hi B hs
theorem ps_setComp {i:Nat}{y:Str}{py spos:Pos} (hN:X.N.Nodup) (hi':X.N[i]?=some y) (hy:Loc X.env.scope y) (ok:CompOk X scope own cap) (hc:X.calm=true) (hi:PI X tg iter wi) (B:BlockOk X scope own cap tg ifs elt g tt te)
  (hsw:swapsWith (.ListComp elt [⟨tg,iter,ifs,0⟩] scope pos) (some (.Name y py)) spos.line X.env=pure true:=by rfl)
  (hf:X.fn y=true ∨ X.env.scope.names.lookup y=some .local:=by first | exact .inl rfl | exact .inr rfl) (hs:∀ x,foldedSetIterable iter X.env x=pure x:=by intro _; rfl) :
  PS X (.Assign [.Name y py] (.ListComp elt [⟨tg,iter,ifs,0⟩] scope pos) spos) (tAsg (tComp wi g tt te own.length cap) (gName i)) :=
 ps_setCompC (cm:=fun X=>X.calm=true) hN hi' hy ok (fun _ _ _ _ _ _ _ _ _=>hc) hi B hsw hf hs
end
section
variable {prog:Program}{w:World}{A:Around}{E:Value->Shared->Prop}{s:Shared}
theorem nextOf_tup_item {it t:Addr}{i:Nat}{items:Array Value}{x:Value}{Q:Value->Shared->Prop} (hit:s.heap.IsTupleIter it t i) (ht:s.heap.IsTuple t items) (hx:items[i]?=some x)
  (hQ:∀ h',h'.IsTupleIter it t (i + 1)->Heap.SameBut it s.heap h'->Q x { s with heap:=h' }):wpAny (model prog w) A (Builtin.SmallTypes.nextOf (.ref it)) Q E s:=by
 obtain ⟨o,ho,hc,hd⟩:=id hit
 obtain ⟨ot,hot,_,nt,hdt⟩:=ht
 unfold Builtin.SmallTypes.nextOf
 refine wpAny_bind (wpAny_callSpecial?_slot (name:=Str.ofString "__next__") hit.typeIs F.slot_tuple_iterator_next (wpAny_call_entry F.slot_tuple_iterator_next hit.typeIs F.entry_tuple_iterator_next ?_ (F.args_tuple_iterator_next_1 _)))
 show wpAny _ _ (field (.ref it) 0 >>= _) _ _ s
 refine wpAny_bind (wpAny_field ho hd (x := .ref t) rfl ?_)
 show wpAny _ _ (if (Value.ref t == Value.none)=true then _ else _) _ _ s
 rw [if_neg (fun z:(Value.ref t == Value.none)=true=>Bool.false_ne_true z)]
 show wpAny _ _ (field (.ref it) 1 >>= _) _ _ s
 refine wpAny_bind (wpAny_field ho hd (x := .int i 0) rfl ?_)
 show wpAny _ _ (seqItems? (.ref t) >>= _) _ _ s
 refine wpAny_bind (wpAny_seqItems hot hdt ?_)
 simp only [Int.toNat_natCast,hx]
 refine wpAny_bind (wpAny_setField ho hd (by simp) (wpAny_pure ⟨x,rfl,wpAny_pure (hQ _ ⟨_,Heap.get?_update_self _ ho (Obj.isFreed_of_fields (Obj.data_mapFields hd _)),(Obj.cls_mapFields ..).trans hc,?_⟩ (Heap.SameBut.update ..))⟩))
 rw [Obj.data_mapFields hd]
 simp [rawInt]
theorem nextOf_tup_end {it t:Addr}{i:Nat}{items:Array Value}{Q:Value->Shared->Prop} (hh:A.handled=none) (hit:s.heap.IsTupleIter it t i) (ht:s.heap.IsTuple t items) (hx:items[i]?=none)
  (hE:∀ h' e,Heap.ExtBut it s.heap h'->(∃ o,h'.get? e=some o/\o.cls=.type "StopIteration")->E (.ref e) { s with heap:=h' }):wpAny (model prog w) A (Builtin.SmallTypes.nextOf (.ref it)) Q E s:=by
 obtain ⟨o,ho,hc,hd⟩:=id hit
 obtain ⟨ot,hot,_,nt,hdt⟩:=ht
 unfold Builtin.SmallTypes.nextOf
 refine wpAny_bind (wpAny_callSpecial?_slot (name:=Str.ofString "__next__") hit.typeIs F.slot_tuple_iterator_next (wpAny_call_entry F.slot_tuple_iterator_next hit.typeIs F.entry_tuple_iterator_next ?_ (F.args_tuple_iterator_next_1 _)))
 show wpAny _ _ (field (.ref it) 0 >>= _) _ _ s
 refine wpAny_bind (wpAny_field ho hd (x := .ref t) rfl ?_)
 show wpAny _ _ (if (Value.ref t == Value.none)=true then _ else _) _ _ s
 rw [if_neg (fun z:(Value.ref t == Value.none)=true=>Bool.false_ne_true z)]
 show wpAny _ _ (field (.ref it) 1 >>= _) _ _ s
 refine wpAny_bind (wpAny_field ho hd (x := .int i 0) rfl ?_)
 show wpAny _ _ (seqItems? (.ref t) >>= _) _ _ s
 refine wpAny_bind (wpAny_seqItems hot hdt ?_)
 simp only [Int.toNat_natCast,hx]
 refine wpAny_bind (wpAny_rule (wpAny_bind (wpAny_setField ho hd (by simp) ?_)))
 show wpAny _ _ (newExc (.type "StopIteration") [] >>= _) _ _ _
 refine wpAny_bind ?_
 simp only [newExc,newTuple]
 refine wpAny_bind (wpAny_newObj_type ?_ (by size_fits))
 refine wpAny_bind (m:=firstArgMember _ _) (wpAny_of_eq (a:=Value.none) (by first | rfl | (simp only [firstArgMember]; rfl)) ?_)
 refine wpAny_newObj_type ?_ (by size_fits)
 simp only [raiseNew]
 refine wpAny_bind (wpAny_handled ?_)
 first | rw [show A.in1.handled=none from hh] | rw [hh]
 exact wpAny_bind (wpAny_pure (wpAny_throw (hE _ _ (((Heap.SameBut.update ..).extBut.push _).push _) ⟨_,Heap.get?_push_size _ rfl,rfl⟩)))
theorem enum_item {e it:Addr}{i:Nat}{x old:Value}{R:Obj->Prop}{Q:Option Value->Shared->Prop} (he:IsEnum s.heap e it i old) (hne:e ≠ it)
  (hn:∀ (A':Around) (E' Q':Value->Shared->Prop),(∀ h',(∃ o,h'.get? it=some o/\R o)->Heap.SameBut it s.heap h'->Q' x { s with heap:=h' })->wpAny (model prog w) A' (Builtin.SmallTypes.nextOf (.ref it)) Q' E' s)
  (hQ:∀ h',IsEnumOut h' e it ((i:Int) + 1) x s.heap.objs.size->(∃ o,h'.get? it=some o/\R o)->h'.get? s.heap.objs.size=some { cls := .type "tuple",data := .seq #[.int i s.toks,x] }->h'.objs.size=s.heap.objs.size + 1 ->
   (∀ b o,b ≠ e->b ≠ it->s.heap.get? b=some o->h'.get? b=some o)->Q (some (.ref s.heap.objs.size)) { s with heap:=h',toks:=s.toks + 1 }) :
  wpAny (model prog w) A (pyNext (.ref e)) Q E s:=by
 have hT:s.TypeIs (.ref e) "enumerate" := ⟨_,he,rfl⟩
 unfold pyNext
 refine wpAny_bind (wpAny_attempt (wpAny_callSpecial?_slot (name:=Str.ofString "__next__") hT F.slot_enumerate_next (wpAny_call_entry F.slot_enumerate_next hT F.entry_enumerate_next ?_ (F.args_enumerate_next_1 _))))
 obtain ⟨hp,g,d,tk,os⟩:=s
 show wpAny _ _ (field (.ref e) 2 >>= _) _ _ _
 refine wpAny_bind (wpAny_field he rfl (x := .ref it) rfl (wpAny_bind (hn _ _ _ fun h₁ hit₁ hs₁=>?_)))
 replace hs₁:Heap.SameBut it hp h₁:=hs₁
 have he₁:IsEnum h₁ e it i old:=(hs₁.2 e hne).trans he
 show wpAny _ _ (field (.ref e) 3 >>= _) _ _ ⟨h₁,g,d,tk,os⟩
 refine wpAny_bind (wpAny_field he₁ rfl (x:=rawInt i) rfl ?_)
 show wpAny _ _ (field (.ref e) 4 >>= _) _ _ ⟨h₁,g,d,tk,os⟩
 refine wpAny_bind (wpAny_field he₁ rfl (x := .none) rfl ?_)
 show wpAny _ _ (mkInt i >>= _) _ _ ⟨h₁,g,d,tk,os⟩
 refine wpAny_bind (wpAny_mkInt ?_)
 show wpAny _ _ (setField (.ref e) 3 (rawInt ((i:Int) + 1)) >>= _) _ _ ⟨h₁,g,d,tk + 1,os⟩
 refine wpAny_bind (wpAny_setField_rec he₁ (by simp) fun h₂ he₂ hs₂=>?_)
 replace hs₂:Heap.SameBut e h₁ h₂:=hs₂
 replace he₂:IsEnum h₂ e it ((i:Int) + 1) old:=he₂
 show wpAny _ _ (setField (.ref e) 4 .none >>= _) _ _ ⟨h₂,g,d,tk + 1,os⟩
 refine wpAny_bind (wpAny_setField_rec he₂ (by simp) fun h₃ he₃ hs₃=>?_)
 replace hs₃:Heap.SameBut e h₂ h₃:=hs₃
 replace he₃:IsEnum h₃ e it ((i:Int) + 1) old:=he₃
 show wpAny _ _ (newTuple [.int i tk,x] >>= _) _ _ ⟨h₃,g,d,tk + 1,os⟩
 refine wpAny_bind (wpAny_newTuple ?_)
 have sz:h₃.objs.size=hp.objs.size:=by rw [hs₃.1,hs₂.1,hs₁.1]
 have hel:e < hp.objs.size:=Heap.lt_size he
 obtain ⟨h₄,hh₄⟩:∃ h₄,h₄=h₃.push { cls := .type "tuple",data := .seq #[.int i tk,x] }:=⟨_,rfl⟩
 have he₄:IsEnum h₄ e it ((i:Int) + 1) old:=by rw [hh₄]; exact Heap.get?_push_of_some _ he₃
 have ht₄:h₄.get? hp.objs.size=some { cls := .type "tuple",data := .seq #[.int i tk,x] }:=by rw [hh₄,<- sz]; exact Heap.get?_push_size _ rfl
 have hz₄:h₄.objs.size=hp.objs.size + 1:=by rw [hh₄,Heap.size_push,sz]
 have hk₄:∀ b o,b ≠ e->b ≠ it->hp.get? b=some o->h₄.get? b=some o:=fun b o hbe hbi hb=>by
  rw [hh₄]
  exact Heap.get?_push_of_some _ (hs₃.extBut b o hbe (hs₂.extBut b o hbe (hs₁.extBut b o hbi hb)))
 have hit₄:∃ o,h₄.get? it=some o/\R o:=by
  obtain ⟨o,ho,r⟩:=hit₁
  rw [hh₄]
  exact ⟨o,Heap.get?_push_of_some _ (hs₃.extBut it o (Ne.symm hne) (hs₂.extBut it o (Ne.symm hne) ho)),r⟩
 rw [<- hh₄]
 show wpAny _ _ (Builtin.SmallTypes.ownedTupleIsFree (.ref e) >>= _) _ _ ⟨h₄,g,d,tk + 1,os⟩
 rw [sz]
 clear hh₄ he₃ hs₃ he₂ hs₂ he₁ hs₁ hit₁ sz h₃ h₂ h₁
 refine wpAny_bind ?_
 unfold Builtin.SmallTypes.ownedTupleIsFree
 refine wpAny_bind (wpAny_field he₄ rfl (x := .none) rfl (wpAny_pure ?_))
 simp only [if_true]
 refine wpAny_bind (wpAny_rule (wpAny_bind (wpAny_field he₄ rfl (x:=old) rfl (wpAny_bind (wpAny_setField_rec he₄ (by simp) fun h₅ he₅ hs₅=>?_)))))
 replace hs₅:Heap.SameBut e h₄ h₅:=hs₅
 replace he₅:IsEnum h₅ e it ((i:Int) + 1) x:=he₅
 show wpAny _ _ (Builtin.SmallTypes.ownedTupleHandOut (.ref e) (.ref hp.objs.size) >>= _) _ _ ⟨h₅,g,d,tk + 1,os⟩
 refine wpAny_bind ?_
 unfold Builtin.SmallTypes.ownedTupleHandOut
 refine wpAny_bind (wpAny_setField_rec he₅ (by simp) fun h₆ he₆ hs₆=>?_)
 replace hs₆:Heap.SameBut e h₅ h₆:=hs₆
 replace he₆:IsEnumOut h₆ e it ((i:Int) + 1) x hp.objs.size:=he₆
 refine wpAny_setField_rec he₆ (by simp) fun h₇ he₇ hs₇=>?_
 replace hs₇:Heap.SameBut e h₆ h₇:=hs₇
 replace he₇:IsEnumOut h₇ e it ((i:Int) + 1) x hp.objs.size:=he₇
 have up:∀ b o,b ≠ e->h₄.get? b=some o->h₇.get? b=some o:=fun b o hb q=>hs₇.extBut b o hb (hs₆.extBut b o hb (hs₅.extBut b o hb q))
 refine wpAny_bind (wpAny_letGo (wpAny_pure ⟨_,rfl,wpAny_pure (hQ h₇ he₇ ?_ (up _ _ (Nat.ne_of_gt hel) ht₄) (by rw [hs₇.1,hs₆.1,hs₅.1,hz₄]) fun b o hbe hbi hb=>up b o hbe (hk₄ b o hbe hbi hb))⟩))
 obtain ⟨o,ho,r⟩:=hit₄
 exact ⟨o,up it o (Ne.symm hne) ho,r⟩
theorem enum_end {e it:Addr}{i:Nat}{old:Value}{Q:Option Value->Shared->Prop} (he:IsEnum s.heap e it i old)
  (hn:∀ (A':Around) (E' Q':Value->Shared->Prop),A'.handled=A.handled->(∀ h' x,Heap.ExtBut it s.heap h'->(∃ o,h'.get? x=some o/\o.cls=.type "StopIteration")->E' (.ref x) { s with heap:=h' })->wpAny (model prog w) A' (Builtin.SmallTypes.nextOf (.ref it)) Q' E' s)
  (hQ:∀ h',Heap.ExtBut it s.heap h'->Q none { s with heap:=h' }):wpAny (model prog w) A (pyNext (.ref e)) Q E s:=by
 have hT:s.TypeIs (.ref e) "enumerate" := ⟨_,he,rfl⟩
 unfold pyNext
 refine wpAny_bind (wpAny_attempt (wpAny_callSpecial?_slot (name:=Str.ofString "__next__") hT F.slot_enumerate_next (wpAny_call_entry F.slot_enumerate_next hT F.entry_enumerate_next ?_ (F.args_enumerate_next_1 _))))
 show wpAny _ _ (field (.ref e) 2 >>= _) _ _ _
 refine wpAny_bind (wpAny_field he rfl (x := .ref it) rfl (wpAny_bind (hn _ _ _ rfl fun h' x he' hx'=>?_)))
 obtain ⟨o,ho,hc⟩:=hx'
 exact wpAny_bind (wpAny_isInstance (T := "StopIteration") (b:=true) ⟨o,ho,hc⟩ isSubtype_stop (wpAny_pure (hQ _ he')))
set_option maxHeartbeats 4000000 in
theorem meets_enum_newT (t:Addr) (items:Array Value) (n:Nat) (dct:Option Addr) (sl:Array (Option Value)) :
  Meets (Builtin.«enumerate.__new__» ⟨[.type "enumerate",.ref t],[]⟩) (fun _ R s=>s.heap.get? t=some { cls := .type "tuple",dict:=dct,data := .seq items n,slots:=sl } /\
   R (.ok (.ret (.ref (s.heap.push { cls := .type "tuple_iterator",data := .fields #[.ref t,.int 0 0] }).objs.size)))
    { s with heap:=(s.heap.push { cls := .type "tuple_iterator",data := .fields #[.ref t,.int 0 0] }).push { cls := .type "enumerate",data := .fields #[.none,.bool false,.ref s.heap.objs.size,rawInt 0,.none,.none] } }) :=
 .of_wp fun prog w A R s h=>by
  obtain ⟨hp,g,d,tk,os⟩:=s
  obtain ⟨ht,h⟩:=h
  have hsub:=sub_enumerate
  have hT:Heap.IsTuple (Shared.heap ⟨hp,g,d,tk,os⟩) t items:=⟨_,ht,rfl,n,rfl⟩
  wp_walk using AutoSeq1.wpAny_loadPart' ht
  refine wpAny_stack_any fun st=>wpAny_pure ?_
  split
  ·rename_i c _ _ _ _ _
   cases (c == Value.type "enumerate") <;> (wp_walk using AutoSeq1.wpAny_loadPart' ht,wpAny_pyIter_tuple hT; exact ⟨_,rfl,h⟩)
  ·wp_walk using AutoSeq1.wpAny_loadPart' ht,wpAny_pyIter_tuple hT
   exact ⟨_,rfl,h⟩
theorem call_enum_tup {t:Addr}{items:Array Value}{Q:Value->Shared->Prop} (hT:s.heap.IsTuple t items)
  (h:∀ h',IsEnum h' (s.heap.objs.size + 1) s.heap.objs.size 0 .none->h'.IsTupleIter s.heap.objs.size t 0->(∀ b o,s.heap.get? b=some o->h'.get? b=some o)->Q (.ref (s.heap.objs.size + 1)) { s with heap:=h' }) :
  wpAny (model prog w) A (call (.type "enumerate") [.ref t]) Q E s:=by
 obtain ⟨⟨c,dct,dt,sl⟩,hl,hc,n,hd⟩:=hT
 have hc:c=.type "tuple" := hc
 have hd:dt=.seq items n:=hd
 subst hc hd
 refine callType_new F.called_enumerate (by decide) (F.typeCall_enumerate_1 _) (F.newCall_enumerate_1 _) (fun obj=>F.args_object_init_2 obj _) F.entry_enumerate_new (meets_enum_newT t items n dct sl) ⟨hl,?_⟩
 have hz:(s.heap.push { cls := .type "tuple_iterator",data := .fields #[.ref t,.int 0 0] }).objs.size=s.heap.objs.size + 1:=Heap.size_push ..
 show _/\_
 rw [hz]
 have q:=Heap.get?_push_size (s.heap.push { cls := .type "tuple_iterator",data := .fields #[.ref t,.int 0 0] }) (o := { cls := .type "enumerate",data := .fields #[.none,.bool false,.ref s.heap.objs.size,rawInt 0,.none,.none] }) rfl
 rw [hz] at q
 exact ⟨⟨_,q,rfl⟩,h _ q ⟨_,Heap.get?_push_of_some _ (Heap.get?_push_size _ rfl),rfl,rfl⟩ fun b o x=>Heap.get?_push_of_some _ (Heap.get?_push_of_some _ x)⟩
end
theorem hok_add {P:Program}{w:World}{H:Hp}{h:Heap}{p:Addr}{o:HO} (x:HOk P w H h) (hn:H p=none) (new:ObjOk P w (upd H p o) h p o):HOk P w (upd H p o) h:=fun a u e=>by
 by_cases q:a=p
 ·subst q
  rw [upd_same] at e
  cases e
  exact new
 ·rw [upd_ne q] at e
  exact (x a u e).stay (fun _ _ _ z=>z) (fun b z=>by rw [upd_ne (ne_of_none z hn)]; exact z) fun b xs z=>by rw [upd_ne (ne_of_none z hn)]; exact z
def Ite (src:Hp->List V->Prop):It :=
 ⟨fun i H=>∃ xs x,src H xs/\xs[i]?=some x,fun i H x H'=>∃ p y,x=.ref p/\H p=none/\H'=upd H p (.tup [.int i,y])/\∀ xs,src H xs->xs[i]?=some y,fun i H=>∃ xs,src H xs/\xs.length <= i⟩
structure Src (P:Program) (w:World) (K:PySem.W.Frag) (a it:Addr) (src:Hp->List V->Prop) (nx:Nat->Obj->Prop):Prop where
 dat:∀ i o,nx i o->∀ v,o.data ≠ .cell v
 item:∀ (X:Cx),X.prog=P->X.w=w->X.K=K->∀ (pins:List (Addr × Obj)) (σ:St) (H:Hp) (s:Shared) (xs:List V) (i:Nat) (x:V),Inv X pins σ H s->src H xs->xs[i]?=some x->(∃ o,s.heap.get? it=some o/\nx i o) ->
  ∃ u,RelV x u/\∀ (A':Around) (E' Q':Value->Shared->Prop),(∀ h',(∃ o,h'.get? it=some o/\nx (i + 1) o)->Heap.SameBut it s.heap h'->Q' u { s with heap:=h' })->wpAny (model P w) A' (Builtin.SmallTypes.nextOf (.ref it)) Q' E' s
 done:∀ (X:Cx),X.prog=P->X.w=w->X.K=K->∀ (pins:List (Addr × Obj)) (σ:St) (H:Hp) (s:Shared) (xs:List V) (i:Nat),Inv X pins σ H s->src H xs->xs.length <= i->(∃ o,s.heap.get? it=some o/\nx i o) ->
  ∀ (A':Around) (E' Q':Value->Shared->Prop),A'.handled=none->(∀ h' x,Heap.ExtBut it s.heap h'->(∃ o,h'.get? x=some o/\o.cls=.type "StopIteration")->E' (.ref x) { s with heap:=h' })->wpAny (model P w) A' (Builtin.SmallTypes.nextOf (.ref it)) Q' E' s
 inj:∀ (X:Cx),X.prog=P->X.w=w->X.K=K->∀ (pins:List (Addr × Obj)) (σ:St) (H:Hp) (s:Shared) (xs ys:List V),Inv X pins σ H s->src H xs->src H ys->xs=ys
theorem src_list {P:Program}{w:World}{K:PySem.W.Frag} (a it:Addr):Src P w K a it (fun H xs=>SqL K H a xs) (fun i o=>o.cls=.type "list_iterator" /\ o.data=.fields #[.ref a,.int i 0]) where
 dat:=fun i o h v z=>by rw [h.2] at z; cases z
 item:=by
  intro X hP hw hK pins σ H s xs i x I hq hx ho
  subst hP hw hK
  obtain ⟨its,rv,p,hz⟩:=I.list hq
  obtain ⟨u,hu,ru⟩:=rv.get hx
  obtain ⟨o,h1,h2,h3⟩:=ho
  exact ⟨u,ru,fun A' E' Q' hQ=>wpAny_nextOf_list_item ⟨o,h1,h2,h3⟩ p.isList (by simpa using hu) fun h' st sb=>hQ h' st sb⟩
 done:=by
  intro X hP hw hK pins σ H s xs i I hq hx ho A' E' Q' hh hE
  subst hP hw hK
  obtain ⟨its,rv,p,hz⟩:=I.list hq
  obtain ⟨o,h1,h2,h3⟩:=ho
  have hl:=rv.length
  exact wpAny_nextOf_list_end hh ⟨o,h1,h2,h3⟩ p.isList (by simp; omega) hE
 inj:=by
  intro X hP hw hK pins σ H s xs ys I h1 h2
  subst hP hw hK
  exact I.list_inj h1 h2
theorem isTuple_of {h:Heap}{a:Addr}{its:Array Value} (x:IsTup h a its):h.IsTuple a its:=by
 obtain ⟨o,h1,h2,h3⟩:=x
 exact ⟨o,h1,h2,h3⟩
theorem src_tup {P:Program}{w:World}{K:PySem.W.Frag} (a it:Addr):Src P w K a it (fun H xs=>SqT K H a xs) (fun i o=>o.cls=.type "tuple_iterator" /\ o.data=.fields #[.ref a,.int i 0]) where
 dat:=fun i o h v z=>by rw [h.2] at z; cases z
 item:=by
  intro X hP hw hK pins σ H s xs i x I hq hx ho
  subst hP hw hK
  obtain ⟨its,rv,p,hz⟩:=I.tuple hq
  obtain ⟨u,hu,ru⟩:=rv.get hx
  obtain ⟨o,h1,h2,h3⟩:=ho
  exact ⟨u,ru,fun A' E' Q' hQ=>nextOf_tup_item ⟨o,h1,h2,h3⟩ (isTuple_of p) (by simpa using hu) fun h' st sb=>hQ h' st sb⟩
 done:=by
  intro X hP hw hK pins σ H s xs i I hq hx ho A' E' Q' hh hE
  subst hP hw hK
  obtain ⟨its,rv,p,hz⟩:=I.tuple hq
  obtain ⟨o,h1,h2,h3⟩:=ho
  have hl:=rv.length
  exact nextOf_tup_end hh ⟨o,h1,h2,h3⟩ (isTuple_of p) (by simp; omega) hE
 inj:=by
  intro X hP hw hK pins σ H s xs ys I h1 h2
  subst hP hw hK
  exact I.tuple_inj h1 h2
theorem turn_enum {P:Program}{w:World}{K:PySem.W.Frag}{elts:List Expr}{x1:Nat}{tp:Pos}{a it e:Addr}{src:Hp->List V->Prop}{nx:Nat->Obj->Prop} (S:Src P w K a it src nx) (hne:e ≠ it) :
  Turn P w K (.Tuple elts x1 tp) (Ite src) [e,it] e (fun i h=>(∃ old,IsEnum h e it (i:Nat) old)/\∃ o,h.get? it=some o/\nx i o) where
 mem:=by simp
 obj:=fun i h st b hb=>by
  obtain ⟨⟨old,h1⟩,o,h2,h3⟩:=st
  rcases List.mem_cons.mp hb with q | q
  ·subst q
   exact ⟨_,h1,fun v z=>by cases z⟩
  ·have q:b=it:=by simpa using q
   subst q
   exact ⟨o,h2,S.dat i o h3⟩
 keep:=fun i h h' st k=>by
  obtain ⟨⟨old,h1⟩,o,h2,h3⟩:=st
  exact ⟨⟨old,k e (by simp) _ h1⟩,o,k it (by simp) o h2,h3⟩
 item:=by
  intro X hP hw hK hc i pins s σ H E I hf st hg
  obtain ⟨xs,x,hq,hx⟩:=hg
  obtain ⟨⟨old,h1⟩,ho⟩:=st
  obtain ⟨u,ru,hnx⟩:=S.item X hP hw hK pins σ H s xs i x I hq hx ho
  have inj:=fun ys (hy:src H ys)=>S.inj X hP hw hK pins σ H s ys xs I hy hq
  obtain ⟨f0,f1,f2,f3,f4,f5⟩:=hf e (by simp)
  obtain ⟨g0,g1,g2,g3,g4,g5⟩:=hf it (by simp)
  subst hP hw hK
  have hel:e < s.heap.objs.size:=Heap.lt_size h1
  refine enum_item h1 hne hnx fun h' k1 k2 k3 k4 k5=>⟨_,rfl,wpAny_letOwnedTupleGo_enum k1 fun h'' m1 m2=>?_⟩
  have m2:Heap.SameBut e h' h'' := m2
  have fr:H s.heap.objs.size=none:=I.fresh
  have kp:∀ b o,b ≠ e->b ≠ it->s.heap.get? b=some o->h''.get? b=some o:=fun b o hb hb' q=>(m2.2 b hb).trans (k5 b o hb hb' q)
  have tp:h''.get? s.heap.objs.size=some { cls := .type "tuple",data := .seq #[.int i s.toks,u] }:=(m2.2 _ (Nat.ne_of_gt hel)).trans k3
  have ok1:HOk X.prog X.w H h'' := fun b o hb=>(I.hok b o hb).stay (fun c v hcb q=>kp c v (fun z=>by
    subst z
    rcases hcb with z | z
    ·subst z
     rw [f0] at hb
     cases hb
    ·rw [f0] at z
     cases z) (fun z=>by
    subst z
    rcases hcb with z | z
    ·subst z
     rw [g0] at hb
     cases hb
    ·rw [g0] at z
     cases z) q) (fun _ z=>z) fun _ _ z=>z
  have ok2:HOk X.prog X.w (upd H s.heap.objs.size (.tup [.int i,x])) h'' := hok_add ok1 fr ⟨by show 2 <= sizeLine; decide,[.int i s.toks,u],.cons ⟨_,rfl⟩ (.cons ru .nil),⟨_,tp⟩⟩
  have I2:Inv X pins σ (upd H s.heap.objs.size (.tup [.int i,x])) { s with heap:=h'',toks:=s.toks + 1 }:=by
   refine I.step (g' := s.gens) (d' := s.drawn) (ch := [e,it]) (fun b hb=>?_) (fun b o _ _ hb q _=>kp b o (fun z=>hb (by simp [z])) (fun z=>hb (by simp [z])) q) (fun b o _ _ hb q _=>⟨o.slots,kp b o (fun z=>hb (by simp [z])) (fun z=>hb (by simp [z])) q⟩)
    (fun b o _ q n=>by rw [upd_ne (Nat.ne_of_lt (Heap.lt_size q))]; exact n) (fun b o hb q=>⟨o,kp b o (fun z=>hb (by simp [z])) (fun z=>hb (by simp [z])) q⟩)
    (fun b ys q=>by rw [upd_ne (ne_of_none q fr)]; exact q) (fun b o v q=>by rw [upd_ne (ne_of_none q fr)]; exact q) (fun b ps q=>⟨#[],by rw [upd_ne (ne_of_none q fr),Array.append_empty]; exact q⟩)
    (fun m hm=>hm.at fun o q=>kp _ o (Ne.symm f1) (Ne.symm g1) q) ok2 I.bare
   rcases List.mem_cons.mp hb with z | z
   ·subst z
    exact ⟨f3,f1,f4,f5⟩
   ·have z:b=it:=by simpa using z
    subst z
    exact ⟨g3,g1,g4,g5⟩
  obtain ⟨oi,hoi,ri⟩:=k2
  refine ⟨.ref s.heap.objs.size,_,I2,rfl,⟨_,x,rfl,fr,rfl,fun ys hy=>by rw [inj ys hy]; exact hx⟩,⟨⟨u,?_⟩,oi,(m2.2 it (Ne.symm hne)).trans hoi,ri⟩,fun b hb=>?_⟩
  ·have m1:IsEnum h'' e it ((i:Int) + 1) u:=m1
   have z:(((i + 1:Nat)):Int)=(i:Int) + 1:=by omega
   rw [z]
   exact m1
  ·have lt:b < s.heap.objs.size:=by
    rcases List.mem_cons.mp hb with z | z
    ·rw [z]
     exact hel
    ·have z:b=it:=by simpa using z
     obtain ⟨o,q,_⟩:=ho
     rw [z]
     exact Heap.lt_size q
   rw [upd_ne (Nat.ne_of_lt lt)]
   exact (hf b hb).1
 done:=by
  intro X hP hw hK hc i pins s σ H E I hf st hg
  obtain ⟨xs,hq,hx⟩:=hg
  obtain ⟨⟨old,h1⟩,ho⟩:=st
  have hd:=S.done X hP hw hK pins σ H s xs i I hq hx ho
  obtain ⟨g0,g1,g2,g3,g4,g5⟩:=hf it (by simp)
  subst hP hw hK
  exact enum_end h1 (fun A' E' Q' hA hE=>hd A' E' Q' (hA.trans (I.ok.hd hc)) hE) fun h' eb=>⟨rfl,I.turned (t' := s.toks) (fun b o hb q=>eb b o hb q) g0 g1 g3 g4 g5⟩
 self:=fun _ _ _ _ _ st h=>by
  obtain ⟨⟨old,h1⟩,_⟩:=st
  exact wpAny_pyIter_enum h1 h
section
variable {X:Cx}{elts:List Expr}{x1:Nat}{tp p pos:Pos}{l:Expr}{ta:TA}
end
section
variable {X:Cx}
theorem call_sorted:CallR X (.builtin "sorted") (fun xs H Q=>∃ (a:Addr) (ns:List Int),xs=[.ref a]/\SqL X.K H a (ns.map V.int)/\ns.length < 64/\∀ (p:Addr) (ns':List Int),H p=none->ns'.Perm ns->ns'.Pairwise (· <= ·)->Q (.ref p) (upd H p (.lst (ns'.map V.int)))):=by
 intro pins s σ H xs us Q I r h
 obtain ⟨a,ns,rfl,hq,hl,q⟩:=h
 obtain ⟨u,rfl,ru⟩:=vals1 r
 cases ru
 obtain ⟨its,rv,pl,hz⟩:=I.list hq
 have hi:=intsAre_of rv
 have hlen:=rv.length
 rw [List.length_map] at hlen
 refine sorted_ints pl.isList hi (by omega) fun out ns' a1 a2 a3=>?_
 obtain ⟨e,he⟩:=sortedAll_at s.heap its out
 refine ⟨.ref (s.heap.objs.size + 1),_,I.laid (t' := s.toks) (fun b o z=>sortedAll_old z) (Nat.le_succ _) ?_,rfl,q _ ns' (I.hok.fresh (Nat.le_succ _)) a2 a3⟩
 refine ⟨?_,out.toList,e,vals_ints a1,by rw [Array.toArray_toList]; exact he⟩
 rw [List.length_map,a2.length_eq]
 exact Nat.le_trans (Nat.le_of_lt hl) (by decide)
def dd (ns:List Int):List Int:=firstMet (fun i=>ns.getD i 0) ns.length
end
def relabelS (scope sc:Scope):Scope :=
 { scope with names:=scope.names.map fun (n,k)=>if (k == .free && sc.kind == .function && sc.names.lookup n == some .cell) then (n,.cell) else (n,k) }
theorem relabel_eq (scope:Scope) (env:Env):relabel scope env=relabelS scope env.scope:=rfl
def compChk (sc:Scope) (N:List Str) (scope:Scope) (cap:List (Str × Nat)):Bool :=
 decide (scope.kind=.function) && decide ((scope.names.map (·.1)).Nodup) &&
 (scope.names.all fun y=>!(y.2 == .free) || (sc.names.lookup y.1 == some .cell || sc.names.lookup y.1 == some .free)) &&
 (cap.all fun p=>(N[p.2]? == some p.1) && scope.names.contains (p.1,NameKind.free))
theorem compOk_mk {X:Cx}{scope:Scope}{own:List Str}{cap:List (Str × Nat)} (sc:Scope) (hsc:X.env.scope=sc) (N:List Str) (hN:X.N=N) (h:compChk sc N scope cap=true):CompOk X scope own cap:=by
 simp only [compChk,Bool.and_eq_true,decide_eq_true_eq] at h
 obtain ⟨⟨⟨h1,h2⟩,h3⟩,h4⟩:=h
 refine ⟨h1,h2,fun y hy hk=>?_,fun p hp=>?_⟩
 ·have q:=List.all_eq_true.mp h3 y hy
  show X.env.scope.names.lookup y.1=some .cell ∨ X.env.scope.names.lookup y.1=some .free
  rw [hsc]
  rw [hk] at q
  simpa using q
 ·have q:=List.all_eq_true.mp h4 p hp
  rw [Bool.and_eq_true] at q
  rw [hN]
  exact ⟨by simpa using q.1,by simpa using q.2⟩
structure Cal (P:Program) (w:World) (K:PySem.W.Frag) (mg:Str->Option Value) (base:Heap) (k:Nat) (x:Str) (ps:List Str) (sp:Sp):Prop where
 ex:∃ f fd,mg x=some (.ref f)/\PySem.W.keepIn K (.ref f)=true/\Binds K fd ps []/\FnOk P w K mg base CX0 k f fd ps sp
structure Dfn (K:PySem.W.Frag) (mg:Str->Option Value) (x:Str) (st:Stmt) (ps:List Str):Prop where
 ex:∃ f fd,Fun K x x st f fd/\mg x=some (.ref f)/\Binds K fd ps []
section
variable {X:Cx}{k:Nat}{x:Str}{ps:List Str}{sp:Sp}{p pos:Pos}{e:Expr}{es:List Expr}{t:TA}
theorem pe_cal (C:Cal X.prog X.w X.K X.mg X.base k x ps sp) (hr:Room k X.A) (hg:Gl X x) (ha:PA X (e :: es) t) (hdb:(x == ("__debug__" : Str))=false:=by decide)
  (he:starEach (e :: es) X.env=(false,eval e X.env) :: starEach es X.env:=by rfl) (hpl:(backTo pos (starEach es X.env)).any (·.1)=false:=by rfl):PE X (.Call (.Name x p) (e :: es) [] pos) (tCall sp [] E0 t):=by
 obtain ⟨f,fd,hm,hk,hb,F⟩:=C.ex
 exact pe_call F hr hg hm hk hb .nil pass0 ha hdb he hpl
end
structure RawSrc (a it:Addr) (its:Array Value) (seq:Heap->Prop) (nx:Nat->Obj->Prop):Prop where
 ext:∀ {h h':Heap},seq h->(∀ o,h.get? a=some o->h'.get? a=some o)->seq h'
 item:∀ {P:Program}{w:World}{A:Around}{E:Value->Shared->Prop}{s:Shared}{i:Nat}{x:Value}{Q:Value->Shared->Prop},seq s.heap->(∃ o,s.heap.get? it=some o/\nx i o)->its[i]?=some x ->
  (∀ h',(∃ o,h'.get? it=some o/\nx (i + 1) o)->Heap.SameBut it s.heap h'->Q x { s with heap:=h' })->wpAny (model P w) A (Builtin.SmallTypes.nextOf (.ref it)) Q E s
 done:∀ {P:Program}{w:World}{A:Around}{E:Value->Shared->Prop}{s:Shared}{i:Nat}{Q:Value->Shared->Prop},A.handled=none->seq s.heap->(∃ o,s.heap.get? it=some o/\nx i o)->its[i]?=none ->
  (∀ h' e,Heap.ExtBut it s.heap h'->(∃ o,h'.get? e=some o/\o.cls=.type "StopIteration")->E (.ref e) { s with heap:=h' })->wpAny (model P w) A (Builtin.SmallTypes.nextOf (.ref it)) Q E s
abbrev nxL (a:Addr) (i:Nat) (o:Obj):Prop:=o.cls=.type "list_iterator" /\ o.data=.fields #[.ref a,.int i 0]
abbrev nxT (a:Addr) (i:Nat) (o:Obj):Prop:=o.cls=.type "tuple_iterator" /\ o.data=.fields #[.ref a,.int i 0]
theorem raw_list (a it:Addr) (its:Array Value):RawSrc a it its (fun h=>h.IsList a its) (nxL a) where
 ext:=fun x k=>x.at k
 item:=fun hs ⟨o,h1,h2,h3⟩ hx hQ=>wpAny_nextOf_list_item ⟨o,h1,h2,h3⟩ hs hx fun h' st sb=>hQ h' st sb
 done:=fun hh hs ⟨o,h1,h2,h3⟩ hx hE=>wpAny_nextOf_list_end hh ⟨o,h1,h2,h3⟩ hs hx hE
theorem raw_tup (a it:Addr) (its:Array Value):RawSrc a it its (fun h=>h.IsTuple a its) (nxT a) where
 ext:=fun ⟨o,h1,h2⟩ k=>⟨o,k o h1,h2⟩
 item:=fun hs ⟨o,h1,h2,h3⟩ hx hQ=>nextOf_tup_item ⟨o,h1,h2,h3⟩ hs hx fun h' st sb=>hQ h' st sb
 done:=fun hh hs ⟨o,h1,h2,h3⟩ hx hE=>nextOf_tup_end hh ⟨o,h1,h2,h3⟩ hs hx hE
section
variable {prog:Program}{w:World}{A:Around}{E:Value->Shared->Prop}{s:Shared}{z TI TO i1 i2 l1 l2:Addr}{k:Nat}{xs ys:Array Value}{a b:Value}{seq1 seq2:Heap->Prop}{nx1 nx2:Nat->Obj->Prop}
theorem zipI_item {x y:Value}{Q:Option Value->Shared->Prop} (S1:RawSrc l1 i1 xs seq1 nx1) (S2:RawSrc l2 i2 ys seq2 nx2) (D:ZipApart z TI TO i1 i2 l1 l2) (hz:IsZip s.heap z TI TO .none) (hI:IsPair s.heap TI (.ref i1) (.ref i2)) (hO:IsPair s.heap TO a b)
  (h1:∃ o,s.heap.get? i1=some o/\nx1 k o) (h2:∃ o,s.heap.get? i2=some o/\nx2 k o) (hl1:seq1 s.heap) (hl2:seq2 s.heap) (hx:xs[k]?=some x) (hy:ys[k]?=some y)
  (hQ:∀ h',IsZip h' z TI TO (rawInt s.heap.objs.size)->IsPair h' TO x y->(∃ o,h'.get? i1=some o/\nx1 (k + 1) o)->(∃ o,h'.get? i2=some o/\nx2 (k + 1) o)->IsPair h' s.heap.objs.size x y ->
   (∀ c o,c ≠ z->c ≠ TO->c ≠ i1->c ≠ i2->s.heap.get? c=some o->h'.get? c=some o)->Q (some (.ref s.heap.objs.size)) { s with heap:=h' }):wpAny (model prog w) A (pyNext (.ref z)) Q E s:=by
 have hT:s.TypeIs (.ref z) "zip" := ⟨_,hz,rfl⟩
 unfold pyNext
 refine wpAny_bind (wpAny_attempt (wpAny_callSpecial?_slot (name:=Str.ofString "__next__") hT F.slot_zip_next (wpAny_call_entry F.slot_zip_next hT F.entry_zip_next ?_ (F.args_zip_next_1 _))))
 show wpAny _ _ (field (.ref z) 2 >>= _) _ _ _
 refine wpAny_bind (wpAny_field hz rfl (x := .bool false) rfl (show wpAny _ _ (field (.ref z) 3 >>= _) _ _ _ from wpAny_bind (wpAny_field hz rfl (x := .ref TI) rfl (wpAny_bind (wpAny_seqItems hI rfl ?_)))))
 show wpAny _ _ (Builtin.SmallTypes.ownedTupleIsFree (.ref z) >>= _) _ _ _; refine wpAny_bind ?_; unfold Builtin.SmallTypes.ownedTupleIsFree
 refine wpAny_bind (wpAny_field hz rfl (x := .none) rfl (wpAny_pure ?_)); simp only [if_true]
 refine wpAny_bind (wpAny_rule (wpAny_bind (wpAny_field hz rfl (x := .ref TO) rfl (wpAny_bind (wpAny_setField_rec hz (by simp) fun g1 hz1 hs1=>?_)))))
 replace hz1:IsZip g1 z TI TO .ellipsis:=hz1
 refine wpAny_bind ?_; simp only [List.zipIdx_cons,List.zipIdx_nil,List.forIn_cons,List.forIn_nil]
 refine wpAny_bind (wpAny_bind (wpAny_onRaise (show wpAny _ _ (Builtin.SmallTypes.nextOf (.ref i1) >>= _) _ _ _ from wpAny_bind (S1.item (S1.ext hl1 fun o q=>hs1.extBut _ _ D.l1z q) (h1.imp fun o q=>⟨hs1.extBut _ _ D.i1z q.1,q.2⟩) hx fun g2 h12 hs2=>wpAny_pure ?_))))
 have hO2:IsPair g2 TO a b:=hs2.extBut _ _ D.TOi1 (hs1.extBut _ _ D.TOz hO)
 refine wpAny_bind (wpAny_seqItems hO2 rfl (wpAny_bind (wpAny_updateSeq_pair hO2 fun g3 hO3 hs3=>?_)))
 replace hO3:IsPair g3 TO x b:=hO3
 refine wpAny_bind (wpAny_letGo (wpAny_pure (wpAny_bind (wpAny_bind (wpAny_onRaise (show wpAny _ _ (Builtin.SmallTypes.nextOf (.ref i2) >>= _) _ _ _ from wpAny_bind (S2.item (S2.ext hl2 fun o q=>hs3.extBut _ _ D.l2TO (hs2.extBut _ _ D.l2i1 (hs1.extBut _ _ D.l2z q))) (h2.imp fun o q=>⟨hs3.extBut _ _ D.TOi2.symm (hs2.extBut _ _ D.i12.symm (hs1.extBut _ _ D.i2z q.1)),q.2⟩) hy fun g4 h24 hs4=>wpAny_pure ?_)))))))
 have hO4:IsPair g4 TO x b:=hs4.extBut _ _ D.TOi2 hO3
 refine wpAny_bind (wpAny_seqItems hO4 rfl (wpAny_bind (wpAny_updateSeq_pair hO4 fun g5 hO5 hs5=>?_)))
 replace hO5:IsPair g5 TO x y:=hO5
 refine wpAny_bind (wpAny_letGo (wpAny_pure (wpAny_pure (wpAny_bind (wpAny_seqItems hO5 rfl (wpAny_bind (wpAny_newTuple ?_)))))))
 have sz:g5.objs.size=s.heap.objs.size:=by rw [hs5.1,hs4.1,hs3.1,hs2.1,hs1.1]
 have hz5:IsZip g5 z TI TO .ellipsis:=hs5.extBut _ _ D.TOz.symm (hs4.extBut _ _ D.i2z.symm (hs3.extBut _ _ D.TOz.symm (hs2.extBut _ _ D.i1z.symm hz1)))
 have kp:∀ c o,c ≠ z->c ≠ TO->c ≠ i1->c ≠ i2->s.heap.get? c=some o->g5.get? c=some o:=fun c o c1 c2 c3 c4 e=>hs5.extBut _ _ c2 (hs4.extBut _ _ c4 (hs3.extBut _ _ c2 (hs2.extBut _ _ c3 (hs1.extBut _ _ c1 e))))
 have n1:∃ o,g5.get? i1=some o/\nx1 (k + 1) o:=h12.imp fun o q=>⟨hs5.extBut _ _ D.TOi1.symm (hs4.extBut _ _ D.i12 (hs3.extBut _ _ D.TOi1.symm q.1)),q.2⟩
 have n2:∃ o,g5.get? i2=some o/\nx2 (k + 1) o:=h24.imp fun o q=>⟨hs5.extBut _ _ D.TOi2.symm q.1,q.2⟩
 have zlt:z < g5.objs.size:=Heap.lt_size hz5
 show wpAny _ _ (Builtin.SmallTypes.ownedTupleHandOut (.ref z) (.ref g5.objs.size) >>= _) _ _ _; refine wpAny_bind ?_; unfold Builtin.SmallTypes.ownedTupleHandOut
 have hz6:IsZip (g5.push { cls := .type "tuple",data := .seq #[x,y] }) z TI TO .ellipsis:=Heap.get?_push_of_some _ hz5
 refine wpAny_bind (wpAny_setField_rec hz6 (by simp) fun g7 hz7 hs7=>?_)
 replace hz7:IsZip g7 z TI TO (rawInt g5.objs.size):=hz7
 refine wpAny_setField_rec hz7 (by simp) fun g8 hz8 hs8=>?_
 replace hz8:IsZip g8 z TI TO (rawInt g5.objs.size):=hz8
 have up:∀ c o,c ≠ z->g5.get? c=some o->g8.get? c=some o:=fun c o c1 e=>hs8.extBut _ _ c1 (hs7.extBut _ _ c1 (Heap.get?_push_of_some _ e))
 have hT8:IsPair g8 g5.objs.size x y:=hs8.extBut _ _ (Nat.ne_of_gt zlt) (hs7.extBut _ _ (Nat.ne_of_gt zlt) (Heap.get?_push_size _ rfl))
 rw [sz] at hz8 hT8
 refine wpAny_pure ⟨_,rfl,wpAny_pure ?_⟩
 show Q (some (.ref g5.objs.size)) _
 rw [sz]
 exact hQ g8 hz8 (up _ _ D.TOz hO5) (n1.imp fun o q=>⟨up _ o D.i1z q.1,q.2⟩) (n2.imp fun o q=>⟨up _ o D.i2z q.1,q.2⟩) hT8 fun c o c1 c2 c3 c4 e=>up c o c1 (kp c o c1 c2 c3 c4 e)
theorem zipI_end {Q:Option Value->Shared->Prop} (hh:A.handled=none) (S1:RawSrc l1 i1 xs seq1 nx1) (S2:RawSrc l2 i2 ys seq2 nx2) (D:ZipApart z TI TO i1 i2 l1 l2) (hz:IsZip s.heap z TI TO .none) (hI:IsPair s.heap TI (.ref i1) (.ref i2)) (hO:IsPair s.heap TO a b)
  (h1:∃ o,s.heap.get? i1=some o/\nx1 k o) (h2:∃ o,s.heap.get? i2=some o/\nx2 k o) (hl1:seq1 s.heap) (hl2:seq2 s.heap) (he:xs[k]?=none ∨ ys[k]?=none)
  (hQ:∀ h',(∀ c o,c ≠ z->c ≠ TO->c ≠ i1->c ≠ i2->s.heap.get? c=some o->h'.get? c=some o)->Q none { s with heap:=h' }):wpAny (model prog w) A (pyNext (.ref z)) Q E s:=by
 have hT:s.TypeIs (.ref z) "zip" := ⟨_,hz,rfl⟩
 unfold pyNext
 refine wpAny_bind (wpAny_attempt (wpAny_callSpecial?_slot (name:=Str.ofString "__next__") hT F.slot_zip_next (wpAny_call_entry F.slot_zip_next hT F.entry_zip_next ?_ (F.args_zip_next_1 _))))
 have fin:∀ (h':Heap) (e:Addr),(∀ c o,c ≠ z->c ≠ TO->c ≠ i1->c ≠ i2->s.heap.get? c=some o->h'.get? c=some o)->(∃ o,h'.get? e=some o/\o.cls=.type "StopIteration") ->
   wpAny (model prog w) A (do let b <- isInstance (.ref e) (.type "StopIteration"); if b=true then pure none else throw (.ref e)) Q E { s with heap:=h' }:=fun h' e kp ⟨o,ho,hc⟩=>wpAny_bind (wpAny_isInstance (T := "StopIteration") (b:=true) ⟨o,ho,hc⟩ isSubtype_stop (wpAny_pure (hQ h' kp)))
 show wpAny _ _ (field (.ref z) 2 >>= _) _ _ _
 refine wpAny_bind (wpAny_field hz rfl (x := .bool false) rfl (show wpAny _ _ (field (.ref z) 3 >>= _) _ _ _ from wpAny_bind (wpAny_field hz rfl (x := .ref TI) rfl (wpAny_bind (wpAny_seqItems hI rfl ?_)))))
 show wpAny _ _ (Builtin.SmallTypes.ownedTupleIsFree (.ref z) >>= _) _ _ _; refine wpAny_bind ?_; unfold Builtin.SmallTypes.ownedTupleIsFree
 refine wpAny_bind (wpAny_field hz rfl (x := .none) rfl (wpAny_pure ?_)); simp only [if_true]
 refine wpAny_bind (wpAny_rule (wpAny_bind (wpAny_field hz rfl (x := .ref TO) rfl (wpAny_bind (wpAny_setField_rec hz (by simp) fun g1 hz1 hs1=>?_)))))
 replace hz1:IsZip g1 z TI TO .ellipsis:=hz1
 refine wpAny_bind ?_; simp only [List.zipIdx_cons,List.zipIdx_nil,List.forIn_cons,List.forIn_nil]
 refine wpAny_bind (wpAny_bind (wpAny_onRaise (show wpAny _ _ (Builtin.SmallTypes.nextOf (.ref i1) >>= _) _ _ _ from wpAny_bind ?_)))
 have b1:=S1.ext hl1 fun o q=>hs1.extBut _ _ D.l1z q
 have c1:∃ o,g1.get? i1=some o/\nx1 k o:=h1.imp fun o q=>⟨hs1.extBut _ _ D.i1z q.1,q.2⟩
 cases hx:xs[k]? with
 | none =>
  refine S1.done hh b1 c1 hx fun g2 e hs2 ⟨oe,ho,hc⟩=>?_
  have hz2:IsZip g2 z TI TO .ellipsis:=hs2 _ _ D.i1z.symm hz1
  have hne:e ≠ z:=fun x=>by subst x; rw [hz2] at ho; cases ho; simp at hc
  refine wpAny_setField_rec hz2 (by simp) fun g3 _ hs3=>fin g3 e (fun c o c1 _ c3 _ x=>hs3.extBut _ _ c1 (hs2 _ _ c3 (hs1.extBut _ _ c1 x))) ⟨oe,hs3.extBut _ _ hne ho,hc⟩
 | some x =>
  have hy:ys[k]?=none:=he.resolve_left fun q=>by rw [hx] at q; cases q
  refine S1.item b1 c1 hx fun g2 h12 hs2=>wpAny_pure ?_
  have hO2:IsPair g2 TO a b:=hs2.extBut _ _ D.TOi1 (hs1.extBut _ _ D.TOz hO)
  refine wpAny_bind (wpAny_seqItems hO2 rfl (wpAny_bind (wpAny_updateSeq_pair hO2 fun g3 hO3 hs3=>?_)))
  refine wpAny_bind (wpAny_letGo (wpAny_pure (wpAny_bind (wpAny_bind (wpAny_onRaise (show wpAny _ _ (Builtin.SmallTypes.nextOf (.ref i2) >>= _) _ _ _ from wpAny_bind (S2.done hh (S2.ext hl2 fun o q=>hs3.extBut _ _ D.l2TO (hs2.extBut _ _ D.l2i1 (hs1.extBut _ _ D.l2z q))) (h2.imp fun o q=>⟨hs3.extBut _ _ D.TOi2.symm (hs2.extBut _ _ D.i12.symm (hs1.extBut _ _ D.i2z q.1)),q.2⟩) hy fun g4 e hs4 ⟨oe,ho,hc⟩=>?_)))))))
  have hz4:IsZip g4 z TI TO .ellipsis:=hs4 _ _ D.i2z.symm (hs3.extBut _ _ D.TOz.symm (hs2.extBut _ _ D.i1z.symm hz1))
  have hne:e ≠ z:=fun x=>by subst x; rw [hz4] at ho; cases ho; simp at hc
  refine wpAny_setField_rec hz4 (by simp) fun g5 _ hs5=>fin g5 e (fun c o c1 c2 c3 c4 x=>hs5.extBut _ _ c1 (hs4 _ _ c4 (hs3.extBut _ _ c2 (hs2.extBut _ _ c3 (hs1.extBut _ _ c1 x))))) ⟨oe,hs5.extBut _ _ hne ho,hc⟩
end
def itO (b:Bool) (l:Addr):Obj := { cls := .type (if b=true then "tuple_iterator" else "list_iterator"),data := .fields #[.ref l,.int 0 0] }
def isSq (b:Bool) (h:Heap) (l:Addr) (xs:Array Value):Prop:=if b=true then h.IsTuple l xs else h.IsList l xs
theorem isSq_push {b:Bool}{h:Heap}{l:Addr}{xs:Array Value} (x:isSq b h l xs) (o:Obj):isSq b (h.push o) l xs:=by
 cases b
 ·exact Heap.IsList.push x o
 ·obtain ⟨u,h1,h2⟩:=x
  exact ⟨u,Heap.get?_push_of_some _ h1,h2⟩
def zH (b1 b2:Bool) (h:Heap) (l1 l2:Addr):Heap:=((((h.push (itO b1 l1)).push (itO b2 l2)).push { cls := .type "tuple",data := .seq #[.ref h.objs.size,.ref (h.objs.size + 1)] }).push { cls := .type "tuple",data := .seq #[.none,.none] }).push { cls := .type "zip",data := .fields #[.none,.bool false,.bool false,.ref (h.objs.size + 2),.ref (h.objs.size + 3)] }
theorem wpAny_pyIter_sq {prog:Program}{w:World}{A:Around}{E:Value->Shared->Prop}{s:Shared}{b:Bool}{l:Addr}{xs:Array Value}{Q:Value->Shared->Prop} (h:isSq b s.heap l xs) (k:Q (.ref s.heap.objs.size) { s with heap:=s.heap.push (itO b l) }):wpAny (model prog w) A (pyIter (.ref l)) Q E s:=by
 cases b
 ·exact wpAny_pyIter_list h k
 ·exact wpAny_pyIter_tuple h k
theorem meets_zip_sq (b1 b2:Bool) (l1 l2:Addr) (xs ys:Array Value) :
  Meets (Builtin.«zip.__new__» ⟨[.type "zip",.ref l1,.ref l2],[]⟩) (fun _ R s=>isSq b1 s.heap l1 xs/\isSq b2 s.heap l2 ys/\R (.ok (.ret (.ref (s.heap.objs.size + 4)))) { s with heap:=zH b1 b2 s.heap l1 l2 }) :=
 .of_wp fun prog w A R s h=>by
  obtain ⟨hp,g,d,tk,os⟩:=s
  obtain ⟨hl1,hl2,h⟩:=h
  have hsub:=sub_zip
  have q1:isSq b1 (Shared.heap ⟨hp,g,d,tk,os⟩) l1 xs:=hl1
  have q2:isSq b2 (Shared.heap ⟨hp.push (itO b1 l1),g,d,tk,os⟩) l2 ys:=isSq_push hl2 _
  wp_walk using wpAny_pyIter_sq q1,wpAny_pyIter_sq q2
  refine ⟨_,rfl,?_⟩
  simp only [Heap.size_push]
  exact h
theorem call_zip_sq {prog:Program}{w:World}{A:Around}{E:Value->Shared->Prop}{s:Shared}{b1 b2:Bool}{l1 l2:Addr}{xs ys:Array Value}{Q:Value->Shared->Prop} (h1:isSq b1 s.heap l1 xs) (h2:isSq b2 s.heap l2 ys)
  (h:∀ h',IsZip h' (s.heap.objs.size + 4) (s.heap.objs.size + 2) (s.heap.objs.size + 3) .none->IsPair h' (s.heap.objs.size + 2) (.ref s.heap.objs.size) (.ref (s.heap.objs.size + 1))->IsPair h' (s.heap.objs.size + 3) .none .none->h'.get? s.heap.objs.size=some (itO b1 l1)->h'.get? (s.heap.objs.size + 1)=some (itO b2 l2) ->
   (∀ c o,s.heap.get? c=some o->h'.get? c=some o)->Q (.ref (s.heap.objs.size + 4)) { s with heap:=h' }):wpAny (model prog w) A (call (.type "zip") [.ref l1,.ref l2]) Q E s:=by
 refine callType_new F.called_zip (by decide) (F.typeCall_zip_2 _ _) (F.newCall_zip_2 _ _) (fun obj=>F.args_object_init_3 obj _ _) F.entry_zip_new (meets_zip_sq b1 b2 l1 l2 xs ys) ⟨h1,h2,?_⟩
 have e5:(zH b1 b2 s.heap l1 l2).get? (s.heap.objs.size + 4)=some { cls := .type "zip",data := .fields #[.none,.bool false,.bool false,.ref (s.heap.objs.size + 2),.ref (s.heap.objs.size + 3)] }:=by
  have:=Heap.get?_push_size ((((s.heap.push (itO b1 l1)).push (itO b2 l2)).push { cls := .type "tuple",data := .seq #[.ref s.heap.objs.size,.ref (s.heap.objs.size + 1)] }).push { cls := .type "tuple",data := .seq #[.none,.none] }) (o := { cls := .type "zip",data := .fields #[.none,.bool false,.bool false,.ref (s.heap.objs.size + 2),.ref (s.heap.objs.size + 3)] }) rfl
  simp only [Heap.size_push] at this
  exact this
 have e4:(zH b1 b2 s.heap l1 l2).get? (s.heap.objs.size + 3)=some { cls := .type "tuple",data := .seq #[.none,.none] }:=by
  have:=Heap.get?_push_size (((s.heap.push (itO b1 l1)).push (itO b2 l2)).push { cls := .type "tuple",data := .seq #[.ref s.heap.objs.size,.ref (s.heap.objs.size + 1)] }) (o := { cls := .type "tuple",data := .seq #[.none,.none] }) rfl
  simp only [Heap.size_push] at this
  exact Heap.get?_push_of_some _ this
 have e3:(zH b1 b2 s.heap l1 l2).get? (s.heap.objs.size + 2)=some { cls := .type "tuple",data := .seq #[.ref s.heap.objs.size,.ref (s.heap.objs.size + 1)] }:=by
  have:=Heap.get?_push_size ((s.heap.push (itO b1 l1)).push (itO b2 l2)) (o := { cls := .type "tuple",data := .seq #[.ref s.heap.objs.size,.ref (s.heap.objs.size + 1)] }) rfl
  simp only [Heap.size_push] at this
  exact Heap.get?_push_of_some _ (Heap.get?_push_of_some _ this)
 have e2:(zH b1 b2 s.heap l1 l2).get? (s.heap.objs.size + 1)=some (itO b2 l2):=by
  have:=Heap.get?_push_size (s.heap.push (itO b1 l1)) (o:=itO b2 l2) rfl
  simp only [Heap.size_push] at this
  exact Heap.get?_push_of_some _ (Heap.get?_push_of_some _ (Heap.get?_push_of_some _ this))
 have e1:(zH b1 b2 s.heap l1 l2).get? s.heap.objs.size=some (itO b1 l1):=Heap.get?_push_of_some _ (Heap.get?_push_of_some _ (Heap.get?_push_of_some _ (Heap.get?_push_of_some _ (Heap.get?_push_size _ rfl))))
 exact ⟨⟨_,e5,rfl⟩,h _ e5 e3 e4 e1 e2 fun c o x=>Heap.get?_push_of_some _ (Heap.get?_push_of_some _ (Heap.get?_push_of_some _ (Heap.get?_push_of_some _ (Heap.get?_push_of_some _ x))))⟩
def sqs (K:PySem.W.Frag) (b:Bool) (a:Addr) (H:Hp) (xs:List V):Prop:=if b=true then SqT K H a xs else SqL K H a xs
def nxB (b:Bool) (a:Addr) (i:Nat) (o:Obj):Prop:=if b=true then nxT a i o else nxL a i o
theorem raw_sq (b:Bool) (a it:Addr) (its:Array Value):RawSrc a it its (fun h=>isSq b h a its) (nxB b a):=by
 cases b
 ·exact raw_list a it its
 ·exact raw_tup a it its
theorem nxB_dat {b:Bool}{a:Addr}{i:Nat}{o:Obj} (h:nxB b a i o):∀ v,o.data ≠ .cell v:=fun v z=>by
 cases b
 ·rw [show o.data=_ from h.2] at z
  cases z
 ·rw [show o.data=_ from h.2] at z
  cases z
theorem nxB_new (b:Bool) (a:Addr):nxB b a 0 (itO b a):=by
 cases b
 ·exact ⟨rfl,rfl⟩
 ·exact ⟨rfl,rfl⟩
theorem sqs_at {X:Cx}{pins:List (Addr × Obj)}{σ:St}{H:Hp}{s:Shared}{b:Bool}{a:Addr}{xs:List V} (I:Inv X pins σ H s) (h:sqs X.K b a H xs):∃ its,Vals xs its/\isSq b s.heap a its.toArray:=by
 cases b
 ·obtain ⟨its,rv,p,_⟩:=I.list h
  exact ⟨its,rv,p.isList⟩
 ·obtain ⟨its,rv,p,_⟩:=I.tuple h
  exact ⟨its,rv,isTuple_of p⟩
theorem sqs_inj {X:Cx}{pins:List (Addr × Obj)}{σ:St}{H:Hp}{s:Shared}{b:Bool}{a:Addr}{xs ys:List V} (I:Inv X pins σ H s) (h:sqs X.K b a H xs) (h':sqs X.K b a H ys):xs=ys:=by
 cases b
 ·exact I.list_inj h h'
 ·exact I.tuple_inj h h'
def Iz (src1 src2:Hp->List V->Prop):It :=
 ⟨fun i H=>∃ xs x ys y,src1 H xs/\xs[i]?=some x/\src2 H ys/\ys[i]?=some y,fun i H v H'=>∃ p y1 y2,v=.ref p/\H p=none/\H'=upd H p (.tup [y1,y2])/\(∀ xs,src1 H xs->xs[i]?=some y1)/\∀ ys,src2 H ys->ys[i]?=some y2,fun i H=>∃ xs ys,src1 H xs/\src2 H ys/\(xs.length <= i ∨ ys.length <= i)⟩
def zSt (b1 b2:Bool) (z TI TO i1 i2 l1 l2:Addr) (i:Nat) (h:Heap):Prop:=IsZip h z TI TO .none/\IsPair h TI (.ref i1) (.ref i2)/\(∃ a b,IsPair h TO a b)/\(∃ o,h.get? i1=some o/\nxB b1 l1 i o)/\∃ o,h.get? i2=some o/\nxB b2 l2 i o
theorem turn_zip {P:Program}{w:World}{K:PySem.W.Frag}{elts:List Expr}{x1:Nat}{tp:Pos}{z TI TO i1 i2 l1 l2:Addr} (b1 b2:Bool) (D:ZipApart z TI TO i1 i2 l1 l2) :
  Turn P w K (.Tuple elts x1 tp) (Iz (sqs K b1 l1) (sqs K b2 l2)) [z,TI,TO,i1,i2] z (zSt b1 b2 z TI TO i1 i2 l1 l2) where
 mem:=by simp
 obj:=fun i h st b hb=>by
  obtain ⟨h1,h2,⟨u,v,h3⟩,⟨o1,h4,h5⟩,o2,h6,h7⟩:=st
  simp only [List.mem_cons,List.not_mem_nil,or_false] at hb
  rcases hb with q | q | q | q | q <;> subst q
  ·exact ⟨_,h1,fun v z=>by cases z⟩
  ·exact ⟨_,h2,fun v z=>by cases z⟩
  ·exact ⟨_,h3,fun v z=>by cases z⟩
  ·exact ⟨o1,h4,nxB_dat h5⟩
  ·exact ⟨o2,h6,nxB_dat h7⟩
 keep:=fun i h h' st k=>by
  obtain ⟨h1,h2,⟨u,v,h3⟩,⟨o1,h4,h5⟩,o2,h6,h7⟩:=st
  exact ⟨k z (by simp) _ h1,k TI (by simp) _ h2,⟨u,v,k TO (by simp) _ h3⟩,⟨o1,k i1 (by simp) _ h4,h5⟩,o2,k i2 (by simp) _ h6,h7⟩
 item:=by
  intro X hP hw hK hc i pins s σ H E I hf st hg
  obtain ⟨xs,x,ys,y,hq1,hx,hq2,hy⟩:=hg
  obtain ⟨h1,h2,⟨u,v,h3⟩,h4,h5⟩:=st
  subst hP hw hK
  obtain ⟨its1,rv1,sq1⟩:=sqs_at I hq1
  obtain ⟨its2,rv2,sq2⟩:=sqs_at I hq2
  obtain ⟨ux,hux,rux⟩:=rv1.get hx
  obtain ⟨uy,huy,ruy⟩:=rv2.get hy
  have zlt:z < s.heap.objs.size:=Heap.lt_size h1
  refine zipI_item (raw_sq b1 l1 i1 its1.toArray) (raw_sq b2 l2 i2 its2.toArray) D h1 h2 h3 h4 h5 sq1 sq2 (by simpa using hux) (by simpa using huy) fun h' k1 k2 k3 k4 k5 k6=>⟨_,rfl,wpAny_letOwnedTupleGo_zip k1 fun h'' m1 m2=>?_⟩
  have m2:Heap.SameBut z h' h'' := m2
  have fr:H s.heap.objs.size=none:=I.fresh
  have kp:∀ b o,b ∉ [z,TI,TO,i1,i2]->s.heap.get? b=some o->h''.get? b=some o:=fun b o hb q=>(m2.2 b fun e=>hb (by simp [e])).trans (k6 b o (fun e=>hb (by simp [e])) (fun e=>hb (by simp [e])) (fun e=>hb (by simp [e])) (fun e=>hb (by simp [e])) q)
  have hTI:IsPair h'' TI (.ref i1) (.ref i2):=(m2.2 TI D.TIz).trans (k6 TI _ D.TIz D.TITO D.TIi1 D.TIi2 h2)
  have tp:h''.get? s.heap.objs.size=some { cls := .type "tuple",data := .seq #[ux,uy] }:=(m2.2 _ (Nat.ne_of_gt zlt)).trans k5
  have ok1:HOk X.prog X.w H h'' := fun b o hb=>(I.hok b o hb).stay (fun c v hcb q=>kp c v (fun e=>by
    have n:=(hf c e).1
    rcases hcb with e2 | e2
    ·subst e2
     rw [n] at hb
     cases hb
    ·rw [n] at e2
     cases e2) q) (fun _ e=>e) fun _ _ e=>e
  have ok2:HOk X.prog X.w (upd H s.heap.objs.size (.tup [x,y])) h'' := hok_add ok1 fr ⟨by show 2 <= sizeLine; decide,[ux,uy],.cons rux (.cons ruy .nil),⟨_,tp⟩⟩
  have I2:Inv X pins σ (upd H s.heap.objs.size (.tup [x,y])) { s with heap:=h'' }:=by
   refine I.step (t' := s.toks) (g' := s.gens) (d' := s.drawn) (ch := [z,TI,TO,i1,i2]) (fun b hb=>?_) (fun b o _ _ hb q _=>kp b o hb q) (fun b o _ _ hb q _=>⟨o.slots,kp b o hb q⟩)
    (fun b o _ q n=>by rw [upd_ne (Nat.ne_of_lt (Heap.lt_size q))]; exact n) (fun b o hb q=>⟨o,kp b o hb q⟩)
    (fun b ys q=>by rw [upd_ne (ne_of_none q fr)]; exact q) (fun b o v q=>by rw [upd_ne (ne_of_none q fr)]; exact q) (fun b ps q=>⟨#[],by rw [upd_ne (ne_of_none q fr),Array.append_empty]; exact q⟩)
    (fun m hm=>hm.at fun o q=>kp _ o (fun e=>(hf _ e).2.1 rfl) q) ok2 I.bare
   obtain ⟨f0,f1,f2,f3,f4,f5⟩:=hf b hb
   exact ⟨f3,f1,f4,f5⟩
  refine ⟨.ref s.heap.objs.size,_,I2,rfl,⟨_,x,y,rfl,fr,rfl,fun ws hw=>by rw [sqs_inj I hw hq1]; exact hx,fun ws hw=>by rw [sqs_inj I hw hq2]; exact hy⟩,⟨m1,hTI,⟨ux,uy,(m2.2 TO D.TOz).trans k2⟩,k3.imp fun o q=>⟨(m2.2 i1 D.i1z).trans q.1,q.2⟩,k4.imp fun o q=>⟨(m2.2 i2 D.i2z).trans q.1,q.2⟩⟩,fun b hb=>?_⟩
  have lt:b < s.heap.objs.size:=by
   simp only [List.mem_cons,List.not_mem_nil,or_false] at hb
   rcases hb with q | q | q | q | q <;> subst q
   ·exact zlt
   ·exact Heap.lt_size h2
   ·exact Heap.lt_size h3
   ·obtain ⟨_,q,_⟩:=h4
    exact Heap.lt_size q
   ·obtain ⟨_,q,_⟩:=h5
    exact Heap.lt_size q
  rw [upd_ne (Nat.ne_of_lt lt)]
  exact (hf b hb).1
 done:=by
  intro X hP hw hK hc i pins s σ H E I hf st hg
  obtain ⟨xs,ys,hq1,hq2,he⟩:=hg
  obtain ⟨h1,h2,⟨u,v,h3⟩,h4,h5⟩:=st
  subst hP hw hK
  obtain ⟨its1,rv1,sq1⟩:=sqs_at I hq1
  obtain ⟨its2,rv2,sq2⟩:=sqs_at I hq2
  have e1:=rv1.length
  have e2:=rv2.length
  refine zipI_end (I.ok.hd hc) (raw_sq b1 l1 i1 its1.toArray) (raw_sq b2 l2 i2 its2.toArray) D h1 h2 h3 h4 h5 sq1 sq2 (he.imp (fun q=>by simp; omega) fun q=>by simp; omega) fun h' k6=>⟨rfl,?_⟩
  have kp:∀ b o,b ∉ [z,TI,TO,i1,i2]->s.heap.get? b=some o->h'.get? b=some o:=fun b o hb q=>k6 b o (fun e=>hb (by simp [e])) (fun e=>hb (by simp [e])) (fun e=>hb (by simp [e])) (fun e=>hb (by simp [e])) q
  have ok1:HOk X.prog X.w H h' := fun b o hb=>(I.hok b o hb).stay (fun c v hcb q=>kp c v (fun e=>by
    have n:=(hf c e).1
    rcases hcb with e2 | e2
    ·subst e2
     rw [n] at hb
     cases hb
    ·rw [n] at e2
     cases e2) q) (fun _ e=>e) fun _ _ e=>e
  refine I.step (t' := s.toks) (g' := s.gens) (d' := s.drawn) (ch := [z,TI,TO,i1,i2]) (fun b hb=>?_) (fun b o _ _ hb q _=>kp b o hb q) (fun b o _ _ hb q _=>⟨o.slots,kp b o hb q⟩)
   (fun _ _ _ _ n=>n) (fun b o hb q=>⟨o,kp b o hb q⟩) (fun _ _ q=>q) (fun _ _ _ q=>q) (fun b ps q=>⟨#[],by rw [Array.append_empty]; exact q⟩)
   (fun m hm=>hm.at fun o q=>kp _ o (fun e=>(hf _ e).2.1 rfl) q) ok1 I.bare
  obtain ⟨f0,f1,f2,f3,f4,f5⟩:=hf b hb
  exact ⟨f3,f1,f4,f5⟩
 self:=fun _ _ _ _ _ st h=>wpAny_pyIter_zip st.1 h
theorem isSq_lt {b:Bool}{h:Heap}{l:Addr}{xs:Array Value} (x:isSq b h l xs):l < h.objs.size:=by
 cases b
 ·obtain ⟨o,e,_⟩:=x
  exact Heap.lt_size e
 ·obtain ⟨o,e,_⟩:=x
  exact Heap.lt_size e
theorem pi_zip {X:Cx}{elts:List Expr}{x1:Nat}{tp p pos:Pos}{l m:Expr}{ta:TA} (hg:Gl X "zip") (hm:X.mg "zip" = none) (ha:PA X [l,m] ta) (hs:starEach [l,m] X.env=[(false,eval l X.env),(false,eval m X.env)]:=by rfl) (hs2:starEach [m] X.env=[(false,eval m X.env)]:=by rfl) :
  PI X (.Tuple elts x1 tp) (.Call (.Name "zip" p) [l,m] [] pos) (fun σ H R=>ta σ H fun vs H1=>∃ b1 b2 a1 a2 xs ys,vs=[.ref a1,.ref a2]/\sqs X.K b1 a1 H1 xs/\sqs X.K b2 a2 H1 ys/\R (Iz (sqs X.K b1 a1) (sqs X.K b2 a2)) H1):=by
 intro pins s σ H R I h
 refine wpAny_Call_Name_kw (ld_blt I hg hm (by decide +kernel:bootBuiltins "zip" = some (.type "zip")) ?_)
 refine PyProof.Rows.callWith_type1 (thn (ha pos pins s σ H _ I h) fun us s1 hq5=>L2.ex5 hq5 fun vs H1 I1 r1 q1=>?_) (by rw [hs,hs2]) (by rw [hs2]; rfl)
 obtain ⟨b1,b2,a1,a2,xs,ys,rfl,hq1,hq2,q⟩:=q1
 obtain ⟨u,u',rfl,ru,ru'⟩:=vals2 r1
 cases ru
 cases ru'
 obtain ⟨its1,rv1,sq1⟩:=sqs_at I1 hq1
 obtain ⟨its2,rv2,sq2⟩:=sqs_at I1 hq2
 refine call_zip_sq sq1 sq2 fun h' e1 e2 e3 e4 e5 e6=>wpAny_pyIter_zip e1 ?_
 have I2:Inv X pins σ H1 { s1 with heap:=h' }:=I1.kept (t' := s1.toks) e6
 refine ⟨_,_,_,_,H1,rfl,I2,turn_zip b1 b2 (zipApart_new (isSq_lt sq1) (isSq_lt sq2)),⟨e1,e2,⟨_,_,e3⟩,⟨_,e4,nxB_new b1 a1⟩,⟨_,e5,nxB_new b2 a2⟩⟩,fun b hb=>?_,q⟩
 have le:s1.heap.objs.size <= b:=by
  simp only [List.mem_cons,List.not_mem_nil,or_false] at hb
  rcases hb with e | e | e | e | e <;> (rw [e]; first | exact Nat.le_refl _ | exact Nat.le_add_right _ _)
 exact I1.fpOk le (I1.hok.fresh le)
def itSt (b:Bool) (it l:Addr) (items:Array Value) (i:Nat) (h:Heap):Prop:=if b=true then h.IsTupleIter it l i/\h.IsTuple l items else h.IsListIter it l i/\h.IsList l items
theorem walks_sq {P:Program}{w:World}{A:Around} (hh:A.handled=none) (b:Bool) (it l:Addr) (hne:l ≠ it) (items:Array Value):Walks P w A it [it,l] [it] items.size (fun i v=>items[i]?=some v) (itSt b it l items):=by
 cases b
 ·exact Walks.list hh it l hne items
 ·exact Walks.tuple hh it l hne items
theorem itSt_new {b:Bool}{h:Heap}{l:Addr}{items:Array Value} (x:isSq b h l items):itSt b h.objs.size l items 0 (h.push (itO b l)):=by
 have y:=isSq_push x (itO b l)
 cases b
 ·exact ⟨⟨_,Heap.get?_push_size _ rfl,rfl,rfl⟩,y⟩
 ·exact ⟨⟨_,Heap.get?_push_size _ rfl,rfl,rfl⟩,y⟩
theorem vals_bl:∀ {bs:List Bool}{us:List Value},Vals (bs.map V.bl) us->us=bs.map Value.bool
 | [],us,r=>by cases r; rfl
 | b :: bs,us,r=>by
  cases r with
  | cons r1 r2 =>
   cases r1
   rw [vals_bl r2]
   rfl
theorem range_all (bs:List Bool):(List.range bs.length).all (fun i=>bs.getD i true)=bs.all id:=by
 have e:(List.range bs.length).map (fun i=>bs.getD i true)=bs:=List.ext_getElem (by simp) fun i h1 h2=>by simp [List.getElem?_eq_getElem h2]
 calc (List.range bs.length).all (fun i=>bs.getD i true)=((List.range bs.length).map (fun i=>bs.getD i true)).all id:=by rw [List.all_map]; rfl
  _=bs.all id:=by rw [e]
theorem truth_bl {P:Program}{w:World}{A:Around} (bs:List Bool):TruthOf P w A (fun i v=>(bs.map Value.bool).toArray[i]?=some v) (fun i=>bs.getD i true):=fun i v s Q E hP hQ=>by
 simp only [List.getElem?_toArray,List.getElem?_map,Option.map_eq_some_iff] at hP
 obtain ⟨b,hb,rfl⟩:=hP
 have e:bs.getD i true=b:=by simp [List.getD_eq_getElem?_getD,hb]
 replace hQ:Q (bs.getD i true) s:=hQ
 rw [e] at hQ
 exact wpAny_truthy_bool hQ
section
variable {X:Cx}
theorem call_allS (hc:X.calm=true):CallR X (.builtin "all") (fun xs H Q=>∃ (b:Bool) (a:Addr) (bs:List Bool),xs=[.ref a]/\sqs X.K b a H (bs.map V.bl)/\Q (.bl (bs.all id)) H):=by
 intro pins s σ H xs us Q I r h
 obtain ⟨b,a,bs,rfl,hq,q⟩:=h
 obtain ⟨u,rfl,ru⟩:=vals1 r
 cases ru
 obtain ⟨its,rv,sq⟩:=sqs_at I hq
 have ei:=vals_bl rv
 subst ei
 refine call_all_walk (wpAny_pyIter_sq sq ⟨s.heap.objs.size,_,_,_,_,_,_,rfl,walks_sq (P:=X.prog) (w:=X.w) (A:=X.A.in1) (I.ok.hd hc) b _ a (Nat.ne_of_lt (isSq_lt sq)) _,itSt_new sq,truth_bl bs,fun h' tk kp=>?_⟩)
 have hsz:(bs.map Value.bool).toArray.size=bs.length:=by simp
 rw [hsz,range_all]
 exact ⟨.bl (bs.all id),H,I.kept (t' := tk) fun c o e=>kp c o (by simpa using Nat.ne_of_lt (Heap.lt_size e)) (Heap.get?_push_of_some _ e),rfl,q⟩
end
theorem idx_go {P:Program}{w:World}{A:Around}{E:Value->Shared->Prop}{s:Shared}{items:Array Value}{x:Value}{e:Value->Bool} (he:∀ y,y ∈ items->MeetsSeq.EqGives y x (e y)) {j:Nat} (hj:j < items.size) (hit:e items[j]=true) (hno:∀ m (hm:m < items.size),m < j->e items[m]=false)
  {Q:Option PySem.Fin × Unit->Shared->Prop} (hQ:Q (some (.done (.ret (.int j s.toks))),()) { s with toks:=s.toks + 1 }):∀ (k i:Nat),i + k=items.size->i <= j ->
  wpAny (model P w) A (forIn (List.range' i k) ((none,()):Option PySem.Fin × Unit) fun (i:Nat) (_:Option PySem.Fin × Unit)=>(match items[i]? with
   | some y=>do
    let b <- eqBool y x
    if b=true then do
      let r <- retInt (i:Int)
      pure (ForInStep.done (some r,()))
     else pure (ForInStep.yield (none,()))
   | _=>pure (ForInStep.yield (none,()):ForInStep (Option PySem.Fin × Unit)):Sem (ForInStep (Option PySem.Fin × Unit)))) Q E s
 | 0,i,h1,h2=>by omega
 | k + 1,i,h1,h2=>by
  have hi:i < items.size:=by omega
  rw [List.range'_succ,List.forIn_cons]
  refine wpAny_bind ?_
  rw [Array.getElem?_eq_getElem hi]
  refine wpAny_bind (he _ (Array.getElem_mem hi) P w _ _ _ _ ?_)
  by_cases q:i=j
  ·subst q
   rw [hit]
   exact wpAny_bind (wpAny_bind (wpAny_mkInt (wpAny_pure (wpAny_pure (wpAny_pure hQ)))))
  ·rw [hno i hi (by omega)]
   refine wpAny_pure ?_
   exact idx_go he hj hit hno hQ k (i + 1) (by omega) (by omega)
theorem meets_tup_index (t:Addr) (items:Array Value) (x:Value) (e:Value->Bool) (he:∀ y,y ∈ items->MeetsSeq.EqGives y x (e y)) (j:Nat) (hj:j < items.size) (hit:e items[j]=true) (hno:∀ m (hm:m < items.size),m < j->e items[m]=false) :
  Meets (Builtin.«tuple.index» ⟨[.ref t,x],[]⟩) (fun _ R s=>s.heap.IsTuple t items/\R (.ok (.ret (.int j s.toks))) { s with toks:=s.toks + 1 }) :=
 .of_wp fun prog w A R s h=>by
  obtain ⟨⟨o,ho,hc,n,hd⟩,h⟩:=h
  unfold Builtin.«tuple.index»
  show wpAny _ _ (Builtin.Tuple.tupleItemsOf (.ref t) >>= _) _ _ _
  unfold Builtin.Tuple.tupleItemsOf
  refine wpAny_bind (wpAny_bind (wpAny_seqItems ho hd (wpAny_pure ?_)))
  show wpAny _ _ (forIn [0:min items.size items.size] ((none,()):Option PySem.Fin × Unit) _ >>= _) _ _ _
  refine wpAny_bind ?_
  rw [Nat.min_self,Std.Legacy.Range.forIn_eq_forIn_range']
  have sz:Std.Legacy.Range.size [0:items.size]=items.size:=by simp [Std.Legacy.Range.size]
  rw [sz]
  refine idx_go he hj hit hno ?_ items.size 0 (Nat.zero_add _) (Nat.zero_le _)
  exact wpAny_pure ⟨_,rfl,h⟩
section
variable {X:Cx}
def rTix:V->List V->Hp->VK->Prop:=fun x vs H Q=>∃ (a:Addr) (ns:List Int) (k:Int) (j:Nat),x=.ref a/\vs=[.int k]/\H a=some (.tup (ns.map V.int))/\ns[j]?=some k/\(∀ m,m < j->ns[m]? ≠ some k)/\Q (.int j) H
theorem mt_tix:MtM X "tuple.index" rTix:=by
 intro pins s σ H x vs v us Q I rx rv h
 obtain ⟨a,ns,k,j,rfl,rfl,hH,hj,hno,q⟩:=h
 cases rx
 obtain ⟨u,rfl,ru⟩:=rv.one
 obtain ⟨t,rfl⟩:=ru
 obtain ⟨its,r,p,hz⟩:=I.tuple (SqT.of hH)
 have hi:=intsAre_of r
 have hl:=r.length
 rw [List.length_map] at hl
 have hjl:j < its.toArray.size:=by
  have:=(List.getElem?_eq_some_iff.mp hj).1
  simp
  omega
 have at_:∀ m (hm:m < its.toArray.size),∃ tk,its.toArray[m]=.int (ns.getD m 0) tk:=fun m hm=>by
  have hm':m < ns.length:=by
   simp at hm
   omega
  obtain ⟨w,hw,rw'⟩:=r.get (i:=m) (x := .int ns[m]) (by simp [hm'])
  obtain ⟨tk,e⟩:=rw'
  refine ⟨tk,?_⟩
  have e2:its[m]?=some its.toArray[m]:=by simp at hm; simp [hm]
  rw [e2] at hw
  cases hw
  rw [e]
  simp [hm']
 have gj:ns.getD j 0=k:=by simp [List.getD_eq_getElem?_getD,hj]
 refine call_meets F.slot_tuple_index (isTuple_of p).typeIs F.entry_tuple_index (F.args_tuple_index_2 _ _) (meets_tup_index a its.toArray (.int k t) (isInt k) (fun y hy=>eq_isInt k t hi y (by simpa using hy)) j hjl ?_ ?_) ⟨isTuple_of p,?_⟩
 ·obtain ⟨tk,e⟩:=at_ j hjl
  rw [e,gj]
  simp [isInt]
 ·intro m hm hmj
  obtain ⟨tk,e⟩:=at_ m hm
  rw [e]
  have hm':m < ns.length:=by
   simp at hm
   omega
  have ne:=hno m hmj
  simp [isInt]
  intro z
  apply ne
  rw [List.getElem?_eq_getElem hm']
  simpa [List.getD_eq_getElem?_getD,hm'] using z
 ·exact ⟨.int j,H,I.tok (s.toks + 1),⟨_,rfl⟩,q⟩
variable {o e:Expr}{es:List Expr}{to:TE}{t:TA}{name:Str}{apos cpos:Pos}{id:String}{r:V->List V->Hp->VK->Prop}
theorem pe_tm (slot:Slot "tuple" name id) (hty:typeOf (.builtin id)=pure (.type "method_descriptor")) (hm:MtM X id r) (ho:PE X o to) (ha:PA X (e :: es) t)
  (hbase:attributeBase o name X.env (eval o X.env)=eval o X.env:=by rfl)
  (hfew:((backTo cpos (starEach (e :: es) X.env)).all (fun x=>!x.1) && (backToKw cpos (keywordEach [] X.env)).all (fun x=>x.1.isSome)
   && decide ((e :: es).length + ([]:List Keyword).length + (if ([]:List Keyword).isEmpty then 0 else 1) < 30))=true:=by rfl)
  (hline:(apos.endLine == cpos.line)=true:=by rfl) (hs:starEach (e :: es) X.env=(false,eval e X.env) :: starEach es X.env:=by rfl) (hplain:(backTo cpos (starEach es X.env)).any (·.1)=false:=by rfl) :
  PE X (.Call (.Attribute o name apos) (e :: es) [] cpos) (fun σ H Q=>to σ H fun x H1=>(∃ a xs,x=.ref a/\H1 a=some (.tup xs))/\t σ H1 fun xs H2=>r x xs H2 Q):=by
 intro pins s σ H Q I h
 refine wpAny_Call_method_late hbase hfew hline rfl (thn (ho pins s σ H _ I h) fun v s1 ⟨x,H1,I1,r1,ty,q1⟩=>?_)
 obtain ⟨a,xs,rfl,hH⟩:=ty
 have r1' := r1
 cases r1'
 obtain ⟨_,its,_,n,hg⟩:=(show ObjOk X.prog X.w H1 s1.heap a (.tup xs) from I1.hok a _ hH)
 refine ⟨"tuple",id,PySem.F.plainAttrs_tuple,slot,hty,⟨_,hg,rfl⟩,fun b e=>?_,?_⟩
 ·cases e
  exact ⟨_,hg,rfl⟩
 ·have hA:=ha cpos pins s1 σ H1 _ I1 q1
  rw [hs] at hA ⊢
  refine Calls.callWith_builtin (by show (false || (backTo cpos (starEach es X.env)).any (·.1))=false; rw [hplain] <;> rfl) (Calls.evalArgs_plain ?_)
  exact thn hA fun us s2 hq5=>L2.ex5 hq5 fun vs H2 I2 r2 q2=>hm pins s2 σ H2 _ vs _ us Q I2 r1 r2 q2
end
end L2
namespace DL
open PySem PySem.Spec PyProof.Rows L2
inductive Tg where | own | bor | frz | len (a:Addr)
 deriving DecidableEq
abbrev KT:=Sum Key (List Key)
inductive D where
 | non | bl (b:Bool) | int (i:Int) | str (x:Str)
 | tup (xs:List D) | lst (t:Tg) (xs:List D) | dct (t:Tg) (k:Bool) (ks:List KT) (vs:List D)
 | exc (C:Addr)
abbrev SD:=List (Option D)
inductive Res (α:Type) where | ok (a:α) | exn (C:Addr) | bad
def Res.bind {α β:Type}:Res α->(α->Res β)->Res β
 | .ok a,f=>f a
 | .exn c,_=>.exn c
 | .bad,_=>.bad
def Res.map {α β:Type} (f:α->β) (r:Res α):Res β:=r.bind fun a=>.ok (f a)
@[simp] theorem Res.bind_ok {α β:Type} (a:α) (f:α->Res β):(Res.ok a).bind f=f a:=rfl
@[simp] theorem Res.bind_exn {α β:Type} (c:Addr) (f:α->Res β):(Res.exn c:Res α).bind f=.exn c:=rfl
@[simp] theorem Res.bind_bad {α β:Type} (f:α->Res β):(Res.bad:Res α).bind f=.bad:=rfl
@[simp] theorem Res.map_ok {α β:Type} (a:α) (f:α->β):Res.map f (Res.ok a)=.ok (f a):=rfl
def Tg.isOwn:Tg->Bool | .own=>true | .len _=>true | _=>false
def Tg.view:Tg->Tg | .own=>.bor | .len _=>.bor | t=>t
def Tg.toBor:Tg->Tg | .frz=>.bor | t=>t
mutual
def D.view:D->D
 | .tup xs=>.tup (viewL xs)
 | .lst t xs=>.lst t.view (viewL xs)
 | .dct t k ks vs=>.dct t.view k ks (viewL vs)
 | d=>d
def viewL:List D->List D
 | []=>[]
 | d :: r=>d.view :: viewL r
end
mutual
def D.frz:D->D
 | .tup xs=>.tup (frzL xs)
 | .lst _ xs=>.lst .frz (frzL xs)
 | .dct _ k ks vs=>.dct .frz k ks (frzL vs)
 | d=>d
def frzL:List D->List D
 | []=>[]
 | d :: r=>d.frz :: frzL r
end
mutual
def D.toBor:D->D
 | .tup xs=>.tup (toBorL xs)
 | .lst t xs=>.lst t.toBor (toBorL xs)
 | .dct t k ks vs=>.dct t.toBor k ks (toBorL vs)
 | d=>d
def toBorL:List D->List D
 | []=>[]
 | d :: r=>d.toBor :: toBorL r
end
mutual
def D.hasBor:D->Bool
 | .tup xs=>hasBorL xs
 | .lst t xs=>decide (t=.bor) || hasBorL xs
 | .dct t _ _ vs=>decide (t=.bor) || hasBorL vs
 | _=>false
def hasBorL:List D->Bool
 | []=>false
 | d :: r=>d.hasBor || hasBorL r
end
mutual
def D.pure:D->Bool
 | .tup xs=>pureL xs
 | .lst _ _=>false
 | .dct _ _ _ _=>false
 | _=>true
def pureL:List D->Bool
 | []=>true
 | d :: r=>d.pure && pureL r
end
mutual
theorem view_pure:∀ d:D,d.pure=true->d.view=d
 | .non,_=>rfl
 | .bl _,_=>rfl
 | .int _,_=>rfl
 | .str _,_=>rfl
 | .exc _,_=>rfl
 | .tup xs,h=>by
  have h:pureL xs=true:=h
  show D.tup (viewL xs)=_
  rw [viewL_pure xs h]
 | .lst _ _,h=>by cases h
 | .dct _ _ _ _,h=>by cases h
theorem viewL_pure:∀ xs:List D,pureL xs=true->viewL xs=xs
 | [],_=>rfl
 | d :: r,h=>by
  have h:(d.pure && pureL r)=true:=h
  rw [Bool.and_eq_true] at h
  show d.view :: viewL r=_
  rw [view_pure d h.1,viewL_pure r h.2]
end
mutual
theorem frz_pure:∀ d:D,d.pure=true->d.frz=d
 | .non,_=>rfl
 | .bl _,_=>rfl
 | .int _,_=>rfl
 | .str _,_=>rfl
 | .exc _,_=>rfl
 | .tup xs,h=>by
  have h:pureL xs=true:=h
  show D.tup (frzL xs)=_
  rw [frzL_pure xs h]
 | .lst _ _,h=>by cases h
 | .dct _ _ _ _,h=>by cases h
theorem frzL_pure:∀ xs:List D,pureL xs=true->frzL xs=xs
 | [],_=>rfl
 | d :: r,h=>by
  have h:(d.pure && pureL r)=true:=h
  rw [Bool.and_eq_true] at h
  show d.frz :: frzL r=_
  rw [frz_pure d h.1,frzL_pure r h.2]
end
mutual
theorem toBor_pure:∀ d:D,d.pure=true->d.toBor=d
 | .non,_=>rfl
 | .bl _,_=>rfl
 | .int _,_=>rfl
 | .str _,_=>rfl
 | .exc _,_=>rfl
 | .tup xs,h=>by
  have h:pureL xs=true:=h
  show D.tup (toBorL xs)=_
  rw [toBorL_pure xs h]
 | .lst _ _,h=>by cases h
 | .dct _ _ _ _,h=>by cases h
theorem toBorL_pure:∀ xs:List D,pureL xs=true->toBorL xs=xs
 | [],_=>rfl
 | d :: r,h=>by
  have h:(d.pure && pureL r)=true:=h
  rw [Bool.and_eq_true] at h
  show d.toBor :: toBorL r=_
  rw [toBor_pure d h.1,toBorL_pure r h.2]
end
mutual
theorem hasBor_pure:∀ d:D,d.pure=true->d.hasBor=false
 | .non,_=>rfl
 | .bl _,_=>rfl
 | .int _,_=>rfl
 | .str _,_=>rfl
 | .exc _,_=>rfl
 | .tup xs,h=>hasBorL_pure xs h
 | .lst _ _,h=>by cases h
 | .dct _ _ _ _,h=>by cases h
theorem hasBorL_pure:∀ xs:List D,pureL xs=true->hasBorL xs=false
 | [],_=>rfl
 | d :: r,h=>by
  have h:(d.pure && pureL r)=true:=h
  rw [Bool.and_eq_true] at h
  show (d.hasBor || hasBorL r)=false
  rw [hasBor_pure d h.1,hasBorL_pure r h.2]
  rfl
end
theorem pureL_of:∀ {xs:List D},(∀ d ∈ xs,d.pure=true)->pureL xs=true
 | [],_=>rfl
 | d :: r,h=>by
  show (d.pure && pureL r)=true
  rw [h d List.mem_cons_self,pureL_of fun x hx=>h x (List.mem_cons_of_mem _ hx)]
  rfl
theorem pureL_mem:∀ {xs:List D},pureL xs=true->∀ d ∈ xs,d.pure=true
 | d :: r,h,x,hx=>by
  have h:(d.pure && pureL r)=true:=h
  rw [Bool.and_eq_true] at h
  rcases List.mem_cons.mp hx with e | e
  ·rw [e]; exact h.1
  ·exact pureL_mem h.2 x e
theorem viewL_eq:∀ xs:List D,viewL xs=xs.map D.view
 | []=>rfl
 | d :: r=>by rw [viewL,viewL_eq r]; rfl
theorem frzL_eq:∀ xs:List D,frzL xs=xs.map D.frz
 | []=>rfl
 | d :: r=>by rw [frzL,frzL_eq r]; rfl
theorem hasBorL_eq:∀ xs:List D,hasBorL xs=xs.any D.hasBor
 | []=>rfl
 | d :: r=>by rw [hasBorL,hasBorL_eq r]; rfl
def DictAt (H:Hp) (a:Addr) (k:Bool) (ks:List KT) (vs:List V):Prop :=
 (k=false/\∃ (kvs:List (Key × V)) (ep:Nat),H a=some (.dK kvs ep)/\ks=kvs.map (fun p=>Sum.inl p.1)/\vs=kvs.map (·.2)) ∨
 (k=true/\∃ (kvs:List (List Key × V)) (ep:Nat),H a=some (.dT kvs ep)/\ks=kvs.map (fun p=>Sum.inr p.1)/\vs=kvs.map (·.2))
def ExcAt (H:Hp) (a C:Addr):Prop := ∃ (t:Addr) (tb:Value) (u:HO),H a=some (.frz { cls := .ref C,data := .fields #[.ref t,tb,.none,.none,.bool false,.none] } u)
mutual
def Rep (K:PySem.W.Frag) (B:Hp) (S:Addr->Prop) (H:Hp):D->V->List Addr->Prop
 | .non,v,fp=>v=.non/\fp=[]
 | .bl b,v,fp=>v=.bl b/\fp=[]
 | .int i,v,fp=>v=.int i/\fp=[]
 | .str x,v,fp=>v=.str x/\fp=[]
 | .exc x,v,fp=>(∃ a,v=.ref a/\ExcAt H a x)/\fp=[]
 | .tup xs,v,fp=>∃ a vs,v=.ref a/\H a=some (.tup vs)/\RepL K B S H xs vs fp
 | .lst .own xs,v,fp=>∃ a vs f,v=.ref a/\H a=some (.lst vs)/\RepL K B S H xs vs f/\fp=a :: f
 | .lst .bor xs,v,fp=>∃ a vs,v=.ref a/\((S a/\SqL K H a vs) ∨ SqL K B a vs)/\RepL K B S H xs vs []/\fp=[]
 | .lst .frz xs,v,fp=>∃ a vs,v=.ref a/\SqL K B a vs/\RepL K B (fun _=>False) H xs vs []/\fp=[]
 | .lst (.len _) _,_,_=>False
 | .dct (.len p) k ks xs,v,fp=>∃ vs f,v=.ref p/\DictAt H p k ks vs/\RepL K B S H xs vs f/\fp=p :: f
 | .dct .own k ks xs,v,fp=>∃ a vs f,v=.ref a/\DictAt H a k ks vs/\RepL K B S H xs vs f/\fp=a :: f
 | .dct .bor k ks xs,v,fp=>∃ a vs,v=.ref a/\((S a/\DictAt H a k ks vs) ∨ DictAt B a k ks vs)/\RepL K B S H xs vs []/\fp=[]
 | .dct .frz k ks xs,v,fp=>∃ a vs,v=.ref a/\DictAt B a k ks vs/\RepL K B (fun _=>False) H xs vs []/\fp=[]
def RepL (K:PySem.W.Frag) (B:Hp) (S:Addr->Prop) (H:Hp):List D->List V->List Addr->Prop
 | [],vs,fp=>vs=[]/\fp=[]
 | d :: ds,vs,fp=>∃ v r f g,vs=v :: r/\Rep K B S H d v f/\RepL K B S H ds r g/\fp=f ++ g
end
theorem rd_mono {K:PySem.W.Frag}{H H':Hp} (s:Same H H') {a:Addr}{xs:List V} (h:SqL K H a xs):SqL K H' a xs:=s.seq h
theorem DictAt.mono {H H':Hp} (s:Same H H') {a:Addr}{k:Bool}{ks:List KT}{vs:List V} (h:DictAt H a k ks vs):DictAt H' a k ks vs:=by
 rcases h with ⟨z,kvs,ep,h,r⟩ | ⟨z,kvs,ep,h,r⟩
 ·exact .inl ⟨z,kvs,ep,s _ _ h,r⟩
 ·exact .inr ⟨z,kvs,ep,s _ _ h,r⟩
theorem ExcAt.mono {H H':Hp} (s:Same H H') {a C:Addr} (h:ExcAt H a C):ExcAt H' a C:=let ⟨t,tb,u,h⟩:=h; ⟨t,tb,u,s _ _ h⟩
section
variable {K:PySem.W.Frag}
mutual
theorem Rep.mono {B B' H H':Hp}{S S':Addr->Prop} (sH:Same H H') (sB:Same B B') (sS:∀ a,S a->S' a):∀ {d:D}{v:V}{fp:List Addr},Rep K B S H d v fp->Rep K B' S' H' d v fp
 | .non,_,_,h=>h
 | .bl _,_,_,h=>h
 | .int _,_,_,h=>h
 | .str _,_,_,h=>h
 | .exc _,_,_,h=>let ⟨⟨a,e,z⟩,r⟩:=h; ⟨⟨a,e,z.mono sH⟩,r⟩
 | .tup xs,v,fp,h=>let ⟨a,vs,e,q,r⟩:=h; ⟨a,vs,e,sH _ _ q,RepL.mono sH sB sS r⟩
 | .lst .own xs,v,fp,h=>let ⟨a,vs,f,e,q,r,z⟩:=h; ⟨a,vs,f,e,sH _ _ q,RepL.mono sH sB sS r,z⟩
 | .lst .bor xs,v,fp,h=>let ⟨a,vs,e,q,r,z⟩:=h; ⟨a,vs,e,q.imp (fun y=>⟨sS _ y.1,rd_mono sH y.2⟩) (fun y=>rd_mono sB y),RepL.mono sH sB sS r,z⟩
 | .lst .frz xs,v,fp,h=>let ⟨a,vs,e,q,r,z⟩:=h; ⟨a,vs,e,rd_mono sB q,RepL.mono sH sB (fun _ x=>x) r,z⟩
 | .lst (.len _) _,_,_,h=>h.elim
 | .dct (.len a) k ks xs,v,fp,h=>let ⟨vs,f,e,q,r,z⟩:=h; ⟨vs,f,e,q.mono sH,RepL.mono sH sB sS r,z⟩
 | .dct .own k ks xs,v,fp,h=>let ⟨a,vs,f,e,q,r,z⟩:=h; ⟨a,vs,f,e,q.mono sH,RepL.mono sH sB sS r,z⟩
 | .dct .bor k ks xs,v,fp,h=>let ⟨a,vs,e,q,r,z⟩:=h; ⟨a,vs,e,q.imp (fun y=>⟨sS _ y.1,y.2.mono sH⟩) (fun y=>y.mono sB),RepL.mono sH sB sS r,z⟩
 | .dct .frz k ks xs,v,fp,h=>let ⟨a,vs,e,q,r,z⟩:=h; ⟨a,vs,e,q.mono sB,RepL.mono sH sB (fun _ x=>x) r,z⟩
theorem RepL.mono {B B' H H':Hp}{S S':Addr->Prop} (sH:Same H H') (sB:Same B B') (sS:∀ a,S a->S' a):∀ {ds:List D}{vs:List V}{fp:List Addr},RepL K B S H ds vs fp->RepL K B' S' H' ds vs fp
 | [],_,_,h=>h
 | d :: ds,vs,fp,h=>let ⟨v,r,f,g,e,h1,h2,z⟩:=h; ⟨v,r,f,g,e,Rep.mono sH sB sS h1,RepL.mono sH sB sS h2,z⟩
end
theorem RepL.length {B H:Hp}{S:Addr->Prop}:∀ {ds:List D}{vs:List V}{fp:List Addr},RepL K B S H ds vs fp->ds.length=vs.length
 | [],_,_,h=>by rw [h.1]; rfl
 | d :: ds,vs,fp,h=>by
  obtain ⟨v,r,f,g,e,h1,h2,z⟩:=h
  rw [e,List.length_cons,List.length_cons,RepL.length h2]
theorem nil_of_append {f g:List Addr} (h:([]:List Addr)=f ++ g):f=[]/\g=[]:=List.append_eq_nil_iff.mp h.symm
theorem RepL.get {B H:Hp}{S:Addr->Prop}:∀ {ds:List D}{vs:List V}{fp:List Addr}{i:Nat}{d:D},RepL K B S H ds vs fp->ds[i]?=some d->∃ v f,vs[i]?=some v/\Rep K B S H d v f/\List.Sublist f fp
 | [],_,_,i,_,_,e=>by simp at e
 | d :: ds,vs,fp,0,d',h,e=>by
  obtain ⟨v,r,f,g,e1,h1,h2,z⟩:=h
  have e:d=d' := by simpa using e
  subst e e1 z
  exact ⟨v,f,rfl,h1,List.sublist_append_left _ _⟩
 | d :: ds,vs,fp,i + 1,d',h,e=>by
  obtain ⟨v,r,f,g,e1,h1,h2,z⟩:=h
  subst e1 z
  obtain ⟨w,f',a1,a2,a3⟩:=RepL.get (i:=i) h2 (by simpa using e)
  exact ⟨w,f',by simpa using a1,a2,a3.trans (List.sublist_append_right _ _)⟩
theorem RepL.append {B H:Hp}{S:Addr->Prop}:∀ {xs ys:List D}{us vs:List V}{f g:List Addr},RepL K B S H xs us f->RepL K B S H ys vs g->RepL K B S H (xs ++ ys) (us ++ vs) (f ++ g)
 | [],ys,us,vs,f,g,h,h'=>by
  obtain ⟨rfl,rfl⟩:=h
  exact h'
 | d :: ds,ys,us,vs,f,g,h,h'=>by
  obtain ⟨v,r,f1,f2,e1,h1,h2,z⟩:=h
  subst e1 z
  exact ⟨v,r ++ vs,f1,f2 ++ g,rfl,h1,RepL.append h2 h',by rw [List.append_assoc]⟩
theorem RepL.one {B H:Hp}{S:Addr->Prop}{d:D}{v:V}{f:List Addr} (h:Rep K B S H d v f):RepL K B S H [d] [v] f:=⟨v,[],f,[],rfl,h,⟨rfl,rfl⟩,(List.append_nil _).symm⟩
theorem pure_fp {B H:Hp}{S:Addr->Prop}:(∀ (d:D) {v:V}{fp:List Addr},d.pure=true->Rep K B S H d v fp->fp=[])/\(∀ (ds:List D) {vs:List V}{fp:List Addr},pureL ds=true->RepL K B S H ds vs fp->fp=[]):=by
 refine ⟨fun d=>?_,fun ds=>?_⟩
 ·exact D.rec (motive_1:=fun d=>∀ {v:V}{fp:List Addr},d.pure=true->Rep K B S H d v fp->fp=[]) (motive_2:=fun ds=>∀ {vs:List V}{fp:List Addr},pureL ds=true->RepL K B S H ds vs fp->fp=[])
   (fun _ h=>h.2) (fun _ _ _ _ h=>h.2) (fun _ _ _ _ h=>h.2) (fun _ _ _ _ h=>h.2) (fun xs ih _ _ p h=>let ⟨_,_,_,_,r⟩:=h; ih p r) (fun _ _ _ _ _ p=>by cases p) (fun _ _ _ _ _ _ _ p=>by cases p) (fun _ _ _ _ h=>h.2) (fun _ h=>h.2)
   (fun d r ih1 ih2 _ _ p h=>by
    have p:(d.pure && pureL r)=true:=p
    rw [Bool.and_eq_true] at p
    obtain ⟨_,_,_,_,_,h1,h2,z⟩:=h
    rw [z,ih1 p.1 h1,ih2 p.2 h2]; rfl) d
 ·exact D.rec_1 (motive_1:=fun d=>∀ {v:V}{fp:List Addr},d.pure=true->Rep K B S H d v fp->fp=[]) (motive_2:=fun ds=>∀ {vs:List V}{fp:List Addr},pureL ds=true->RepL K B S H ds vs fp->fp=[])
   (fun _ h=>h.2) (fun _ _ _ _ h=>h.2) (fun _ _ _ _ h=>h.2) (fun _ _ _ _ h=>h.2) (fun xs ih _ _ p h=>let ⟨_,_,_,_,r⟩:=h; ih p r) (fun _ _ _ _ _ p=>by cases p) (fun _ _ _ _ _ _ _ p=>by cases p) (fun _ _ _ _ h=>h.2) (fun _ h=>h.2)
   (fun d r ih1 ih2 _ _ p h=>by
    have p:(d.pure && pureL r)=true:=p
    rw [Bool.and_eq_true] at p
    obtain ⟨_,_,_,_,_,h1,h2,z⟩:=h
    rw [z,ih1 p.1 h1,ih2 p.2 h2]; rfl) ds
end
abbrev No:Addr->Prop:=fun _=>False
section
variable {K:PySem.W.Frag}
mutual
theorem Rep.view {B H:Hp}{S:Addr->Prop}:∀ {d:D}{v:V}{fp:List Addr},Rep K B No H d v fp->(∀ a ∈ fp,S a)->Rep K B S H d.view v []
 | .non,_,_,h,_=>⟨h.1,rfl⟩
 | .bl _,_,_,h,_=>⟨h.1,rfl⟩
 | .int _,_,_,h,_=>⟨h.1,rfl⟩
 | .str _,_,_,h,_=>⟨h.1,rfl⟩
 | .exc _,_,_,h,_=>⟨h.1,rfl⟩
 | .tup xs,v,fp,h,hs=>let ⟨a,vs,e,q,r⟩:=h; ⟨a,vs,e,q,RepL.view r hs⟩
 | .lst .own xs,v,fp,h,hs=>by
  obtain ⟨a,vs,f,e,q,r,z⟩:=h
  subst z
  exact ⟨a,vs,e,.inl ⟨hs a List.mem_cons_self,SqL.of q⟩,RepL.view r fun b hb=>hs b (List.mem_cons_of_mem _ hb),rfl⟩
 | .lst .bor xs,v,fp,h,hs=>let ⟨a,vs,e,q,r,z⟩:=h; ⟨a,vs,e,.inr (q.resolve_left fun y=>y.1),RepL.view r (fun _ x=>by cases x),rfl⟩
 | .lst .frz xs,v,fp,h,hs=>let ⟨a,vs,e,q,r,z⟩:=h; ⟨a,vs,e,q,RepL.view (S:=No) r (fun _ x=>by cases x),rfl⟩
 | .lst (.len _) _,_,_,h,_=>h.elim
 | .dct (.len a) kd ks xs,v,fp,h,hs=>by
  obtain ⟨vs,f,e,q,r,z⟩:=h
  subst z
  exact ⟨a,vs,e,.inl ⟨hs a List.mem_cons_self,q⟩,RepL.view r fun b hb=>hs b (List.mem_cons_of_mem _ hb),rfl⟩
 | .dct .own kd ks xs,v,fp,h,hs=>by
  obtain ⟨a,vs,f,e,q,r,z⟩:=h
  subst z
  exact ⟨a,vs,e,.inl ⟨hs a List.mem_cons_self,q⟩,RepL.view r fun b hb=>hs b (List.mem_cons_of_mem _ hb),rfl⟩
 | .dct .bor kd ks xs,v,fp,h,hs=>let ⟨a,vs,e,q,r,z⟩:=h; ⟨a,vs,e,.inr (q.resolve_left fun y=>y.1),RepL.view r (fun _ x=>by cases x),rfl⟩
 | .dct .frz kd ks xs,v,fp,h,hs=>let ⟨a,vs,e,q,r,z⟩:=h; ⟨a,vs,e,q,RepL.view (S:=No) r (fun _ x=>by cases x),rfl⟩
theorem RepL.view {B H:Hp}{S:Addr->Prop}:∀ {ds:List D}{vs:List V}{fp:List Addr},RepL K B No H ds vs fp->(∀ a ∈ fp,S a)->RepL K B S H (viewL ds) vs []
 | [],_,_,h,_=>⟨h.1,rfl⟩
 | d :: ds,vs,fp,h,hs=>by
  obtain ⟨v,r,f,g,e,h1,h2,z⟩:=h
  subst z
  exact ⟨v,r,[],[],e,Rep.view h1 (fun b hb=>hs b (List.mem_append_left _ hb)),RepL.view h2 (fun b hb=>hs b (List.mem_append_right _ hb)),rfl⟩
end
theorem sqL_to {B B' H:Hp}{S:Addr->Prop}{a:Addr}{vs:List V} (sB:Same B B') (hs:∀ a o,S a->H a=some o->B' a=some o) (q:(S a/\SqL K H a vs) ∨ SqL K B a vs):SqL K B' a vs:=by
 rcases q with ⟨s,(q | ⟨o,q⟩) | q⟩ | q
 ·exact .inl (.inl (hs _ _ s q))
 ·exact .inl (.inr ⟨o,hs _ _ s q⟩)
 ·exact .inr q
 ·exact sB.seq q
theorem dictAt_to {B B' H:Hp}{S:Addr->Prop}{a:Addr}{kd:Bool}{ks:List KT}{vs:List V} (sB:Same B B') (hs:∀ a o,S a->H a=some o->B' a=some o) (q:(S a/\DictAt H a kd ks vs) ∨ DictAt B a kd ks vs):DictAt B' a kd ks vs:=by
 rcases q with ⟨s,⟨z,kvs,ep,q,r⟩ | ⟨z,kvs,ep,q,r⟩⟩ | q
 ·exact .inl ⟨z,kvs,ep,hs _ _ s q,r⟩
 ·exact .inr ⟨z,kvs,ep,hs _ _ s q,r⟩
 ·exact q.mono sB
mutual
theorem Rep.frz {B B' H:Hp}{S:Addr->Prop} (sB:Same B B') (hs:∀ a o,S a->H a=some o->B' a=some o):∀ {d:D}{v:V}{fp:List Addr},Rep K B S H d v fp->(∀ a ∈ fp,∀ o,H a=some o->B' a=some o)->Rep K B' No H d.frz v []
 | .non,_,_,h,_=>⟨h.1,rfl⟩
 | .bl _,_,_,h,_=>⟨h.1,rfl⟩
 | .int _,_,_,h,_=>⟨h.1,rfl⟩
 | .str _,_,_,h,_=>⟨h.1,rfl⟩
 | .exc _,_,_,h,_=>⟨h.1,rfl⟩
 | .tup xs,v,fp,h,hf=>let ⟨a,vs,e,q,r⟩:=h; ⟨a,vs,e,q,RepL.frz sB hs r hf⟩
 | .lst .own xs,v,fp,h,hf=>by
  obtain ⟨a,vs,f,e,q,r,z⟩:=h
  subst z
  exact ⟨a,vs,e,SqL.of (hf a List.mem_cons_self _ q),RepL.frz sB hs r fun b hb=>hf b (List.mem_cons_of_mem _ hb),rfl⟩
 | .lst .bor xs,v,fp,h,hf=>let ⟨a,vs,e,q,r,z⟩:=h; ⟨a,vs,e,sqL_to sB hs q,RepL.frz sB hs r (fun _ x=>by cases x),rfl⟩
 | .lst .frz xs,v,fp,h,hf=>let ⟨a,vs,e,q,r,z⟩:=h; ⟨a,vs,e,rd_mono sB q,RepL.frz sB (fun _ _ x=>x.elim) r (fun _ x=>by cases x),rfl⟩
 | .lst (.len _) _,_,_,h,_=>h.elim
 | .dct (.len a) kd ks xs,v,fp,h,hf=>by
  obtain ⟨vs,f,e,q,r,z⟩:=h
  subst z
  refine ⟨a,vs,e,?_,RepL.frz sB hs r fun b hb=>hf b (List.mem_cons_of_mem _ hb),rfl⟩
  exact dictAt_to (S:=fun b=>b=a) sB (fun b o eb=>by rw [eb]; exact hf a List.mem_cons_self o) (.inl ⟨rfl,q⟩)
 | .dct .own kd ks xs,v,fp,h,hf=>by
  obtain ⟨a,vs,f,e,q,r,z⟩:=h
  subst z
  refine ⟨a,vs,e,?_,RepL.frz sB hs r fun b hb=>hf b (List.mem_cons_of_mem _ hb),rfl⟩
  exact dictAt_to (S:=fun b=>b=a) sB (fun b o eb=>by rw [eb]; exact hf a List.mem_cons_self o) (.inl ⟨rfl,q⟩)
 | .dct .bor kd ks xs,v,fp,h,hf=>let ⟨a,vs,e,q,r,z⟩:=h; ⟨a,vs,e,dictAt_to sB hs q,RepL.frz sB hs r (fun _ x=>by cases x),rfl⟩
 | .dct .frz kd ks xs,v,fp,h,hf=>let ⟨a,vs,e,q,r,z⟩:=h; ⟨a,vs,e,q.mono sB,RepL.frz sB (fun _ _ x=>x.elim) r (fun _ x=>by cases x),rfl⟩
theorem RepL.frz {B B' H:Hp}{S:Addr->Prop} (sB:Same B B') (hs:∀ a o,S a->H a=some o->B' a=some o):∀ {ds:List D}{vs:List V}{fp:List Addr},RepL K B S H ds vs fp->(∀ a ∈ fp,∀ o,H a=some o->B' a=some o)->RepL K B' No H (frzL ds) vs []
 | [],_,_,h,_=>⟨h.1,rfl⟩
 | d :: ds,vs,fp,h,hf=>by
  obtain ⟨v,r,f,g,e,h1,h2,z⟩:=h
  subst z
  exact ⟨v,r,[],[],e,Rep.frz sB hs h1 (fun b hb=>hf b (List.mem_append_left _ hb)),RepL.frz sB hs h2 (fun b hb=>hf b (List.mem_append_right _ hb)),rfl⟩
end
theorem sqL_back {B B' H:Hp}{S:Addr->Prop}{a:Addr}{vs:List V} (sH:Same B H) (hb:∀ a o,B a=some o->B' a=some o ∨ S a) (q:SqL K B a vs):(S a/\SqL K H a vs) ∨ SqL K B' a vs:=by
 rcases q with (q | ⟨o,q⟩) | q
 ·exact (hb _ _ q).symm.imp (fun s=>⟨s,SqL.of (sH _ _ q)⟩) fun z=>.inl (.inl z)
 ·exact (hb _ _ q).symm.imp (fun s=>⟨s,.inl (.inr ⟨o,sH _ _ q⟩)⟩) fun z=>.inl (.inr ⟨o,z⟩)
 ·exact .inr (.inr q)
theorem dictAt_back {B B' H:Hp}{S:Addr->Prop}{a:Addr}{kd:Bool}{ks:List KT}{vs:List V} (sH:Same B H) (hb:∀ a o,B a=some o->B' a=some o ∨ S a) (q:DictAt B a kd ks vs):(S a/\DictAt H a kd ks vs) ∨ DictAt B' a kd ks vs:=by
 rcases q with ⟨y,kvs,ep,q,r⟩ | ⟨y,kvs,ep,q,r⟩
 ·exact (hb _ _ q).symm.imp (fun s=>⟨s,.inl ⟨y,kvs,ep,sH _ _ q,r⟩⟩) fun z=>.inl ⟨y,kvs,ep,z,r⟩
 ·exact (hb _ _ q).symm.imp (fun s=>⟨s,.inr ⟨y,kvs,ep,sH _ _ q,r⟩⟩) fun z=>.inr ⟨y,kvs,ep,z,r⟩
mutual
theorem Rep.toBor {B B' H:Hp}{S:Addr->Prop} (sH:Same B H) (hb:∀ a o,B a=some o->B' a=some o ∨ S a):∀ {d:D}{v:V}{fp:List Addr},Rep K B No H d v fp->Rep K B' S H d.toBor v fp
 | .non,_,_,h=>h
 | .bl _,_,_,h=>h
 | .int _,_,_,h=>h
 | .str _,_,_,h=>h
 | .exc _,_,_,h=>h
 | .tup xs,v,fp,h=>let ⟨a,vs,e,q,r⟩:=h; ⟨a,vs,e,q,RepL.toBor sH hb r⟩
 | .lst .own xs,v,fp,h=>let ⟨a,vs,f,e,q,r,z⟩:=h; ⟨a,vs,f,e,q,RepL.toBor sH hb r,z⟩
 | .lst .bor xs,v,fp,h=>let ⟨a,vs,e,q,r,z⟩:=h; ⟨a,vs,e,sqL_back sH hb (q.resolve_left fun y=>y.1),RepL.toBor sH hb r,z⟩
 | .lst .frz xs,v,fp,h=>let ⟨a,vs,e,q,r,z⟩:=h; ⟨a,vs,e,sqL_back sH hb q,RepL.toBor sH hb r,z⟩
 | .lst (.len _) _,_,_,h=>h.elim
 | .dct (.len a) kd ks xs,v,fp,h=>let ⟨vs,f,e,q,r,z⟩:=h; ⟨vs,f,e,q,RepL.toBor sH hb r,z⟩
 | .dct .own kd ks xs,v,fp,h=>let ⟨a,vs,f,e,q,r,z⟩:=h; ⟨a,vs,f,e,q,RepL.toBor sH hb r,z⟩
 | .dct .bor kd ks xs,v,fp,h=>let ⟨a,vs,e,q,r,z⟩:=h; ⟨a,vs,e,dictAt_back sH hb (q.resolve_left fun y=>y.1),RepL.toBor sH hb r,z⟩
 | .dct .frz kd ks xs,v,fp,h=>let ⟨a,vs,e,q,r,z⟩:=h; ⟨a,vs,e,dictAt_back sH hb q,RepL.toBor sH hb r,z⟩
theorem RepL.toBor {B B' H:Hp}{S:Addr->Prop} (sH:Same B H) (hb:∀ a o,B a=some o->B' a=some o ∨ S a):∀ {ds:List D}{vs:List V}{fp:List Addr},RepL K B No H ds vs fp->RepL K B' S H (toBorL ds) vs fp
 | [],_,_,h=>h
 | d :: ds,vs,fp,h=>let ⟨v,r,f,g,e,h1,h2,z⟩:=h; ⟨v,r,f,g,e,Rep.toBor sH hb h1,RepL.toBor sH hb h2,z⟩
end
mutual
theorem Rep.noBor {B H:Hp}{S:Addr->Prop}:∀ {d:D}{v:V}{fp:List Addr},d.hasBor=false->Rep K B S H d v fp->Rep K B No H d v fp
 | .non,_,_,_,h=>h
 | .bl _,_,_,_,h=>h
 | .int _,_,_,_,h=>h
 | .str _,_,_,_,h=>h
 | .exc _,_,_,_,h=>h
 | .tup xs,v,fp,p,h=>let ⟨a,vs,e,q,r⟩:=h; ⟨a,vs,e,q,RepL.noBor (ds:=xs) p r⟩
 | .lst .own xs,v,fp,p,h=>let ⟨a,vs,f,e,q,r,z⟩:=h; ⟨a,vs,f,e,q,RepL.noBor (ds:=xs) (by simpa [D.hasBor] using p) r,z⟩
 | .lst .bor xs,v,fp,p,h=>by simp [D.hasBor] at p
 | .lst .frz xs,v,fp,p,h=>h
 | .lst (.len _) _,_,_,_,h=>h.elim
 | .dct (.len a) kd ks xs,v,fp,p,h=>let ⟨vs,f,e,q,r,z⟩:=h; ⟨vs,f,e,q,RepL.noBor (ds:=xs) (by simpa [D.hasBor] using p) r,z⟩
 | .dct .own kd ks xs,v,fp,p,h=>let ⟨a,vs,f,e,q,r,z⟩:=h; ⟨a,vs,f,e,q,RepL.noBor (ds:=xs) (by simpa [D.hasBor] using p) r,z⟩
 | .dct .bor kd ks xs,v,fp,p,h=>by simp [D.hasBor] at p
 | .dct .frz kd ks xs,v,fp,p,h=>h
theorem RepL.noBor {B H:Hp}{S:Addr->Prop}:∀ {ds:List D}{vs:List V}{fp:List Addr},hasBorL ds=false->RepL K B S H ds vs fp->RepL K B No H ds vs fp
 | [],_,_,_,h=>h
 | d :: ds,vs,fp,p,h=>by
  obtain ⟨v,r,f,g,e,h1,h2,z⟩:=h
  have p:(d.hasBor || hasBorL ds)=false:=p
  rw [Bool.or_eq_false_iff] at p
  exact ⟨v,r,f,g,e,Rep.noBor p.1 h1,RepL.noBor p.2 h2,z⟩
end
def mutO:HO->Prop
 | .lst _=>True
 | .dK _ _=>True
 | .dT _ _=>True
 | _=>False
structure Keep (H H':Hp) (M:List Addr):Prop where
 keep:∀ a o,H a=some o->a ∉ M->H' a=some o
 muts:∀ a ∈ M,∃ o,H a=some o/\mutO o
theorem Keep.imm {H H':Hp}{M:List Addr} (k:Keep H H' M) {a:Addr}{o:HO} (h:H a=some o) (n:¬ mutO o):H' a=some o:=k.keep a o h fun m=>by
 obtain ⟨u,e,z⟩:=k.muts a m
 rw [h] at e
 cases e
 exact n z
mutual
theorem Rep.keep {B H H':Hp}{M:List Addr} (k:Keep H H' M):∀ {d:D}{v:V}{fp:List Addr},Rep K B No H d v fp->(∀ a ∈ fp,a ∉ M)->Rep K B No H' d v fp
 | .non,_,_,h,_=>h
 | .bl _,_,_,h,_=>h
 | .int _,_,_,h,_=>h
 | .str _,_,_,h,_=>h
 | .exc _,_,_,h,_=>let ⟨⟨a,e,t,tb,u,h1⟩,r⟩:=h; ⟨⟨a,e,t,tb,u,k.imm h1 (fun x=>x)⟩,r⟩
 | .tup xs,v,fp,h,hf=>by
  obtain ⟨a,vs,e,q,r⟩:=h
  exact ⟨a,vs,e,k.imm q (fun x=>x),RepL.keep k r hf⟩
 | .lst .own xs,v,fp,h,hf=>by
  obtain ⟨a,vs,f,e,q,r,z⟩:=h
  subst z
  exact ⟨a,vs,f,e,k.keep _ _ q (hf a List.mem_cons_self),RepL.keep k r fun b hb=>hf b (List.mem_cons_of_mem _ hb),rfl⟩
 | .lst .bor xs,v,fp,h,hf=>let ⟨a,vs,e,q,r,z⟩:=h; ⟨a,vs,e,.inr (q.resolve_left fun y=>y.1),RepL.keep k r (fun _ x=>by cases x),z⟩
 | .lst .frz xs,v,fp,h,hf=>let ⟨a,vs,e,q,r,z⟩:=h; ⟨a,vs,e,q,RepL.keep k r (fun _ x=>by cases x),z⟩
 | .lst (.len _) _,_,_,h,_=>h.elim
 | .dct (.len a) kd ks xs,v,fp,h,hf=>by
  obtain ⟨vs,f,e,q,r,z⟩:=h
  subst z
  have hm:=hf a List.mem_cons_self
  refine ⟨vs,f,e,?_,RepL.keep k r fun b hb=>hf b (List.mem_cons_of_mem _ hb),rfl⟩
  rcases q with ⟨y,kvs,ep,q,w⟩ | ⟨y,kvs,ep,q,w⟩
  ·exact .inl ⟨y,kvs,ep,k.keep _ _ q hm,w⟩
  ·exact .inr ⟨y,kvs,ep,k.keep _ _ q hm,w⟩
 | .dct .own kd ks xs,v,fp,h,hf=>by
  obtain ⟨a,vs,f,e,q,r,z⟩:=h
  subst z
  have hm:=hf a List.mem_cons_self
  refine ⟨a,vs,f,e,?_,RepL.keep k r fun b hb=>hf b (List.mem_cons_of_mem _ hb),rfl⟩
  rcases q with ⟨y,kvs,ep,q,w⟩ | ⟨y,kvs,ep,q,w⟩
  ·exact .inl ⟨y,kvs,ep,k.keep _ _ q hm,w⟩
  ·exact .inr ⟨y,kvs,ep,k.keep _ _ q hm,w⟩
 | .dct .bor kd ks xs,v,fp,h,hf=>let ⟨a,vs,e,q,r,z⟩:=h; ⟨a,vs,e,.inr (q.resolve_left fun y=>y.1),RepL.keep k r (fun _ x=>by cases x),z⟩
 | .dct .frz kd ks xs,v,fp,h,hf=>let ⟨a,vs,e,q,r,z⟩:=h; ⟨a,vs,e,q,RepL.keep k r (fun _ x=>by cases x),z⟩
theorem RepL.keep {B H H':Hp}{M:List Addr} (k:Keep H H' M):∀ {ds:List D}{vs:List V}{fp:List Addr},RepL K B No H ds vs fp->(∀ a ∈ fp,a ∉ M)->RepL K B No H' ds vs fp
 | [],_,_,h,_=>h
 | d :: ds,vs,fp,h,hf=>by
  obtain ⟨v,r,f,g,e,h1,h2,z⟩:=h
  subst z
  exact ⟨v,r,f,g,e,Rep.keep k h1 (fun b hb=>hf b (List.mem_append_left _ hb)),RepL.keep k h2 (fun b hb=>hf b (List.mem_append_right _ hb)),rfl⟩
end
mutual
theorem Rep.own {B H:Hp}{S:Addr->Prop}:∀ {d:D}{v:V}{fp:List Addr},Rep K B S H d v fp->∀ a ∈ fp,∃ o,H a=some o/\mutO o
 | .non,_,_,h=>by rw [h.2]; intro a m; cases m
 | .bl _,_,_,h=>by rw [h.2]; intro a m; cases m
 | .int _,_,_,h=>by rw [h.2]; intro a m; cases m
 | .str _,_,_,h=>by rw [h.2]; intro a m; cases m
 | .exc _,_,_,h=>by rw [h.2]; intro a m; cases m
 | .tup xs,v,fp,h=>let ⟨a,vs,e,q,r⟩:=h; RepL.own r
 | .lst .own xs,v,fp,h=>by
  obtain ⟨a,vs,f,e,q,r,z⟩:=h
  subst z
  intro b hb
  rcases List.mem_cons.mp hb with e | e
  ·subst e; exact ⟨_,q,trivial⟩
  ·exact RepL.own r b e
 | .lst .bor xs,v,fp,h=>by obtain ⟨a,vs,e,q,r,z⟩:=h; rw [z]; intro a m; cases m
 | .lst .frz xs,v,fp,h=>by obtain ⟨a,vs,e,q,r,z⟩:=h; rw [z]; intro a m; cases m
 | .lst (.len _) _,_,_,h=>h.elim
 | .dct (.len a) kd ks xs,v,fp,h=>by
  obtain ⟨vs,f,e,q,r,z⟩:=h
  subst z
  intro b hb
  rcases List.mem_cons.mp hb with e | e
  ·subst e
   rcases q with ⟨y,kvs,ep,q,w⟩ | ⟨y,kvs,ep,q,w⟩
   ·exact ⟨_,q,trivial⟩
   ·exact ⟨_,q,trivial⟩
  ·exact RepL.own r b e
 | .dct .own kd ks xs,v,fp,h=>by
  obtain ⟨a,vs,f,e,q,r,z⟩:=h
  subst z
  intro b hb
  rcases List.mem_cons.mp hb with e | e
  ·subst e
   rcases q with ⟨y,kvs,ep,q,w⟩ | ⟨y,kvs,ep,q,w⟩
   ·exact ⟨_,q,trivial⟩
   ·exact ⟨_,q,trivial⟩
  ·exact RepL.own r b e
 | .dct .bor kd ks xs,v,fp,h=>by obtain ⟨a,vs,e,q,r,z⟩:=h; rw [z]; intro a m; cases m
 | .dct .frz kd ks xs,v,fp,h=>by obtain ⟨a,vs,e,q,r,z⟩:=h; rw [z]; intro a m; cases m
theorem RepL.own {B H:Hp}{S:Addr->Prop}:∀ {ds:List D}{vs:List V}{fp:List Addr},RepL K B S H ds vs fp->∀ a ∈ fp,∃ o,H a=some o/\mutO o
 | [],_,_,h=>by rw [h.2]; intro a m; cases m
 | d :: ds,vs,fp,h=>by
  obtain ⟨v,r,f,g,e,h1,h2,z⟩:=h
  subst z
  intro b hb
  rcases List.mem_append.mp hb with e | e
  ·exact Rep.own h1 b e
  ·exact RepL.own h2 b e
end
def RepS (K:PySem.W.Frag) (B H:Hp):SD->L2.St->List Addr->Prop
 | [],σ,P=>σ=[]/\P=[]
 | none :: r,σ,P=>∃ o τ,σ=o :: τ/\RepS K B H r τ P
 | some d :: r,σ,P=>∃ v τ f g,σ=some v :: τ/\Rep K B No H d v f/\RepS K B H r τ g/\P=f ++ g
structure SI (K:PySem.W.Frag) (H0 B0 B H:Hp) (σ:L2.St) (τ:SD) (P:List Addr) (F:Addr->Prop):Prop where
 bh:Same B H
 h0:Same H0 H
 b0:Same B0 B
 nb:∀ a,B a ≠ none->B0 a ≠ none ∨ H0 a=none
 rep:RepS K B H τ σ P
 nd:P.Nodup
 own:∀ a ∈ P,B a=none/\H0 a=none/\¬ F a
 fr:∀ a,F a->B a=none/\H a ≠ none
structure Vok (H0 B H:Hp) (P:List Addr) (F:Addr->Prop) (fp:List Addr):Prop where
 nd:fp.Nodup
 own:∀ a ∈ fp,B a=none/\H0 a=none/\H a ≠ none/\a ∉ P/\¬ F a
theorem Vok.nil {H0 B H:Hp}{P:List Addr}{F:Addr->Prop}:Vok H0 B H P F []:=⟨List.nodup_nil,fun a m=>by cases m⟩
theorem Vok.sub {H0 B H:Hp}{P:List Addr}{F:Addr->Prop}{fp fq:List Addr} (h:Vok H0 B H P F fp) (s:List.Sublist fq fp):Vok H0 B H P F fq:=⟨h.nd.sublist s,fun a m=>h.own a (s.subset m)⟩
theorem RepS.own {B H:Hp}:∀ {τ:SD}{σ:L2.St}{P:List Addr},RepS K B H τ σ P->∀ a ∈ P,∃ o,H a=some o/\mutO o
 | [],_,_,h=>by rw [h.2]; intro a m; cases m
 | none :: r,σ,P,h=>by obtain ⟨o,τ,e,h⟩:=h; exact RepS.own h
 | some d :: r,σ,P,h=>by
  obtain ⟨v,τ,f,g,e,h1,h2,z⟩:=h
  subst z
  intro b hb
  rcases List.mem_append.mp hb with e | e
  ·exact Rep.own h1 b e
  ·exact RepS.own h2 b e
theorem RepS.mono {B B' H H':Hp} (sH:Same H H') (sB:Same B B'):∀ {τ:SD}{σ:L2.St}{P:List Addr},RepS K B H τ σ P->RepS K B' H' τ σ P
 | [],_,_,h=>h
 | none :: r,σ,P,h=>let ⟨o,τ,e,h⟩:=h; ⟨o,τ,e,RepS.mono sH sB h⟩
 | some d :: r,σ,P,h=>let ⟨v,τ,f,g,e,h1,h2,z⟩:=h; ⟨v,τ,f,g,e,Rep.mono sH sB (fun _ x=>x) h1,RepS.mono sH sB h2,z⟩
theorem RepS.get {B H:Hp}:∀ {τ:SD}{σ:L2.St}{P:List Addr}{i:Nat}{d:D},RepS K B H τ σ P->τ[i]?=some (some d)->∃ v f,σ[i]?=some (some v)/\Rep K B No H d v f/\List.Sublist f P
 | [],_,_,i,_,_,e=>by simp at e
 | none :: r,σ,P,0,d,h,e=>by simp at e
 | none :: r,σ,P,i + 1,d,h,e=>by
  obtain ⟨o,τ,e1,h⟩:=h
  subst e1
  obtain ⟨v,f,a1,a2,a3⟩:=RepS.get (i:=i) h (by simpa using e)
  exact ⟨v,f,by simpa using a1,a2,a3⟩
 | some d :: r,σ,P,0,d',h,e=>by
  obtain ⟨v,τ,f,g,e1,h1,h2,z⟩:=h
  have e:d=d' := by simpa using e
  subst e e1 z
  exact ⟨v,f,rfl,h1,List.sublist_append_left _ _⟩
 | some d :: r,σ,P,i + 1,d',h,e=>by
  obtain ⟨v,τ,f,g,e1,h1,h2,z⟩:=h
  subst e1 z
  obtain ⟨w,f',a1,a2,a3⟩:=RepS.get (i:=i) h2 (by simpa using e)
  exact ⟨w,f',by simpa using a1,a2,a3.trans (List.sublist_append_right _ _)⟩
variable {H0 B0 B H:Hp}{σ:L2.St}{τ:SD}{P:List Addr}{F:Addr->Prop}
theorem SI.stands (I:SI K H0 B0 B H σ τ P F) {a:Addr} (h:a ∈ P):H a ≠ none:=by
 obtain ⟨o,e,_⟩:=I.rep.own a h
 rw [e]; exact fun z=>by cases z
theorem SI.anti {F':Addr->Prop} (I:SI K H0 B0 B H σ τ P F) (h:∀ a,F' a->F a):SI K H0 B0 B H σ τ P F' :=
 ⟨I.bh,I.h0,I.b0,I.nb,I.rep,I.nd,fun a m=>let ⟨x,y,z⟩:=I.own a m; ⟨x,y,fun q=>z (h a q)⟩,fun a m=>I.fr a (h a m)⟩
theorem SI.hold {fp:List Addr} (I:SI K H0 B0 B H σ τ P F) (v:Vok H0 B H P F fp):SI K H0 B0 B H σ τ P (fun a=>a ∈ fp ∨ F a) :=
 ⟨I.bh,I.h0,I.b0,I.nb,I.rep,I.nd,fun a m=>let ⟨x,y,z⟩:=I.own a m; ⟨x,y,fun q=>q.elim (fun r=>(v.own a r).2.2.2.1 m) z⟩,fun a m=>m.elim (fun r=>⟨(v.own a r).1,(v.own a r).2.2.1⟩) (I.fr a)⟩
theorem SI.grow {H':Hp} (I:SI K H0 B0 B H σ τ P F) (s:Same H H'):SI K H0 B0 B H' σ τ P F :=
 ⟨I.bh.trans s,I.h0.trans s,I.b0,I.nb,I.rep.mono s (fun _ _ x=>x),I.nd,I.own,fun a m=>⟨(I.fr a m).1,fun z=>(I.fr a m).2 (s.free z)⟩⟩
theorem Vok.grow {H' B':Hp}{fp:List Addr} (v:Vok H0 B H P F fp) (s:Same H H') (hb:∀ a ∈ fp,B' a=none):Vok H0 B' H' P F fp :=
 ⟨v.nd,fun a m=>let ⟨x,y,z,p,q⟩:=v.own a m; ⟨hb a m,y,fun n=>z (s.free n),p,q⟩⟩
theorem SI.newAt (I:SI K H0 B0 B H σ τ P F) {p:Addr} (h:H p=none):B p=none/\H0 p=none/\p ∉ P/\¬ F p :=
 ⟨I.bh.free h,I.h0.free h,fun m=>I.stands m h,fun m=>(I.fr p m).2 h⟩
end
theorem ex8 {α β γ δ ε ζ:Sort _}{p q:α->β->γ->δ->ε->ζ->Prop}{C:Prop} (h:∃ a b c d e f,p a b c d e f/\q a b c d e f) (k:∀ a b c d e f,p a b c d e f->q a b c d e f->C):C:=h.elim fun a h=>h.elim fun b h=>h.elim fun c h=>h.elim fun d h=>h.elim fun e h=>h.elim fun f h=>k a b c d e f h.1 h.2
theorem ex7 {α β γ δ ε:Sort _}{p q:α->β->γ->δ->ε->Prop}{C:Prop} (h:∃ a b c d e,p a b c d e/\q a b c d e) (k:∀ a b c d e,p a b c d e->q a b c d e->C):C:=h.elim fun a h=>h.elim fun b h=>h.elim fun c h=>h.elim fun d h=>h.elim fun e h=>k a b c d e h.1 h.2
theorem ex12 {α β γ δ ε ζ η θ:Sort _}{p q r s:α->β->γ->δ->ε->ζ->η->θ->Prop}{C:Prop} (h:∃ a b c d e f g i,p a b c d e f g i/\q a b c d e f g i/\r a b c d e f g i/\s a b c d e f g i) (k:∀ a b c d e f g i,p a b c d e f g i->q a b c d e f g i->r a b c d e f g i->s a b c d e f g i->C):C:=h.elim fun a h=>h.elim fun b h=>h.elim fun c h=>h.elim fun d h=>h.elim fun e h=>h.elim fun f h=>h.elim fun g h=>h.elim fun i h=>k a b c d e f g i h.1 h.2.1 h.2.2.1 h.2.2.2
structure XY where
 ex:Addr->L2.St->Hp->Prop
 ln:Bool
instance:CoeFun XY fun _=>Addr->L2.St->Hp->Prop:=⟨XY.ex⟩
abbrev NoY:XY:=⟨fun _ _ _=>False,false⟩
section
variable (K:PySem.W.Frag) (Y:XY) (H0 B0 B H:Hp) (σ:L2.St) (τ:SD) (P:List Addr) (F:Addr->Prop)
def Out (Q:VK) (d:D):Prop := ∀ v H' B' fp,SI K H0 B0 B' H' σ τ P F->Same H H'->Same B B'->Rep K B' (· ∈ P) H' d v fp->Vok H0 B' H' P F fp->Q v H'
def OutX (C:Addr):Prop := ∀ H' B',SI K H0 B0 B' H' σ τ P F->Same H H'->Same B B'->Y C σ H'
def OutL (Q:List V->Hp->Prop) (ds:List D):Prop := ∀ vs H' B' fp,SI K H0 B0 B' H' σ τ P F->Same H H'->Same B B'->RepL K B' (· ∈ P) H' ds vs fp->Vok H0 B' H' P F fp->Q vs H'
def OutB (Q:Bool->Hp->Prop) (b:Bool):Prop := ∀ H' B',SI K H0 B0 B' H' σ τ P F->Same H H'->Same B B'->Q b H'
def Goal (Q:VK):Res D->Prop
 | .ok d=>Out K H0 B0 B H σ τ P F Q d
 | .exn C=>OutX K Y H0 B0 B H σ τ P F C
 | .bad=>False
def GoalL (Q:List V->Hp->Prop):Res (List D)->Prop
 | .ok d=>OutL K H0 B0 B H σ τ P F Q d
 | .exn C=>OutX K Y H0 B0 B H σ τ P F C
 | .bad=>False
def GoalB (Q:Bool->Hp->Prop):Res Bool->Prop
 | .ok d=>OutB K H0 B0 B H σ τ P F Q d
 | .exn C=>OutX K Y H0 B0 B H σ τ P F C
 | .bad=>False
end
def tM (K:PySem.W.Frag) (Y:XY) (f:SD->Res D):TE:=fun σ H Q=>∃ H0 B0 B τ P F,SI K H0 B0 B H σ τ P F/\Goal K Y H0 B0 B H σ τ P F Q (f τ)
def tML (K:PySem.W.Frag) (Y:XY) (f:SD->Res (List D)):TA:=fun σ H Q=>∃ H0 B0 B τ P F,SI K H0 B0 B H σ τ P F/\GoalL K Y H0 B0 B H σ τ P F Q (f τ)
def tMB (K:PySem.W.Frag) (Y:XY) (f:SD->Res Bool):TT:=fun σ H Q=>∃ H0 B0 B τ P F,SI K H0 B0 B H σ τ P F/\GoalB K Y H0 B0 B H σ τ P F Q (f τ)
section
variable {K:PySem.W.Frag}{Y:XY}{H0 B0 B H:Hp}{σ:L2.St}{τ:SD}{P:List Addr}{F:Addr->Prop}
theorem OutX.later {H1 B1:Hp}{F':Addr->Prop}{C:Addr} (h:OutX K Y H0 B0 B H σ τ P F C) (sH:Same H H1) (sB:Same B B1) (hF:∀ a,F a->F' a):OutX K Y H0 B0 B1 H1 σ τ P F' C :=
 fun H' B' I s b=>h H' B' (I.anti hF) (sH.trans s) (sB.trans b)
theorem Out.later {H1 B1:Hp}{Q:VK}{d:D} (h:Out K H0 B0 B H σ τ P F Q d) (sH:Same H H1) (sB:Same B B1):Out K H0 B0 B1 H1 σ τ P F Q d :=
 fun v H' B' fp I s b r k=>h v H' B' fp I (sH.trans s) (sB.trans b) r k
theorem Goal.later {H1 B1:Hp}{Q:VK}{r:Res D} (h:Goal K Y H0 B0 B H σ τ P F Q r) (sH:Same H H1) (sB:Same B B1):Goal K Y H0 B0 B1 H1 σ τ P F Q r:=by
 cases r with
 | ok d=>exact Out.later h sH sB
 | exn C=>exact OutX.later h sH sB fun _ x=>x
 | bad=>exact h
theorem Out.here {Q:VK}{d:D}{v:V} (h:Out K H0 B0 B H σ τ P F Q d) (I:SI K H0 B0 B H σ τ P F) (r:Rep K B (· ∈ P) H d v []):Q v H:=h v H B [] I (Same.refl _) (Same.refl _) r Vok.nil
theorem Out.hereO {Q:VK}{d:D}{v:V}{fp:List Addr} (h:Out K H0 B0 B H σ τ P F Q d) (I:SI K H0 B0 B H σ τ P F) (r:Rep K B (· ∈ P) H d v fp) (k:Vok H0 B H P F fp):Q v H:=h v H B fp I (Same.refl _) (Same.refl _) r k
theorem sameUpd' {p:Addr}{o:HO} (h:H p=none):Same H (upd H p o):=fun b u e=>by
 rw [upd_ne (ne_of_none e h)]; exact e
theorem Out.newL {Q:VK}{ds:List D}{vs:List V}{fp:List Addr}{p:Addr} (h:Out K H0 B0 B H σ τ P F Q (.lst .own ds)) (I:SI K H0 B0 B H σ τ P F) (r:RepL K B (· ∈ P) H ds vs fp) (k:Vok H0 B H P F fp) (hp:H p=none):Q (.ref p) (upd H p (.lst vs)):=by
 have s:=sameUpd' (o := .lst vs) hp
 obtain ⟨n1,n2,n3,n4⟩:=I.newAt hp
 refine h (.ref p) _ B (p :: fp) (I.grow s) s (Same.refl _) ⟨p,vs,fp,rfl,upd_same,r.mono s (Same.refl _) (fun _ x=>x),rfl⟩ ⟨List.nodup_cons.mpr ⟨fun m=>(k.own p m).2.2.1 hp,k.nd⟩,fun a m=>?_⟩
 rcases List.mem_cons.mp m with e | e
 ·subst e
  exact ⟨n1,n2,(by rw [upd_same]; exact Option.some_ne_none _),n3,n4⟩
 ·obtain ⟨a1,a2,a3,a4,a5⟩:=k.own a e
  exact ⟨a1,a2,fun z=>a3 (s.free z),a4,a5⟩
theorem Out.newT {Q:VK}{ds:List D}{vs:List V}{fp:List Addr}{p:Addr} (h:Out K H0 B0 B H σ τ P F Q (.tup ds)) (I:SI K H0 B0 B H σ τ P F) (r:RepL K B (· ∈ P) H ds vs fp) (k:Vok H0 B H P F fp) (hp:H p=none):Q (.ref p) (upd H p (.tup vs)):=by
 have s:=sameUpd' (o := .tup vs) hp
 exact h (.ref p) _ B fp (I.grow s) s (Same.refl _) ⟨p,vs,rfl,upd_same,r.mono s (Same.refl _) (fun _ x=>x)⟩ (k.grow s fun a m=>(k.own a m).1)
theorem Vok.both {H1 B1:Hp}{f g:List Addr} (k:Vok H0 B H P F f) (sH:Same H H1) (I1:SI K H0 B0 B1 H1 σ τ P (fun a=>a ∈ f ∨ F a)) (k':Vok H0 B1 H1 P (fun a=>a ∈ f ∨ F a) g):Vok H0 B1 H1 P F (f ++ g):=by
 refine ⟨List.nodup_append.mpr ⟨k.nd,k'.nd,fun a ha b hb e=>?_⟩,fun a m=>?_⟩
 ·subst e
  exact (k'.own a hb).2.2.2.2 (.inl ha)
 ·rcases List.mem_append.mp m with e | e
  ·obtain ⟨a1,a2,a3,a4,a5⟩:=k.own a e
   exact ⟨(I1.fr a (.inl e)).1,a2,(I1.fr a (.inl e)).2,a4,a5⟩
  ·obtain ⟨a1,a2,a3,a4,a5⟩:=k'.own a e
   exact ⟨a1,a2,a3,a4,fun z=>a5 (.inr z)⟩
theorem Vok.left {f g:List Addr} (k:Vok H0 B H P F (f ++ g)):Vok H0 B H P F f:=k.sub (List.sublist_append_left _ _)
theorem Vok.right {f g:List Addr} (k:Vok H0 B H P F (f ++ g)):Vok H0 B H P F g:=k.sub (List.sublist_append_right _ _)
theorem PE.imp {X:Cx}{e:Expr}{t t':TE} (h:PE X e t) (hi:∀ σ H Q,t' σ H Q->t σ H Q):PE X e t' := fun pins s σ H Q I hw=>h pins s σ H Q I (hi σ H Q hw)
theorem PT.imp {X:Cx}{e:Expr}{t t':TT} (h:PT X e t) (hi:∀ σ H Q,t' σ H Q->t σ H Q):PT X e t' := fun pins s σ H Q I hw=>h pins s σ H Q I (hi σ H Q hw)
theorem PA.imp {X:Cx}{es:List Expr}{t t':TA} (h:PA X es t) (hi:∀ σ H Q,t' σ H Q->t σ H Q):PA X es t' := fun pos pins s σ H Q I hw=>h pos pins s σ H Q I (hi σ H Q hw)
theorem PS.imp {X:Cx}{st:Stmt}{t t':TS} (h:PS X st t) (hi:∀ E σ H,t' E σ H->t E σ H):PS X st t' := fun pins s σ H E I hw=>h pins s σ H E I (hi E σ H hw)
theorem PSs.imp {X:Cx}{st:List Stmt}{t t':TS} (h:PSs X st t) (hi:∀ E σ H,t' E σ H->t E σ H):PSs X st t' := fun pins s σ H E I hw=>h pins s σ H E I (hi E σ H hw)
theorem tM.seq {f:SD->Res D}{Q':V->Hp->Prop}{g:D->Res D}{Q:VK} (I:SI K H0 B0 B H σ τ P F) (h:Goal K Y H0 B0 B H σ τ P F Q ((f τ).bind g))
  (k:∀ d v H1 B1 fp,f τ=.ok d->SI K H0 B0 B1 H1 σ τ P F->Same H H1->Same B B1->Rep K B1 (· ∈ P) H1 d v fp->Vok H0 B1 H1 P F fp->Goal K Y H0 B0 B1 H1 σ τ P F Q (g d)->Q' v H1):tM K Y f σ H Q' := by
 refine ⟨H0,B0,B,τ,P,F,I,?_⟩
 cases e:f τ with
 | ok d =>
  rw [e] at h
  intro v H1 B1 fp I1 s1 b1 r1 k1
  exact k d v H1 B1 fp e I1 s1 b1 r1 k1 (Goal.later h s1 b1)
 | exn C=>rw [e] at h; exact h
 | bad=>rw [e] at h; exact h
theorem tM.seq2 {f1 f2:SD->Res D}{Q':V->V->Hp->Prop}{g:D->D->Res D}{Q:VK} (I:SI K H0 B0 B H σ τ P F) (h:Goal K Y H0 B0 B H σ τ P F Q ((f1 τ).bind fun x=>(f2 τ).bind (g x)))
  (k:∀ d1 d2 v1 v2 H2 B2 fp1 fp2,f1 τ=.ok d1->f2 τ=.ok d2->SI K H0 B0 B2 H2 σ τ P F->Same H H2->Same B B2->Rep K B2 (· ∈ P) H2 d1 v1 fp1->Rep K B2 (· ∈ P) H2 d2 v2 fp2->Vok H0 B2 H2 P F (fp1 ++ fp2)->Goal K Y H0 B0 B2 H2 σ τ P F Q (g d1 d2)->Q' v1 v2 H2) :
  tM K Y f1 σ H fun x H1=>tM K Y f2 σ H1 fun y H2=>Q' x y H2:=by
 refine tM.seq (g:=fun x=>(f2 τ).bind (g x)) I h fun d1 v1 H1 B1 fp1 e1 I1 s1 b1 r1 k1 h1=>?_
 refine ⟨H0,B0,B1,τ,P,_,I1.hold k1,?_⟩
 cases e:f2 τ with
 | ok d2 =>
  rw [e] at h1
  intro v2 H2 B2 fp2 I2 s2 b2 r2 k2
  exact k d1 d2 v1 v2 H2 B2 fp1 fp2 e1 e (I2.anti fun a x=>.inr x) (s1.trans s2) (b1.trans b2) (r1.mono s2 b2 fun _ x=>x) r2 (k1.both s2 I2 k2) (Goal.later h1 s2 b2)
 | exn C =>
  rw [e] at h1
  exact OutX.later h1 (Same.refl _) (Same.refl _) fun a x=>.inr x
 | bad=>rw [e] at h1; exact h1
def eVar (i:Nat) (τ:SD):Res D:=match τ[i]? with
 | some (some d)=>.ok d.view
 | _=>.bad
def eC (d:D) (_:SD):Res D := .ok d
theorem qv {X:Cx} (i:Nat) {x:Str}{pos:Pos} (hN:X.N[i]?=some x:=by rfl) (hv:Vis X.env.scope x:=by first | exact Or.inl rfl | exact Or.inr (Or.inl rfl) | exact Or.inr (Or.inr rfl)) (hd:(x == ("__debug__" : Str))=false:=by decide)
  (hcd:(x == ("__classdict__" : Str))=false:=by decide):PE X (.Name x pos) (tM X.K Y (eVar i)):=by
 refine PE.imp (pe_var hN hv hd hcd) ?_
 rintro σ H Q ⟨H0,B0,B,τ,P,F,I,h⟩
 unfold eVar at h
 cases e:τ[i]? with
 | none=>rw [e] at h; exact h.elim
 | some o =>
  cases o with
  | none=>rw [e] at h; exact h.elim
  | some d =>
   rw [e] at h
   obtain ⟨v,f,h1,h2,h3⟩:=I.rep.get e
   exact ⟨v,h1,Out.here h I (h2.view fun a m=>h3.subset m)⟩
theorem qc {X:Cx}{e:Expr}{d:D}{v:V} (h:PE X e (tC v)) (hr:∀ K B S H,Rep K B S H d v []):PE X e (tM X.K Y (eC d)):=PE.imp h fun σ H Q hq=>ex8 hq fun H0 B0 B τ P F I h=>Out.here h I (hr _ _ _ _)
theorem q_int {X:Cx}{i:Int}{j pos}:PE X (.Constant (.int i) j pos) (tM X.K Y (eC (.int i))):=qc pe_int fun _ _ _ _=>⟨rfl,rfl⟩
theorem q_bl {X:Cx}{b:Bool}{j pos}:PE X (.Constant (.bool b) j pos) (tM X.K Y (eC (.bl b))):=qc pe_bl fun _ _ _ _=>⟨rfl,rfl⟩
theorem q_non {X:Cx}{j pos}:PE X (.Constant .none j pos) (tM X.K Y (eC .non)):=qc pe_non fun _ _ _ _=>⟨rfl,rfl⟩
def OpD (K:PySem.W.Frag) (Y:XY) (r:R2) (g:D->D->Res D):Prop := ∀ {H0 B0 B H:Hp}{σ:L2.St}{τ:SD}{P:List Addr}{F:Addr->Prop}{d1 d2:D}{x y:V}{f1 f2:List Addr}{Q:VK},
 SI K H0 B0 B H σ τ P F->Rep K B (· ∈ P) H d1 x f1->Rep K B (· ∈ P) H d2 y f2->Vok H0 B H P F (f1 ++ f2)->Goal K Y H0 B0 B H σ τ P F Q (g d1 d2)->r x y H Q
def eBin (g:D->D->Res D) (a b:SD->Res D) (τ:SD):Res D:=(a τ).bind fun x=>(b τ).bind (g x)
theorem OpR.or {X:Cx}{f:Value->Value->Sem Value}{r r':R2} (h:OpR X f r) (h':OpR X f r'):OpR X f (fun x y H Q=>r x y H Q ∨ r' x y H Q):=by
 intro pins s σ H x y v u Q I rx ry q
 rcases q with q | q
 ·exact h pins s σ H x y v u Q I rx ry q
 ·exact h' pins s σ H x y v u Q I rx ry q
variable {X:Cx}{a b c:Expr}{fa fb fc:SD->Res D}{pos:Pos}
theorem q_op {op:Operator}{r:R2}{g:D->D->Res D} (ho:OpR X (binaryOp op) r) (hg:OpD X.K Y r g) (ha:PE X a (tM X.K Y fa)) (hb:PE X b (tM X.K Y fb)):PE X (.BinOp a op b pos) (tM X.K Y (eBin g fa fb)) :=
 PE.imp (pe_op ho ha hb) fun σ H Q hq=>ex8 hq fun H0 B0 B τ P F I h=>tM.seq2 I h fun d1 d2 v1 v2 H2 B2 f1 f2 _ _ I2 _ _ r1 r2 k h2=>hg I2 r1 r2 k h2
theorem q_cmp {op:CmpOp}{r:R2}{g:D->D->Res D} (ho:OpR X (compareOp op) r) (hg:OpD X.K Y r g) (ha:PE X a (tM X.K Y fa)) (hb:PE X b (tM X.K Y fb)) (hm:behindInMarks op b=false):PE X (.Compare a [op] [b] pos) (tM X.K Y (eBin g fa fb)) :=
 PE.imp (pe_cmpR ho ha hb hm) fun σ H Q hq=>ex8 hq fun H0 B0 B τ P F I h=>tM.seq2 I h fun d1 d2 v1 v2 H2 B2 f1 f2 _ _ I2 _ _ r1 r2 k h2=>hg I2 r1 r2 k h2
theorem q_ix {r:R2}{g:D->D->Res D} (ho:IxR X r) (hg:OpD X.K Y r g) (ha:PE X a (tM X.K Y fa)) (hb:PE X b (tM X.K Y fb)) (hs:PlainIx b):PE X (.Subscript a b pos) (tM X.K Y (eBin g fa fb)) :=
 PE.imp (pe_ix ho ha hb hs) fun σ H Q hq=>ex8 hq fun H0 B0 B τ P F I h=>tM.seq2 I h fun d1 d2 v1 v2 H2 B2 f1 f2 _ _ I2 _ _ r1 r2 k h2=>hg I2 r1 r2 k h2
def asB:D->Res Bool | .bl b=>.ok b | _=>.bad
theorem goalB_of {Q:Bool->Hp->Prop}{r:Res D} (h:GoalB K Y H0 B0 B H σ τ P F Q (r.bind asB)):Goal K Y H0 B0 B H σ τ P F (fun x H1=>∃ c,x=.bl c/\Q c H1) r:=by
 cases r with
 | ok d =>
  intro v H' B' fp I s b r k
  cases d with
  | bl c=>obtain ⟨rfl,rfl⟩:=r; exact ⟨c,rfl,h H' B' I s b⟩
  | _=>exact h.elim
 | exn C=>exact h
 | bad=>exact h
def eT (f:SD->Res D) (τ:SD):Res Bool:=(f τ).bind asB
theorem qt_val (ha:PE X a (tM X.K Y fa)) (he:∀ whole,isTrue a X.env whole=(do let v <- whole; standAt a.pos; holding [v] (truthy v)):=by intro _; rfl):PT X a (tMB X.K Y (eT fa)) :=
 PT.imp (pt_val ha he) fun σ H Q hq=>ex8 hq fun H0 B0 B τ P F I h=>⟨H0,B0,B,τ,P,F,I,goalB_of h⟩
theorem qt_cmp {op:CmpOp}{r:R2}{g:D->D->Res D} (ho:OpR X (compareOp op) r) (hg:OpD X.K Y r g) (ha:PE X a (tM X.K Y fa)) (hb:PE X b (tM X.K Y fb)) (hm:behindInMarks op b=false):PT X (.Compare a [op] [b] pos) (tMB X.K Y (eT (eBin g fa fb))) :=
 PT.imp (pt_cmpR ho ha hb hm) fun σ H Q hq=>ex8 hq fun H0 B0 B τ P F I h=>tM.seq2 I (goalB_of h) fun d1 d2 v1 v2 H2 B2 f1 f2 _ _ I2 _ _ r1 r2 k h2=>hg I2 r1 r2 k h2
end
section
variable {K:PySem.W.Frag}{Y:XY}{H0 B0 B H:Hp}{σ:L2.St}{τ:SD}{P:List Addr}{F:Addr->Prop}
theorem Rep.lst (I:SI K H0 B0 B H σ τ P F) {t:Tg}{xs:List D}{v:V}{f:List Addr} (r:Rep K B (· ∈ P) H (.lst t xs) v f):∃ a vs g,v=.ref a/\SqL K H a vs/\RepL K B (· ∈ P) H xs vs g/\List.Sublist g f:=by
 cases t with
 | len a=>exact False.elim r
 | own =>
  obtain ⟨a,vs,g,e,q,r,z⟩:=r
  subst z
  exact ⟨a,vs,g,e,SqL.of q,r,List.sublist_cons_self _ _⟩
 | bor =>
  obtain ⟨a,vs,e,q,r,z⟩:=r
  subst z
  exact ⟨a,vs,[],e,q.elim (fun y=>y.2) fun y=>rd_mono I.bh y,r,List.Sublist.refl _⟩
 | frz =>
  obtain ⟨a,vs,e,q,r,z⟩:=r
  subst z
  exact ⟨a,vs,[],e,rd_mono I.bh q,r.mono (Same.refl _) (Same.refl _) (fun _ x=>x.elim),List.Sublist.refl _⟩
theorem Rep.tp {xs:List D}{v:V}{f:List Addr} (r:Rep K B (· ∈ P) H (.tup xs) v f):∃ a vs,v=.ref a/\SqT K H a vs/\RepL K B (· ∈ P) H xs vs f:=let ⟨a,vs,e,q,r⟩:=r; ⟨a,vs,e,SqT.of q,r⟩
theorem sqL_of {a:Addr}{vs:List V} (h:SqL K H a vs):SqL K H a vs:=h
variable {X:Cx}
def rCatR (K:PySem.W.Frag):R2:=fun x y H Q=>∃ l b xs zs,x=.ref l/\y=.ref b/\SqL K H l xs/\SqL K H b zs/\xs.length + zs.length <= sizeLine/\∀ p,H p=none->Q (.ref p) (upd H p (.lst (xs ++ zs)))
theorem op_catR:OpR X (binaryOp .Add) (rCatR X.K):=by
 intro pins s σ H x y v u Q I rx ry h
 obtain ⟨l,b,xs,zs,rfl,rfl,hH,hB,hz,q⟩:=h
 cases rx
 cases ry
 obtain ⟨its,r,pl,z⟩:=I.list hH
 obtain ⟨its2,r2,pl2,z2⟩:=I.list hB
 obtain ⟨⟨cls,dd,data,sl⟩,ho,hc,n,hd⟩:=id pl.isList
 obtain ⟨⟨cls2,dd2,data2,sl2⟩,ho2,hc2,n2,hd2⟩:=id pl2.isList
 simp only at hc hd hc2 hd2
 subst hc hd hc2 hd2
 have e:its.toArray ++ its2.toArray=(its ++ its2).toArray:=by simp
 have l1:=r.length
 have l2:=r2.length
 refine concat_meets ⟨_,ho,rfl⟩ ⟨_,ho2,rfl⟩ noFill_list_add seq_list_add PySem.F.slot_list_add PySem.F.entry_list_add (PySem.F.args_list_add_2 _ _) (list_addW l b its.toArray its2.toArray n n2 dd dd2 sl sl2 (by rw [List.size_toArray,List.size_toArray]; omega)) ⟨ho,ho2,?_⟩
 rw [e]
 exact ⟨.ref _,_,I.lnew (t' := s.toks) (r.append r2) (by rw [List.length_append]; omega),rfl,q _ I.fresh⟩
def addD:D->D->Res D
 | .int i,.int j=>.ok (.int (i + j))
 | .str i,.str j=>if i.length + j.length <= 16777216 then .ok (.str (i ++ j)) else .bad
 | .lst _ xs,.lst _ ys=>if xs.length + ys.length <= 16777216 then .ok (.lst .own (xs ++ ys)) else .bad
 | .tup xs,.tup ys=>if xs ≠ []/\ys ≠ []/\xs.length + ys.length <= 16777216 then .ok (.tup (xs ++ ys)) else .bad
 | _,_=>.bad
theorem isz {n:Nat} (h:n <= 16777216):n <= sizeLine:=by rw [sizeLine_eq]; exact h
theorem RepL.nil_iff {S:Addr->Prop}{xs:List D}{vs:List V}{f:List Addr} (r:RepL K B S H xs vs f):vs=[] ↔ xs=[]:=by
 have:=r.length
 cases xs <;> cases vs <;> simp_all
abbrev rAdd (K:PySem.W.Frag):R2:=fun x y H Q=>rI0 (fun i j=>.int (i + j)) x y H Q ∨ ((∃ i j,x=.str i/\y=.str j/\i.length + j.length <= sizeLine/\Q (.str (i ++ j)) H) ∨ (rCatR K x y H Q ∨ rCatT K x y H Q))
theorem op_addA:OpR X (binaryOp .Add) (rAdd X.K):=OpR.or op_add (OpR.or op_add_str (OpR.or op_catR op_catT))
theorem d_add:OpD K Y (rAdd K) addD:=by
 intro H0 B0 B H σ τ P F d1 d2 x y f1 f2 Q I r1 r2 k h
 unfold addD at h
 split at h
 ·obtain ⟨rfl,rfl⟩:=r1
  obtain ⟨rfl,rfl⟩:=r2
  exact .inl ⟨_,_,rfl,rfl,Out.here h I ⟨rfl,rfl⟩⟩
 ·obtain ⟨rfl,rfl⟩:=r1
  obtain ⟨rfl,rfl⟩:=r2
  split at h
  ·rename_i hl
   exact .inr (.inl ⟨_,_,rfl,rfl,isz hl,Out.here h I ⟨rfl,rfl⟩⟩)
  ·exact h.elim
 ·obtain ⟨a,vs,g1,rfl,q1,l1,s1⟩:=r1.lst I
  obtain ⟨b,ws,g2,rfl,q2,l2,s2⟩:=r2.lst I
  split at h
  ·rename_i hl
   refine .inr (.inr (.inl ⟨_,_,_,_,rfl,rfl,q1,q2,by rw [<- l1.length,<- l2.length]; exact isz hl,fun p hp=>?_⟩))
   exact Out.newL h I (l1.append l2) (k.sub (s1.append s2)) hp
  ·exact h.elim
 ·obtain ⟨a,vs,rfl,q1,l1⟩:=r1.tp
  obtain ⟨b,ws,rfl,q2,l2⟩:=r2.tp
  split at h
  ·rename_i hl
   obtain ⟨n1,n2,hl⟩:=hl
   refine .inr (.inr (.inr ⟨_,_,_,_,rfl,rfl,q1,q2,fun z=>n1 (l1.nil_iff.mp z),by rw [<- l1.length,<- l2.length]; exact isz hl,fun z=>absurd (l2.nil_iff.mp z) n2,fun _ p hp=>?_⟩))
   exact Out.newT h I (l1.append l2) k hp
  ·exact h.elim
 ·exact h.elim
def iiD (C:Int->Int->Prop) [∀ i j,Decidable (C i j)] (g:Int->Int->D):D->D->Res D
 | .int i,.int j=>if C i j then .ok (g i j) else .bad
 | _,_=>.bad
def ii0 (g:Int->Int->D):D->D->Res D
 | .int i,.int j=>.ok (g i j)
 | _,_=>.bad
theorem d_ii {C:Int->Int->Prop} [∀ i j,Decidable (C i j)] {g:Int->Int->D}{gv:Int->Int->V} (hg:∀ i j K B S H,Rep K B S H (g i j) (gv i j) []):OpD K Y (rI C gv) (iiD C g):=by
 intro H0 B0 B H σ τ P F d1 d2 x y f1 f2 Q I r1 r2 k h
 unfold iiD at h
 split at h
 ·obtain ⟨rfl,rfl⟩:=r1
  obtain ⟨rfl,rfl⟩:=r2
  split at h
  ·rename_i hc
   exact ⟨_,_,rfl,rfl,hc,Out.here h I (hg ..)⟩
  ·exact h.elim
 ·exact h.elim
theorem d_ii0 {g:Int->Int->D}{gv:Int->Int->V} (hg:∀ i j K B S H,Rep K B S H (g i j) (gv i j) []):OpD K Y (rI0 gv) (ii0 g):=by
 intro H0 B0 B H σ τ P F d1 d2 x y f1 f2 Q I r1 r2 k h
 unfold ii0 at h
 split at h
 ·obtain ⟨rfl,rfl⟩:=r1
  obtain ⟨rfl,rfl⟩:=r2
  exact ⟨_,_,rfl,rfl,Out.here h I (hg ..)⟩
 ·exact h.elim
instance (i j:Int):Decidable (CDiv i j):=inferInstanceAs (Decidable (_/\_))
instance (i j:Int):Decidable (CPow i j):=inferInstanceAs (Decidable (_/\_/\_))
instance (i j:Int):Decidable (CMul i j):=inferInstanceAs (Decidable ((_/\_) ∨ (_/\_)))
def CMulD (i j:Int):Prop:=CMul i j ∨ (i.natAbs < 2 ^ 1024/\j.natAbs < 2 ^ 1024)
instance (i j:Int):Decidable (CMulD i j):=inferInstanceAs (Decidable (_ ∨ (_/\_)))
theorem bits_1024 {i:Int} (h:i.natAbs < 2 ^ 1024):Builtin.Int.intBits i <= 2 ^ 20:=by
 unfold Builtin.Int.intBits
 split
 ·exact Nat.zero_le _
 ·by_cases e:i.natAbs=0
  ·rw [e]; decide
  ·have:=(Nat.log2_lt e).mpr h
   omega
theorem op_mulD:OpR X (binaryOp .Mult) (rI CMulD fun i j=>.int (i * j)):=opI fun _ _ _ _ _ _ _ hc q=>mul_int q (hc.elim CMul.ok fun z=>IntMulOk.of_bits (bits_1024 z.1) (bits_1024 z.2))
abbrev rij (g:Int->Int->Int):∀ i j K B S H,Rep K B S H (.int (g i j)) (.int (g i j)) []:=fun _ _ _ _ _ _=>⟨rfl,rfl⟩
abbrev rib (g:Int->Int->Bool):∀ i j K B S H,Rep K B S H (.bl (g i j)) (.bl (g i j)) []:=fun _ _ _ _ _ _=>⟨rfl,rfl⟩
abbrev subD:=ii0 fun i j=>.int (i - j)
abbrev mulD:=iiD CMulD fun i j=>.int (i * j)
abbrev fdivD:=iiD CDiv fun i j=>.int (i / j)
abbrev modD:=iiD (fun _ j=>0 < j) fun i j=>.int (i % j)
abbrev powD:=iiD CPow fun i j=>.int (i ^ j.toNat)
abbrev shrD:=iiD (fun _ j=>0 <= j) fun i j=>.int (i / 2 ^ j.toNat)
abbrev ltD:=ii0 fun i j=>.bl (decide (i < j))
abbrev gtD:=ii0 fun i j=>.bl (decide (j < i))
abbrev geD:=ii0 fun i j=>.bl (decide (j <= i))
theorem d_sub:OpD K Y (rI0 fun i j=>.int (i - j)) subD:=d_ii0 (rij _)
theorem d_mul:OpD K Y (rI CMulD fun i j=>.int (i * j)) mulD:=d_ii (rij _)
theorem d_fdiv:OpD K Y (rI CDiv fun i j=>.int (i / j)) fdivD:=d_ii (rij _)
theorem d_mod:OpD K Y (rI (fun _ j=>0 < j) fun i j=>.int (i % j)) modD:=d_ii (rij _)
theorem d_pow:OpD K Y (rI CPow fun i j=>.int (i ^ j.toNat)) powD:=d_ii (rij fun i j=>i ^ j.toNat)
theorem d_shr:OpD K Y (rI (fun _ j=>0 <= j) fun i j=>.int (i / 2 ^ j.toNat)) shrD:=d_ii (rij fun i j=>i / 2 ^ j.toNat)
theorem d_lt:OpD K Y (rI0 fun i j=>.bl (decide (i < j))) ltD:=d_ii0 (rib fun i j=>decide (i < j))
theorem d_gt:OpD K Y (rI0 fun i j=>.bl (decide (j < i))) gtD:=d_ii0 (rib fun i j=>decide (j < i))
theorem d_ge:OpD K Y (rI0 fun i j=>.bl (decide (j <= i))) geD:=d_ii0 (rib fun i j=>decide (j <= i))
end
section
variable {K:PySem.W.Frag}{Y:XY}{H0 B0 B H:Hp}{σ:L2.St}{τ:SD}{P:List Addr}{F:Addr->Prop}{X:Cx}{a b c:Expr}{fa fb fc:SD->Res D}{ga gb:SD->Res Bool}{pos:Pos}
theorem Vok.still {H1 B1:Hp}{f:List Addr} (k:Vok H0 B H P F f) (sH:Same H H1) (I1:SI K H0 B0 B1 H1 σ τ P (fun a=>a ∈ f ∨ F a)):Vok H0 B1 H1 P F f:=⟨k.nd,fun a m=>let ⟨_,a2,_,a4,a5⟩:=k.own a m; ⟨(I1.fr a (.inl m)).1,a2,(I1.fr a (.inl m)).2,a4,a5⟩⟩
def D.flat:D->Bool | .non=>true | .bl _=>true | .int _=>true | .str _=>true | _=>false
def eqFlat:D->D->Option Bool
 | .non,.non=>some true | .non,.int _=>some false | .int _,.non=>some false | .non,.bl _=>some false | .bl _,.non=>some false | .non,.str _=>some false | .str _,.non=>some false
 | .int i,.int j=>some (decide (i=j)) | .bl i,.bl j=>some (decide (i=j)) | .str i,.str j=>some (decide (i=j))
 | .int _,.str _=>some false | .str _,.int _=>some false | .bl _,.str _=>some false | .str _,.bl _=>some false
 | _,_=>none
theorem eqFlat_ok {S S':Addr->Prop}{d1 d2:D}{x y:V}{f1 f2:List Addr}{r:Bool} (e:eqFlat d1 d2=some r) (r1:Rep K B S H d1 x f1) (r2:Rep K B S' H d2 y f2):scal x y=true/\decide (x=y)=r:=by
 cases d1 <;> cases d2 <;> first | (cases e; done) | (obtain ⟨rfl,rfl⟩:=r1; obtain ⟨rfl,rfl⟩:=r2; cases e; first | exact ⟨rfl,rfl⟩ | exact ⟨rfl,by simp⟩)
def ofO (neg:Bool):Option Bool->Res D | some b=>.ok (.bl (xor neg b)) | none=>.bad
def eqD (d1 d2:D):Res D:=ofO false (eqFlat d1 d2)
def neD (d1 d2:D):Res D:=ofO true (eqFlat d1 d2)
theorem d_eq:OpD K Y rEq eqD:=by
 intro H0 B0 B H σ τ P F d1 d2 x y f1 f2 Q I r1 r2 k h
 unfold eqD at h
 cases e:eqFlat d1 d2 with
 | none=>rw [e] at h; exact h.elim
 | some r =>
  rw [e] at h
  obtain ⟨s,z⟩:=eqFlat_ok e r1 r2
  refine ⟨s,?_⟩
  rw [z]
  exact Out.here h I ⟨by simp,rfl⟩
theorem d_ne:OpD K Y rNe neD:=by
 intro H0 B0 B H σ τ P F d1 d2 x y f1 f2 Q I r1 r2 k h
 unfold neD at h
 cases e:eqFlat d1 d2 with
 | none=>rw [e] at h; exact h.elim
 | some r =>
  rw [e] at h
  obtain ⟨s,z⟩:=eqFlat_ok e r1 r2
  refine ⟨s,?_⟩
  rw [z]
  exact Out.here h I ⟨by simp,rfl⟩
def isND (neg:Bool):D->D->Res D
 | .non,.non=>.ok (.bl (!neg))
 | _,.non=>.ok (.bl neg)
 | _,_=>.bad
def D.isN:D->Bool | .non=>true | _=>false
theorem rep_non {S:Addr->Prop}{d:D}{v:V}{f:List Addr} (r:Rep K B S H d v f):decide (v=.non)=d.isN:=by
 cases d with
 | non=>rw [r.1]; rfl
 | bl _=>rw [r.1]; rfl
 | int _=>rw [r.1]; rfl
 | str _=>rw [r.1]; rfl
 | exc _=>obtain ⟨⟨a,rfl,_⟩,_⟩:=r; rfl
 | tup _=>obtain ⟨a,_,rfl,_⟩:=r; rfl
 | lst t _=>cases t <;> first | exact False.elim r | (obtain ⟨a,_,r⟩:=r; first | (obtain ⟨_,rfl,_⟩:=r; rfl) | (obtain ⟨rfl,_⟩:=r; rfl))
 | dct t _ _ _=>cases t <;> (obtain ⟨a,_,r⟩:=r; first | (obtain ⟨_,rfl,_⟩:=r; rfl) | (obtain ⟨rfl,_⟩:=r; rfl))
theorem d_notN:OpD K Y (fun x y H Q=>y=.non/\Q (.bl (!decide (x=.non))) H) (isND true):=by
 intro H0 B0 B H σ τ P F d1 d2 x y f1 f2 Q I r1 r2 k h
 have e:=rep_non r1
 unfold isND at h
 split at h
 ·rw [r2.1]; rw [e]; exact ⟨rfl,Out.here h I ⟨rfl,rfl⟩⟩
 ·rename_i hn
  rw [r2.1]; rw [e]
  refine ⟨rfl,Out.here h I ⟨?_,rfl⟩⟩
  cases d1 <;> first | rfl | exact (hn rfl).elim
 ·exact h.elim
def eqF:D->D->Bool
 | .non,.non=>true
 | .bl a,.bl b=>a == b
 | .bl a,.int b=>(if a then 1 else 0) == b
 | .int a,.bl b=>a == (if b then 1 else 0)
 | .int a,.int b=>a == b
 | .str a,.str b=>a == b
 | _,_=>false
def inF (x:D) (xs:List D):Bool:=xs.any fun y=>eqF y x
theorem flatV_of {S:Addr->Prop}{d:D}{v:V}{f:List Addr} (h:d.flat=true) (r:Rep K B S H d v f):flatV v=true:=by
 cases d <;> first | exact absurd (show false=true from h) Bool.false_ne_true | (obtain ⟨rfl,_⟩:=r; rfl)
theorem eqV_of {S:Addr->Prop}{d e:D}{v u:V}{f g:List Addr} (h:d.flat=true) (h':e.flat=true) (r:Rep K B S H d v f) (r':Rep K B S H e u g):eqV v u=eqF d e:=by
 cases d <;> cases e <;> first | exact absurd (show false=true from h) Bool.false_ne_true | exact absurd (show false=true from h') Bool.false_ne_true | (obtain ⟨rfl,_⟩:=r; obtain ⟨rfl,_⟩:=r'; rfl)
theorem all_flat {S:Addr->Prop}{x:D}{u:V}{g:List Addr} (hx:x.flat=true) (rx:Rep K B S H x u g):∀ {xs:List D}{vs:List V}{f:List Addr},xs.all D.flat=true->RepL K B S H xs vs f->vs.all flatV=true/\inV u vs=inF x xs
 | [],vs,f,_,r=>by obtain ⟨rfl,_⟩:=r; exact ⟨rfl,rfl⟩
 | d :: ds,vs,f,h,r=>by
  obtain ⟨v,w,f1,f2,rfl,r1,r2,_⟩:=r
  rw [List.all_cons,Bool.and_eq_true] at h
  obtain ⟨i1,i2⟩:=all_flat hx rx h.2 r2
  refine ⟨by rw [List.all_cons,flatV_of h.1 r1,i1]; rfl,?_⟩
  show (eqV v u || inV u w)=(eqF d x || inF x ds)
  rw [i2,eqV_of h.1 hx r1 rx]
def inD (neg:Bool):D->D->Res D
 | x,.lst _ xs=>if x.flat=true/\xs.all D.flat=true then .ok (.bl (if neg then !inF x xs else inF x xs)) else .bad
 | x,.tup xs=>if x.flat=true/\xs.all D.flat=true then .ok (.bl (if neg then !inF x xs else inF x xs)) else .bad
 | _,_=>.bad
theorem d_in (neg:Bool):OpD K Y (rIn K neg) (inD neg):=by
 intro H0 B0 B H σ τ P F d1 d2 x y f1 f2 Q I r1 r2 k h
 unfold inD at h
 split at h
 ·split at h
  ·rename_i hc
   obtain ⟨a,vs,g,rfl,q,l,s⟩:=r2.lst I
   obtain ⟨z1,z2⟩:=all_flat hc.1 r1 hc.2 l
   refine ⟨a,vs,rfl,.inl (sqL_of q),flatV_of hc.1 r1,z1,?_⟩
   rw [z2]
   exact Out.here h I ⟨rfl,rfl⟩
  ·exact h.elim
 ·split at h
  ·rename_i hc
   obtain ⟨a,vs,rfl,q,l⟩:=r2.tp
   obtain ⟨z1,z2⟩:=all_flat hc.1 r1 hc.2 l
   refine ⟨a,vs,rfl,.inr q,flatV_of hc.1 r1,z1,?_⟩
   rw [z2]
   exact Out.here h I ⟨rfl,rfl⟩
  ·exact h.elim
 ·exact h.elim
def ixD:D->D->Res D
 | .lst _ xs,.int i=>match atI xs i with | some d=>.ok d | none=>.bad
 | .tup xs,.int i=>match atI xs i with | some d=>.ok d | none=>.bad
 | .str z,.int i=>if z.length <= 16777216 then match atI z.cps.toList i with | some c=>.ok (.str ⟨#[c]⟩) | none=>.bad else .bad
 | _,_=>.bad
theorem RepL.atI {S:Addr->Prop}{xs:List D}{vs:List V}{f:List Addr}{i:Int}{d:D} (r:RepL K B S H xs vs f) (e:atI xs i=some d):∃ v g,L2.atI vs i=some v/\Rep K B S H d v g/\List.Sublist g f:=by
 unfold L2.atI at e ⊢
 rw [r.length] at e
 cases z:ixN vs.length i with
 | none=>rw [z] at e; cases e
 | some j =>
  rw [z] at e
  obtain ⟨v,g,h1,h2,h3⟩:=r.get (i:=j) e
  exact ⟨v,g,h1,h2,h3⟩
theorem d_ix:OpD K Y (rIx K) ixD:=by
 intro H0 B0 B H σ τ P F d1 d2 x y f1 f2 Q I r1 r2 k h
 unfold ixD at h
 split at h
 ·obtain ⟨rfl,rfl⟩:=r2
  obtain ⟨a,vs,g,rfl,q,l,s⟩:=r1.lst I
  split at h
  ·rename_i d e
   obtain ⟨v,g',e1,r',s'⟩:=l.atI e
   exact .inl ⟨a,vs,_,v,rfl,rfl,sqL_of q,e1,Out.hereO h I r' (k.left.sub (s'.trans s))⟩
  ·exact h.elim
 ·obtain ⟨rfl,rfl⟩:=r2
  obtain ⟨a,vs,rfl,q,l⟩:=r1.tp
  split at h
  ·rename_i d e
   obtain ⟨v,g',e1,r',s'⟩:=l.atI e
   exact .inr (.inl ⟨a,vs,_,v,rfl,rfl,q,e1,Out.hereO h I r' (k.left.sub s')⟩)
  ·exact h.elim
 ·obtain ⟨rfl,rfl⟩:=r2
  obtain ⟨rfl,rfl⟩:=r1
  split at h
  ·rename_i hl
   split at h
   ·rename_i c e
    exact .inr (.inr ⟨_,_,c,rfl,rfl,isz hl,e,Out.here h I ⟨rfl,rfl⟩⟩)
   ·exact h.elim
  ·exact h.elim
 ·exact h.elim
theorem GoalB.later {H1 B1:Hp}{Q:Bool->Hp->Prop}{r:Res Bool} (h:GoalB K Y H0 B0 B H σ τ P F Q r) (sH:Same H H1) (sB:Same B B1):GoalB K Y H0 B0 B1 H1 σ τ P F Q r:=by
 cases r with
 | ok d=>exact fun H' B' I s b=>h H' B' I (sH.trans s) (sB.trans b)
 | exn C=>exact OutX.later h sH sB fun _ x=>x
 | bad=>exact h
theorem tMB.seq {f:SD->Res Bool}{Q':Bool->Hp->Prop}{g:Bool->Res Bool}{Q:Bool->Hp->Prop} (I:SI K H0 B0 B H σ τ P F) (h:GoalB K Y H0 B0 B H σ τ P F Q ((f τ).bind g))
  (k:∀ d H1 B1,SI K H0 B0 B1 H1 σ τ P F->GoalB K Y H0 B0 B1 H1 σ τ P F Q (g d)->Q' d H1):tMB K Y f σ H Q' := by
 refine ⟨H0,B0,B,τ,P,F,I,?_⟩
 cases e:f τ with
 | ok d=>rw [e] at h; exact fun H1 B1 I1 s1 b1=>k d H1 B1 I1 (GoalB.later h s1 b1)
 | exn C=>rw [e] at h; exact h
 | bad=>rw [e] at h; exact h
theorem tMB.seqV {f:SD->Res Bool}{Q':Bool->Hp->Prop}{g:Bool->Res D}{Q:VK} (I:SI K H0 B0 B H σ τ P F) (h:Goal K Y H0 B0 B H σ τ P F Q ((f τ).bind g))
  (k:∀ d H1 B1,SI K H0 B0 B1 H1 σ τ P F->Goal K Y H0 B0 B1 H1 σ τ P F Q (g d)->Q' d H1):tMB K Y f σ H Q' := by
 refine ⟨H0,B0,B,τ,P,F,I,?_⟩
 cases e:f τ with
 | ok d=>rw [e] at h; exact fun H1 B1 I1 s1 b1=>k d H1 B1 I1 (Goal.later h s1 b1)
 | exn C=>rw [e] at h; exact h
 | bad=>rw [e] at h; exact h
def bNot (f:SD->Res Bool) (τ:SD):Res Bool:=(f τ).bind fun b=>.ok (!b)
def bAnd (f g:SD->Res Bool) (τ:SD):Res Bool:=(f τ).bind fun b=>if b=true then g τ else .ok false
def bOr (f g:SD->Res Bool) (τ:SD):Res Bool:=(f τ).bind fun b=>if b=true then .ok true else g τ
theorem qt_not (ha:PT X a (tMB X.K Y ga)):PT X (.UnaryOp .Not a pos) (tMB X.K Y (bNot ga)) :=
 PT.imp (pt_not ha) fun σ H Q hq=>ex8 hq fun H0 B0 B τ P F I h=>tMB.seq I h fun d H1 B1 I1 h1=>h1 H1 B1 I1 (Same.refl _) (Same.refl _)
theorem PW.imp {e:Expr}{t t':TT} (h:PW X e t) (hi:∀ σ H Q,t' σ H Q->t σ H Q):PW X e t' := fun wh pins s σ H Q I hw=>h wh pins s σ H Q I (hi σ H Q hw)
theorem qw_and1 (ha:PT X a (tMB X.K Y ga)):PW X (.BoolOp .And [a] pos) (tMB X.K Y ga):=pw_and1 ha
theorem qw_or1 (ha:PT X a (tMB X.K Y ga)):PW X (.BoolOp .Or [a] pos) (tMB X.K Y ga):=pw_or1 ha
theorem qw_and {rest:List Expr} (ha:PT X a (tMB X.K Y ga)) (hb:PW X (.BoolOp .And (b :: rest) pos) (tMB X.K Y gb)):PW X (.BoolOp .And (a :: b :: rest) pos) (tMB X.K Y (bAnd ga gb)) :=
 PW.imp (pw_and ha hb) fun σ H Q hq=>ex8 hq fun H0 B0 B τ P F I h=>tMB.seq I h fun d H1 B1 I1 h1=>by
  cases d with
  | true=>rw [if_pos rfl] at h1 ⊢; exact ⟨H0,B0,B1,τ,P,F,I1,h1⟩
  | false=>rw [if_neg Bool.false_ne_true] at h1 ⊢; exact h1 H1 B1 I1 (Same.refl _) (Same.refl _)
theorem qw_or {rest:List Expr} (ha:PT X a (tMB X.K Y ga)) (hb:PW X (.BoolOp .Or (b :: rest) pos) (tMB X.K Y gb)):PW X (.BoolOp .Or (a :: b :: rest) pos) (tMB X.K Y (bOr ga gb)) :=
 PW.imp (pw_or ha hb) fun σ H Q hq=>ex8 hq fun H0 B0 B τ P F I h=>tMB.seq I h fun d H1 B1 I1 h1=>by
  cases d with
  | true=>rw [if_pos rfl] at h1 ⊢; exact h1 H1 B1 I1 (Same.refl _) (Same.refl _)
  | false=>rw [if_neg Bool.false_ne_true] at h1 ⊢; exact ⟨H0,B0,B1,τ,P,F,I1,h1⟩
def eIf (c:SD->Res Bool) (f g:SD->Res D) (τ:SD):Res D:=(c τ).bind fun b=>if b=true then f τ else g τ
theorem q_if (hc:PT X c (tMB X.K Y ga)) (ha:PE X a (tM X.K Y fa)) (hb:PE X b (tM X.K Y fb)):PE X (.IfExp c a b pos) (tM X.K Y (eIf ga fa fb)) :=
 PE.imp (pe_ifExp hc ha hb) fun σ H Q hq=>ex8 hq fun H0 B0 B τ P F I h=>tMB.seqV I h fun d H1 B1 I1 h1=>by
  cases d with
  | true=>rw [if_pos rfl] at h1 ⊢; exact ⟨H0,B0,B1,τ,P,F,I1,h1⟩
  | false=>rw [if_neg Bool.false_ne_true] at h1 ⊢; exact ⟨H0,B0,B1,τ,P,F,I1,h1⟩
def eAnd (f g:SD->Res D) (τ:SD):Res D:=(f τ).bind fun d=>(asB d).bind fun b=>if b=true then g τ else .ok (.bl false)
def eNot (f:SD->Res D) (τ:SD):Res D:=(f τ).bind fun d=>(asB d).bind fun b=>.ok (.bl (!b))
theorem asB_cases {d:D}{v:V}{f:List Addr}{g:Bool->Res D}{Q:VK} (r:Rep K B (· ∈ P) H d v f) (h:Goal K Y H0 B0 B H σ τ P F Q ((asB d).bind g)):∃ c,v=.bl c/\f=[]/\Goal K Y H0 B0 B H σ τ P F Q (g c):=by
 cases d with
 | bl c=>exact ⟨c,r.1,r.2,h⟩
 | _=>exact h.elim
theorem q_one {op} (h:PE X a (tM X.K Y fa)):PE X (.BoolOp op [a] pos) (tM X.K Y fa):=pe_one h
theorem q_and {rest:List Expr} (ha:PE X a (tM X.K Y fa)) (hb:PE X (.BoolOp .And (b :: rest) pos) (tM X.K Y fb)):PE X (.BoolOp .And (a :: b :: rest) pos) (tM X.K Y (eAnd fa fb)) :=
 PE.imp (pe_and ha hb) fun σ H Q hq=>ex8 hq fun H0 B0 B τ P F I h=>tM.seq I h fun d v H1 B1 fp _ I1 _ _ r1 _ h1=>by
  obtain ⟨c,rfl,_,h2⟩:=asB_cases r1 h1
  refine ⟨c,rfl,?_⟩
  cases c with
  | true=>rw [if_pos rfl] at h2 ⊢; exact ⟨H0,B0,B1,τ,P,F,I1,h2⟩
  | false=>rw [if_neg Bool.false_ne_true] at h2 ⊢; exact Out.here h2 I1 ⟨rfl,rfl⟩
theorem q_not (ha:PE X a (tM X.K Y fa)):PE X (.UnaryOp .Not a pos) (tM X.K Y (eNot fa)) :=
 PE.imp (pe_not ha) fun σ H Q hq=>ex8 hq fun H0 B0 B τ P F I h=>tM.seq I h fun d v H1 B1 fp _ I1 _ _ r1 _ h1=>by
  obtain ⟨c,rfl,_,h2⟩:=asB_cases r1 h1
  exact ⟨c,rfl,Out.here h2 I1 ⟨rfl,rfl⟩⟩
def eUn (g:D->Res D) (f:SD->Res D) (τ:SD):Res D:=(f τ).bind g
def negD:D->Res D | .int i=>.ok (.int (-i)) | _=>.bad
theorem q_neg (ha:PE X a (tM X.K Y fa)):PE X (.UnaryOp .USub a pos) (tM X.K Y (eUn negD fa)) :=
 PE.imp (pe_un un_neg ha) fun σ H Q hq=>ex8 hq fun H0 B0 B τ P F I h=>tM.seq I h fun d v H1 B1 fp _ I1 _ _ r1 _ h1=>by
  cases d with
  | int i=>exact ⟨i,r1.1,Out.here h1 I1 ⟨rfl,rfl⟩⟩
  | _=>exact h1.elim
def aNil (_:SD):Res (List D) := .ok []
def aCons (f:SD->Res D) (g:SD->Res (List D)) (τ:SD):Res (List D):=(f τ).bind fun d=>(g τ).bind fun ds=>.ok (d :: ds)
variable {e:Expr}{es:List Expr}{fe:SD->Res D}{fs:SD->Res (List D)}
theorem qa_nil:PA X [] (tML X.K Y aNil):=PA.imp pa_nil fun σ H Q hq=>ex8 hq fun H0 B0 B τ P F I h=>h [] H B [] I (Same.refl _) (Same.refl _) ⟨rfl,rfl⟩ Vok.nil
theorem qa_cons (ha:PE X e (tM X.K Y fe)) (hr:PA X es (tML X.K Y fs)) (hs:starEach (e :: es) X.env=(false,eval e X.env) :: starEach es X.env:=by rfl):PA X (e :: es) (tML X.K Y (aCons fe fs)):=by
 refine PA.imp (pa_cons ha hr hs) fun σ H Q hq=>ex8 hq fun H0 B0 B τ P F I h=>?_
 refine ⟨H0,B0,B,τ,P,F,I,?_⟩
 unfold aCons at h
 cases z:fe τ with
 | exn C=>rw [z] at h; exact h
 | bad=>rw [z] at h; exact h
 | ok d =>
  rw [z] at h
  intro v H1 B1 fp I1 s1 b1 r1 k1
  refine ⟨H0,B0,B1,τ,P,_,I1.hold k1,?_⟩
  cases y:fs τ with
  | exn C=>rw [y] at h; exact OutX.later h s1 b1 fun a x=>.inr x
  | bad=>rw [y] at h; exact h
  | ok ds =>
   rw [y] at h
   intro vs H2 B2 fq I2 s2 b2 r2 k2
   exact h (v :: vs) H2 B2 (fp ++ fq) (I2.anti fun a x=>.inr x) (s1.trans s2) (b1.trans b2) ⟨v,vs,fp,fq,rfl,r1.mono s2 b2 (fun _ x=>x),r2,rfl⟩ (k1.both s2 I2 k2)
theorem tML.seq {f:SD->Res (List D)}{Q':List V->Hp->Prop}{g:List D->Res D}{Q:VK} (I:SI K H0 B0 B H σ τ P F) (h:Goal K Y H0 B0 B H σ τ P F Q ((f τ).bind g))
  (k:∀ ds vs H1 B1 fp,f τ=.ok ds->SI K H0 B0 B1 H1 σ τ P F->Same H H1->Same B B1->RepL K B1 (· ∈ P) H1 ds vs fp->Vok H0 B1 H1 P F fp->Goal K Y H0 B0 B1 H1 σ τ P F Q (g ds)->Q' vs H1):tML K Y f σ H Q' := by
 refine ⟨H0,B0,B,τ,P,F,I,?_⟩
 cases e:f τ with
 | ok d =>
  rw [e] at h
  intro v H1 B1 fp I1 s1 b1 r1 k1
  exact k d v H1 B1 fp e I1 s1 b1 r1 k1 (Goal.later h s1 b1)
 | exn C=>rw [e] at h; exact h
 | bad=>rw [e] at h; exact h
def tupD (ds:List D):Res D:=if ds.length <= 16777216 then .ok (.tup ds) else .bad
def lstD (ds:List D):Res D:=if ds.length <= 16777216 then .ok (.lst .own ds) else .bad
def eA (g:List D->Res D) (f:SD->Res (List D)) (τ:SD):Res D:=(f τ).bind g
theorem q_tup {x1} (h:PA X es (tML X.K Y fs)):PE X (.Tuple es x1 pos) (tM X.K Y (eA tupD fs)) :=
 PE.imp (pe_tup h) fun σ H Q hq=>ex8 hq fun H0 B0 B τ P F I h=>tML.seq I h fun ds vs H1 B1 fp _ I1 _ _ r1 k1 h1=>by
  unfold tupD at h1
  split at h1
  ·rename_i hl
   exact ⟨by rw [<- r1.length]; exact isz hl,fun p hp=>Out.newT h1 I1 r1 k1 hp⟩
  ·exact h1.elim
theorem q_lst (h:PA X es (tML X.K Y fs)):PE X (.List es pos) (tM X.K Y (eA lstD fs)) :=
 PE.imp (pe_lst h) fun σ H Q hq=>ex8 hq fun H0 B0 B τ P F I h=>tML.seq I h fun ds vs H1 B1 fp _ I1 _ _ r1 k1 h1=>by
  unfold lstD at h1
  split at h1
  ·rename_i hl
   exact ⟨by rw [<- r1.length]; exact isz hl,fun p hp=>Out.newL h1 I1 r1 k1 hp⟩
  ·exact h1.elim
def CallD (K:PySem.W.Frag) (Y:XY) (r:List V->Hp->VK->Prop) (g:List D->Res D):Prop := ∀ {H0 B0 B H:Hp}{σ:L2.St}{τ:SD}{P:List Addr}{F:Addr->Prop}{ds:List D}{vs:List V}{f:List Addr}{Q:VK},
 SI K H0 B0 B H σ τ P F->RepL K B (· ∈ P) H ds vs f->Vok H0 B H P F f->Goal K Y H0 B0 B H σ τ P F Q (g ds)->r vs H Q
theorem q_callB {x:Str}{id:String}{p:Pos}{r:List V->Hp->VK->Prop}{g:List D->Res D} (hc:CallR X (.builtin id) r) (hgd:CallD X.K Y r g) (hg:Gl X x) (hm:X.mg x=none) (hv:bootBuiltins x=some (.builtin id)) (ha:PA X (e :: es) (tML X.K Y fs)) (hn:x ≠ "__name__" := by decide) (hdb:(x == ("__debug__" : Str))=false:=by decide)
  (he:starEach (e :: es) X.env=(false,eval e X.env) :: starEach es X.env:=by rfl) (hpl:(backTo pos (starEach es X.env)).any (·.1)=false:=by rfl) :
  PE X (.Call (.Name x p) (e :: es) [] pos) (tM X.K Y (eA g fs)) :=
 PE.imp (pe_callB hc hg hm hv ha hn hdb he hpl) fun σ H Q hq=>ex8 hq fun H0 B0 B τ P F I h=>tML.seq I h fun ds vs H1 B1 fp _ I1 _ _ r1 k1 h1=>hgd I1 r1 k1 h1
theorem q_callTy {x:Str}{T:String}{p:Pos}{r:List V->Hp->VK->Prop}{g:List D->Res D} (hc:CallR X (.type T) r) (hgd:CallD X.K Y r g) (hg:Gl X x) (hm:X.mg x=none) (hv:bootBuiltins x=some (.type T)) (ha:PA X (e :: es) (tML X.K Y fs)) (hn:x ≠ "__name__" := by decide) (hdb:(x == ("__debug__" : Str))=false:=by decide)
  (he:starEach (e :: es) X.env=(false,eval e X.env) :: starEach es X.env:=by rfl) (hpl:(backTo pos (starEach es X.env)).any (·.1)=false:=by rfl) :
  PE X (.Call (.Name x p) (e :: es) [] pos) (tM X.K Y (eA g fs)) :=
 PE.imp (pe_callTy hc hg hm hv ha hn hdb he hpl) fun σ H Q hq=>ex8 hq fun H0 B0 B τ P F I h=>tML.seq I h fun ds vs H1 B1 fp _ I1 _ _ r1 k1 h1=>hgd I1 r1 k1 h1
theorem repL1 {S:Addr->Prop}{d:D}{vs:List V}{f:List Addr} (r:RepL K B S H [d] vs f):∃ v,vs=[v]/\Rep K B S H d v f:=by
 obtain ⟨v,w,f1,f2,rfl,r1,r2,rfl⟩:=r
 obtain ⟨rfl,rfl⟩:=r2
 exact ⟨v,rfl,by rw [List.append_nil]; exact r1⟩
theorem repL2 {S:Addr->Prop}{d e:D}{vs:List V}{f:List Addr} (r:RepL K B S H [d,e] vs f):∃ v u f1 f2,vs=[v,u]/\f=f1 ++ f2/\Rep K B S H d v f1/\Rep K B S H e u f2:=by
 obtain ⟨v,w,f1,f2,rfl,r1,r2,rfl⟩:=r
 obtain ⟨u,rfl,r3⟩:=repL1 r2
 exact ⟨v,u,f1,f2,rfl,rfl,r1,r3⟩
def lenD:List D->Res D
 | [.lst _ xs]=>.ok (.int xs.length)
 | [.tup xs]=>.ok (.int xs.length)
 | [.str z]=>if z.length <= 16777216 then .ok (.int z.length) else .bad
 | _=>.bad
abbrev rLen (K:PySem.W.Frag):List V->Hp->VK->Prop:=fun xs H Q=>(∃ p ys,xs=[.ref p]/\(SqL K H p ys ∨ SqT K H p ys)/\Q (.int ys.length) H) ∨ ∃ z,xs=[.str z]/\z.length <= sizeLine/\Q (.int z.length) H
theorem call_lenA:CallR X (.builtin "len") (rLen X.K):=CallR.or call_len_seq call_len_str
theorem d_len:CallD K Y (rLen K) lenD:=by
 intro H0 B0 B H σ τ P F ds vs f Q I r k h
 unfold lenD at h
 split at h
 ·obtain ⟨v,rfl,r'⟩:=repL1 r
  obtain ⟨a,ws,g,rfl,q,l,s⟩:=r'.lst I
  refine .inl ⟨a,ws,rfl,.inl (sqL_of q),?_⟩
  rw [<- l.length]
  exact Out.here h I ⟨rfl,rfl⟩
 ·obtain ⟨v,rfl,r'⟩:=repL1 r
  obtain ⟨a,ws,rfl,q,l⟩:=r'.tp
  refine .inl ⟨a,ws,rfl,.inr q,?_⟩
  rw [<- l.length]
  exact Out.here h I ⟨rfl,rfl⟩
 ·obtain ⟨v,rfl,r'⟩:=repL1 r
  obtain ⟨rfl,rfl⟩:=r'
  split at h
  ·rename_i hl
   exact .inr ⟨_,rfl,isz hl,Out.here h I ⟨rfl,rfl⟩⟩
  ·exact h.elim
 ·exact h.elim
def max2D:List D->Res D | [.int i,.int j]=>.ok (.int (if j > i then j else i)) | _=>.bad
def min2D:List D->Res D | [.int i,.int j]=>.ok (.int (if j < i then j else i)) | _=>.bad
theorem d_max2:CallD K Y (fun xs H Q=>∃ i j,xs=[.int i,.int j]/\Q (.int (if j > i then j else i)) H) max2D:=by
 intro H0 B0 B H σ τ P F ds vs f Q I r k h
 unfold max2D at h
 split at h
 ·obtain ⟨v,u,f1,f2,rfl,rfl,⟨rfl,rfl⟩,⟨rfl,rfl⟩⟩:=repL2 r
  exact ⟨_,_,rfl,Out.here h I ⟨rfl,rfl⟩⟩
 ·exact h.elim
theorem d_min2:CallD K Y (fun xs H Q=>∃ i j,xs=[.int i,.int j]/\Q (.int (if j < i then j else i)) H) min2D:=by
 intro H0 B0 B H σ τ P F ds vs f Q I r k h
 unfold min2D at h
 split at h
 ·obtain ⟨v,u,f1,f2,rfl,rfl,⟨rfl,rfl⟩,⟨rfl,rfl⟩⟩:=repL2 r
  exact ⟨_,_,rfl,Out.here h I ⟨rfl,rfl⟩⟩
 ·exact h.elim
def listD:List D->Res D
 | [.lst _ xs]=>.ok (.lst .own xs)
 | [.tup xs]=>.ok (.lst .own xs)
 | _=>.bad
theorem d_list:CallD K Y (fun xs H Q=>∃ p ys,xs=[.ref p]/\(SqL K H p ys ∨ SqT K H p ys)/\∀ l,H l=none->Q (.ref l) (upd H l (.lst ys))) listD:=by
 intro H0 B0 B H σ τ P F ds vs f Q I r k h
 unfold listD at h
 split at h
 ·obtain ⟨v,rfl,r'⟩:=repL1 r
  obtain ⟨a,ws,g,rfl,q,l,s⟩:=r'.lst I
  exact ⟨a,ws,rfl,.inl (sqL_of q),fun p hp=>Out.newL h I l (k.sub s) hp⟩
 ·obtain ⟨v,rfl,r'⟩:=repL1 r
  obtain ⟨a,ws,rfl,q,l⟩:=r'.tp
  exact ⟨a,ws,rfl,.inr q,fun p hp=>Out.newL h I l k hp⟩
 ·exact h.elim
def tupleD:List D->Res D
 | [.lst _ xs]=>.ok (.tup xs)
 | [.tup xs]=>.ok (.tup xs)
 | _=>.bad
theorem d_tuple:CallD K Y (fun xs H Q=>∃ p ys,xs=[.ref p]/\((SqL K H p ys/\∀ l,H l=none->Q (.ref l) (upd H l (.tup ys))) ∨ (SqT K H p ys/\Q (.ref p) H))) tupleD:=by
 intro H0 B0 B H σ τ P F ds vs f Q I r k h
 unfold tupleD at h
 split at h
 ·obtain ⟨v,rfl,r'⟩:=repL1 r
  obtain ⟨a,ws,g,rfl,q,l,s⟩:=r'.lst I
  exact ⟨a,ws,rfl,.inl ⟨sqL_of q,fun p hp=>Out.newT h I l (k.sub s) hp⟩⟩
 ·obtain ⟨v,rfl,r'⟩:=repL1 r
  obtain ⟨a,ws,rfl,q,l⟩:=r'.tp
  exact ⟨a,ws,rfl,.inr ⟨q,Out.hereO h I r' k⟩⟩
 ·exact h.elim
def eP (f:SD->Res D) (τ:SD):Res (Option Int):=(f τ).bind fun d=>match d with | .int i=>.ok (some i) | _=>.bad
def eP0 (_:SD):Res (Option Int) := .ok none
def tMO (K:PySem.W.Frag) (Y:XY) (f:SD->Res (Option Int)):TO:=fun σ H Q=>∃ H0 B0 B τ P F,SI K H0 B0 B H σ τ P F/\match f τ with
 | .ok o=>∀ H' B',SI K H0 B0 B' H' σ τ P F->Same H H'->Same B B'->Q o H'
 | .exn C=>OutX K Y H0 B0 B H σ τ P F C
 | .bad=>False
theorem PO.imp {e:Option Expr}{t t':TO} (h:PO X e t) (hi:∀ σ H Q,t' σ H Q->t σ H Q):PO X e t' := fun pins s σ H Q I hw=>h pins s σ H Q I (hi σ H Q hw)
theorem qo_none:PO X none (tMO X.K Y eP0):=PO.imp po_none fun σ H Q hq=>ex8 hq fun H0 B0 B τ P F I h=>h H B I (Same.refl _) (Same.refl _)
theorem qo_some (h:PE X e (tM X.K Y fe)):PO X (some e) (tMO X.K Y (eP fe)):=by
 refine PO.imp (po_some h) fun σ H Q hq=>ex8 hq fun H0 B0 B τ P F I h=>?_
 refine ⟨H0,B0,B,τ,P,F,I,?_⟩
 unfold eP at h
 cases z:fe τ with
 | exn C=>rw [z] at h; exact h
 | bad=>rw [z] at h; exact h
 | ok d =>
  rw [z] at h
  intro v H1 B1 fp I1 s1 b1 r1 k1
  cases d with
  | int i=>exact ⟨i,r1.1,h H1 B1 I1 s1 b1⟩
  | _=>exact h.elim
def cut {α:Type} (xs:List α) (lo hi:Option Int):List α:=(xs.drop (HT.sIx xs.length 0 lo)).take (HT.sIx xs.length xs.length hi - HT.sIx xs.length 0 lo)
theorem RepL.drop {S:Addr->Prop}:∀ (n:Nat) {xs:List D}{vs:List V}{f:List Addr},RepL K B S H xs vs f->∃ g,RepL K B S H (xs.drop n) (vs.drop n) g/\List.Sublist g f
 | 0,xs,vs,f,r=>⟨f,r,List.Sublist.refl _⟩
 | n + 1,[],vs,f,r=>by
  obtain ⟨rfl,rfl⟩:=r
  exact ⟨[],⟨rfl,rfl⟩,List.Sublist.refl _⟩
 | n + 1,d :: ds,vs,f,r=>by
  obtain ⟨v,w,f1,f2,rfl,r1,r2,rfl⟩:=r
  obtain ⟨g,h1,h2⟩:=RepL.drop n r2
  exact ⟨g,h1,h2.trans (List.sublist_append_right _ _)⟩
theorem RepL.take {S:Addr->Prop}:∀ (n:Nat) {xs:List D}{vs:List V}{f:List Addr},RepL K B S H xs vs f->∃ g,RepL K B S H (xs.take n) (vs.take n) g/\List.Sublist g f
 | 0,xs,vs,f,r=>⟨[],⟨rfl,rfl⟩,List.nil_sublist _⟩
 | n + 1,[],vs,f,r=>by
  obtain ⟨rfl,rfl⟩:=r
  exact ⟨[],⟨rfl,rfl⟩,List.Sublist.refl _⟩
 | n + 1,d :: ds,vs,f,r=>by
  obtain ⟨v,w,f1,f2,rfl,r1,r2,rfl⟩:=r
  obtain ⟨g,h1,h2⟩:=RepL.take n r2
  exact ⟨f1 ++ g,⟨v,_,f1,g,rfl,r1,h1,rfl⟩,List.Sublist.append (List.Sublist.refl _) h2⟩
theorem RepL.cut {S:Addr->Prop}{xs:List D}{vs:List V}{f:List Addr} (r:RepL K B S H xs vs f) (lo hi:Option Int):∃ g,RepL K B S H (cut xs lo hi) (cutV vs lo hi) g/\List.Sublist g f:=by
 unfold DL.cut cutV
 rw [r.length]
 obtain ⟨g,h1,h2⟩:=r.drop (HT.sIx vs.length 0 lo)
 obtain ⟨g',h3,h4⟩:=h1.take (HT.sIx vs.length vs.length hi - HT.sIx vs.length 0 lo)
 exact ⟨g',h3,h4.trans h2⟩
def cutD (d:D) (lo hi:Option Int):Res D:=match d with
 | .lst _ xs=>.ok (.lst .own (cut xs lo hi))
 | .tup xs=>if HT.sIx xs.length 0 lo=0/\HT.sIx xs.length xs.length hi=xs.length then .bad else .ok (.tup (cut xs lo hi))
 | _=>.bad
def eCut (f:SD->Res D) (lo hi:SD->Res (Option Int)) (τ:SD):Res D:=(f τ).bind fun d=>(lo τ).bind fun l=>(hi τ).bind fun u=>cutD d l u
theorem q_slice {lo hi:Option Expr}{fl fh:SD->Res (Option Int)}{p2:Pos} (he:PE X e (tM X.K Y fe)) (hl:PO X lo (tMO X.K Y fl)) (hu:PO X hi (tMO X.K Y fh)):PE X (.Subscript e (.Slice lo hi none p2) pos) (tM X.K Y (eCut fe fl fh)):=by
 refine PE.imp (pe_slice (SlR.or sl_list sl_tup) he hl hu) fun σ H Q hq=>ex8 hq fun H0 B0 B τ P F I h=>?_
 refine tM.seq I h fun d v H1 B1 fp _ I1 s1 b1 r1 k1 h1=>?_
 refine ⟨H0,B0,B1,τ,P,_,I1.hold k1,?_⟩
 cases z:fl τ with
 | exn C=>rw [z] at h1; exact OutX.later h1 (Same.refl _) (Same.refl _) fun a x=>.inr x
 | bad=>rw [z] at h1; exact h1
 | ok l =>
  rw [z] at h1
  intro H2 B2 I2 s2 b2
  refine ⟨H0,B0,B2,τ,P,_,I2,?_⟩
  cases y:fh τ with
  | exn C=>rw [y] at h1; exact OutX.later h1 s2 b2 fun a x=>.inr x
  | bad=>rw [y] at h1; exact h1
  | ok u =>
   rw [y] at h1
   intro H3 B3 I3 s3 b3
   have I4:=I3.anti (F' := F) fun a x=>.inr x
   have k4:=k1.still (s2.trans s3) I3
   have r4:=r1.mono (s2.trans s3) (b2.trans b3) fun _ x=>x
   have h4:Goal X.K Y H0 B0 B3 H3 σ τ P F Q (cutD d l u):=Goal.later h1 (s2.trans s3) (b2.trans b3)
   unfold cutD at h4
   split at h4
   ·obtain ⟨a,vs,g,rfl,q,l',s⟩:=r4.lst I4
    obtain ⟨g',l2,s2⟩:=l'.cut l u
    exact .inl ⟨a,vs,rfl,sqL_of q,fun p hp=>Out.newL h4 I4 l2 (k4.sub (s2.trans s)) hp⟩
   ·obtain ⟨a,vs,rfl,q,l'⟩:=r4.tp
    obtain ⟨g',l2,s2⟩:=l'.cut l u
    split at h4
    ·exact h4.elim
    ·rename_i hc
     rw [l'.length] at hc
     exact .inr ⟨a,vs,rfl,q,hc,fun p hp=>Out.newT h4 I4 l2 (k4.sub s2) hp⟩
   ·exact h4.elim
end
inductive Fl where | nx (τ:SD) | rt (d:D) | bk (τ:SD) | ct (τ:SD) | ex (C:Addr) (τ:SD) | bad
abbrev SF:=SD->Fl
def Tg.unbor:Tg->Tg | .bor=>.frz | t=>t
mutual
def D.unbor:D->D
 | .tup xs=>.tup (unborL xs)
 | .lst t xs=>.lst t.unbor (unborL xs)
 | .dct t k ks vs=>.dct t.unbor k ks (unborL vs)
 | d=>d
def unborL:List D->List D
 | []=>[]
 | d :: r=>d.unbor :: unborL r
end
mutual
theorem unbor_id:∀ d:D,d.hasBor=false->d.unbor=d
 | .non,_=>rfl
 | .bl _,_=>rfl
 | .int _,_=>rfl
 | .str _,_=>rfl
 | .exc _,_=>rfl
 | .tup xs,h=>by
  have h:hasBorL xs=false:=h
  show D.tup (unborL xs)=_
  rw [unborL_id xs h]
 | .lst t xs,h=>by
  have h:(decide (t=.bor) || hasBorL xs)=false:=h
  rw [Bool.or_eq_false_iff] at h
  show D.lst t.unbor (unborL xs)=_
  rw [unborL_id xs h.2]
  cases t <;> first | rfl | exact absurd h.1 (by decide)
 | .dct t k ks vs,h=>by
  have h:(decide (t=.bor) || hasBorL vs)=false:=h
  rw [Bool.or_eq_false_iff] at h
  show D.dct t.unbor k ks (unborL vs)=_
  rw [unborL_id vs h.2]
  cases t <;> first | rfl | exact absurd h.1 (by decide)
theorem unborL_id:∀ xs:List D,hasBorL xs=false->unborL xs=xs
 | [],_=>rfl
 | d :: r,h=>by
  have h:(d.hasBor || hasBorL r)=false:=h
  rw [Bool.or_eq_false_iff] at h
  show d.unbor :: unborL r=_
  rw [unbor_id d h.1,unborL_id r h.2]
end
section
variable {K:PySem.W.Frag}
mutual
theorem Rep.unbor {B B' H:Hp}{S:Addr->Prop} (sB:Same B B') (hs:∀ a o,S a->H a=some o->B' a=some o):∀ {d:D}{v:V}{fp:List Addr},Rep K B S H d v fp->Rep K B' No H d.unbor v fp
 | .non,_,_,h=>h
 | .bl _,_,_,h=>h
 | .int _,_,_,h=>h
 | .str _,_,_,h=>h
 | .exc _,_,_,h=>h
 | .tup xs,v,fp,h=>let ⟨a,vs,e,q,r⟩:=h; ⟨a,vs,e,q,RepL.unbor sB hs r⟩
 | .lst .own xs,v,fp,h=>let ⟨a,vs,f,e,q,r,z⟩:=h; ⟨a,vs,f,e,q,RepL.unbor sB hs r,z⟩
 | .lst .bor xs,v,fp,h=>let ⟨a,vs,e,q,r,z⟩:=h; ⟨a,vs,e,sqL_to sB hs q,RepL.unbor sB hs r,z⟩
 | .lst .frz xs,v,fp,h=>let ⟨a,vs,e,q,r,z⟩:=h; ⟨a,vs,e,rd_mono sB q,RepL.unbor sB (fun _ _ x=>x.elim) r,z⟩
 | .lst (.len _) _,_,_,h=>h.elim
 | .dct (.len a) kd ks xs,v,fp,h=>let ⟨vs,f,e,q,r,z⟩:=h; ⟨vs,f,e,q,RepL.unbor sB hs r,z⟩
 | .dct .own kd ks xs,v,fp,h=>let ⟨a,vs,f,e,q,r,z⟩:=h; ⟨a,vs,f,e,q,RepL.unbor sB hs r,z⟩
 | .dct .bor kd ks xs,v,fp,h=>let ⟨a,vs,e,q,r,z⟩:=h; ⟨a,vs,e,dictAt_to sB hs q,RepL.unbor sB hs r,z⟩
 | .dct .frz kd ks xs,v,fp,h=>let ⟨a,vs,e,q,r,z⟩:=h; ⟨a,vs,e,q.mono sB,RepL.unbor sB (fun _ _ x=>x.elim) r,z⟩
theorem RepL.unbor {B B' H:Hp}{S:Addr->Prop} (sB:Same B B') (hs:∀ a o,S a->H a=some o->B' a=some o):∀ {ds:List D}{vs:List V}{fp:List Addr},RepL K B S H ds vs fp->RepL K B' No H (unborL ds) vs fp
 | [],_,_,h=>h
 | d :: ds,vs,fp,h=>let ⟨v,r,f,g,e,h1,h2,z⟩:=h; ⟨v,r,f,g,e,Rep.unbor sB hs h1,RepL.unbor sB hs h2,z⟩
end
def Imm (H H':Hp):Prop := ∀ a o,H a=some o->¬ mutO o->H' a=some o
theorem Imm.of {H H':Hp} (s:Same H H'):Imm H H' := fun a o h _=>s a o h
theorem Imm.refl (H:Hp):Imm H H:=fun _ _ h _=>h
theorem Imm.trans {H H1 H2:Hp} (a:Imm H H1) (b:Imm H1 H2):Imm H H2:=fun x o h n=>b x o (a x o h n) n
structure Aft (K:PySem.W.Frag) (H0 B0 B H:Hp) (B' H':Hp) (σ':L2.St) (τ':SD) (P':List Addr):Prop where
 si:SI K H0 B0 B' H' σ' τ' P' No
 b:Same B B'
 imm:Imm H H'
structure RetOk (K:PySem.W.Frag) (H0 B0 B' H':Hp) (d:D) (v:V) (fp:List Addr):Prop where
 h0:Same H0 H'
 b0:Same B0 B'
 bh:Same B' H'
 nb:∀ a,B' a ≠ none->B0 a ≠ none ∨ H0 a=none
 rep:Rep K B' No H' d v fp
 nd:fp.Nodup
 own:∀ a ∈ fp,B' a=none/\H0 a=none/\H' a ≠ none
def RtL (K:PySem.W.Frag) (H0 B0:Hp) (E:Ends):D->Prop
 | .tup [r,x]=>∀ B' H' v u f1 f2,RetOk K H0 B0 B' H' r v f1->Rep K B' No H' x u f2->(f1 ++ f2).Nodup->(∀ b ∈ f2,B' b=none/\H0 b=none/\H' b ≠ none)->E.rt v H'
 | _=>False
def GoalS (K:PySem.W.Frag) (Y:XY) (H0 B0 B H:Hp) (E:Ends):Fl->Prop
 | .nx τ'=>∀ B' H' σ' P',Aft K H0 B0 B H B' H' σ' τ' P'->E.nx σ' H'
 | .bk τ'=>∀ B' H' σ' P',Aft K H0 B0 B H B' H' σ' τ' P'->E.bk σ' H'
 | .ct τ'=>∀ B' H' σ' P',Aft K H0 B0 B H B' H' σ' τ' P'->E.ct σ' H'
 | .ex C τ'=>∀ B' H' σ' P',Aft K H0 B0 B H B' H' σ' τ' P'->Y C σ' H'
 | .rt d=>match Y.ln with
  | false=>∀ B' H' v fp,RetOk K H0 B0 B' H' d v fp->E.rt v H'
  | true=>RtL K H0 B0 E d
 | .bad=>False
def tMS (K:PySem.W.Frag) (Y:XY) (g:SF):TS:=fun E σ H=>∃ H0 B0 B τ P,SI K H0 B0 B H σ τ P No/\GoalS K Y H0 B0 B H E (g τ)
variable {Y:XY}{H0 B0 B H:Hp}{σ:L2.St}{τ:SD}{P:List Addr}{F:Addr->Prop}{E:Ends}
theorem Aft.refl (I:SI K H0 B0 B H σ τ P No):Aft K H0 B0 B H B H σ τ P:=⟨I,Same.refl _,Imm.refl _⟩
theorem Aft.grow {B' H':Hp} (I:SI K H0 B0 B' H' σ τ P No) (sB:Same B B') (sH:Same H H'):Aft K H0 B0 B H B' H' σ τ P:=⟨I,sB,Imm.of sH⟩
theorem Aft.trans {B1 H1 B2 H2:Hp}{σ1 σ2:L2.St}{τ1 τ2:SD}{P1 P2:List Addr} (a:Aft K H0 B0 B H B1 H1 σ1 τ1 P1) (b:Aft K H0 B0 B1 H1 B2 H2 σ2 τ2 P2):Aft K H0 B0 B H B2 H2 σ2 τ2 P2:=⟨b.si,a.b.trans b.b,a.imm.trans b.imm⟩
theorem GoalS.later {B1 H1:Hp}{σ1:L2.St}{τ1:SD}{P1:List Addr}{r:Fl} (h:GoalS K Y H0 B0 B H E r) (a:Aft K H0 B0 B H B1 H1 σ1 τ1 P1):GoalS K Y H0 B0 B1 H1 E r:=by
 cases r with
 | nx τ'=>exact fun B' H' σ' P' b=>h B' H' σ' P' (a.trans b)
 | bk τ'=>exact fun B' H' σ' P' b=>h B' H' σ' P' (a.trans b)
 | ct τ'=>exact fun B' H' σ' P' b=>h B' H' σ' P' (a.trans b)
 | ex C τ'=>exact fun B' H' σ' P' b=>h B' H' σ' P' (a.trans b)
 | rt d=>exact h
 | bad=>exact h
theorem GoalS.rt {d:D} (hl:Y.ln=false) (h:GoalS K Y H0 B0 B H E (.rt d)):∀ B' H' v fp,RetOk K H0 B0 B' H' d v fp->E.rt v H' := by
 have h:(match Y.ln with | false=>∀ B' H' v fp,RetOk K H0 B0 B' H' d v fp->E.rt v H' | true=>RtL K H0 B0 E d):=h
 rw [hl] at h
 exact h
def Fl.andThen (r:Fl) (s:SF):Fl:=match r with | .nx τ=>s τ | r=>r
def sSeq (a b:SF) (τ:SD):Fl:=(a τ).andThen b
def sNext (τ:SD):Fl := .nx τ
variable {X:Cx}{st:Stmt}{rest:List Stmt}{g g1 g2:SF}{pos:Pos}
theorem ss_nil:PSs X [] (tMS X.K Y sNext):=PSs.imp pss_nil fun E σ H hq=>ex7 hq fun H0 B0 B τ P I h=>h B H σ P (Aft.refl I)
theorem ss_one (h:PS X st (tMS X.K Y g)):PSs X [st] (tMS X.K Y g):=pss_one h
theorem ss_cons (h1:PS X st (tMS X.K Y g1)) (h2:PSs X rest (tMS X.K Y g2)):PSs X (st :: rest) (tMS X.K Y (sSeq g1 g2)):=by
 refine PSs.imp (pss_cons h1 h2) fun E σ H hq=>ex7 hq fun H0 B0 B τ P I h=>⟨H0,B0,B,τ,P,I,?_⟩
 unfold sSeq at h
 cases e:g1 τ with
 | nx τ'=>rw [e] at h; exact fun B' H' σ' P' a=>⟨H0,B0,B',τ',P',a.si,GoalS.later h a⟩
 | bk τ'=>rw [e] at h; exact h
 | ct τ'=>rw [e] at h; exact h
 | ex C τ'=>rw [e] at h; exact h
 | rt d=>rw [e] at h; exact h
 | bad=>rw [e] at h; exact h
def sNever (_:SD):Fl := .bad
theorem s_never:PS X st (tMS X.K Y sNever):=fun _ _ _ _ _ _ ⟨_,_,_,_,_,_,h⟩=>h.elim
def Res.toFl (τ:SD) (r:Res D) (k:D->Fl):Fl:=match r with | .ok d=>k d | .exn C=>.ex C τ | .bad=>.bad
def Res.toFlB (τ:SD) (r:Res Bool) (k:Bool->Fl):Fl:=match r with | .ok d=>k d | .exn C=>.ex C τ | .bad=>.bad
theorem exprS {f:SD->Res D}{k:D->Fl}{Q:VK} (I:SI K H0 B0 B H σ τ P No) (h:GoalS K Y H0 B0 B H E ((f τ).toFl τ k))
  (c:∀ d v H1 B1 fp,f τ=.ok d->SI K H0 B0 B1 H1 σ τ P No->Same H H1->Same B B1->Rep K B1 (· ∈ P) H1 d v fp->Vok H0 B1 H1 P No fp->GoalS K Y H0 B0 B1 H1 E (k d)->Q v H1):tM K Y f σ H Q:=by
 refine ⟨H0,B0,B,τ,P,No,I,?_⟩
 cases e:f τ with
 | ok d =>
  rw [e] at h
  intro v H1 B1 fp I1 s1 b1 r1 k1
  exact c d v H1 B1 fp e I1 s1 b1 r1 k1 (GoalS.later h (Aft.grow I1 b1 s1))
 | exn C=>rw [e] at h; exact fun H1 B1 I1 s1 b1=>h B1 H1 σ P (Aft.grow I1 b1 s1)
 | bad=>rw [e] at h; exact h
theorem testS {f:SD->Res Bool}{k:Bool->Fl}{Q:Bool->Hp->Prop} (I:SI K H0 B0 B H σ τ P No) (h:GoalS K Y H0 B0 B H E ((f τ).toFlB τ k))
  (c:∀ d H1 B1,f τ=.ok d->SI K H0 B0 B1 H1 σ τ P No->Same H H1->Same B B1->GoalS K Y H0 B0 B1 H1 E (k d)->Q d H1):tMB K Y f σ H Q:=by
 refine ⟨H0,B0,B,τ,P,No,I,?_⟩
 cases e:f τ with
 | ok d=>rw [e] at h; exact fun H1 B1 I1 s1 b1=>c d H1 B1 e I1 s1 b1 (GoalS.later h (Aft.grow I1 b1 s1))
 | exn C=>rw [e] at h; exact fun H1 B1 I1 s1 b1=>h B1 H1 σ P (Aft.grow I1 b1 s1)
 | bad=>rw [e] at h; exact h
variable {e c:Expr}{fe:SD->Res D}{gc:SD->Res Bool}
def sExpr (f:SD->Res D) (τ:SD):Fl:=(f τ).toFl τ fun _=>.nx τ
theorem s_expr (he:PE X e (tM X.K Y fe)) (hs:swapsWith e none pos.line X.env=pure false:=by rfl):PS X (.Expr e pos) (tMS X.K Y (sExpr fe)) :=
 PS.imp (ps_expr he hs) fun E σ H hq=>ex7 hq fun H0 B0 B τ P I h=>exprS I h fun d v H1 B1 fp _ I1 _ _ _ _ h1=>h1 B1 H1 σ P (Aft.refl I1)
def sIf (c:SD->Res Bool) (a b:SF) (τ:SD):Fl:=(c τ).toFlB τ fun t=>if t=true then a τ else b τ
theorem s_if {a b:List Stmt} (hc:PT X c (tMB X.K Y gc)) (ha:PSs X a (tMS X.K Y g1)) (hb:PSs X b (tMS X.K Y g2)):PS X (.If c a b pos) (tMS X.K Y (sIf gc g1 g2)) :=
 PS.imp (ps_if hc ha hb) fun E σ H hq=>ex7 hq fun H0 B0 B τ P I h=>testS I h fun d H1 B1 _ I1 _ _ h1=>by
  cases d with
  | true=>rw [if_pos rfl] at h1 ⊢; exact ⟨H0,B0,B1,τ,P,I1,h1⟩
  | false=>rw [if_neg Bool.false_ne_true] at h1 ⊢; exact ⟨H0,B0,B1,τ,P,I1,h1⟩
def atRest (B H:Hp) (S:Addr->Prop):Hp:=fun a=>by classical exact if S a then H a else B a
theorem rest_same {S:Addr->Prop} (h:Same B H):Same B (atRest B H S):=fun a o e=>by
 unfold atRest; split
 ·exact h a o e
 ·exact e
theorem rest_in {S:Addr->Prop}{a:Addr}{o:HO} (s:S a) (h:H a=some o):atRest B H S a=some o:=by unfold atRest; rw [if_pos s]; exact h
theorem rest_up {S:Addr->Prop} (h:Same B H):Same (atRest B H S) H:=fun a o e=>by
 unfold atRest at e; split at e
 ·exact e
 ·exact h a o e
theorem rest_out {S:Addr->Prop}{a:Addr} (s:¬ S a):atRest B H S a=B a:=by unfold atRest; rw [if_neg s]
def sRet (f:SD->Res D) (τ:SD):Fl:=(f τ).toFl τ fun d=>.rt d.unbor
theorem retOk_of {d:D}{v:V}{fp:List Addr} (I:SI K H0 B0 B H σ τ P F) (r:Rep K B (· ∈ P) H d v fp) (k:Vok H0 B H P F fp):RetOk K H0 B0 (atRest B H (· ∈ P)) H d.unbor v fp where
 h0:=I.h0
 b0:=I.b0.trans (rest_same I.bh)
 bh:=rest_up I.bh
 nb:=fun a n=>by
  by_cases m:a ∈ P
  ·exact .inr (I.own a m).2.1
  ·rw [rest_out m] at n; exact I.nb a n
 rep:=r.unbor (rest_same I.bh) fun a o s h=>rest_in s h
 nd:=k.nd
 own:=fun a m=>let ⟨a1,a2,a3,a4,_⟩:=k.own a m; ⟨by rw [rest_out a4]; exact a1,a2,a3⟩
theorem s_ret (he:PE X e (tM X.K Y fe)) (hl:Y.ln=false:=by rfl):PS X (.Return (some e) pos) (tMS X.K Y (sRet fe)) :=
 PS.imp (ps_ret he) fun E σ H hq=>ex7 hq fun H0 B0 B τ P I h=>exprS I h fun d v H1 B1 fp _ I1 _ _ r1 k1 h1=>(GoalS.rt hl h1) _ H1 v fp (retOk_of I1 r1 k1)
def sRetV (i:Nat) (τ:SD):Fl:=match τ[i]? with | some (some d)=>.rt d | _=>.bad
theorem s_retV (i:Nat) {x:Str}{pos':Pos} (hN:X.N[i]?=some x:=by rfl) (hv:Vis X.env.scope x:=by first | exact Or.inl rfl | exact Or.inr (Or.inl rfl) | exact Or.inr (Or.inr rfl)) (hd:(x == ("__debug__" : Str))=false:=by decide)
  (hcd:(x == ("__classdict__" : Str))=false:=by decide) (hl:Y.ln=false:=by rfl):PS X (.Return (some (.Name x pos')) pos) (tMS X.K Y (sRetV i)):=by
 refine PS.imp (ps_ret (pe_var hN hv hd hcd)) fun E σ H hq=>ex7 hq fun H0 B0 B τ P I h=>?_
 unfold sRetV at h
 cases e:τ[i]? with
 | none=>rw [e] at h; exact h.elim
 | some o =>
  cases o with
  | none=>rw [e] at h; exact h.elim
  | some d =>
   rw [e] at h
   obtain ⟨v,f,h1,h2,h3⟩:=I.rep.get e
   refine ⟨v,h1,(GoalS.rt hl h) B H v f ⟨I.h0,I.b0,I.bh,I.nb,h2,I.nd.sublist h3,fun a m=>?_⟩⟩
   obtain ⟨a1,a2,a3⟩:=I.own a (h3.subset m)
   exact ⟨a1,a2,I.stands (h3.subset m)⟩
theorem RepS.length {B H:Hp}:∀ {τ:SD}{σ:L2.St}{P:List Addr},RepS K B H τ σ P->τ.length=σ.length
 | [],_,_,h=>by rw [h.1]; rfl
 | none :: r,σ,P,h=>by obtain ⟨o,t,rfl,h⟩:=h; rw [List.length_cons,List.length_cons,RepS.length h]
 | some d :: r,σ,P,h=>by obtain ⟨v,t,f,g,rfl,_,h,_⟩:=h; rw [List.length_cons,List.length_cons,RepS.length h]
theorem RepS.cut {B H:Hp}:∀ {τ:SD}{σ:L2.St}{P:List Addr}{i:Nat},RepS K B H τ σ P->i < τ.length->∃ A f C,P=A ++ f ++ C/\(∀ d,τ[i]?=some (some d)->∃ v,σ[i]?=some (some v)/\Rep K B No H d v f) /\
  ∀ {B' H':Hp}{d':D}{v':V}{f':List Addr},(∀ d v g,Rep K B No H d v g->(∀ a ∈ g,a ∈ A ++ C)->Rep K B' No H' d v g)->Rep K B' No H' d' v' f'->RepS K B' H' (τ.set i (some d')) (σ.set i (some v')) (A ++ f' ++ C)
 | [],σ,P,i,h,hi=>absurd hi (Nat.not_lt_zero _)
 | none :: r,σ,P,0,h,hi=>by
  obtain ⟨o,t,rfl,h⟩:=h
  refine ⟨[],[],P,rfl,fun d e=>by simp at e,fun {B' H' d' v' f'} hm hr=>⟨v',t,f',P,rfl,hr,?_,rfl⟩⟩
  revert hm
  have key:∀ {τ:SD}{σ:L2.St}{Q:List Addr},RepS K B H τ σ Q->(∀ d v g,Rep K B No H d v g->(∀ a ∈ g,a ∈ Q)->Rep K B' No H' d v g)->RepS K B' H' τ σ Q:=by
   intro τ
   induction τ with
   | nil=>intro σ Q h _; exact h
   | cons o r ih =>
    intro σ Q h hm
    cases o with
    | none=>obtain ⟨o,t,e,h⟩:=h; exact ⟨o,t,e,ih h hm⟩
    | some d =>
     obtain ⟨v,t,f,g,e,h1,h2,z⟩:=h
     subst z
     exact ⟨v,t,f,g,e,hm d v f h1 (fun a m=>List.mem_append_left _ m),ih h2 (fun d v g' hr hg=>hm d v g' hr fun a m=>List.mem_append_right _ (hg a m)),rfl⟩
  exact fun hm=>key h hm
 | some d :: r,σ,P,0,h,hi=>by
  obtain ⟨v,t,f,g,rfl,h1,h2,rfl⟩:=h
  refine ⟨[],f,g,by simp,fun d' e=>⟨v,rfl,?_⟩,fun {B' H' d' v' f'} hm hr=>⟨v',t,f',g,rfl,hr,?_,rfl⟩⟩
  ·have e:d=d' := by simpa using e
   subst e
   exact h1
  ·have key:∀ {τ:SD}{σ:L2.St}{Q:List Addr},RepS K B H τ σ Q->(∀ d v g,Rep K B No H d v g->(∀ a ∈ g,a ∈ Q)->Rep K B' No H' d v g)->RepS K B' H' τ σ Q:=by
    intro τ
    induction τ with
    | nil=>intro σ Q h _; exact h
    | cons o r ih =>
     intro σ Q h hm
     cases o with
     | none=>obtain ⟨o,t,e,h⟩:=h; exact ⟨o,t,e,ih h hm⟩
     | some d =>
      obtain ⟨v,t,f,g,e,h1,h2,z⟩:=h
      subst z
      exact ⟨v,t,f,g,e,hm d v f h1 (fun a m=>List.mem_append_left _ m),ih h2 (fun d v g' hr hg=>hm d v g' hr fun a m=>List.mem_append_right _ (hg a m)),rfl⟩
   exact key h2 hm
 | none :: r,σ,P,i + 1,h,hi=>by
  obtain ⟨o,t,rfl,h⟩:=h
  obtain ⟨A,f,C,e,h1,h2⟩:=RepS.cut (i:=i) h (by simpa using hi)
  exact ⟨A,f,C,e,fun d z=>h1 d (by simpa using z),fun hm hr=>⟨o,_,rfl,h2 hm hr⟩⟩
 | some d :: r,σ,P,i + 1,h,hi=>by
  obtain ⟨v,t,f,g,rfl,r1,r2,rfl⟩:=h
  obtain ⟨A,f',C,e,h1,h2⟩:=RepS.cut (i:=i) r2 (by simpa using hi)
  subst e
  refine ⟨f ++ A,f',C,by simp,fun d z=>h1 d (by simpa using z),fun {B' H' d' v' f''} hm hr=>?_⟩
  refine ⟨v,_,f,A ++ f'' ++ C,rfl,hm d v f r1 fun a m=>by simp [m],h2 (fun d v g hr hg=>hm d v g hr fun a m=>?_) hr,by simp⟩
  have:=hg a m
  simp at this ⊢
  rcases this with z | z
  ·exact .inr (.inl z)
  ·exact .inr (.inr z)
theorem SI.put {i:Nat}{H1:Hp}{d':D}{v':V}{f':List Addr} (I:SI K H0 B0 B H σ τ P F) (hi:i < τ.length) {A f C:List Addr} (eP:P=A ++ f ++ C)
  (put:∀ {B' H':Hp}{d':D}{v':V}{f':List Addr},(∀ d v g,Rep K B No H d v g->(∀ a ∈ g,a ∈ A ++ C)->Rep K B' No H' d v g)->Rep K B' No H' d' v' f'->RepS K B' H' (τ.set i (some d')) (σ.set i (some v')) (A ++ f' ++ C))
  (kp:Keep H H1 f) (r:Rep K B No H1 d' v' f') (nd:f'.Nodup) (own:∀ a ∈ f',a ∈ f ∨ (B a=none/\H0 a=none/\H a=none/\¬ F a) ∨ (a ∉ P/\B a=none/\H0 a=none/\¬ F a)) :
  SI K H0 B0 B H1 (σ.set i (some v')) (τ.set i (some d')) (A ++ f' ++ C) F:=by
 have nd0:=I.nd
 rw [eP] at nd0
 have ndA:A.Nodup:=(nd0.sublist (by simp)).sublist (List.sublist_append_left A (f ++ C))
 have kb:∀ a o,B a=some o->a ∉ f:=fun a o e m=>by
  have:=(I.own a (by rw [eP]; simp [m])).1
  rw [e] at this; cases this
 have k0:∀ a o,H0 a=some o->a ∉ f:=fun a o e m=>by
  have:=(I.own a (by rw [eP]; simp [m])).2.1
  rw [e] at this; cases this
 have kf:∀ a,F a->a ∉ f:=fun a e m=>(I.own a (by rw [eP]; simp [m])).2.2 e
 have notin:∀ a ∈ f',a ∉ A/\a ∉ C:=fun a m=>by
  rcases own a m with q | q | q
  ·rw [List.append_assoc,List.nodup_append] at nd0
   obtain ⟨n1,n2,n3⟩:=nd0
   rw [List.nodup_append] at n2
   exact ⟨fun z=>n3 a z a (by simp [q]) rfl,fun z=>n2.2.2 a q a z rfl⟩
  ·exact ⟨fun z=>I.stands (a:=a) (by rw [eP]; simp [z]) q.2.2.1,fun z=>I.stands (a:=a) (by rw [eP]; simp [z]) q.2.2.1⟩
  ·exact ⟨fun z=>q.1 (by rw [eP]; simp [z]),fun z=>q.1 (by rw [eP]; simp [z])⟩
 refine ⟨fun a o e=>kp.keep a o (I.bh a o e) (kb a o e),fun a o e=>kp.keep a o (I.h0 a o e) (k0 a o e),I.b0,I.nb,?_,?_,fun a m=>?_,fun a m=>⟨(I.fr a m).1,fun z=>?_⟩⟩
 ·refine put (fun d v g hr hg=>hr.keep kp fun a m z=>?_) r
  have h1:=hg a m
  rw [List.append_assoc,List.nodup_append] at nd0
  obtain ⟨n1,n2,n3⟩:=nd0
  rw [List.nodup_append] at n2
  rcases List.mem_append.mp h1 with q | q
  ·exact n3 a q a (by simp [z]) rfl
  ·exact n2.2.2 a z a q rfl
 ·rw [List.append_assoc,List.nodup_append] at nd0 ⊢
  obtain ⟨n1,n2,n3⟩:=nd0
  rw [List.nodup_append] at n2
  refine ⟨n1,List.nodup_append.mpr ⟨nd,n2.2.1,fun a ha b hb e=>?_⟩,fun a ha b hb e=>?_⟩
  ·subst e; exact (notin a ha).2 hb
  ·subst e
   rcases List.mem_append.mp hb with q | q
   ·exact (notin a q).1 ha
   ·exact n3 a ha a (by simp [q]) rfl
 ·rcases List.mem_append.mp m with q | q
  ·rcases List.mem_append.mp q with q | q
   ·exact I.own a (by rw [eP]; simp [q])
   ·rcases own a q with q | q | q
    ·exact I.own a (by rw [eP]; simp [q])
    ·exact ⟨q.1,q.2.1,q.2.2.2⟩
    ·exact ⟨q.2.1,q.2.2.1,q.2.2.2⟩
  ·exact I.own a (by rw [eP]; simp [q])
 ·obtain ⟨o,e⟩:=Option.ne_none_iff_exists'.mp (I.fr a m).2
  rw [kp.keep a o e (kf a m)] at z
  cases z
theorem Keep.same {f:List Addr} (h:∀ a ∈ f,∃ o,H a=some o/\mutO o):Keep H H f:=⟨fun _ _ h _=>h,h⟩
theorem sublist_mid (A f C:List Addr):∀ a ∈ f,a ∈ A ++ f ++ C:=fun a m=>by simp [m]
theorem SI.set {d:D}{v:V}{fp:List Addr} (i:Nat) (I:SI K H0 B0 B H σ τ P F) (r:Rep K B No H d v fp) (k:Vok H0 B H P F fp):∃ P',SI K H0 B0 B H (σ.set i (some v)) (τ.set i (some d)) P' F/\∀ a ∈ P',a ∈ P ∨ a ∈ fp:=by
 by_cases hi:i < τ.length
 ·obtain ⟨A,f,C,e,h1,h2⟩:=I.rep.cut hi
  refine ⟨_,I.put hi e h2 (Keep.same fun a m=>I.rep.own a (by rw [e]; exact sublist_mid A f C a m)) r k.nd fun a m=>.inr (.inr ?_),fun a m=>?_⟩
  ·obtain ⟨a1,a2,a3,a4,a5⟩:=k.own a m
   exact ⟨a4,a1,a2,a5⟩
  ·rw [e]; simp at m ⊢; rcases m with m | m | m <;> simp [m]
 ·have e1:τ.set i (some d)=τ:=List.set_eq_of_length_le (by omega)
  have e2:σ.set i (some v)=σ:=List.set_eq_of_length_le (by rw [<- I.rep.length]; omega)
  rw [e1,e2]
  exact ⟨P,I,fun a m=>.inl m⟩
def setD (i:Nat) (τ:SD) (d:D):Fl:=if d.hasBor=true then .bad else .nx (τ.set i (some d))
def sSet (i:Nat) (f:SD->Res D) (τ:SD):Fl:=(f τ).toFl τ (setD i τ)
theorem s_set {i:Nat}{x:Str}{pos':Pos} (hN:X.N.Nodup) (hi:X.N[i]?=some x) (hx:Loc X.env.scope x) (he:PE X e (tM X.K Y fe)) (hs:swapsWith e (some (.Name x pos')) pos.line X.env=pure false:=by rfl) (hf:X.fn x=true ∨ X.env.scope.names.lookup x=some .local:=by first | exact .inl rfl | exact .inr rfl) :
  PS X (.Assign [.Name x pos'] e pos) (tMS X.K Y (sSet i fe)) :=
 PS.imp (ps_set hN hi hx he hs hf) fun E σ H hq=>ex7 hq fun H0 B0 B τ P I h=>exprS I h fun d v H1 B1 fp _ I1 _ _ r1 k1 h1=>by
  unfold setD at h1
  split at h1
  ·exact h1.elim
  ·rename_i hb
   obtain ⟨P',I',_⟩:=I1.set i (r1.noBor (by simpa using hb)) k1
   exact h1 B1 H1 _ P' ⟨I',Same.refl _,Imm.refl _⟩
def frzAt (js:List Nat) (τ:SD):SD:=js.foldl (fun t j=>match t[j]? with | some (some d)=>t.set j (some d.frz) | _=>t) τ
theorem SI.frz1 (j:Nat) {d:D} (I:SI K H0 B0 B H σ τ P No) (hd:τ[j]?=some (some d)):∃ B' P',Same B B'/\SI K H0 B0 B' H σ (τ.set j (some d.frz)) P' No:=by
 have hi:j < τ.length:=(List.getElem?_eq_some_iff.mp hd).1
 obtain ⟨A,f,C,e,h1,h2⟩:=I.rep.cut hi
 obtain ⟨v,e1,r1⟩:=h1 d hd
 have sB:Same B (atRest B H (· ∈ f)):=rest_same I.bh
 have nd0:=I.nd
 rw [e] at nd0
 have dis:∀ a ∈ A ++ C,a ∉ f:=fun a m z=>by
  rw [List.append_assoc,List.nodup_append] at nd0
  obtain ⟨n1,n2,n3⟩:=nd0
  rw [List.nodup_append] at n2
  rcases List.mem_append.mp m with q | q
  ·exact n3 a q a (by simp [z]) rfl
  ·exact n2.2.2 a z a q rfl
 have es:σ.set j (some v)=σ:=by
  refine List.ext_getElem? fun k=>?_
  by_cases hk:k=j
  ·subst hk
   rw [List.getElem?_set_self (List.getElem?_eq_some_iff.mp e1).1,e1]
  ·rw [List.getElem?_set_ne (Ne.symm hk)]
 have rr:=h2 (B' := atRest B H (· ∈ f)) (H' := H) (d' := d.frz) (v' := v) (f' := []) (fun d v g hr hg=>hr.mono (Same.refl _) sB fun _ x=>x) (r1.frz sB (fun a o s=>s.elim) fun a m o ho=>rest_in m ho)
 rw [es] at rr
 refine ⟨atRest B H (· ∈ f),A ++ [] ++ C,sB,rest_up I.bh,I.h0,I.b0.trans sB,fun a n=>?_,rr,?_,fun a m=>?_,fun a m=>m.elim⟩
 ·by_cases m:a ∈ f
  ·exact .inr (I.own a (by rw [e]; exact sublist_mid A f C a m)).2.1
  ·rw [rest_out m] at n; exact I.nb a n
 ·rw [List.append_nil]
  refine nd0.sublist ?_
  rw [List.append_assoc]
  exact List.Sublist.append (List.Sublist.refl _) (List.sublist_append_right _ _)
 ·rw [List.append_nil] at m
  obtain ⟨a1,a2,a3⟩:=I.own a (by rw [e]; rcases List.mem_append.mp m with q | q <;> simp [q])
  exact ⟨by rw [rest_out (dis a m)]; exact a1,a2,fun x=>x⟩
theorem SI.frzAt:∀ (js:List Nat) {B:Hp}{τ:SD}{P:List Addr},SI K H0 B0 B H σ τ P No->∃ B' P',Same B B'/\SI K H0 B0 B' H σ (DL.frzAt js τ) P' No
 | [],B,τ,P,I=>⟨B,P,Same.refl _,I⟩
 | j :: js,B,τ,P,I=>by
  unfold DL.frzAt
  rw [List.foldl_cons]
  cases e:τ[j]? with
  | none=>exact SI.frzAt js I
  | some o =>
   cases o with
   | none=>exact SI.frzAt js I
   | some d =>
    obtain ⟨B1,P1,s1,I1⟩:=I.frz1 j e
    obtain ⟨B2,P2,s2,I2⟩:=SI.frzAt js I1
    exact ⟨B2,P2,s1.trans s2,I2⟩
def sFrz (js:List Nat) (g:SF) (τ:SD):Fl:=g (frzAt js τ)
theorem s_frz (js:List Nat) (h:PS X st (tMS X.K Y g)):PS X st (tMS X.K Y (sFrz js g)):=PS.imp h fun E σ H hq=>ex7 hq fun H0 B0 B τ P I h=>by
 obtain ⟨B',P',s,I'⟩:=I.frzAt js
 exact ⟨H0,B0,B',_,P',I',GoalS.later h (Aft.grow I' s (Same.refl _))⟩
def ownL (τ:SD) (i:Nat):Option (List D):=match τ[i]? with | some (some (.lst .own xs))=>some xs | _=>none
theorem ownL_some {τ:SD}{i:Nat}{xs:List D} (h:ownL τ i=some xs):τ[i]?=some (some (.lst .own xs)):=by
 unfold ownL at h
 split at h
 ·rename_i e; cases h; exact e
 ·cases h
theorem SI.mutL {i:Nat}{xs xs':List D}{gp:List Addr}{a:Addr}{vs vs':List V} (I:SI K H0 B0 B H σ τ P No) (hi:τ[i]?=some (some (.lst .own xs))) (ev:σ[i]?=some (some (.ref a)))
  (k:Vok H0 B H P No gp)
  (items:∀ f,H a=some (.lst vs)->RepL K B No H xs vs f->∃ f',RepL K B No H xs' vs' f'/\(∀ b ∈ f',b ∈ f ∨ b ∈ gp)/\(f.Nodup->(∀ b ∈ gp,b ∉ f)->f'.Nodup)) (hv:H a=some (.lst vs)) :
  ∃ P',Aft K H0 B0 B H B (upd H a (.lst vs')) σ (τ.set i (some (.lst .own xs'))) P' := by
 have hi':i < τ.length:=(List.getElem?_eq_some_iff.mp hi).1
 obtain ⟨A,f,C,e,h1,h2⟩:=I.rep.cut hi'
 obtain ⟨v,e1,r1⟩:=h1 _ hi
 rw [ev] at e1
 cases e1
 obtain ⟨a',ws,g,ea,hq,rl,ef⟩:=r1
 cases ea
 rw [hv] at hq
 cases hq
 subst ef
 have nd0:=I.nd
 rw [e] at nd0
 have ndf:(a :: g).Nodup:=(nd0.sublist (List.sublist_append_left _ _)).sublist (List.sublist_append_right _ _)
 have gdis:∀ b ∈ gp,b ∉ a :: g:=fun b m z=>(k.own b m).2.2.2.1 (by rw [e]; exact sublist_mid _ _ _ b z)
 obtain ⟨f',r',s',n'⟩:=items g hv rl
 obtain ⟨na,ng⟩:=List.nodup_cons.mp ndf
 have hna:a ∉ f' := fun m=>(s' a m).elim na fun z=>gdis a z List.mem_cons_self
 have es:σ.set i (some (.ref a))=σ:=by
  refine List.ext_getElem? fun k=>?_
  by_cases hk:k=i
  ·subst hk
   rw [List.getElem?_set_self (List.getElem?_eq_some_iff.mp ev).1,ev]
  ·rw [List.getElem?_set_ne (Ne.symm hk)]
 have kp:Keep H (upd H a (.lst vs')) [a]:=⟨fun b o h n=>by rw [upd_ne (by simpa using n)]; exact h,fun b m=>by
  have:b=a:=by simpa using m
  subst this
  exact ⟨_,hv,trivial⟩⟩
 have kpf:Keep H (upd H a (.lst vs')) (a :: g):=⟨fun b o h n=>kp.keep b o h (fun z=>n (List.mem_cons.mpr (.inl (List.mem_singleton.mp z)))),fun b m=>I.rep.own b (by rw [e]; exact sublist_mid _ _ _ b m)⟩
 have key:=I.put (i:=i) (H1:=upd H a (.lst vs')) (d' := .lst .own xs') (v' := .ref a) (f' := a :: f') hi' e h2 kpf ⟨a,vs',f',rfl,upd_same,r'.keep kp fun b m=>by
   have:b ≠ a:=fun z=>hna (z ▸ m)
   simpa using this,rfl⟩ (List.nodup_cons.mpr ⟨hna,n' ng fun b m z=>gdis b m (List.mem_cons_of_mem _ z)⟩) fun b m=>?_
 ·rw [es] at key
  exact ⟨_,key,Same.refl _,fun b o h n=>kp.imm h n⟩
 ·rcases List.mem_cons.mp m with q | q
  ·exact .inl (by simp [q])
  ·rcases s' b q with z | z
   ·exact .inl (List.mem_cons_of_mem _ z)
   ·obtain ⟨a1,a2,a3,a4,a5⟩:=k.own b z
    exact .inr (.inr ⟨a4,a1,a2,a5⟩)
end
section
variable {K:PySem.W.Frag}{Y:XY}{H0 B0 B H:Hp}{σ:L2.St}{τ:SD}{P:List Addr}{F:Addr->Prop}{E:Ends}{X:Cx}{pos:Pos}{e c:Expr}{fe:SD->Res D}{gc:SD->Res Bool}
theorem SI.listAt {i:Nat}{xs:List D} (I:SI K H0 B0 B H σ τ P F) (h:τ[i]?=some (some (.lst .own xs))):∃ a vs,σ[i]?=some (some (.ref a))/\H a=some (.lst vs)/\xs.length=vs.length:=by
 obtain ⟨v,f,h1,h2,h3⟩:=I.rep.get h
 obtain ⟨a,vs,g,rfl,q,r,z⟩:=h2
 exact ⟨a,vs,h1,q,r.length⟩
def sApp (i:Nat) (f:SD->Res D) (τ:SD):Fl:=match ownL τ i with
 | some xs=>(f τ).toFl τ fun d=>if d.hasBor=true then .bad else if xs.length < 16777216 then .nx (τ.set i (some (.lst .own (xs ++ [d])))) else .bad
 | none=>.bad
theorem s_app (i:Nat) {x:Str}{p1 apos cpos:Pos} (he:PE X e (tM X.K Y fe)) (hN:X.N[i]?=some x:=by rfl) (hv:Vis X.env.scope x:=by first | exact Or.inl rfl | exact Or.inr (Or.inl rfl) | exact Or.inr (Or.inr rfl)) (hd:(x == ("__debug__" : Str))=false:=by decide) (hcd:(x == ("__classdict__" : Str))=false:=by decide)
  (hbase:attributeBase (.Name x p1) "append" X.env (eval (.Name x p1) X.env)=eval (.Name x p1) X.env:=by rfl)
  (hfew:((backTo cpos (starEach [e] X.env)).all (fun x=>!x.1) && (backToKw cpos (keywordEach [] X.env)).all (fun x=>x.1.isSome)
   && decide ([e].length + ([]:List Keyword).length + (if ([]:List Keyword).isEmpty then 0 else 1) < 30))=true:=by rfl)
  (hline:(apos.endLine == cpos.line)=true:=by rfl) (hs:starEach [e] X.env=(false,eval e X.env) :: starEach [] X.env:=by rfl) (hplain:(backTo cpos (starEach [] X.env)).any (·.1)=false:=by rfl)
  (hsw:swapsWith (.Call (.Attribute (.Name x p1) "append" apos) [e] [] cpos) none pos.line X.env=pure false:=by rfl) :
  PS X (.Expr (.Call (.Attribute (.Name x p1) "append" apos) [e] [] cpos) pos) (tMS X.K Y (sApp i fe)):=by
 refine PS.imp (ps_expr (pe_bm PySem.F.plainAttrs_list PySem.F.slot_list_append PySem.F.type_list_append mt_append (pe_var hN hv hd hcd) (pa_cons he pa_nil hs) hbase hfew hline hs hplain) hsw) fun E σ H hq=>ex7 hq fun H0 B0 B τ P I h=>?_
 unfold sApp at h
 cases z:ownL τ i with
 | none=>rw [z] at h; exact h.elim
 | some xs =>
  rw [z] at h
  have hi:=ownL_some z
  obtain ⟨a,vs,ea,ha,hl⟩:=I.listAt hi
  refine ⟨.ref a,ea,.inl ⟨rfl,vs,SqL.of ha⟩,exprS I h fun d v H1 B1 fp _ I1 s1 b1 r1 k1 h1=>?_⟩
  split at h1
  ·exact h1.elim
  ·rename_i hb
   split at h1
   ·rename_i hz
    have ha1:=s1 a _ ha
    refine ⟨a,vs,v,rfl,rfl,ha1,by rw [<- hl,sizeLine_eq]; exact hz,?_⟩
    obtain ⟨P',I'⟩:=I1.mutL (xs' := xs ++ [d]) (vs' := vs ++ [v]) hi ea k1 (fun f _ rl=>⟨f ++ fp,rl.append (RepL.one (r1.noBor (by simpa using hb))),fun b m=>List.mem_append.mp m,fun nf dis=>List.nodup_append.mpr ⟨nf,k1.nd,fun a ha b hb e=>dis b hb (e ▸ ha)⟩⟩) ha1
    exact h1 B1 _ σ P' I'
   ·exact h1.elim
def sRev (i:Nat) (τ:SD):Fl:=match ownL τ i with | some xs=>.nx (τ.set i (some (.lst .own xs.reverse))) | none=>.bad
theorem RepL.reverse {S:Addr->Prop}:∀ {xs:List D}{vs:List V}{f:List Addr},RepL K B S H xs vs f->∃ g,RepL K B S H xs.reverse vs.reverse g/\f.Perm g
 | [],vs,f,r=>by obtain ⟨rfl,rfl⟩:=r; exact ⟨[],⟨rfl,rfl⟩,List.Perm.refl _⟩
 | d :: ds,vs,f,r=>by
  obtain ⟨v,w,f1,f2,rfl,r1,r2,rfl⟩:=r
  obtain ⟨g,h1,h2⟩:=RepL.reverse r2
  refine ⟨g ++ f1,?_,List.perm_append_comm.trans (h2.append_right f1)⟩
  rw [List.reverse_cons,List.reverse_cons]
  exact h1.append (RepL.one r1)
theorem s_rev (i:Nat) {x:Str}{p1 apos cpos:Pos} (hN:X.N[i]?=some x:=by rfl) (hv:Vis X.env.scope x:=by first | exact Or.inl rfl | exact Or.inr (Or.inl rfl) | exact Or.inr (Or.inr rfl)) (hd:(x == ("__debug__" : Str))=false:=by decide) (hcd:(x == ("__classdict__" : Str))=false:=by decide)
  (hbase:attributeBase (.Name x p1) "reverse" X.env (eval (.Name x p1) X.env)=eval (.Name x p1) X.env:=by rfl) (hline:(apos.endLine == cpos.line)=true:=by rfl)
  (hsw:swapsWith (.Call (.Attribute (.Name x p1) "reverse" apos) [] [] cpos) none pos.line X.env=pure false:=by rfl) :
  PS X (.Expr (.Call (.Attribute (.Name x p1) "reverse" apos) [] [] cpos) pos) (tMS X.K Y (sRev i)):=by
 refine PS.imp (ps_expr (pe_bm0 PySem.F.plainAttrs_list PySem.F.slot_list_reverse PySem.F.type_list_reverse mt_reverse (pe_var hN hv hd hcd) hbase hline) hsw) fun E σ H hq=>ex7 hq fun H0 B0 B τ P I h=>?_
 unfold sRev at h
 cases z:ownL τ i with
 | none=>rw [z] at h; exact h.elim
 | some xs =>
  rw [z] at h
  have hi:=ownL_some z
  obtain ⟨a,vs,ea,ha,hl⟩:=I.listAt hi
  refine ⟨.ref a,ea,.inl ⟨rfl,vs,SqL.of ha⟩,a,vs,rfl,rfl,ha,?_⟩
  obtain ⟨P',I'⟩:=I.mutL (xs' := xs.reverse) (vs' := vs.reverse) (gp := []) hi ea Vok.nil (fun f _ rl=>let ⟨g,h1,h2⟩:=rl.reverse; ⟨g,h1,fun b m=>.inl (h2.mem_iff.mpr m),fun nf _=>h2.nodup_iff.mp nf⟩) ha
  exact h B _ σ P' I'
structure ItD (K:PySem.W.Frag) (J:It) (ds:List D) (B H:Hp):Prop where
 go:∀ B' H' i d,Same B B'->Same B' H'->Imm H H'->ds[i]?=some d->J.go i H'
 yld:∀ B' H' i d x H'',Same B B'->Same B' H'->Imm H H'->ds[i]?=some d->J.yld i H' x H''->Same H' H''/\Rep K B' No H'' d x []
 stop:∀ B' H',Same B B'->Same B' H'->Imm H H'->J.stop ds.length H'
def ItAll (K:PySem.W.Frag) (J:It) (ds:List D) (fl:Bool) (B H:Hp) (P fp:List Addr):Prop :=
 ∀ Bx:Hp,Same B Bx->Same Bx H->(∀ a ∈ fp,∀ o,H a=some o->Bx a=some o)->(fl=true->∀ a ∈ P,∀ o,H a=some o->Bx a=some o)->ItD K J (frzL ds) Bx H
def tMI (K:PySem.W.Frag) (Y:XY) (f:SD->Res (Bool × List D)):TI:=fun σ H R=>∃ H0 B0 B τ P F,SI K H0 B0 B H σ τ P F/\match f τ with
 | .ok (fl,ds)=>∀ J H' B' fp,SI K H0 B0 B' H' σ τ P F->Same H H'->Same B B'->Vok H0 B' H' P F fp->ItAll K J ds fl B' H' P fp->R J H'
 | .exn C=>OutX K Y H0 B0 B H σ τ P F C
 | .bad=>False
theorem PI.imp {tg it:Expr}{t t':TI} (h:PI X tg it t) (hi:∀ σ H R,t' σ H R->t σ H R):PI X tg it t' := fun pins s σ H R I hw=>h pins s σ H R I (hi σ H R hw)
def itemsD:D->Res (Bool × List D)
 | .lst t xs=>.ok ((D.lst t xs).hasBor,xs)
 | .tup xs=>.ok ((D.tup xs).hasBor,xs)
 | _=>.bad
def eIt (f:SD->Res D) (τ:SD):Res (Bool × List D):=(f τ).bind itemsD
theorem pi_seq {tg l:Expr}{tl:TE} (hl:PE X l tl):PI X tg l (fun σ H R=>tl σ H fun x H1=>(∃ a,x=.ref a/\(∃ xs,SqL X.K H1 a xs)/\R (Itl X.K a) H1) ∨ ∃ a,x=.ref a/\(∃ xs,SqT X.K H1 a xs)/\R (Itt X.K a) H1):=by
 intro pins s σ H R I h
 refine thn (hl pins s σ H _ I h) fun v s1 hq5=>L2.ex5 hq5 fun x H1 I1 r1 q1=>?_
 rcases q1 with ⟨a,e,⟨xs,hq⟩,q⟩ | ⟨a,e,⟨xs,hq⟩,q⟩
 ·subst e
  cases r1
  obtain ⟨its,rv,p,hz⟩:=I1.list hq
  refine wpAny_pyIter_list p.isList ?_
  refine ⟨s1.heap.objs.size,[s1.heap.objs.size],_,_,H1,rfl,I1.kept (t' := s1.toks) fun b o e=>Heap.get?_push_of_some _ e,turn_list a _,⟨_,Heap.get?_push_size _ rfl,rfl,rfl⟩,fun b hb=>?_,q⟩
  have e:b=s1.heap.objs.size:=by simpa using hb
  subst e
  exact I1.fpOk (Nat.le_refl _) (I1.hok.fresh (Nat.le_refl _))
 ·subst e
  cases r1
  obtain ⟨its,rv,p,hz⟩:=I1.tuple hq
  refine wpAny_pyIter_tuple (show s1.heap.IsTuple a its.toArray from p) ?_
  refine ⟨s1.heap.objs.size,[s1.heap.objs.size],_,_,H1,rfl,I1.kept (t' := s1.toks) fun b o e=>Heap.get?_push_of_some _ e,turn_tuple a _,⟨_,Heap.get?_push_size _ rfl,rfl,rfl⟩,fun b hb=>?_,q⟩
  have e:b=s1.heap.objs.size:=by simpa using hb
  subst e
  exact I1.fpOk (Nat.le_refl _) (I1.hok.fresh (Nat.le_refl _))
theorem SI.restV {fp:List Addr} (I:SI K H0 B0 B H σ τ P F) (k:Vok H0 B H P F fp):SI K H0 B0 (atRest B H (· ∈ fp)) H σ τ P F/\Same B (atRest B H (· ∈ fp)):=by
 have sB:Same B (atRest B H (· ∈ fp)):=rest_same I.bh
 refine ⟨⟨rest_up I.bh,I.h0,I.b0.trans sB,fun a n=>?_,I.rep.mono (Same.refl _) sB,I.nd,fun a m=>?_,fun a m=>?_⟩,sB⟩
 ·by_cases m:a ∈ fp
  ·exact .inr (k.own a m).2.1
  ·rw [rest_out m] at n; exact I.nb a n
 ·obtain ⟨a1,a2,a3⟩:=I.own a m
  exact ⟨by rw [rest_out fun z=>(k.own a z).2.2.2.1 m]; exact a1,a2,a3⟩
 ·obtain ⟨a1,a2⟩:=I.fr a m
  exact ⟨by rw [rest_out fun z=>(k.own a z).2.2.2.2 m]; exact a1,a2⟩
mutual
theorem Rep.stay {B B' H H':Hp} (sB:Same B B') (im:Imm H H'):∀ {d:D}{v:V}{fp:List Addr},fp=[]->Rep K B No H d v fp->Rep K B' No H' d v fp
 | .non,_,_,_,h=>h
 | .bl _,_,_,_,h=>h
 | .int _,_,_,_,h=>h
 | .str _,_,_,_,h=>h
 | .exc _,_,_,_,h=>let ⟨⟨a,e,t,tb,u,h1⟩,r⟩:=h; ⟨⟨a,e,t,tb,u,im _ _ h1 (fun x=>x)⟩,r⟩
 | .tup xs,v,fp,ef,h=>by
  obtain ⟨a,vs,e,q,r⟩:=h
  exact ⟨a,vs,e,im _ _ q (fun x=>x),RepL.stay sB im ef r⟩
 | .lst .own xs,v,fp,ef,h=>by obtain ⟨a,vs,f,e,q,r,z⟩:=h; rw [ef] at z; cases z
 | .lst .bor xs,v,fp,ef,h=>let ⟨a,vs,e,q,r,z⟩:=h; ⟨a,vs,e,.inr (rd_mono sB (q.resolve_left fun y=>y.1)),RepL.stay sB im rfl r,z⟩
 | .lst .frz xs,v,fp,ef,h=>let ⟨a,vs,e,q,r,z⟩:=h; ⟨a,vs,e,rd_mono sB q,RepL.stay sB im rfl r,z⟩
 | .lst (.len _) _,_,_,_,h=>h.elim
 | .dct (.len a) kd ks xs,v,fp,ef,h=>by obtain ⟨vs,f,e,q,r,z⟩:=h; rw [ef] at z; cases z
 | .dct .own kd ks xs,v,fp,ef,h=>by obtain ⟨a,vs,f,e,q,r,z⟩:=h; rw [ef] at z; cases z
 | .dct .bor kd ks xs,v,fp,ef,h=>let ⟨a,vs,e,q,r,z⟩:=h; ⟨a,vs,e,.inr ((q.resolve_left fun y=>y.1).mono sB),RepL.stay sB im rfl r,z⟩
 | .dct .frz kd ks xs,v,fp,ef,h=>let ⟨a,vs,e,q,r,z⟩:=h; ⟨a,vs,e,q.mono sB,RepL.stay sB im rfl r,z⟩
theorem RepL.stay {B B' H H':Hp} (sB:Same B B') (im:Imm H H'):∀ {ds:List D}{vs:List V}{fp:List Addr},fp=[]->RepL K B No H ds vs fp->RepL K B' No H' ds vs fp
 | [],_,_,_,h=>h
 | d :: ds,vs,fp,ef,h=>by
  obtain ⟨v,r,f,g,e,h1,h2,z⟩:=h
  rw [ef] at z
  obtain ⟨z1,z2⟩:=nil_of_append z
  exact ⟨v,r,f,g,e,Rep.stay sB im z1 h1,RepL.stay sB im z2 h2,by rw [ef,z1,z2]; rfl⟩
end
theorem sub_nil {f:List Addr} (h:List.Sublist f []):f=[]:=List.sublist_nil.mp h
theorem itd_list {a:Addr}{ds:List D}{vs:List V} (q:SqL K B a vs) (r:RepL K B No H ds vs []):ItD K (Itl K a) ds B H where
 go:=fun B' H' i d s1 s2 im e=>by
  obtain ⟨v,f,h1,_⟩:=r.get e
  exact ⟨vs,v,sqL_of (rd_mono (s1.trans s2) q),h1⟩
 yld:=fun B' H' i d x H'' s1 s2 im e y=>by
  obtain ⟨rfl,y⟩:=y
  obtain ⟨v,f,h1,h2,h3⟩:=r.get e
  have z:=y vs (sqL_of (rd_mono (s1.trans s2) q))
  rw [h1] at z
  cases z
  cases sub_nil h3
  exact ⟨Same.refl _,h2.stay s1 im rfl⟩
 stop:=fun B' H' s1 s2 im=>⟨vs,sqL_of (rd_mono (s1.trans s2) q),by rw [r.length]; exact Nat.le_refl _⟩
theorem sqT_imm {a:Addr}{vs:List V}{H':Hp} (im:Imm H H') (q:SqT K H a vs):SqT K H' a vs:=by
 rcases q with (q | ⟨o,q⟩) | q
 ·exact .inl (.inl (im _ _ q (fun x=>x)))
 ·exact .inl (.inr ⟨o,im _ _ q (fun x=>x)⟩)
 ·exact .inr q
theorem itd_tup {a:Addr}{ds:List D}{vs:List V} (q:SqT K H a vs) (r:RepL K B No H ds vs []):ItD K (Itt K a) ds B H where
 go:=fun B' H' i d s1 s2 im e=>by
  obtain ⟨v,f,h1,_⟩:=r.get e
  exact ⟨vs,v,sqT_imm im q,h1⟩
 yld:=fun B' H' i d x H'' s1 s2 im e y=>by
  obtain ⟨rfl,y⟩:=y
  obtain ⟨v,f,h1,h2,h3⟩:=r.get e
  have z:=y vs (sqT_imm im q)
  rw [h1] at z
  cases z
  cases sub_nil h3
  exact ⟨Same.refl _,h2.stay s1 im rfl⟩
 stop:=fun B' H' s1 s2 im=>⟨vs,sqT_imm im q,by rw [r.length]; exact Nat.le_refl _⟩
theorem itd_range {lo:Int}{n:Nat}:ItD K (Itr lo n) ((List.range n).map fun k:Nat=>D.int (lo + k)) B H where
 go:=fun B' H' i d s1 s2 im e=>by
  have:=(List.getElem?_eq_some_iff.mp e).1
  show i < n
  simpa using this
 yld:=fun B' H' i d x H'' s1 s2 im e y=>by
  obtain ⟨rfl,rfl⟩:=y
  have hi:=(List.getElem?_eq_some_iff.mp e).1
  rw [List.length_map,List.length_range] at hi
  rw [List.getElem?_map,List.getElem?_range hi] at e
  cases e
  exact ⟨Same.refl _,rfl,rfl⟩
 stop:=fun B' H' s1 s2 im=>by
  show n <= _
  rw [List.length_map,List.length_range]
  exact Nat.le_refl _
theorem frz_for {Bx:Hp}{fp:List Addr}{d:D}{v:V} (r:Rep K B (· ∈ P) H d v fp) (sB:Same B Bx) (h1:∀ a ∈ fp,∀ o,H a=some o->Bx a=some o) (h2:d.hasBor=true->∀ a ∈ P,∀ o,H a=some o->Bx a=some o):Rep K Bx No H d.frz v []:=by
 by_cases hb:d.hasBor=true
 ·exact r.frz sB (fun a o s h=>h2 hb a s o h) h1
 ·exact (r.noBor (by simpa using hb)).frz sB (fun a o s=>s.elim) h1
theorem qi_seq {tg:Expr} (he:PE X e (tM X.K Y fe)):PI X tg e (tMI X.K Y (eIt fe)):=by
 refine PI.imp (pi_seq he) fun σ H R hq=>ex8 hq fun H0 B0 B τ P F I h=>⟨H0,B0,B,τ,P,F,I,?_⟩
 cases z:fe τ with
 | exn C=>simp only [eIt,z,Res.bind_exn] at h; exact h
 | bad=>simp only [eIt,z,Res.bind_bad] at h
 | ok d =>
  simp only [eIt,z,Res.bind_ok] at h
  intro v H1 B1 fp I1 s1 b1 r1 k1
  cases d with
  | lst t xs =>
   simp only [itemsD] at h
   obtain ⟨a,vs,g,rfl,q,_⟩:=r1.lst I1
   refine .inl ⟨a,rfl,⟨vs,sqL_of q⟩,h _ H1 _ fp I1 s1 b1 k1 fun Bx sB sH h1 h2=>?_⟩
   obtain ⟨a',ws,ea,q',rl,_⟩:Rep X.K Bx No H1 (D.lst .frz (frzL xs)) (.ref a) []:=frz_for r1 sB h1 h2
   cases ea
   exact itd_list q' rl
  | tup xs =>
   simp only [itemsD] at h
   obtain ⟨a,vs,rfl,q,_⟩:=r1.tp
   refine .inr ⟨a,rfl,⟨vs,q⟩,h _ H1 _ fp I1 s1 b1 k1 fun Bx sB sH h1 h2=>?_⟩
   obtain ⟨a',ws,ea,q',rl⟩:Rep X.K Bx No H1 (D.tup (frzL xs)) (.ref a) []:=frz_for r1 sB h1 h2
   cases ea
   exact itd_tup (SqT.of q') rl
  | _=>exact h.elim
theorem frzL_ints (f:Nat->Int) (l:List Nat):frzL (l.map fun k=>D.int (f k))=l.map fun k=>D.int (f k):=by
 induction l with
 | nil=>rfl
 | cons a r ih=>rw [List.map_cons,frzL,ih]; rfl
def range1D:List D->Res (Bool × List D)
 | [.int j]=>if -1000000000 <= j/\j <= 1000000000 then .ok (false,(List.range j.toNat).map fun k:Nat=>.int (0 + k)) else .bad
 | _=>.bad
def eRng1 (f:SD->Res (List D)) (τ:SD):Res (Bool × List D):=(f τ).bind range1D
theorem rng1_imp {fs:SD->Res (List D)}{R:It->Hp->Prop}:tMI X.K Y (eRng1 fs) σ H R->iRng1 (tML X.K Y fs) σ H R:=by
 rintro ⟨H0,B0,B,τ,P,F,I,h⟩
 refine ⟨H0,B0,B,τ,P,F,I,?_⟩
 cases z:fs τ with
 | exn C=>simp only [eRng1,z,Res.bind_exn] at h; exact h
 | bad=>simp only [eRng1,z,Res.bind_bad] at h
 | ok ds =>
  simp only [eRng1,z,Res.bind_ok] at h
  intro vs H1 B1 fp I1 s1 b1 r1 k1
  cases y:range1D ds with
  | exn C=>exfalso; unfold range1D at y; split at y <;> first | (split at y <;> cases y) | cases y
  | bad=>rw [y] at h; exact h.elim
  | ok es =>
   rw [y] at h
   unfold range1D at y
   split at y
   ·split at y
    ·rename_i hc
     cases y
     obtain ⟨v,rfl,rfl,rfl⟩:=repL1 r1
     exact ⟨_,rfl,(by omega),(by omega),h _ H1 B1 [] I1 s1 b1 Vok.nil fun Bx _ _ _ _=>by rw [frzL_ints]; exact itd_range⟩
    ·cases y
   ·cases y
theorem qi_range1 {tg a:Expr}{fs:SD->Res (List D)}{p:Pos} (hg:Gl X "range") (hm:X.mg "range" = none) (ha:PA X [a] (tML X.K Y fs)) (hs:starEach [a] X.env=[(false,eval a X.env)]:=by rfl):PI X tg (.Call (.Name "range" p) [a] [] pos) (tMI X.K Y (eRng1 fs)) :=
 PI.imp (pi_range1 hg hm ha hs) fun σ H R h=>rng1_imp h
def enumD (xs:List D):List D:=xs.mapIdx fun i d=>.tup [.int i,d]
def eEnum (f:SD->Res (List D)) (τ:SD):Res (Bool × List D):=(f τ).bind fun ds=>match ds with | [d]=>(itemsD d).map fun p=>(p.1,enumD p.2) | _=>.bad
theorem frzL_mapIdx (xs:List D):∀ (f:Nat->Nat),frzL (xs.mapIdx fun i d=>D.tup [.int (f i),d])=(frzL xs).mapIdx fun i d=>D.tup [.int (f i),d]:=by
 induction xs with
 | nil=>intro f; rfl
 | cons a r ih =>
  intro f
  rw [List.mapIdx_cons,frzL,frzL,List.mapIdx_cons]
  exact congrArg _ (ih fun i=>f (i + 1))
theorem frzL_enum (xs:List D):frzL (enumD xs)=enumD (frzL xs):=frzL_mapIdx xs id
theorem itd_enum {src:Hp->List V->Prop}{ds:List D}{vs:List V} (r:RepL K B No H ds vs []) (q:∀ B' H':Hp,Same B B'->Same B' H'->Imm H H'->src H' vs):ItD K (Ite src) (enumD ds) B H where
 go:=fun B' H' i d s1 s2 im e=>by
  have hi:=(List.getElem?_eq_some_iff.mp e).1
  unfold enumD at hi
  rw [List.length_mapIdx,r.length] at hi
  exact ⟨vs,vs[i],q B' H' s1 s2 im,List.getElem?_eq_getElem hi⟩
 yld:=fun B' H' i d x H'' s1 s2 im e y=>by
  obtain ⟨p,w,rfl,hp,rfl,hy⟩:=y
  have hi:=(List.getElem?_eq_some_iff.mp e).1
  unfold enumD at hi e
  rw [List.length_mapIdx] at hi
  rw [List.getElem?_mapIdx,List.getElem?_eq_getElem hi] at e
  cases e
  have z:=hy vs (q B' H' s1 s2 im)
  obtain ⟨v,f,h1,h2,h3⟩:=r.get (List.getElem?_eq_getElem hi)
  rw [z] at h1
  cases h1
  cases sub_nil h3
  have s:=sameUpd' (o := .tup [.int i,w]) hp
  exact ⟨s,p,[.int i,w],rfl,upd_same,.int i,[w],[],[],rfl,⟨rfl,rfl⟩,RepL.one ((h2.stay s1 im rfl).mono s (Same.refl _) (fun _ x=>x)),rfl⟩
 stop:=fun B' H' s1 s2 im=>⟨vs,q B' H' s1 s2 im,by unfold enumD; rw [List.length_mapIdx,r.length]; exact Nat.le_refl _⟩
theorem pi_enumS {elts:List Expr}{x1:Nat}{tp p:Pos}{l:Expr}{ta:TA} (hg:Gl X "enumerate") (hm:X.mg "enumerate" = none) (ha:PA X [l] ta) (hs:starEach [l] X.env=[(false,eval l X.env)]:=by rfl) :
  PI X (.Tuple elts x1 tp) (.Call (.Name "enumerate" p) [l] [] pos) (fun σ H R=>ta σ H fun vs H1=>(∃ a xs,vs=[.ref a]/\SqL X.K H1 a xs/\R (Ite fun H xs=>SqL X.K H a xs) H1) ∨ ∃ a xs,vs=[.ref a]/\SqT X.K H1 a xs/\R (Ite fun H xs=>SqT X.K H a xs) H1):=by
 intro pins s σ H R I h
 refine wpAny_Call_Name_kw (ld_blt I hg hm (by decide +kernel:bootBuiltins "enumerate" = some (.type "enumerate")) ?_)
 refine PyProof.Rows.callWith_type1 (thn (ha pos pins s σ H _ I h) fun us s1 hq5=>L2.ex5 hq5 fun vs H1 I1 r1 q1=>?_) hs rfl
 rcases q1 with ⟨a,xs,rfl,hq,q⟩ | ⟨a,xs,rfl,hq,q⟩
 ·obtain ⟨u,rfl,ru⟩:=vals1 r1
  cases ru
  obtain ⟨its,rv,pl,hz⟩:=I1.list hq
  refine call_enumerate_list pl.isList fun h' e1 e2 e3 e4=>wpAny_pyIter_enum e1 ?_
  have I2:Inv X pins σ H1 { s1 with heap:=h' }:=I1.kept (t' := s1.toks) e4
  obtain ⟨o,c1,c2,c3⟩:=e2
  refine ⟨_,_,_,_,H1,rfl,I2,turn_enum (src_list a s1.heap.objs.size) (Nat.succ_ne_self _),⟨⟨_,e1⟩,o,c1,c2,c3⟩,fun b hb=>?_,q⟩
  rcases List.mem_cons.mp hb with z | z
  ·subst z
   exact I1.fpOk (Nat.le_succ _) (I1.hok.fresh (Nat.le_succ _))
  ·have z:b=s1.heap.objs.size:=by simpa using z
   subst z
   exact I1.fpOk (Nat.le_refl _) (I1.hok.fresh (Nat.le_refl _))
 ·obtain ⟨u,rfl,ru⟩:=vals1 r1
  cases ru
  obtain ⟨its,rv,pl,hz⟩:=I1.tuple hq
  refine call_enum_tup (isTuple_of pl) fun h' e1 e2 e4=>wpAny_pyIter_enum e1 ?_
  have I2:Inv X pins σ H1 { s1 with heap:=h' }:=I1.kept (t' := s1.toks) e4
  obtain ⟨o,c1,c2,c3⟩:=e2
  refine ⟨_,_,_,_,H1,rfl,I2,turn_enum (src_tup a s1.heap.objs.size) (Nat.succ_ne_self _),⟨⟨_,e1⟩,o,c1,c2,c3⟩,fun b hb=>?_,q⟩
  rcases List.mem_cons.mp hb with z | z
  ·subst z
   exact I1.fpOk (Nat.le_succ _) (I1.hok.fresh (Nat.le_succ _))
  ·have z:b=s1.heap.objs.size:=by simpa using z
   subst z
   exact I1.fpOk (Nat.le_refl _) (I1.hok.fresh (Nat.le_refl _))
theorem qi_enum {elts:List Expr}{x1:Nat}{tp p:Pos}{l:Expr}{fs:SD->Res (List D)} (hg:Gl X "enumerate") (hm:X.mg "enumerate" = none) (ha:PA X [l] (tML X.K Y fs)) (hs:starEach [l] X.env=[(false,eval l X.env)]:=by rfl) :
  PI X (.Tuple elts x1 tp) (.Call (.Name "enumerate" p) [l] [] pos) (tMI X.K Y (eEnum fs)):=by
 refine PI.imp (pi_enumS hg hm ha hs) fun σ H R hq=>ex8 hq fun H0 B0 B τ P F I h=>⟨H0,B0,B,τ,P,F,I,?_⟩
 cases z:fs τ with
 | exn C=>simp only [eEnum,z,Res.bind_exn] at h; exact h
 | bad=>simp only [eEnum,z,Res.bind_bad] at h
 | ok ds =>
  simp only [eEnum,z,Res.bind_ok] at h
  intro vs H1 B1 fp I1 s1 b1 r1 k1
  match ds,r1,h with
  | [d],r1,h =>
   obtain ⟨v,rfl,r1'⟩:=repL1 r1
   simp only at h
   cases d with
   | lst t xs =>
    simp only [itemsD,Res.map_ok] at h
    obtain ⟨a,vs,g,rfl,q,_⟩:=r1'.lst I1
    refine .inl ⟨a,vs,rfl,sqL_of q,h _ H1 _ fp I1 s1 b1 k1 fun Bx sB sH h1 h2=>?_⟩
    obtain ⟨a',ws,ea,q',rl,_⟩:Rep X.K Bx No H1 (D.lst .frz (frzL xs)) (.ref a) []:=frz_for r1' sB h1 h2
    cases ea
    rw [frzL_enum]
    exact itd_enum rl fun B' H' z1 z2 _=>sqL_of (rd_mono (z1.trans z2) q')
   | tup xs =>
    simp only [itemsD,Res.map_ok] at h
    obtain ⟨a,vs,rfl,q,_⟩:=r1'.tp
    refine .inr ⟨a,vs,rfl,q,h _ H1 _ fp I1 s1 b1 k1 fun Bx sB sH h1 h2=>?_⟩
    obtain ⟨a',ws,ea,q',rl⟩:Rep X.K Bx No H1 (D.tup (frzL xs)) (.ref a) []:=frz_for r1' sB h1 h2
    cases ea
    rw [frzL_enum]
    exact itd_enum rl fun B' H' z1 z2 im=>sqT_imm im (SqT.of q')
   | _=>exact h.elim
  | [],r1,h=>exact h.elim
  | _ :: _ :: _,r1,h=>exact h.elim
abbrev TGD:=D->SD->Option SD
def tMG (K:PySem.W.Frag) (g:TGD):TG:=fun v σ H Q=>∃ H0 B0 B τ P F d fp,SI K H0 B0 B H σ τ P F/\Rep K B No H d v fp/\Vok H0 B H P F fp/\match g d τ with
 | some τ'=>∀ H' σ' P',SI K H0 B0 B H' σ' τ' P' F->H'=H->Q σ' H'
 | none=>False
def gN (i:Nat) (d:D) (τ:SD):Option SD:=some (τ.set i (some d))
theorem PG.imp {tg:Expr}{t t':TG} (h:PG X tg t) (hi:∀ v σ H Q,t' v σ H Q->t v σ H Q):PG X tg t' := fun pins s σ H v u Q I r hw=>h pins s σ H v u Q I r (hi v σ H Q hw)
theorem g_name {i:Nat}{x:Str} (hN:X.N.Nodup) (hi:X.N[i]?=some x) (hx:Loc X.env.scope x) (hf:X.fn x=true ∨ X.env.scope.names.lookup x=some .local:=by first | exact .inl rfl | exact .inr rfl):PG X (.Name x pos) (tMG X.K (gN i)) :=
 PG.imp (pg_name hN hi hx hf) fun v σ H Q hq=>ex12 hq fun H0 B0 B τ P F d fp I r k h=>by
  obtain ⟨P',I',_⟩:=I.set i r k
  exact h H _ P' I' rfl
abbrev TGDs:=List D->SD->Option SD
def tMGs (K:PySem.W.Frag) (g:TGDs):TGs:=fun vs σ H Q=>∃ H0 B0 B τ P F ds fp,SI K H0 B0 B H σ τ P F/\RepL K B No H ds vs fp/\Vok H0 B H P F fp/\match g ds τ with
 | some τ'=>∀ H' σ' P',SI K H0 B0 B H' σ' τ' P' F->H'=H->Q σ' H'
 | none=>False
def gsNil (ds:List D) (τ:SD):Option SD:=match ds with | []=>some τ | _=>none
def gsCons (i:Nat) (g:TGDs) (ds:List D) (τ:SD):Option SD:=match ds with | d :: r=>g r (τ.set i (some d)) | []=>none
theorem PGs.imp {tgs:List Expr}{t t':TGs} (h:PGs X tgs t) (hi:∀ v σ H Q,t' v σ H Q->t v σ H Q):PGs X tgs t' := fun pins s σ H v u Q I r hw=>h pins s σ H v u Q I r (hi v σ H Q hw)
theorem gs_nil:PGs X [] (tMGs X.K gsNil):=PGs.imp pgs_nil fun vs σ H Q hq=>ex12 hq fun H0 B0 B τ P F ds fp I r k h=>by
 cases ds with
 | nil=>exact ⟨r.1,h H σ P I rfl⟩
 | cons d ds=>exact h.elim
theorem gs_cons {i:Nat}{x:Str}{es:List Expr}{g:TGDs} (hN:X.N.Nodup) (hi:X.N[i]?=some x) (hx:Loc X.env.scope x) (h2:PGs X es (tMGs X.K g)) (hf:X.fn x=true ∨ X.env.scope.names.lookup x=some .local:=by first | exact .inl rfl | exact .inr rfl)
  (hs:(assignEach (.Name x pos :: es) X.env).map (·.2)=assign (.Name x pos) X.env :: (assignEach es X.env).map (·.2):=by rfl):PGs X (.Name x pos :: es) (tMGs X.K (gsCons i g)) :=
 PGs.imp (pgs_cons (pg_name hN hi hx hf) h2 hs) fun vs σ H Q hq=>ex12 hq fun H0 B0 B τ P F ds fp I r k h=>by
  cases ds with
  | nil=>exact h.elim
  | cons d ds =>
   obtain ⟨v,w,f1,f2,rfl,r1,r2,rfl⟩:=r
   obtain ⟨P',I',s'⟩:=I.set i r1 k.left
   refine ⟨v,w,rfl,H0,B0,B,_,P',F,ds,f2,I',r2,⟨k.right.nd,fun a m=>?_⟩,h⟩
   obtain ⟨a1,a2,a3,a4,a5⟩:=k.right.own a m
   refine ⟨a1,a2,a3,fun z=>?_,a5⟩
   rcases s' a z with y | y
   ·exact a4 y
   ·exact (List.nodup_append.mp k.nd).2.2 a y a m rfl
def gT (n:Nat) (g:TGDs) (d:D) (τ:SD):Option SD:=match d with | .tup ds=>if ds.length=n then g ds τ else none | _=>none
theorem g_tup {es:List Expr}{k:Nat}{g:TGDs}{n:Nat} (hc:X.calm=true) (h:PGs X es (tMGs X.K g))
  (hn:(assignEach es X.env).length=n:=by rfl) (hst:(assignEach es X.env).findIdx? (·.1)=none:=by rfl):PG X (.Tuple es k pos) (tMG X.K (gT n g)) :=
 PG.imp (pg_tup hc h hn hst) fun v σ H Q hq=>ex12 hq fun H0 B0 B τ P F d fp I r k h=>by
  cases d with
  | tup ds =>
   obtain ⟨a,vs,rfl,q,rl⟩:=r
   unfold gT at h
   by_cases hl:ds.length=n
   ·simp only [hl,if_true] at h
    exact ⟨a,vs,rfl,SqT.of q,by rw [<- rl.length]; exact hl,H0,B0,B,τ,P,F,ds,fp,I,rl,k,h⟩
   ·simp only [hl,if_false] at h
  | _=>exact h.elim
def forD (tg:TGD) (body:SF):List D->SF
 | [],τ=>.nx τ
 | d :: r,τ=>match tg d τ with
  | none=>.bad
  | some τ'=>match body τ' with
   | .nx t=>forD tg body r t
   | .ct t=>forD tg body r t
   | .bk t=>.nx t
   | o=>o
def sFor (js:List Nat) (it:SD->Res (Bool × List D)) (tg:TGD) (body:SF) (τ:SD):Fl:=match it (frzAt js τ) with
 | .ok (false,ds)=>forD tg body (frzL ds) (frzAt js τ)
 | .ok (true,_)=>.bad
 | .exn C=>.ex C (frzAt js τ)
 | .bad=>.bad
theorem s_for (js:List Nat) {tg iter:Expr}{body:List Stmt}{it:SD->Res (Bool × List D)}{tgd:TGD}{g:SF} (hp:PassesOwn (model X.prog X.w) X.A X.env X.xe) (hc:X.calm=true) (hi:PI X tg iter (tMI X.K Y it)) (hg:PG X tg (tMG X.K tgd)) (hb:PSs X body (tMS X.K Y g))
  (hs:∀ x,foldedSetIterable iter X.env x=pure x:=by intro _; rfl):PS X (.For tg iter body [] pos) (tMS X.K Y (sFor js it tgd g)):=by
 refine PS.imp (ps_for hp hc hi hg hb hs) fun E σ H hq=>ex7 hq fun H0 B0 B τ P I h=>?_
 obtain ⟨Bf,Pf,sf,If⟩:=I.frzAt js
 have h:GoalS X.K Y H0 B0 Bf H E (sFor js it tgd g τ):=GoalS.later h (Aft.grow If sf (Same.refl _))
 unfold sFor at h
 refine ⟨H0,B0,Bf,_,Pf,No,If,?_⟩
 cases z:it (frzAt js τ) with
 | exn C=>rw [z] at h; exact fun H1 B1 I1 s1 b1=>h B1 H1 σ Pf (Aft.grow I1 b1 s1)
 | bad=>rw [z] at h; exact h.elim
 | ok q =>
  obtain ⟨fl,ds0⟩:=q
  rw [z] at h
  intro J H1 B1' fp I1' s1 b1' k1 JA
  cases fl with
  | true=>exact h.elim
  | false =>
  obtain ⟨I1,b2⟩:=I1'.restV k1
  have b1:=b1'.trans b2
  have J1:=JA _ b2 (rest_up I1'.bh) (fun a m o h=>rest_in m h) (fun z=>Bool.noConfusion z)
  generalize atRest B1' H1 (· ∈ fp)=B1 at I1 b1 J1
  have h:GoalS X.K Y H0 B0 Bf H E (forD tgd g (frzL ds0) (frzAt js τ)):=h
  generalize frzL ds0=ds at h J1
  have h:GoalS X.K Y H0 B0 B1 H1 E (forD tgd g ds (frzAt js τ)):=GoalS.later h (Aft.grow I1 b1 s1)
  refine ⟨fun i m σ' H'=>m=ds.length - i/\i <= ds.length/\∃ B' τ' P',Aft X.K H0 B0 B1 H1 B' H' σ' τ' P'/\GoalS X.K Y H0 B0 B' H' E (forD tgd g (ds.drop i) τ'),⟨_,rfl,Nat.zero_le _,B1,_,Pf,Aft.refl I1,h⟩,?_⟩
  rintro i m σ' H' ⟨rfl,hle,B',τ',P',a,gl⟩
  by_cases hlt:i < ds.length
  ·obtain ⟨d,hd⟩:∃ d,ds[i]?=some d:=⟨ds[i],List.getElem?_eq_getElem hlt⟩
   have hdrop:ds.drop i=d :: ds.drop (i + 1):=by
    rw [List.drop_eq_getElem_cons hlt]
    congr 1
    rw [List.getElem?_eq_getElem hlt] at hd
    exact Option.some.inj hd
   rw [hdrop] at gl
   unfold forD at gl
   refine .inr ⟨J1.go B' H' i d a.b a.si.bh a.imm hd,fun σ2 H2=>∃ B2 τ2 P2,Aft X.K H0 B0 B1 H1 B2 H2 σ2 τ2 P2/\GoalS X.K Y H0 B0 B2 H2 E (forD tgd g (ds.drop (i + 1)) τ2),fun σ2 H2 w=>⟨_,by omega,rfl,hlt,w⟩,fun x H'' y=>?_⟩
   obtain ⟨sy,ry⟩:=J1.yld B' H' i d x H'' a.b a.si.bh a.imm hd y
   have Iy:=a.si.grow sy
   refine ⟨H0,B0,B',τ',P',No,d,[],Iy,ry,Vok.nil,?_⟩
   cases w:tgd d τ' with
   | none=>rw [w] at gl; exact gl.elim
   | some τ2 =>
    rw [w] at gl
    intro H3 σ3 P3 I3 e3
    subst e3
    have ay:Aft X.K H0 B0 B' H' B' H3 σ3 τ2 P3:=⟨I3,Same.refl _,Imm.of sy⟩
    refine ⟨H0,B0,B',τ2,P3,I3,?_⟩
    cases u:g τ2 with
    | nx t =>
     simp only [u] at gl
     exact fun B4 H4 σ4 P4 a4=>⟨B4,t,P4,(a.trans ay).trans a4,GoalS.later gl (ay.trans a4)⟩
    | ct t =>
     simp only [u] at gl
     exact fun B4 H4 σ4 P4 a4=>⟨B4,t,P4,(a.trans ay).trans a4,GoalS.later gl (ay.trans a4)⟩
    | bk t =>
     simp only [u] at gl
     exact fun B4 H4 σ4 P4 a4=>gl B4 H4 σ4 P4 (ay.trans a4)
    | rt d=>simp only [u] at gl; exact gl
    | ex C t=>simp only [u] at gl; exact fun B4 H4 σ4 P4 a4=>gl B4 H4 σ4 P4 (ay.trans a4)
    | bad=>simp only [u] at gl; exact gl
  ·have e:i=ds.length:=by omega
   subst e
   rw [List.drop_length] at gl
   exact .inl ⟨J1.stop B' H' a.b a.si.bh a.imm,gl B' H' σ' P' (Aft.refl a.si)⟩
def whileD (c:SD->Res Bool) (body:SF):Nat->SF
 | 0,_=>.bad
 | n + 1,τ=>(c τ).toFlB τ fun b=>if b=true then (match body τ with
   | .nx t=>whileD c body n t
   | .ct t=>whileD c body n t
   | .bk t=>.nx t
   | o=>o) else .nx τ
def sWhile (c:SD->Res Bool) (body:SF) (τ:SD):Fl:=by classical exact if h:∃ n,whileD c body n τ ≠ .bad then whileD c body h.choose τ else .bad
theorem whileD_mono {c:SD->Res Bool}{body:SF}:∀ {n:Nat}{τ:SD},whileD c body n τ ≠ .bad->whileD c body (n + 1) τ=whileD c body n τ
 | 0,_,h=>absurd rfl h
 | n + 1,τ,h=>by
  rw [whileD] at h
  conv=>lhs; rw [whileD]
  conv=>rhs; rw [whileD]
  cases e:c τ with
  | exn C=>rfl
  | bad=>rfl
  | ok b =>
   rw [e] at h
   cases b with
   | false=>rfl
   | true =>
    simp only [Res.toFlB,if_true] at h ⊢
    cases u:body τ with
    | nx t=>simp only [u] at h ⊢; exact whileD_mono h
    | ct t=>simp only [u] at h ⊢; exact whileD_mono h
    | bk t=>rfl
    | rt d=>rfl
    | ex C t=>rfl
    | bad=>rfl
theorem whileD_le {c:SD->Res Bool}{body:SF}{n:Nat}{τ:SD} (h:whileD c body n τ ≠ .bad):∀ {m:Nat},n <= m->whileD c body m τ=whileD c body n τ:=by
 intro m hm
 induction hm with
 | refl=>rfl
 | step hm ih=>rw [whileD_mono (by rw [ih]; exact h),ih]
theorem sWhile_eq {c:SD->Res Bool}{body:SF}{n:Nat}{τ:SD} (h:whileD c body n τ ≠ .bad):sWhile c body τ=whileD c body n τ:=by
 have ex:∃ n,whileD c body n τ ≠ .bad:=⟨n,h⟩
 unfold sWhile
 rw [dif_pos ex]
 rcases Nat.le_total n ex.choose with q | q
 ·exact whileD_le h q
 ·exact (whileD_le ex.choose_spec q).symm
theorem s_while {body:List Stmt}{g:SF} (hp:PassesOwn (model X.prog X.w) X.A X.env X.xe) (hc:PT X c (tMB X.K Y gc)) (hb:PSs X body (tMS X.K Y g)):PS X (.While c body [] pos) (tMS X.K Y (sWhile gc g)):=by
 refine PS.imp (ps_while hp hc hb) fun E σ H hq=>ex7 hq fun H0 B0 B τ P I h=>?_
 obtain ⟨n,hn⟩:∃ n,GoalS X.K Y H0 B0 B H E (whileD gc g n τ):=by
  unfold sWhile at h
  split at h
  ·exact ⟨_,h⟩
  ·exact h.elim
 refine ⟨fun m σ' H'=>∃ B' τ' P',SI X.K H0 B0 B' H' σ' τ' P' No/\GoalS X.K Y H0 B0 B' H' E (whileD gc g m τ'),⟨n,B,τ,P,I,hn⟩,?_⟩
 rintro m σ' H' ⟨B',τ',P',I',gl⟩
 cases m with
 | zero=>exact gl.elim
 | succ m =>
  rw [whileD] at gl
  refine testS I' gl fun d H1 B1 _ I1 s1 b1 h1=>?_
  cases d with
  | false=>rw [if_neg Bool.false_ne_true] at h1 ⊢; exact h1 B1 H1 σ' P' (Aft.refl I1)
  | true =>
   rw [if_pos rfl] at h1 ⊢
   refine ⟨fun σ2 H2=>∃ B2 τ2 P2,SI X.K H0 B0 B2 H2 σ2 τ2 P2 No/\GoalS X.K Y H0 B0 B2 H2 E (whileD gc g m τ2),fun σ2 H2 w=>⟨m,Nat.lt_succ_self _,w⟩,H0,B0,B1,τ',P',I1,?_⟩
   cases u:g τ' with
   | nx t=>simp only [u] at h1; exact fun B4 H4 σ4 P4 a4=>⟨B4,t,P4,a4.si,GoalS.later h1 a4⟩
   | ct t=>simp only [u] at h1; exact fun B4 H4 σ4 P4 a4=>⟨B4,t,P4,a4.si,GoalS.later h1 a4⟩
   | bk t=>simp only [u] at h1; exact h1
   | rt d=>simp only [u] at h1; exact h1
   | ex C t=>simp only [u] at h1; exact h1
   | bad=>simp only [u] at h1; exact h1
end
abbrev DF:=List D->Res D
def spF (K:PySem.W.Frag) (G:DF):Sp:=fun vs H Q _=>∃ B0 ds,Same B0 H/\RepL K B0 No H ds vs []/\match G ds with
 | .ok d=>∀ B' H' v fp,RetOk K H B0 B' H' d v fp->Q v H'
 | .exn _=>False
 | .bad=>False
def Res.noX (r:Res D):Res D:=match r with | .exn _=>.bad | r=>r
@[simp] theorem Res.noX_ok (d:D):(Res.ok d).noX=.ok d:=rfl
def callD (G:DF) (ds:List D):Res D:=if hasBorL ds=true then (G (frzL ds)).noX.map D.toBor else (G (frzL ds)).noX
def eCall (G:DF) (fs:SD->Res (List D)) (τ:SD):Res D:=(fs τ).bind (callD G)
section
variable {K:PySem.W.Frag}{Y:XY}{H0 B0 B H:Hp}{σ:L2.St}{τ:SD}{P:List Addr}{F:Addr->Prop}{X:Cx}{pos p:Pos}{e:Expr}{es:List Expr}{fs:SD->Res (List D)}
theorem SI.called {S:Addr->Prop}{fp:List Addr}{B' H':Hp}{d:D}{v:V}{fq:List Addr} (I:SI K H0 B0 B H σ τ P F) (k:Vok H0 B H P F fp) (hS:∀ a,S a->a ∈ P) (r:RetOk K H (atRest B H (fun a=>S a ∨ a ∈ fp)) B' H' d v fq) :
  ∃ B'',SI K H0 B0 B'' H' σ τ P F/\Same B B''/\Vok H0 B'' H' P F fq/\(∀ a o,B' a=some o->B'' a=some o ∨ (S a/\a ∈ P)):=by
 classical
 have sP:∀ a o,B a=some o->a ∉ P:=fun a o e m=>by
  have:=(I.own a m).1
  rw [e] at this; cases this
 have up:∀ a,B' a ≠ none->B a ≠ none ∨ S a ∨ a ∈ fp ∨ H a=none:=fun a n=>by
  rcases r.nb a n with q | q
  ·by_cases hs:S a ∨ a ∈ fp
   ·exact .inr (hs.elim .inl fun z=>.inr (.inl z))
   ·rw [rest_out hs] at q; exact .inl q
  ·exact .inr (.inr (.inr q))
 refine ⟨fun a=>if a ∈ P then none else B' a,?_,fun a o e=>?_,⟨r.nd,fun a m=>?_⟩,fun a o e=>?_⟩
 ·have sB:Same B (fun a=>if a ∈ P then none else B' a):=fun a o e=>by
   show (if a ∈ P then none else B' a)=some o
   rw [if_neg (sP a o e)]
   exact r.b0 a o (rest_same I.bh a o e)
  refine ⟨fun a o e=>?_,I.h0.trans r.h0,I.b0.trans sB,fun a n=>?_,I.rep.mono r.h0 sB,I.nd,fun a m=>?_,fun a m=>?_⟩
  ·have e:(if a ∈ P then none else B' a)=some o:=e
   split at e
   ·cases e
   ·exact r.bh a o e
  ·have n:(if a ∈ P then none else B' a) ≠ none:=n
   split at n
   ·exact absurd rfl n
   ·rename_i hp
    rcases up a n with q | q | q | q
    ·exact I.nb a q
    ·exact absurd (hS a q) hp
    ·exact .inr (k.own a q).2.1
    ·exact .inr (I.h0.free q)
  ·refine ⟨?_,(I.own a m).2⟩
   show (if a ∈ P then none else B' a)=none
   rw [if_pos m]
  ·obtain ⟨a1,a2⟩:=I.fr a m
   refine ⟨?_,fun z=>a2 (r.h0.free z)⟩
   show (if a ∈ P then none else B' a)=none
   split
   ·rfl
   ·rename_i hp
    cases e:B' a with
    | none=>rfl
    | some o =>
     exfalso
     rcases up a (by rw [e]; exact Option.some_ne_none _) with q | q | q | q
     ·exact q a1
     ·exact hp (hS a q)
     ·exact (k.own a q).2.2.2.2 m
     ·exact a2 q
 ·show (if a ∈ P then none else B' a)=some o
  rw [if_neg (sP a o e)]
  exact r.b0 a o (rest_same I.bh a o e)
 ·obtain ⟨a1,a2,a3⟩:=r.own a m
  obtain ⟨n1,n2,n3,n4⟩:=I.newAt a2
  refine ⟨?_,n2,a3,n3,n4⟩
  show (if a ∈ P then none else B' a)=none
  rw [if_neg n3]; exact a1
 ·by_cases hp:a ∈ P
  ·rcases up a (by rw [e]; exact Option.some_ne_none _) with q | q | q | q
   ·obtain ⟨o',e'⟩:=Option.ne_none_iff_exists'.mp q
    exact absurd hp (sP a o' e')
   ·exact .inr ⟨q,hp⟩
   ·exact absurd hp (k.own a q).2.2.2.1
   ·exact absurd q (I.stands hp)
  ·left
   show (if a ∈ P then none else B' a)=some o
   rw [if_neg hp]; exact e
theorem q_cal {k:Nat}{x:Str}{ps:List Str}{G:DF} (C:Cal X.prog X.w X.K X.mg X.base k x ps (spF X.K G)) (hr:Room k X.A) (hg:Gl X x) (ha:PA X (e :: es) (tML X.K Y fs)) (hdb:(x == ("__debug__" : Str))=false:=by decide)
  (he:starEach (e :: es) X.env=(false,eval e X.env) :: starEach es X.env:=by rfl) (hpl:(backTo pos (starEach es X.env)).any (·.1)=false:=by rfl):PE X (.Call (.Name x p) (e :: es) [] pos) (tM X.K Y (eCall G fs)):=by
 refine PE.imp (pe_cal C hr hg ha hdb he hpl) fun σ H Q hq=>ex8 hq fun H0 B0 B τ P F I h=>tML.seq I h fun ds vs H1 B1 fp _ I1 s1 b1 r1 k1 h1=>?_
 rw [List.append_nil]
 unfold callD at h1
 split at h1
 ·refine ⟨atRest B1 H1 (fun a=>a ∈ P ∨ a ∈ fp),frzL ds,rest_up I1.bh,r1.frz (rest_same I1.bh) (fun a o s h=>rest_in (.inl s) h) (fun a m o h=>rest_in (.inr m) h),?_⟩
  cases z:G (frzL ds) with
  | exn c=>rw [z] at h1; exact h1.elim
  | bad=>rw [z] at h1; exact h1.elim
  | ok d =>
   rw [z] at h1
   intro B' H' v fq r
   obtain ⟨B2,I2,s2,k2,hb⟩:=I1.called k1 (S:=fun a=>a ∈ P) (fun a s=>s) r
   exact h1 v H' B2 fq I2 r.h0 s2 (r.rep.toBor r.bh fun a o e=>(hb a o e).imp id fun z=>z.2) k2
 ·rename_i hb
  have hb:hasBorL ds=false:=by simpa using hb
  refine ⟨atRest B1 H1 (fun a=>False ∨ a ∈ fp),frzL ds,rest_up I1.bh,(r1.noBor hb).frz (rest_same I1.bh) (fun a o s=>s.elim) (fun a m o h=>rest_in (.inr m) h),?_⟩
  cases z:G (frzL ds) with
  | exn c=>rw [z] at h1; exact h1.elim
  | bad=>rw [z] at h1; exact h1.elim
  | ok d =>
   rw [z] at h1
   intro B' H' v fq r
   obtain ⟨B2,I2,s2,k2,hb⟩:=I1.called k1 (S:=fun _=>False) (fun a s=>s.elim) r
   refine h1 v H' B2 fq I2 r.h0 s2 ?_ k2
   have sb:Same B' B2:=fun a o e=>(hb a o e).resolve_right fun z=>z.1
   exact r.rep.mono (Same.refl _) sb fun _ x=>x.elim
def Fl.out:Fl->Res D
 | .rt d=>.ok d
 | .nx _=>.ok .non
 | .ex C _=>.exn C
 | _=>.bad
def runF (n N:Nat) (g:SF) (ds:List D):Res D:=if ds.length=n then (g (ds.map some ++ List.replicate (N - n) none)).out else .bad
theorem repS_start:∀ {ds:List D}{vs:List V} (m:Nat),RepL K B No H ds vs []->RepS K B H (ds.map some ++ List.replicate m none) (vs.map some ++ List.replicate m none) []
 | [],vs,m,r=>by
  obtain ⟨rfl,_⟩:=r
  induction m with
  | zero=>exact ⟨rfl,rfl⟩
  | succ m ih=>exact ⟨none,_,rfl,ih⟩
 | d :: ds,vs,m,r=>by
  obtain ⟨v,w,f1,f2,rfl,r1,r2,z⟩:=r
  obtain ⟨rfl,rfl⟩:=nil_of_append z
  exact ⟨v,_,[],[],rfl,r1,repS_start m r2,rfl⟩
theorem fnok_of {P:Program}{w:World}{mg:Str->Option Value}{base:Heap}{x:Str}{st:Stmt}{N ps:List Str}{k:Nat}{g:SF}{f:Addr}{fd:FuncData} (D:Fun K x x st f fd) (S:FnScope N ps (defScope st))
  (hbody:∀ (f:Addr) (cdv:Value) (A:Around) (outer:List Env) (s:Shared) (H:Hp),Room k (A.deeper (envOfC x (defScope st) s.heap.objs.size f cdv)) ->
   PSs (cxOf CX0 P w K mg base N x (defScope st) f cdv A outer s H E0).nox (defBody st) (tMS K NoY g)):FnOk P w K mg base CX0 (k + 1) f fd ps (spF K (runF ps.length N.length g)):=by
 refine D.ok S (fun vs H Q E h=>?_) fun cdv A outer s H vs Q E hr h=>?_
 ·obtain ⟨B0,ds,_,r,h⟩:=h
  rw [<- r.length]
  unfold runF at h
  by_cases hl:ds.length=ps.length
  ·exact hl
  ·rw [if_neg hl] at h; exact h.elim
 ·obtain ⟨B0,ds,sB,r,h⟩:=h
  unfold runF at h
  by_cases hl:ds.length=ps.length
  ·rw [if_pos hl] at h
   have e:L2.start N vs=vs.map some ++ List.replicate (N.length - ps.length) none:=by
    unfold L2.start
    rw [<- r.length,hl]
   refine ⟨_,hbody f cdv A outer s H hr,H,B0,B0,ds.map some ++ List.replicate (N.length - ps.length) none,[],⟨sB,Same.refl _,Same.refl _,fun a n=>.inl n,by rw [e]; exact repS_start _ r,List.nodup_nil,(fun a m=>by cases m),fun a m=>m.elim⟩,?_⟩
   cases z:g (ds.map some ++ List.replicate (N.length - ps.length) none) with
   | rt d=>rw [z] at h; exact fun B' H' v fp q=>h B' H' v fp q
   | nx t =>
    rw [z] at h
    intro B' H' σ' P' a
    exact h B' H' .non [] ⟨a.si.h0,a.si.b0,a.si.bh,a.si.nb,⟨rfl,rfl⟩,List.nodup_nil,fun a m=>by cases m⟩
   | bk t=>rw [z] at h; exact h.elim
   | ct t=>rw [z] at h; exact h.elim
   | ex C t=>rw [z] at h; exact h.elim
   | bad=>rw [z] at h; exact h.elim
  ·rw [if_neg hl] at h; exact h.elim
theorem cal_of {P:Program}{w:World}{mg:Str->Option Value}{base:Heap}{x:Str}{st:Stmt}{N ps:List Str}{k:Nat}{g:SF} (D:Dfn K mg x st ps) (S:FnScope N ps (defScope st))
  (hbody:∀ (f:Addr) (cdv:Value) (A:Around) (outer:List Env) (s:Shared) (H:Hp),Room k (A.deeper (envOfC x (defScope st) s.heap.objs.size f cdv)) ->
   PSs (cxOf CX0 P w K mg base N x (defScope st) f cdv A outer s H E0).nox (defBody st) (tMS K NoY g)):Cal P w K mg base (k + 1) x ps (spF K (runF ps.length N.length g)):=by
 obtain ⟨f,fd,F,hm,hb⟩:=D.ex
 exact ⟨f,fd,hm,F.kp,hb,fnok_of F S hbody⟩
end
mutual
def D.hasOwn:D->Bool
 | .tup xs=>hasOwnL xs
 | .lst t xs=>t.isOwn || hasOwnL xs
 | .dct t _ _ vs=>t.isOwn || hasOwnL vs
 | _=>false
def hasOwnL:List D->Bool
 | []=>false
 | d :: r=>d.hasOwn || hasOwnL r
end
mutual
theorem hasOwn_pure:∀ d:D,d.pure=true->d.hasOwn=false
 | .non,_=>rfl
 | .bl _,_=>rfl
 | .int _,_=>rfl
 | .str _,_=>rfl
 | .exc _,_=>rfl
 | .tup xs,h=>hasOwnL_pure xs h
 | .lst _ _,h=>by cases h
 | .dct _ _ _ _,h=>by cases h
theorem hasOwnL_pure:∀ xs:List D,pureL xs=true->hasOwnL xs=false
 | [],_=>rfl
 | d :: r,h=>by
  have h:(d.pure && pureL r)=true:=h
  rw [Bool.and_eq_true] at h
  show (d.hasOwn || hasOwnL r)=false
  rw [hasOwn_pure d h.1,hasOwnL_pure r h.2]
  rfl
end
section
variable {K:PySem.W.Frag}
mutual
theorem Rep.noOwn {B H:Hp}{S:Addr->Prop}:∀ {d:D}{v:V}{fp:List Addr},d.hasOwn=false->Rep K B S H d v fp->fp=[]
 | .non,_,_,_,h=>h.2
 | .bl _,_,_,_,h=>h.2
 | .int _,_,_,_,h=>h.2
 | .str _,_,_,_,h=>h.2
 | .exc _,_,_,_,h=>h.2
 | .tup xs,v,fp,p,h=>let ⟨a,vs,e,q,r⟩:=h; RepL.noOwn (ds:=xs) p r
 | .lst .own xs,v,fp,p,h=>by simp [D.hasOwn,Tg.isOwn] at p
 | .lst .bor xs,v,fp,p,h=>let ⟨a,vs,e,q,r,z⟩:=h; z
 | .lst .frz xs,v,fp,p,h=>let ⟨a,vs,e,q,r,z⟩:=h; z
 | .lst (.len _) _,_,_,_,h=>h.elim
 | .dct (.len a) kd ks xs,v,fp,p,h=>by simp [D.hasOwn,Tg.isOwn] at p
 | .dct .own kd ks xs,v,fp,p,h=>by simp [D.hasOwn,Tg.isOwn] at p
 | .dct .bor kd ks xs,v,fp,p,h=>let ⟨a,vs,e,q,r,z⟩:=h; z
 | .dct .frz kd ks xs,v,fp,p,h=>let ⟨a,vs,e,q,r,z⟩:=h; z
theorem RepL.noOwn {B H:Hp}{S:Addr->Prop}:∀ {ds:List D}{vs:List V}{fp:List Addr},hasOwnL ds=false->RepL K B S H ds vs fp->fp=[]
 | [],_,_,_,h=>h.2
 | d :: ds,vs,fp,p,h=>by
  obtain ⟨v,r,f,g,e,h1,h2,z⟩:=h
  have p:(d.hasOwn || hasOwnL ds)=false:=p
  rw [Bool.or_eq_false_iff] at p
  rw [z,Rep.noOwn p.1 h1,RepL.noOwn p.2 h2]
  rfl
end
def capD (τ:SD) (cap:List (Str × Nat)):SD:=cap.map fun p=>((τ[p.2]?).join).map D.frz
def capOwn (τ:SD) (cap:List (Str × Nat)):Bool:=cap.any fun p=>match (τ[p.2]?).join with | some d=>d.hasOwn | none=>false
def compD (tg:TGD) (tt:SD->Res Bool) (elt:SD->Res D):List D->SD->Res (List D)
 | [],_=>.ok []
 | d :: r,τ=>match tg d τ with
  | none=>.bad
  | some τ'=>(tt τ').bind fun b=>if b=true then (elt τ').bind fun x=>if x.hasBor=true then .bad else (compD tg tt elt r τ').bind fun xs=>.ok (x :: xs) else compD tg tt elt r τ'
def eComp (it:SD->Res (Bool × List D)) (tg:TGD) (tt:SD->Res Bool) (elt:SD->Res D) (k:Nat) (cap:List (Str × Nat)) (τ:SD):Res D:=(it τ).bind fun q =>
 match compD tg tt elt (frzL q.2) (List.replicate k none ++ capD τ cap) with
 | .ok xs=>if xs.length <= 16777216 then .ok (.lst .own (if (q.1 || capOwn τ cap)=true then toBorL xs else xs)) else .bad
 | _=>.bad
variable {Y:XY}{H0 B0 B H:Hp}{σ:L2.St}{τ:SD}{P:List Addr}{F:Addr->Prop}{X:Cx}
theorem repS_cap {Bx:Hp} (I:SI K H0 B0 B H σ τ P F) (sB:Same B Bx) (cap:List (Str × Nat)) (hx:capOwn τ cap=true->∀ a ∈ P,∀ o,H a=some o->Bx a=some o):RepS K Bx H (capD τ cap) (capV σ cap) []:=by
 induction cap with
 | nil=>exact ⟨rfl,rfl⟩
 | cons p r ih =>
  have ih:=ih fun z=>hx (by unfold capOwn at z ⊢; rw [List.any_cons,z,Bool.or_true])
  unfold capD capV at ih ⊢
  rw [List.map_cons,List.map_cons]
  cases e:(τ[p.2]?).join with
  | none=>exact ⟨_,_,rfl,ih⟩
  | some d =>
   have e':τ[p.2]?=some (some d):=by
    cases z:τ[p.2]? with
    | none=>rw [z] at e; cases e
    | some o=>rw [z] at e; exact congrArg some e
   obtain ⟨v,f,h1,h2,h3⟩:=I.rep.get e'
   refine ⟨v,_,[],[],?_,?_,ih,rfl⟩
   ·rw [h1]; rfl
   ·by_cases ho:d.hasOwn=true
    ·have hc:capOwn τ (p :: r)=true:=by
      unfold capOwn
      rw [List.any_cons,e]
      simp [ho]
     exact h2.frz sB (fun a o s=>s.elim) fun a m o h=>hx hc a (h3.subset m) o h
    ·have hf:=h2.noOwn (by simpa using ho)
     subst hf
     exact h2.frz sB (fun a o s=>s.elim) fun a m=>by cases m
theorem repS_none {Bx:Hp}:∀ (k:Nat) {τ:SD}{σ:L2.St},RepS K Bx H τ σ []->RepS K Bx H (List.replicate k none ++ τ) (List.replicate k none ++ σ) []
 | 0,_,_,h=>h
 | k + 1,_,_,h=>⟨none,_,rfl,repS_none k h⟩
theorem SI.writeF {F':Addr->Prop}{a:Addr}{o o':HO} (I:SI K H0 B0 B H σ τ P F') (hF:F' a) (hH0:H0 a=none) (ha:H a=some o) (mu:mutO o):SI K H0 B0 B (upd H a o') σ τ P F' := by
 have kp:Keep H (upd H a o') [a]:=⟨fun b u h n=>by rw [upd_ne (by simpa using n)]; exact h,fun b m=>by
  have:b=a:=by simpa using m
  subst this
  exact ⟨o,ha,mu⟩⟩
 have kr:∀ {τ:SD}{σ:L2.St}{P:List Addr},(∀ b ∈ P,b ≠ a)->RepS K B H τ σ P->RepS K B (upd H a o') τ σ P:=by
  intro τ
  induction τ with
  | nil=>intro σ P _ h; exact h
  | cons q r ih =>
   intro σ P hp h
   cases q with
   | none=>obtain ⟨x,t,e,h⟩:=h; exact ⟨x,t,e,ih hp h⟩
   | some d =>
    obtain ⟨v,t,f,g,e,h1,h2,z⟩:=h
    subst z
    exact ⟨v,t,f,g,e,h1.keep kp fun b m=>by
     have:=hp b (List.mem_append_left _ m)
     simpa using this,ih (fun b m=>hp b (List.mem_append_right _ m)) h2,rfl⟩
 refine ⟨fun b u e=>?_,fun b u e=>?_,I.b0,I.nb,kr (fun b m z=>(I.own b m).2.2 (z ▸ hF)) I.rep,I.nd,I.own,fun b m=>⟨(I.fr b m).1,?_⟩⟩
 ·rw [upd_ne]
  ·exact I.bh b u e
  ·intro z; subst z; rw [(I.fr b hF).1] at e; cases e
 ·rw [upd_ne]
  ·exact I.h0 b u e
  ·intro z; subst z; rw [hH0] at e; cases e
 ·by_cases z:b=a
  ·subst z; rw [upd_same]; exact Option.some_ne_none _
  ·rw [upd_ne z]; exact (I.fr b m).2
theorem bind_ok {α β:Type}{r:Res α}{f:α->Res β}{b:β} (h:r.bind f=.ok b):∃ a,r=.ok a/\f a=.ok b:=by
 cases r with
 | ok a=>exact ⟨a,rfl,h⟩
 | exn C=>cases h
 | bad=>cases h
theorem comp_main {it:SD->Res (Bool × List D)}{tgd:TGD}{tt:SD->Res Bool}{elt:SD->Res D}{k:Nat}{cap:List (Str × Nat)}{Q:VK} (I:SI K H0 B0 B H σ τ P F) (h:Goal K Y H0 B0 B H σ τ P F Q (eComp it tgd tt elt k cap τ)) :
  tComp (tMI K Y it) (tMG K tgd) (tMB K NoY tt) (tM K NoY elt) k cap σ H Q:=by
 refine ⟨H0,B0,B,τ,P,F,I,?_⟩
 unfold eComp at h
 cases z:it τ with
 | exn C=>rw [z] at h; exact h
 | bad=>rw [z] at h; exact h
 | ok q =>
  obtain ⟨fl,ds⟩:=q
  rw [z] at h
  simp only [Res.bind_ok] at h
  intro J H1 B1 fp I1 s1 b1 k1 JA acc hacc
  have h:=Goal.later h s1 b1
  cases zc:compD tgd tt elt (frzL ds) (List.replicate k none ++ capD τ cap) with
  | exn C=>rw [zc] at h; exact h.elim
  | bad=>rw [zc] at h; exact h.elim
  | ok xs =>
   rw [zc] at h
   simp only at h
   by_cases hxl:xs.length <= 16777216
   ·rw [if_pos hxl] at h
    let S:Addr->Prop:=fun a=>(fl || capOwn τ cap)=true/\a ∈ P
    let Bx:Hp:=atRest B1 H1 (fun a=>S a ∨ a ∈ fp)
    have sBx:Same B1 Bx:=rest_same I1.bh
    have uBx:Same Bx H1:=rest_up I1.bh
    have J1:ItD K J (frzL ds) Bx H1:=JA Bx sBx uBx (fun a m o e=>rest_in (.inr m) e) (fun hf a m o e=>rest_in (.inl ⟨by rw [hf]; rfl,m⟩) e)
    have c0:RepS K Bx H1 (List.replicate k none ++ capD τ cap) (List.replicate k none ++ capV σ cap) []:=repS_none k (repS_cap I1 sBx cap fun hc a m o e=>rest_in (.inl ⟨by rw [hc,Bool.or_true],m⟩) e)
    have sacc:Same H1 (upd H1 acc (.lst [])):=sameUpd' hacc
    have C0:SI K H1 Bx Bx (upd H1 acc (.lst [])) (List.replicate k none ++ capV σ cap) (List.replicate k none ++ capD τ cap) [] (fun a=>a=acc ∨ a ∈ ([]:List Addr)) :=
     ⟨uBx.trans sacc,sacc,Same.refl _,fun a n=>.inl n,c0.mono sacc (Same.refl _),List.nodup_nil,(fun a m=>by cases m),fun a m=>by
      have:a=acc:=m.elim id fun z=>by cases z
      subst this
      exact ⟨uBx.free hacc,by rw [upd_same]; exact Option.some_ne_none _⟩⟩
    refine ⟨fun i m τv ys H'=>m=(frzL ds).length - i/\i <= (frzL ds).length/\∃ B' τb Pb es fe rest,SI K H1 Bx B' H' τv τb Pb (fun a=>a=acc ∨ a ∈ fe)/\H' acc=some (.lst ys)/\RepL K B' No H' es ys fe/\fe.Nodup /\
      (∀ a ∈ fe,H1 a=none/\a ≠ acc)/\compD tgd tt elt ((frzL ds).drop i) τb=.ok rest/\xs=es ++ rest/\acc ∉ fe,⟨_,rfl,Nat.zero_le _,Bx,_,[],[],[],xs,C0,upd_same,⟨rfl,rfl⟩,List.nodup_nil,(fun a m=>by cases m),zc,rfl,by simp⟩,?_⟩
    rintro i m τv ys H' ⟨rfl,hle,B',τb,Pb,es,fe,rest,C,ha,re,ndf,own,ec,ex,hna⟩
    have im:Imm H1 H' := Imm.of C.h0
    by_cases hlt:i < (frzL ds).length
    ·obtain ⟨d,hd⟩:∃ d,(frzL ds)[i]?=some d:=⟨(frzL ds)[i],List.getElem?_eq_getElem hlt⟩
     have hdrop:(frzL ds).drop i=d :: (frzL ds).drop (i + 1):=by
      rw [List.drop_eq_getElem_cons hlt]
      congr 1
      rw [List.getElem?_eq_getElem hlt] at hd
      exact Option.some.inj hd
     rw [hdrop] at ec
     unfold compD at ec
     refine .inr ⟨J1.go B' H' i d C.b0 C.bh im hd,fun x H'' y=>?_⟩
     obtain ⟨sy,ry⟩:=J1.yld B' H' i d x H'' C.b0 C.bh im hd y
     cases w:tgd d τb with
     | none=>rw [w] at ec; cases ec
     | some τ2 =>
      rw [w] at ec
      simp only at ec
      refine ⟨H1,Bx,B',τb,Pb,_,d,[],C.grow sy,ry,Vok.nil,?_⟩
      rw [w]
      intro H3 σ3 P3 I3 e3
      subst e3
      obtain ⟨b,eb,ec⟩:=bind_ok ec
      refine ⟨H1,Bx,B',τ2,P3,_,I3,?_⟩
      rw [eb]
      intro H4 B4 I4 s4 b4
      have re4:RepL K B4 No H4 es ys fe:=re.mono (sy.trans s4) b4 fun _ x=>x
      have ha4:H4 acc=some (.lst ys):=s4 _ _ (sy _ _ ha)
      cases b with
      | false =>
       rw [if_neg Bool.false_ne_true] at ec ⊢
       exact ⟨_,by omega,rfl,hlt,B4,τ2,P3,es,fe,rest,I4,ha4,re4,ndf,own,ec,ex,hna⟩
      | true =>
       rw [if_pos rfl] at ec ⊢
       obtain ⟨x',ex',ec⟩:=bind_ok ec
       refine ⟨H1,Bx,B4,τ2,P3,_,I4,?_⟩
       rw [ex']
       intro v H5 B5 fv I5 s5 b5 r5 k5
       by_cases hb:x'.hasBor=true
       ·rw [if_pos hb] at ec; cases ec
       ·rw [if_neg hb] at ec
        obtain ⟨rest',er',ec⟩:=bind_ok ec
        cases ec
        have hb:x'.hasBor=false:=by simpa using hb
        have ha5:H5 acc=some (.lst ys):=s5 _ _ ha4
        have re5:RepL K B5 No H5 es ys fe:=re4.mono s5 b5 fun _ x=>x
        have hlen:ys.length < sizeLine:=by
         rw [<- re.length,sizeLine_eq]
         have:=congrArg List.length ex
         simp at this
         omega
        refine ⟨ha5,hlen,_,by omega,rfl,hlt,?_⟩
        have Ih:=I5.hold k5
        have fdis:∀ a ∈ fv,a ∉ fe/\a ≠ acc:=fun a m=>⟨fun z=>(k5.own a m).2.2.2.2 (.inr z),fun z=>(k5.own a m).2.2.2.2 (.inl z)⟩
        have Ih2:SI K H1 Bx B5 H5 σ3 τ2 P3 (fun a=>a=acc ∨ a ∈ fe ++ fv):=Ih.anti fun a m=>by
         rcases m with m | m
         ·exact .inr (.inl m)
         ·rcases List.mem_append.mp m with m | m
          ·exact .inr (.inr m)
          ·exact .inl m
        have Iw:=Ih2.writeF (o' := .lst (ys ++ [v])) (.inl rfl) hacc ha5 trivial
        have kp:Keep H5 (upd H5 acc (.lst (ys ++ [v]))) [acc]:=⟨fun b u h n=>by rw [upd_ne (by simpa using n)]; exact h,fun b m=>by
         have:b=acc:=by simpa using m
         subst this
         exact ⟨_,ha5,trivial⟩⟩
        refine ⟨B5,τ2,P3,es ++ [x'],fe ++ fv,rest',Iw,upd_same,?_,List.nodup_append.mpr ⟨ndf,k5.nd,fun a h1 b h2 e=>(fdis b h2).1 (e ▸ h1)⟩,fun a m=>?_,er',by rw [ex]; simp,fun m=>?_⟩
        ·refine RepL.append (re5.keep kp fun a m z=>?_) (RepL.one ((r5.noBor hb).keep kp fun a m z=>?_))
         ·have:a=acc:=by simpa using z
          exact hna (this ▸ m)
         ·have:a=acc:=by simpa using z
          exact (fdis a m).2 this
        ·rcases List.mem_append.mp m with m | m
         ·exact own a m
         ·exact ⟨(k5.own a m).2.1,(fdis a m).2⟩
        ·rcases List.mem_append.mp m with m | m
         ·exact hna m
         ·exact (fdis acc m).2 rfl
    ·have e:i=(frzL ds).length:=by omega
     subst e
     rw [List.drop_length] at ec
     unfold compD at ec
     cases ec
     rw [List.append_nil] at ex
     subst ex
     refine .inl ⟨J1.stop B' H' C.b0 C.bh im,?_⟩
     have ro:RetOk K H1 Bx B' H' (.lst .own xs) (.ref acc) (acc :: fe):=⟨C.h0,C.b0,C.bh,C.nb,⟨acc,ys,fe,rfl,ha,re,rfl⟩,List.nodup_cons.mpr ⟨hna,ndf⟩,fun a m=>by
      rcases List.mem_cons.mp m with m | m
      ·subst m; exact ⟨(C.fr a (.inl rfl)).1,hacc,(C.fr a (.inl rfl)).2⟩
      ·exact ⟨(C.fr a (.inr m)).1,(own a m).1,(C.fr a (.inr m)).2⟩⟩
     obtain ⟨B2,I2,s2,k2,hb⟩:=I1.called k1 (S:=S) (fun a s=>s.2) ro
     by_cases hl:(fl || capOwn τ cap)=true
     ·rw [if_pos hl] at h
      exact h (.ref acc) H' B2 _ I2 C.h0 s2 (ro.rep.toBor ro.bh fun a o e=>(hb a o e).imp id fun z=>z.2) k2
     ·rw [if_neg hl] at h
      have sb:Same B' B2:=fun a o e=>(hb a o e).resolve_right fun z=>hl z.1.1
      exact h (.ref acc) H' B2 _ I2 C.h0 s2 (ro.rep.mono (Same.refl _) sb fun _ x=>x.elim) k2
   ·rw [if_neg hxl] at h; exact h.elim
variable {tg elt iter:Expr}{ifs:List Expr}{scope:Scope}{pos:Pos}{own:List Str}{cap:List (Str × Nat)}{it:SD->Res (Bool × List D)}{tgd:TGD}{tt:SD->Res Bool}{fe:SD->Res D}
theorem q_comp (ok:CompOk X scope own cap) (hc:X.calm=true) (hi:PI X tg iter (tMI X.K Y it)) (Bl:BlockOk X scope own cap tg ifs elt (tMG X.K tgd) (tMB X.K NoY tt) (tM X.K NoY fe)) (hs:∀ x,foldedSetIterable iter X.env x=pure x:=by intro _; rfl) :
  PE X (.ListComp elt [⟨tg,iter,ifs,0⟩] scope pos) (tM X.K Y (eComp it tgd tt fe own.length cap)) :=
 PE.imp (pe_comp ok hc hi Bl hs) fun σ H Q hq=>ex8 hq fun H0 B0 B τ P F I h=>comp_main I h
theorem s_setComp {i:Nat}{y:Str}{py spos:Pos} (hN:X.N.Nodup) (hi':X.N[i]?=some y) (hy:Loc X.env.scope y) (ok:CompOk X scope own cap) (hc:X.calm=true) (hi:PI X tg iter (tMI X.K Y it)) (Bl:BlockOk X scope own cap tg ifs elt (tMG X.K tgd) (tMB X.K NoY tt) (tM X.K NoY fe))
  (hsw:swapsWith (.ListComp elt [⟨tg,iter,ifs,0⟩] scope pos) (some (.Name y py)) spos.line X.env=pure true:=by rfl)
  (hf:X.fn y=true ∨ X.env.scope.names.lookup y=some .local:=by first | exact .inl rfl | exact .inr rfl) (hs:∀ x,foldedSetIterable iter X.env x=pure x:=by intro _; rfl) :
  PS X (.Assign [.Name y py] (.ListComp elt [⟨tg,iter,ifs,0⟩] scope pos) spos) (tMS X.K Y (sSet i (eComp it tgd tt fe own.length cap))):=by
 refine PS.imp (ps_setComp hN hi' hy ok hc hi Bl hsw hf hs) fun E σ H hq=>ex7 hq fun H0 B0 B τ P I h=>?_
 have key:tM X.K Y (eComp it tgd tt fe own.length cap) σ H (fun x H1=>gName i x σ H1 E.nx):=exprS I h fun d v H1 B1 fp _ I1 _ _ r1 k1 h1=>by
  unfold setD at h1
  split at h1
  ·exact h1.elim
  ·rename_i hb
   obtain ⟨P',I',_⟩:=I1.set i (r1.noBor (by simpa using hb)) k1
   exact h1 B1 H1 _ P' ⟨I',Same.refl _,Imm.refl _⟩
 obtain ⟨H0',B0',B',τ',P',F',I',h'⟩:=key
 exact comp_main I' h'
def bTrue (_:SD):Res Bool := .ok true
theorem qif_nil:PIf X [] (tMB X.K Y bTrue):=fun pins s σ H Q I ⟨H0,B0,B,τ,P,F,I',h⟩=>pif_nil pins s σ H Q I (h H B I' (Same.refl _) (Same.refl _))
theorem qif_one {c:Expr}{gc:SD->Res Bool} (h:PT X c (tMB X.K Y gc)):PIf X [c] (tMB X.K Y gc):=pif_one h
end
section
variable {K:PySem.W.Frag}{Y:XY}{H0 B0 B H:Hp}{σ:L2.St}{τ:SD}{P:List Addr}{F:Addr->Prop}{X:Cx}{pos p:Pos}{e:Expr}{fe:SD->Res D}
def tyN:D->String | .non=>"NoneType" | .bl _=>"bool" | .int _=>"int" | .str _=>"str" | .tup _=>"tuple" | .lst _ _=>"list" | .dct _ _ _ _=>"dict" | .exc _=>""
def D.isExc:D->Bool | .exc _=>true | _=>false
theorem call_isinstS {T:String}:CallR X (.builtin "isinstance") (fun xs H Q=>∃ x t b,xs=[x,.ty T]/\(TyOf X.K H x t ∨ (∃ a vs,x=.ref a/\SqT X.K H a vs/\t=.type "tuple") ∨ (∃ a vs,x=.ref a/\SqL X.K H a vs/\t=.type "list"))/\PySem.W.kitOne X.K t (.type T)=some b/\Q (.bl b) H):=by
 intro pins s σ H xs us Q I r h
 obtain ⟨x,t,b,rfl,ty,e,q⟩:=h
 obtain ⟨u,v,rfl,ru,rv⟩:=vals2 r
 cases rv
 rcases ty with ty | ⟨a,vs,rfl,hq,rfl⟩ | ⟨a,vs,rfl,hq,rfl⟩
 ·exact isinst_ok I ru ty e fun tk=>⟨.bl b,H,I.tok tk,rfl,q⟩
 ·cases ru
  obtain ⟨its,_,⟨o,h1,h2,_⟩,_⟩:=I.tuple hq
  exact PySem.W.kia_one PySem.W.kitx_tuple I.kIn ⟨o,h1,h2⟩ e (fun z=>nomatch z) fun tk=>⟨.bl b,H,I.tok tk,rfl,q⟩
 ·cases ru
  obtain ⟨its,_,pl,_⟩:=I.list hq
  obtain ⟨o,h1,h2,_⟩:=pl.isList
  exact PySem.W.kia_one PySem.W.kitx_list I.kIn ⟨o,h1,h2⟩ e (fun z=>nomatch z) fun tk=>⟨.bl b,H,I.tok tk,rfl,q⟩
theorem tyOf_rep {d:D}{v:V}{f:List Addr} (I:SI K H0 B0 B H σ τ P F) (r:Rep K B (· ∈ P) H d v f) (ne:d.isExc=false):TyOf K H v (.type (tyN d)) ∨ (∃ a vs,v=.ref a/\SqT K H a vs/\(Value.type (tyN d))=.type "tuple") ∨ (∃ a vs,v=.ref a/\SqL K H a vs/\(Value.type (tyN d))=.type "list"):=by
 cases d with
 | non=>rw [r.1]; exact .inl .non
 | bl b=>rw [r.1]; exact .inl (.bl b)
 | int b=>rw [r.1]; exact .inl (.int b)
 | str b=>rw [r.1]; exact .inl (.str b)
 | exc _=>cases ne
 | tup xs=>obtain ⟨a,vs,rfl,q,_⟩:=r; exact .inr (.inl ⟨a,vs,rfl,SqT.of q,rfl⟩)
 | lst t xs =>
  obtain ⟨a,vs,g,rfl,q,_⟩:=r.lst I
  exact .inr (.inr ⟨a,vs,rfl,q,rfl⟩)
 | dct t k ks xs =>
  have:∃ a vs,v=.ref a/\DictAt H a k ks vs:=by
   cases t with
   | len a=>obtain ⟨vs,g,e,q,_⟩:=r; exact ⟨a,vs,e,q⟩
   | own=>obtain ⟨a,vs,g,e,q,_⟩:=r; exact ⟨a,vs,e,q⟩
   | bor=>obtain ⟨a,vs,e,q,_⟩:=r; exact ⟨a,vs,e,q.elim (fun y=>y.2) fun y=>y.mono I.bh⟩
   | frz=>obtain ⟨a,vs,e,q,_⟩:=r; exact ⟨a,vs,e,q.mono I.bh⟩
  obtain ⟨a,vs,rfl,⟨_,kvs,ep,q,_⟩ | ⟨_,kvs,ep,q,_⟩⟩:=this
  ·exact .inl (.dK q)
  ·exact .inl (.dT q)
def isB:D->Bool | .bl _=>true | _=>false
def isI:D->Bool | .bl _=>true | .int _=>true | _=>false
def isL:D->Bool | .lst _ _=>true | _=>false
def isTp:D->Bool | .tup _=>true | _=>false
def InstOf (T:String) (g:D->Bool):Prop := ∀ (K:PySem.W.Frag) (d:D),d.isExc=false->PySem.W.kitOne K (.type (tyN d)) (.type T)=some (g d)
theorem inst_bool:InstOf "bool" isB:=fun K d h=>by cases d <;> first | rfl | cases h
theorem inst_int:InstOf "int" isI:=fun K d h=>by cases d <;> first | rfl | cases h
theorem inst_list:InstOf "list" isL:=fun K d h=>by cases d <;> first | rfl | cases h
theorem inst_tuple:InstOf "tuple" isTp:=fun K d h=>by cases d <;> first | rfl | cases h
def instD (g:D->Bool) (d:D):Res D:=if d.isExc=true then .bad else .ok (.bl (g d))
theorem q_inst {T:String}{g:D->Bool}{ty:Expr}{pt:Pos}{x:Str} (hI:InstOf T g) (hg:Gl X "isinstance") (hm:X.mg "isinstance" = none) (he:PE X e (tM X.K Y fe)) (hgT:Gl X x) (hmT:X.mg x=none) (hbT:bootBuiltins x=some (.type T))
  (hs:starEach [e,.Name x pt] X.env=(false,eval e X.env) :: starEach [.Name x pt] X.env:=by rfl) (hs2:starEach [.Name x pt] X.env=(false,eval (.Name x pt) X.env) :: starEach [] X.env:=by rfl) (hpl:(backTo pos (starEach [.Name x pt] X.env)).any (·.1)=false:=by rfl) (hn:x ≠ "__name__" := by decide) (hdb:(x == ("__debug__" : Str))=false:=by decide) :
  PE X (.Call (.Name "isinstance" p) [e,.Name x pt] [] pos) (tM X.K Y (eUn (instD g) fe)):=by
 refine PE.imp (pe_callB (call_isinstS (T:=T)) hg hm (by decide +kernel) (pa_cons he (pa_cons (pe_bltn hgT hmT hbT (show RelV (.ty T) _ from rfl) hn hdb) pa_nil hs2) hs) (he:=hs) (hpl:=hpl)) fun σ H Q hq=>ex8 hq fun H0 B0 B τ P F I h=>?_
 refine tM.seq (g:=instD g) I h fun d v H1 B1 fp _ I1 s1 b1 r1 k1 h1=>?_
 unfold instD at h1
 split at h1
 ·exact h1.elim
 ·rename_i hx
  have hx:d.isExc=false:=by simpa using hx
  exact ⟨v,_,_,rfl,tyOf_rep I1 r1 hx,hI _ d hx,Out.here h1 I1 ⟨rfl,rfl⟩⟩
def intsOf:List D->Option (List Int)
 | []=>some []
 | .int i :: r=>(intsOf r).map (i :: ·)
 | _ :: _=>none
theorem intsOf_map (ns:List Int):intsOf (ns.map D.int)=some ns:=by
 induction ns with
 | nil=>rfl
 | cons n r ih=>rw [List.map_cons,intsOf,ih]; rfl
theorem intsOf_eq:∀ {xs:List D}{ns:List Int},intsOf xs=some ns->xs=ns.map D.int
 | [],ns,h=>by cases h; rfl
 | .int i :: r,ns,h=>by
  unfold intsOf at h
  cases e:intsOf r with
  | none=>rw [e] at h; cases h
  | some m=>rw [e] at h; cases h; rw [List.map_cons,<- intsOf_eq e]
 | .non :: _,_,h=>by cases h
 | .bl _ :: _,_,h=>by cases h
 | .str _ :: _,_,h=>by cases h
 | .tup _ :: _,_,h=>by cases h
 | .lst _ _ :: _,_,h=>by cases h
 | .dct _ _ _ _ :: _,_,h=>by cases h
 | .exc _ :: _,_,h=>by cases h
theorem repL_ints {S:Addr->Prop}:∀ {ns:List Int}{vs:List V}{f:List Addr},RepL K B S H (ns.map D.int) vs f->vs=ns.map V.int/\f=[]
 | [],vs,f,r=>r
 | n :: ns,vs,f,r=>by
  obtain ⟨v,w,f1,f2,rfl,⟨rfl,rfl⟩,r2,rfl⟩:=r
  obtain ⟨rfl,rfl⟩:=repL_ints r2
  exact ⟨rfl,rfl⟩
theorem ints_repL {S:Addr->Prop}:∀ (ns:List Int),RepL K B S H (ns.map D.int) (ns.map V.int) []
 | []=>⟨rfl,rfl⟩
 | n :: ns=>⟨_,_,[],[],rfl,⟨rfl,rfl⟩,ints_repL ns,rfl⟩
def sortI (ns:List Int):List Int:=ns.mergeSort (fun a b=>decide (a <= b))
theorem sortI_perm (ns:List Int):(sortI ns).Perm ns:=List.mergeSort_perm ns _
theorem sortI_sorted (ns:List Int):(sortI ns).Pairwise (· <= ·):=by
 have h:=List.pairwise_mergeSort (le:=fun a b:Int=>decide (a <= b)) (fun a b c h1 h2=>by simp at *; omega) (fun a b=>by simp; omega) ns
 exact h.imp fun h=>by simpa using h
theorem sorted_unique:∀ {l m:List Int},l.Perm m->l.Pairwise (· <= ·)->m.Pairwise (· <= ·)->l=m
 | [],m,hp,_,_=>(List.Perm.nil_eq hp)
 | x :: r,m,hp,h1,h2=>by
  match m,hp,h2 with
  | [],hp,_=>exact absurd hp.length_eq (by simp)
  | y :: r',hp,h2 =>
   obtain ⟨a1,a2⟩:=List.pairwise_cons.mp h1
   obtain ⟨b1,b2⟩:=List.pairwise_cons.mp h2
   have e:x=y:=by
    have m1:x ∈ y :: r' := hp.mem_iff.mp List.mem_cons_self
    have m2:y ∈ x :: r:=hp.mem_iff.mpr List.mem_cons_self
    rcases List.mem_cons.mp m1 with q | q
    ·exact q
    ·rcases List.mem_cons.mp m2 with q' | q'
     ·exact q'.symm
     ·have:=b1 x q
      have:=a1 y q'
      omega
   subst e
   rw [sorted_unique ((List.perm_cons _).mp hp) a2 b2]
def sortedD:List D->Res D
 | [.lst _ xs]=>match intsOf xs with | some ns=>if ns.length < 64 then .ok (.lst .own ((sortI ns).map D.int)) else .bad | none=>.bad
 | _=>.bad
theorem d_sorted:CallD K Y (fun xs H Q=>∃ (a:Addr) (ns:List Int),xs=[.ref a]/\SqL K H a (ns.map V.int)/\ns.length < 64/\∀ (p:Addr) (ns':List Int),H p=none->ns'.Perm ns->ns'.Pairwise (· <= ·)->Q (.ref p) (upd H p (.lst (ns'.map V.int)))) sortedD:=by
 intro H0 B0 B H σ τ P F ds vs f Q I r k h
 unfold sortedD at h
 split at h
 ·obtain ⟨v,rfl,r'⟩:=repL1 r
  obtain ⟨a,ws,g,rfl,q,l,s⟩:=r'.lst I
  split at h
  ·rename_i ns e
   split at h
   ·rename_i hl
    have ex:=intsOf_eq e
    subst ex
    obtain ⟨rfl,rfl⟩:=repL_ints l
    refine ⟨a,ns,rfl,sqL_of q,hl,fun p ns' hp h1 h2=>?_⟩
    have e2:ns'=sortI ns:=sorted_unique (h1.trans (sortI_perm ns).symm) h2 (sortI_sorted ns)
    subst e2
    exact Out.newL h I (ints_repL _) Vok.nil hp
   ·exact h.elim
  ·exact h.elim
 ·exact h.elim
end
def keyF:D->Option Key | .int i=>some (.inl i) | .str x=>some (.inr x) | _=>none
def keyFs:List D->Option (List Key)
 | []=>some []
 | d :: r=>(keyF d).bind fun k=>(keyFs r).map (k :: ·)
def keyK:D->Option KT
 | .int i=>some (.inl (.inl i))
 | .str x=>some (.inl (.inr x))
 | .tup ds=>(keyFs ds).map .inr
 | _=>none
def KT.kind:KT->Bool | .inl _=>false | .inr _=>true
def lookD:List KT->List D->KT->Option D
 | k :: ks,d :: ds,q=>if k=q then some d else lookD ks ds q
 | _,_,_=>none
def hasK (ks:List KT) (q:KT):Bool:=ks.any fun k=>decide (k=q)
def putKs (ks:List KT) (q:KT):List KT:=if hasK ks q=true then ks else ks ++ [q]
def replD:List KT->List D->KT->D->List D
 | k :: ks,d :: ds,q,x=>(if k=q then x else d) :: replD ks ds q x
 | _,ds,_,_=>ds
def putVs (ks:List KT) (ds:List D) (q:KT) (d:D):List D:=if hasK ks q=true then replD ks ds q d else ds ++ [d]
section
variable {K:PySem.W.Frag}{Y:XY}{H0 B0 B H:Hp}{σ:L2.St}{τ:SD}{P:List Addr}{F:Addr->Prop}{X:Cx}{pos:Pos}
theorem Rep.dc (I:SI K H0 B0 B H σ τ P F) {t:Tg}{k:Bool}{ks:List KT}{xs:List D}{v:V}{f:List Addr} (r:Rep K B (· ∈ P) H (.dct t k ks xs) v f):∃ a vs g,v=.ref a/\DictAt H a k ks vs/\RepL K B (· ∈ P) H xs vs g/\List.Sublist g f:=by
 cases t with
 | len a =>
  obtain ⟨vs,g,e,q,r,z⟩:=r
  subst z
  exact ⟨a,vs,g,e,q,r,List.sublist_cons_self _ _⟩
 | own =>
  obtain ⟨a,vs,g,e,q,r,z⟩:=r
  subst z
  exact ⟨a,vs,g,e,q,r,List.sublist_cons_self _ _⟩
 | bor =>
  obtain ⟨a,vs,e,q,r,z⟩:=r
  subst z
  exact ⟨a,vs,[],e,q.elim (fun y=>y.2) fun y=>y.mono I.bh,r,List.Sublist.refl _⟩
 | frz =>
  obtain ⟨a,vs,e,q,r,z⟩:=r
  subst z
  exact ⟨a,vs,[],e,q.mono I.bh,r.mono (Same.refl _) (Same.refl _) (fun _ x=>x.elim),List.Sublist.refl _⟩
theorem keyFs_rep {S:Addr->Prop}:∀ {ds:List D}{k:List Key}{vs:List V}{f:List Addr},keyFs ds=some k->RepL K B S H ds vs f->vs=k.map kV
 | [],k,vs,f,h,r=>by cases h; exact r.1
 | d :: ds,k,vs,f,h,r=>by
  obtain ⟨v,w,f1,f2,rfl,r1,r2,_⟩:=r
  unfold keyFs at h
  cases e1:keyF d with
  | none=>rw [e1] at h; cases h
  | some q =>
   rw [e1] at h
   cases e2:keyFs ds with
   | none=>rw [e2] at h; cases h
   | some m =>
    rw [e2] at h
    cases h
    rw [keyFs_rep e2 r2,List.map_cons]
    congr 1
    cases d <;> first | (cases e1; exact r1.1) | cases e1
theorem keyK_l {S:Addr->Prop}{d:D}{k:Key}{v:V}{f:List Addr} (h:keyK d=some (.inl k)) (r:Rep K B S H d v f):v=kV k:=by
 cases d with
 | int i=>cases h; exact r.1
 | str i=>cases h; exact r.1
 | tup ds =>
  have h:(keyFs ds).map Sum.inr=some (Sum.inl k):=h
  cases e:keyFs ds <;> rw [e] at h <;> cases h
 | _=>cases h
theorem keyK_r {S:Addr->Prop}{d:D}{k:List Key}{v:V}{f:List Addr} (h:keyK d=some (.inr k)) (r:Rep K B S H d v f):∃ b,v=.ref b/\H b=some (.tup (k.map kV)):=by
 cases d with
 | tup ds =>
  have h:(keyFs ds).map Sum.inr=some (Sum.inr k):=h
  cases e:keyFs ds with
  | none=>rw [e] at h; cases h
  | some m =>
   rw [e] at h
   cases h
   obtain ⟨a,vs,rfl,q,rl⟩:=r
   rw [keyFs_rep e rl] at q
   exact ⟨a,rfl,q⟩
 | int i=>cases h
 | str i=>cases h
 | _=>cases h
theorem look_some {κ:Type} [DecidableEq κ] (ι:κ->KT) (inj:∀ a b,ι a=ι b->a=b) {S:Addr->Prop}:∀ {kvs:List (κ × V)}{xs:List D}{f:List Addr}{k:κ},RepL K B S H xs (kvs.map (·.2)) f ->
  match lookD (kvs.map fun p=>ι p.1) xs (ι k) with
  | some d=>∃ v g,valV kvs k=some v/\Rep K B S H d v g/\List.Sublist g f
  | none=>valV kvs k=none
 | [],xs,f,k,r=>by cases xs <;> rfl
 | p :: kvs,[],f,k,r=>by obtain ⟨h,_⟩:=r; cases h
 | p :: kvs,d :: ds,f,k,r=>by
  obtain ⟨v,w,f1,f2,e,r1,r2,rfl⟩:=r
  rw [List.map_cons] at e
  cases e
  rw [List.map_cons,lookD]
  by_cases h:p.1=k
  ·rw [if_pos (congrArg ι h)]
   exact ⟨_,f1,valV_pos h,r1,List.sublist_append_left _ _⟩
  ·rw [if_neg fun z=>h (inj _ _ z)]
   have ih:=look_some ι inj (k:=k) r2
   split at ih
   ·rename_i d' e'
    obtain ⟨v',g,h1,h2,h3⟩:=ih
    exact ⟨v',g,by rw [valV_neg h]; exact h1,h2,h3.trans (List.sublist_append_right _ _)⟩
   ·rename_i e'
    rw [valV_neg h]
    exact ih
theorem dget_ok {a:Addr}{k:Bool}{ks:List KT}{xs:List D}{vs:List V}{g:List Addr}{q:KT}{dk:D}{y:V}{f:List Addr} (hd:DictAt H a k ks vs) (r:RepL K B (· ∈ P) H xs vs g) (hk:keyK dk=some q) (rk:Rep K B (· ∈ P) H dk y f) (hq:q.kind=k) :
  match lookD ks xs q with
  | some d=>∃ v g',DGet H a y (some v)/\Rep K B (· ∈ P) H d v g'/\List.Sublist g' g
  | none=>DGet H a y none:=by
 rcases hd with ⟨rfl,kvs,ep,ha,rfl,rfl⟩ | ⟨rfl,kvs,ep,ha,rfl,rfl⟩
 ·cases q with
  | inr q=>cases hq
  | inl q =>
   have ev:=keyK_l hk rk
   subst ev
   have ih:=look_some Sum.inl (fun a b h=>Sum.inl.inj h) (k:=q) r
   split at ih
   ·rename_i d e
    rw [e]
    obtain ⟨v,g',h1,h2,h3⟩:=ih
    exact ⟨v,g',h1 ▸ DGet.k ⟨ep,ha⟩,h2,h3⟩
   ·rename_i e
    rw [e]
    exact ih ▸ DGet.k ⟨ep,ha⟩
 ·cases q with
  | inl q=>cases hq
  | inr q =>
   obtain ⟨b,rfl,hb⟩:=keyK_r hk rk
   have ih:=look_some Sum.inr (fun a b h=>Sum.inr.inj h) (k:=q) r
   split at ih
   ·rename_i d e
    rw [e]
    obtain ⟨v,g',h1,h2,h3⟩:=ih
    exact ⟨v,g',h1 ▸ DGet.t ⟨ep,ha⟩ hb,h2,h3⟩
   ·rename_i e
    rw [e]
    exact ih ▸ DGet.t ⟨ep,ha⟩ hb
def eDict (k:Bool) (_:SD):Res D := .ok (.dct .own k [] [])
theorem newDict {Q:VK}{k:Bool}{o:HO}{pa:Addr} (h:Out K H0 B0 B H σ τ P F Q (.dct .own k [] [])) (I:SI K H0 B0 B H σ τ P F) (hp:H pa=none) (ho:DictAt (upd H pa o) pa k [] []):Q (.ref pa) (upd H pa o):=by
 have s:=sameUpd' (o:=o) hp
 obtain ⟨n1,n2,n3,n4⟩:=I.newAt hp
 refine h (.ref pa) _ B [pa] (I.grow s) s (Same.refl _) ⟨pa,[],[],rfl,ho,⟨rfl,rfl⟩,rfl⟩ ⟨by simp,fun a m=>?_⟩
 have e:a=pa:=by simpa using m
 subst e
 exact ⟨n1,n2,(by rw [upd_same]; exact Option.some_ne_none _),n3,n4⟩
theorem q_dictT:PE X (.Dict [] [] pos) (tM X.K Y (eDict true)):=PE.imp pe_dnewT fun σ H Q ⟨H0,B0,B,τ,P,F,I,h⟩ p hp=>newDict h I hp (.inr ⟨rfl,[],0,upd_same,rfl,rfl⟩)
theorem q_dictK:PE X (.Dict [] [] pos) (tM X.K Y (eDict false)):=PE.imp pe_dnewK fun σ H Q ⟨H0,B0,B,τ,P,F,I,h⟩ p hp=>newDict h I hp (.inl ⟨rfl,[],0,upd_same,rfl,rfl⟩)
variable {o i:Expr}{fo fi:SD->Res D}
def dgetD (dd dk:D):Res D:=match dd with
 | .dct _ k ks vs=>match keyK dk with
  | some q=>if q.kind=k then (match lookD ks vs q with | some d=>.ok d | none=>.bad) else .bad
  | none=>.bad
 | _=>.bad
theorem q_dget (hu:X.A.units + 1 < cLine) (ho:PE X o (tM X.K Y fo)) (hi:PE X i (tM X.K Y fi)) (hs:NoSl i):PE X (.Subscript o i pos) (tM X.K Y (eBin dgetD fo fi)) :=
 PE.imp (pe_dget hu ho hi hs) fun σ H Q hq=>ex8 hq fun H0 B0 B τ P F I h=>tM.seq2 I h fun d1 d2 v1 v2 H2 B2 f1 f2 _ _ I2 _ _ r1 r2 k h2=>by
  unfold dgetD at h2
  split at h2
  ·split at h2
   ·rename_i q hk
    split at h2
    ·rename_i hq
     obtain ⟨a,vs,g,rfl,hd,rl,sg⟩:=r1.dc I2
     have key:=dget_ok hd rl hk r2 hq
     split at key
     ·rename_i d e
      rw [e] at h2
      obtain ⟨v,g',k1,k2,k3⟩:=key
      exact ⟨a,v,rfl,k1,Out.hereO h2 I2 k2 (k.left.sub (k3.trans sg))⟩
     ·rename_i e
      rw [e] at h2
      exact h2.elim
    ·exact h2.elim
   ·exact h2.elim
  ·exact h2.elim
theorem Rep.ownD {t:Tg}{k:Bool}{ks:List KT}{xs:List D}{v:V}{fp:List Addr}{S:Addr->Prop} (ht:t.isOwn=true) (r:Rep K B S H (.dct t k ks xs) v fp) :
  ∃ a vs f,v=.ref a/\DictAt H a k ks vs/\RepL K B S H xs vs f/\fp=a :: f/\∀ {B' H':Hp}{S':Addr->Prop}{ks':List KT}{xs':List D}{vs':List V}{f':List Addr},DictAt H' a k ks' vs'->RepL K B' S' H' xs' vs' f'->Rep K B' S' H' (.dct t k ks' xs') (.ref a) (a :: f'):=by
 cases t with
 | own=>obtain ⟨a,vs,f,e,q,r,z⟩:=r; exact ⟨a,vs,f,e,q,r,z,fun q' r'=>⟨a,_,_,rfl,q',r',rfl⟩⟩
 | len a=>obtain ⟨vs,f,e,q,r,z⟩:=r; exact ⟨a,vs,f,e,q,r,z,fun q' r'=>⟨_,_,rfl,q',r',rfl⟩⟩
 | bor=>cases ht
 | frz=>cases ht
def ownDc (τ:SD) (i:Nat):Option (Tg × Bool × List KT × List D):=match τ[i]? with | some (some (.dct t k ks xs))=>if t.isOwn=true then some (t,k,ks,xs) else none | _=>none
theorem ownDc_some {τ:SD}{i:Nat}{t:Tg}{k:Bool}{ks:List KT}{xs:List D} (h:ownDc τ i=some (t,k,ks,xs)):τ[i]?=some (some (.dct t k ks xs))/\t.isOwn=true:=by
 unfold ownDc at h
 split at h
 ·rename_i e
  split at h
  ·rename_i ht; cases h; exact ⟨e,ht⟩
  ·cases h
 ·cases h
theorem hasK_map {κ:Type} [DecidableEq κ] (ι:κ->KT) (inj:∀ a b,ι a=ι b->a=b) (k:κ):∀ kvs:List (κ × V),hasK (kvs.map fun p=>ι p.1) (ι k)=kvs.any fun kv=>decide (kv.1=k)
 | []=>rfl
 | p :: r=>by
  have ih:=hasK_map ι inj k r
  unfold hasK at ih ⊢
  rw [List.map_cons,List.any_cons,List.any_cons,ih]
  congr 1
  by_cases h:p.1=k
  ·simp [h]
  ·rw [decide_eq_false h,decide_eq_false fun z=>h (inj _ _ z)]
theorem put_ok {κ:Type} [DecidableEq κ] (ι:κ->KT) (inj:∀ a b,ι a=ι b->a=b) {kvs:List (κ × V)}{xs:List D}{f fp:List Addr}{k:κ}{d:D}{v:V} (r:RepL K B No H xs (kvs.map (·.2)) f) (rv:Rep K B No H d v fp) (hp:hasK (kvs.map fun p=>ι p.1) (ι k)=true->d.pure=true) :
  putKs (kvs.map fun p=>ι p.1) (ι k)=(putK kvs k v).map (fun p=>ι p.1)/\∃ f',RepL K B No H (putVs (kvs.map fun p=>ι p.1) xs (ι k) d) ((putK kvs k v).map (·.2)) f'/\(∀ b ∈ f',b ∈ f ∨ b ∈ fp)/\(f.Nodup->fp.Nodup->(∀ b ∈ fp,b ∉ f)->f'.Nodup):=by
 unfold putKs putVs putK
 rw [hasK_map ι inj k kvs] at hp ⊢
 by_cases h:(kvs.any fun kv=>decide (kv.1=k))=true
 ·rw [if_pos h,if_pos h,if_pos h]
  have hpu:=hp h
  have hfp:fp=[]:=pure_fp.1 d hpu rv
  subst hfp
  refine ⟨?_,?_⟩
  ·rw [List.map_map]
   refine List.map_congr_left fun p _=>?_
   show _=ι (if p.1=k then (p.1,v) else p).1
   split <;> rfl
  ·have key:∀ {kvs:List (κ × V)}{xs:List D}{f:List Addr},RepL K B No H xs (kvs.map (·.2)) f->∃ f',RepL K B No H (replD (kvs.map fun p=>ι p.1) xs (ι k) d) ((kvs.map fun kv=>if kv.1=k then (kv.1,v) else kv).map (·.2)) f'/\List.Sublist f' f:=by
    intro kvs
    induction kvs with
    | nil=>intro xs f r; cases xs with
     | nil=>exact ⟨f,r,List.Sublist.refl _⟩
     | cons x xs=>obtain ⟨_,_,_,_,e,_⟩:=r; cases e
    | cons p kvs ih =>
     intro xs f r
     cases xs with
     | nil=>obtain ⟨e,_⟩:=r; cases e
     | cons x xs =>
      obtain ⟨u,w,f1,f2,e,r1,r2,rfl⟩:=r
      rw [List.map_cons] at e
      cases e
      obtain ⟨g,h1,h2⟩:=ih r2
      rw [List.map_cons,List.map_cons,List.map_cons,replD]
      by_cases hk:p.1=k
      ·rw [if_pos hk,if_pos (congrArg ι hk)]
       exact ⟨g,⟨v,_,[],g,rfl,rv,h1,rfl⟩,h2.trans (List.sublist_append_right _ _)⟩
      ·rw [if_neg hk,if_neg fun z=>hk (inj _ _ z)]
       exact ⟨f1 ++ g,⟨_,_,f1,g,rfl,r1,h1,rfl⟩,List.Sublist.append (List.Sublist.refl _) h2⟩
   obtain ⟨g,h1,h2⟩:=key r
   exact ⟨g,h1,fun b m=>.inl (h2.subset m),fun n _ _=>n.sublist h2⟩
 ·rw [if_neg h,if_neg h,if_neg h]
  refine ⟨by rw [List.map_append]; rfl,f ++ fp,?_,fun b m=>List.mem_append.mp m,fun n1 n2 n3=>List.nodup_append.mpr ⟨n1,n2,fun a ha b hb e=>n3 b hb (e ▸ ha)⟩⟩
  rw [List.map_append]
  exact r.append (RepL.one rv)
theorem SI.mutD {i:Nat}{t:Tg} (ht:t.isOwn=true) {k:Bool}{ks ks':List KT}{xs xs':List D}{gp:List Addr}{a:Addr}{o':HO} (I:SI K H0 B0 B H σ τ P No) (hi:τ[i]?=some (some (.dct t k ks xs))) (ev:σ[i]?=some (some (.ref a))) (kv:Vok H0 B H P No gp) (mu:∃ o,H a=some o/\mutO o)
  (items:∀ vs f,DictAt H a k ks vs->RepL K B No H xs vs f->∃ vs' f',DictAt (upd H a o') a k ks' vs'/\RepL K B No H xs' vs' f'/\(∀ b ∈ f',b ∈ f ∨ b ∈ gp)/\(f.Nodup->(∀ b ∈ gp,b ∉ f)->f'.Nodup)) :
  ∃ P',Aft K H0 B0 B H B (upd H a o') σ (τ.set i (some (.dct t k ks' xs'))) P' := by
 have hi':i < τ.length:=(List.getElem?_eq_some_iff.mp hi).1
 obtain ⟨A,f,C,e,h1,h2⟩:=I.rep.cut hi'
 obtain ⟨v,e1,r1⟩:=h1 _ hi
 rw [ev] at e1
 cases e1
 obtain ⟨a',ws,g,ea,hq,rl,ef,back⟩:=r1.ownD ht
 cases ea
 subst ef
 have nd0:=I.nd
 rw [e] at nd0
 have ndf:(a :: g).Nodup:=(nd0.sublist (List.sublist_append_left _ _)).sublist (List.sublist_append_right _ _)
 have gdis:∀ b ∈ gp,b ∉ a :: g:=fun b m z=>(kv.own b m).2.2.2.1 (by rw [e]; exact sublist_mid _ _ _ b z)
 obtain ⟨vs',f',dq',r',s',n'⟩:=items ws g hq rl
 obtain ⟨na,ng⟩:=List.nodup_cons.mp ndf
 have hna:a ∉ f' := fun m=>(s' a m).elim na fun z=>gdis a z List.mem_cons_self
 have es:σ.set i (some (.ref a))=σ:=by
  refine List.ext_getElem? fun k=>?_
  by_cases hk:k=i
  ·subst hk
   rw [List.getElem?_set_self (List.getElem?_eq_some_iff.mp ev).1,ev]
  ·rw [List.getElem?_set_ne (Ne.symm hk)]
 have kp:Keep H (upd H a o') [a]:=⟨fun b o h n=>by rw [upd_ne (by simpa using n)]; exact h,fun b m=>by
  have:b=a:=by simpa using m
  subst this
  exact mu⟩
 have kpf:Keep H (upd H a o') (a :: g):=⟨fun b o h n=>kp.keep b o h (fun z=>n (List.mem_cons.mpr (.inl (List.mem_singleton.mp z)))),fun b m=>I.rep.own b (by rw [e]; exact sublist_mid _ _ _ b m)⟩
 have key:=I.put (i:=i) (H1:=upd H a o') (d' := .dct t k ks' xs') (v' := .ref a) (f' := a :: f') hi' e h2 kpf (back dq' (r'.keep kp fun b m=>by
   have:b ≠ a:=fun z=>hna (z ▸ m)
   simpa using this)) (List.nodup_cons.mpr ⟨hna,n' ng fun b m z=>gdis b m (List.mem_cons_of_mem _ z)⟩) fun b m=>?_
 ·rw [es] at key
  exact ⟨_,key,Same.refl _,fun b o h n=>kp.imm h n⟩
 ·rcases List.mem_cons.mp m with q | q
  ·exact .inl (by simp [q])
  ·rcases s' b q with z | z
   ·exact .inl (List.mem_cons_of_mem _ z)
   ·obtain ⟨a1,a2,a3,a4,a5⟩:=kv.own b z
    exact .inr (.inr ⟨a4,a1,a2,a5⟩)
def sDput (i:Nat) (fk fv:SD->Res D) (τ:SD):Fl:=(fv τ).toFl τ fun d=>match ownDc τ i with
 | some (t,k,ks,xs)=>(fk τ).toFl τ fun dk=>match keyK dk with
  | some q=>if q.kind=k/\d.hasBor=false/\ks.length < 16777216/\(hasK ks q=true->d.pure=true) then .nx (τ.set i (some (.dct t k (putKs ks q) (putVs ks xs q d)))) else .bad
  | none=>.bad
 | none=>.bad
theorem s_dput (i:Nat) {x:Str}{p1 pos':Pos}{ke value:Expr}{fk fv:SD->Res D} (hu:X.A.units + 1 < cLine) (hk:PE X ke (tM X.K Y fk)) (hv:PE X value (tM X.K Y fv)) (hN:X.N[i]?=some x:=by rfl) (hvi:Vis X.env.scope x:=by first | exact Or.inl rfl | exact Or.inr (Or.inl rfl) | exact Or.inr (Or.inr rfl)) (hd:(x == ("__debug__" : Str))=false:=by decide) (hcd:(x == ("__classdict__" : Str))=false:=by decide)
  (hs:swapsWith value (some (.Subscript (.Name x p1) ke pos')) pos.line X.env=pure false:=by rfl):PS X (.Assign [.Subscript (.Name x p1) ke pos'] value pos) (tMS X.K Y (sDput i fk fv)):=by
 refine PS.imp (ps_dput hu (pe_var hN hvi hd hcd) hk hv hs) fun E σ H hq=>ex7 hq fun H0 B0 B τ P I h=>?_
 refine exprS I h fun d v H1 B1 fp _ I1 s1 b1 r1 k1 h1=>?_
 cases z:ownDc τ i with
 | none=>rw [z] at h1; exact h1.elim
 | some t =>
  obtain ⟨t,k,ks,xs⟩:=t
  rw [z] at h1
  obtain ⟨hi,ht⟩:=ownDc_some z
  obtain ⟨w,f,e1,r2,sf⟩:=I1.rep.get hi
  obtain ⟨a,ws,g,rfl,dq,rl,ef,_⟩:=r2.ownD ht
  refine ⟨.ref a,e1,?_⟩
  refine ⟨H0,B0,B1,τ,P,_,I1.hold k1,?_⟩
  simp only at h1
  cases y:fk τ with
  | exn C=>rw [y] at h1; exact fun H2 B2 I2 s2 b2=>h1 B2 H2 σ P (Aft.grow (I2.anti fun _ x=>x.elim) b2 s2)
  | bad=>rw [y] at h1; exact h1
  | ok dk =>
   rw [y] at h1
   intro vk H2 B2 fq I2 s2 b2 rk kk
   have I3:SI X.K H0 B0 B2 H2 σ τ P No:=I2.anti fun _ x=>x.elim
   have h2:=GoalS.later h1 (Aft.grow I3 b2 s2)
   simp only [Res.toFl] at h2
   cases hkk:keyK dk with
   | none=>rw [hkk] at h2; exact h2.elim
   | some q =>
    rw [hkk] at h2
    simp only at h2
    split at h2
    ·rename_i hc
     obtain ⟨c1,c2,c3,c4⟩:=hc
     have kv:Vok H0 B2 H2 P No fp:=⟨k1.nd,fun a m=>let ⟨_,a2,_,a4,a5⟩:=k1.own a m; ⟨(I2.fr a (.inl m)).1,a2,(I2.fr a (.inl m)).2,a4,a5⟩⟩
     have rd:=(r1.noBor c2).mono s2 b2 fun _ x=>x
     have dq2:=dq.mono s2
     have rl2:=rl.mono s2 b2 fun _ x=>x
     have mu:∃ o,H2 a=some o/\mutO o:=by
      rcases dq2 with ⟨_,kvs,ep,q,_⟩ | ⟨_,kvs,ep,q,_⟩
      ·exact ⟨_,q,trivial⟩
      ·exact ⟨_,q,trivial⟩
     rcases dq2 with ⟨rfl,kvs,ep,ha,hks,hws⟩ | ⟨rfl,kvs,ep,ha,hks,hws⟩
     ·cases q with
      | inr q=>cases c1
      | inl q =>
       have ev:=keyK_l hkk rk
       subst ev
       subst hks hws
       have A:∀ en:Nat,∃ P',_:=fun en=>I3.mutD ht (o' := .dK (putK kvs q v) en) (ks' := putKs (kvs.map fun p=>Sum.inl p.1) (.inl q)) (xs' := putVs (kvs.map fun p=>Sum.inl p.1) xs (.inl q) d) hi e1 kv mu fun vs f hda hr=>by
        rcases hda with ⟨_,kvs',ep',q1,q2,q3⟩ | ⟨q0,_⟩
        ·rw [ha] at q1
         cases q1
         subst q3
         obtain ⟨p1,f',p2,p3,p4⟩:=put_ok Sum.inl (fun a b h=>Sum.inl.inj h) (k:=q) hr rd c4
         exact ⟨_,f',.inl ⟨rfl,_,en,upd_same,p1,rfl⟩,p2,p3,fun n1 n2=>p4 n1 kv.nd n2⟩
        ·cases q0
       exact ⟨a,rfl,.inl ⟨kvs,q,⟨ep,ha⟩,rfl,(by rw [sizeLine_eq]; simpa using c3),fun en=>let ⟨P',A'⟩:=A en; h2 B2 _ σ P' A'⟩⟩
     ·cases q with
      | inl q=>cases c1
      | inr q =>
       obtain ⟨b,rfl,hb⟩:=keyK_r hkk rk
       subst hks hws
       have A:∀ en:Nat,∃ P',_:=fun en=>I3.mutD ht (o' := .dT (putK kvs q v) en) (ks' := putKs (kvs.map fun p=>Sum.inr p.1) (.inr q)) (xs' := putVs (kvs.map fun p=>Sum.inr p.1) xs (.inr q) d) hi e1 kv mu fun vs f hda hr=>by
        rcases hda with ⟨q0,_⟩ | ⟨_,kvs',ep',q1,q2,q3⟩
        ·cases q0
        ·rw [ha] at q1
         cases q1
         subst q3
         obtain ⟨p1,f',p2,p3,p4⟩:=put_ok Sum.inr (fun a b h=>Sum.inr.inj h) (k:=q) hr rd c4
         exact ⟨_,f',.inr ⟨rfl,_,en,upd_same,p1,rfl⟩,p2,p3,fun n1 n2=>p4 n1 kv.nd n2⟩
       exact ⟨a,rfl,.inr ⟨kvs,q,b,⟨ep,ha⟩,rfl,hb,(by rw [sizeLine_eq]; simpa using c3),fun en=>let ⟨P',A'⟩:=A en; h2 B2 _ σ P' A'⟩⟩
    ·exact h2.elim
end
section
variable {P:Program}{w:World}{K:PySem.W.Frag}{mg:Str->Option Value}{base:Heap}
theorem cal_of2 {x:Str}{st:Stmt}{N ps:List Str}{k n m:Nat}{g:SF} (D:Dfn K mg x st ps) (S:FnScope N ps (defScope st)) (hn:ps.length=n) (hm:N.length=m)
  (hbody:∀ (f:Addr) (cdv:Value) (A:Around) (outer:List Env) (s:Shared) (H:Hp),Room k (A.deeper (envOfC x (defScope st) s.heap.objs.size f cdv)) ->
   PSs (cxOf CX0 P w K mg base N x (defScope st) f cdv A outer s H E0).nox (defBody st) (tMS K NoY g)):Cal P w K mg base (k + 1) x ps (spF K (runF n m g)):=by
 subst hn hm
 exact cal_of D S hbody
theorem fnok_of2 {x:Str}{st:Stmt}{N ps:List Str}{k n m:Nat}{g:SF}{f:Addr}{fd:FuncData} (D:Fun K x x st f fd) (S:FnScope N ps (defScope st)) (hn:ps.length=n) (hm:N.length=m)
  (hbody:∀ (f:Addr) (cdv:Value) (A:Around) (outer:List Env) (s:Shared) (H:Hp),Room k (A.deeper (envOfC x (defScope st) s.heap.objs.size f cdv)) ->
   PSs (cxOf CX0 P w K mg base N x (defScope st) f cdv A outer s H E0).nox (defBody st) (tMS K NoY g)):FnOk P w K mg base CX0 (k + 1) f fd ps (spF K (runF n m g)):=by
 subst hn hm
 exact fnok_of D S hbody
theorem dfn_mk {h:Heap}{x:Str}{st:Stmt}{ps:List Str}{f:Addr}{oc:Value}{od an:Option Addr}{osl:Array (Option Value)}{kV doc pm cdv ct:Value} (KX:K.In h) (G:h.Ns mainGlobals mg) (a:PySem.W.nsIn K mainGlobals x=some (some (.ref f)))
  (l:K.lookup f=some ⟨oc,od,.func (PySem.W.fnOf x x (defArgs st) (defBody st) (defScope st) .none kV doc pm an cdv ct),osl⟩) (c:PySem.W.codeIn K cdv x=true) (k:PySem.W.keepIn K (.ref f)=true)
  (hb:∀ (kV doc pm:Value) (an:Option Addr) (cdv ct:Value) (us:List Value),us.length=ps.length->bindArgs (PySem.W.fnOf x x (defArgs st) (defBody st) (defScope st) .none kV doc pm an cdv ct) ⟨us,[]⟩=pure (ps.zip us)):Dfn K mg x st ps :=
 ⟨f,_,fun_mk l c k,PySem.W.mg_of KX G a,(fun_mk l c k).binds hb⟩
theorem law_sp {G:DF}{H:Hp}{a:Addr}{ns:List Int} (hS:SqL K H a (ns.map V.int)) (h:G [.lst .frz (ns.map D.int)]=.ok (.bl true)):spF K G [.ref a] H (fun v _=>v=.bl true) fun _ _ _=>False:=by
 refine ⟨H,[.lst .frz (ns.map D.int)],Same.refl _,RepL.one ⟨a,_,rfl,hS,ints_repL ns,rfl⟩,?_⟩
 rw [h]
 exact fun B' H' v fp r=>r.rep.1
end
theorem pure_ints (ns:List Int):pureL (ns.map D.int)=true:=pureL_of fun d hd=>by obtain ⟨n,_,rfl⟩:=List.mem_map.mp hd; rfl
@[simp] theorem view_ints (ns:List Int):viewL (ns.map D.int)=ns.map D.int:=viewL_pure _ (pure_ints ns)
@[simp] theorem frz_ints (ns:List Int):frzL (ns.map D.int)=ns.map D.int:=frzL_pure _ (pure_ints ns)
@[simp] theorem bor_ints (ns:List Int):hasBorL (ns.map D.int)=false:=hasBorL_pure _ (pure_ints ns)
@[simp] theorem own_ints (ns:List Int):hasOwnL (ns.map D.int)=false:=hasOwnL_pure _ (pure_ints ns)
@[simp] theorem toBor_ints (ns:List Int):toBorL (ns.map D.int)=ns.map D.int:=toBorL_pure _ (pure_ints ns)
@[simp] theorem unbor_ints (ns:List Int):unborL (ns.map D.int)=ns.map D.int:=unborL_id _ (bor_ints ns)
@[simp] theorem ints_map (ns:List Int):intsOf (ns.map D.int)=some ns:=intsOf_map ns
@[simp] theorem andThen_nx (τ:SD) (s:SF):(Fl.nx τ).andThen s=s τ:=rfl
@[simp] theorem andThen_rt (d:D) (s:SF):(Fl.rt d).andThen s=.rt d:=rfl
@[simp] theorem andThen_bk (τ:SD) (s:SF):(Fl.bk τ).andThen s=.bk τ:=rfl
@[simp] theorem andThen_ct (τ:SD) (s:SF):(Fl.ct τ).andThen s=.ct τ:=rfl
@[simp] theorem andThen_ex (C:PySem.Addr) (τ:SD) (s:SF):(Fl.ex C τ).andThen s=.ex C τ:=rfl
@[simp] theorem andThen_bad (s:SF):Fl.bad.andThen s=.bad:=rfl
@[simp] theorem toFl_ok (τ:SD) (d:D) (k:D->Fl):(Res.ok d).toFl τ k=k d:=rfl
@[simp] theorem toFl_exn (τ:SD) (C:PySem.Addr) (k:D->Fl):(Res.exn C:Res D).toFl τ k=.ex C τ:=rfl
@[simp] theorem toFl_bad (τ:SD) (k:D->Fl):(Res.bad:Res D).toFl τ k=.bad:=rfl
@[simp] theorem toFlB_ok (τ:SD) (d:Bool) (k:Bool->Fl):(Res.ok d).toFlB τ k=k d:=rfl
@[simp] theorem toFlB_exn (τ:SD) (C:PySem.Addr) (k:Bool->Fl):(Res.exn C:Res Bool).toFlB τ k=.ex C τ:=rfl
@[simp] theorem toFlB_bad (τ:SD) (k:Bool->Fl):(Res.bad:Res Bool).toFlB τ k=.bad:=rfl
@[simp] theorem noX_bad:(Res.bad:Res D).noX=.bad:=rfl
@[simp] theorem out_rt (d:D):(Fl.rt d).out=.ok d:=rfl
@[simp] theorem out_nx (τ:SD):(Fl.nx τ).out=.ok .non:=rfl
@[simp] theorem out_ex (C:PySem.Addr) (τ:SD):(Fl.ex C τ).out=.exn C:=rfl
@[simp] theorem out_bad:Fl.bad.out=.bad:=rfl
theorem eBin_ok {g:D->D->Res D}{a b:SD->Res D}{τ:SD}{x y:D} (ha:a τ=.ok x) (hb:b τ=.ok y):eBin g a b τ=g x y:=by unfold eBin; rw [ha,hb]; rfl
theorem if_nx {c:SD->Res Bool}{a b:SF}{τ:SD}{t:Bool} (h:c τ=.ok t):sIf c a b τ=if t=true then a τ else b τ:=by unfold sIf; rw [h]; rfl
theorem range1_nat {n:Nat} (h:n <= 1000000000):range1D [.int n]=.ok (false,(List.range n).map fun k:Nat=>.int k):=by
 have h1 : -1000000000 <= (n:Int)/\(n:Int) <= 1000000000:=by omega
 simp [range1D,h1]
theorem seq_nx {a b:SF}{τ τ':SD} (h:a τ=.nx τ'):sSeq a b τ=b τ' := by unfold sSeq; rw [h]; rfl
theorem seq_ex {a b:SF}{τ:SD} (Q:Fl->Prop) (τ':SD) (h:a τ=.nx τ') (k:Q (b τ')):Q (sSeq a b τ):=by rw [seq_nx h]; exact k
theorem set_nx {i:Nat}{e:SD->Res D}{τ:SD}{d:D} (h:e τ=.ok d) (hb:d.hasBor=false):sSet i e τ=.nx (τ.set i (some d)):=by
 unfold sSet setD
 rw [h,toFl_ok,hb]
 rfl
theorem seq_set {i:Nat}{e:SD->Res D}{b:SF}{τ:SD} (Q:Fl->Prop) (d:D) (h:e τ=.ok d) (hb:d.hasBor=false) (k:Q (b (τ.set i (some d)))):Q (sSeq (sSet i e) b τ):=seq_ex Q _ (set_nx h hb) k
theorem seq_ifset {c:SD->Res Bool}{i:Nat}{e:SD->Res D}{b:SF}{τ:SD} (Q:Fl->Prop) (Pd:D->Prop) (hc:∃ t,c τ=.ok t/\(t=true->∃ d,e τ=.ok d/\d.hasBor=false/\Pd d)) (h0:∃ d,τ[i]?=some (some d)/\Pd d) (k:∀ d,Pd d->Q (b (τ.set i (some d)))):Q (sSeq (sIf c (sSet i e) sNext) b τ):=by
 obtain ⟨t,h1,h2⟩:=hc
 cases t with
 | true =>
  obtain ⟨d,h3,h4,h5⟩:=h2 rfl
  refine seq_ex Q (τ.set i (some d)) ?_ (k d h5)
  unfold sIf
  rw [h1,toFlB_ok,if_pos rfl]
  exact set_nx h3 h4
 | false =>
  obtain ⟨d,h3,h5⟩:=h0
  have es:τ.set i (some d)=τ:=by
   refine List.ext_getElem? fun k=>?_
   by_cases hk:k=i
   ·subst hk
    rw [List.getElem?_set_self (List.getElem?_eq_some_iff.mp h3).1,h3]
   ·rw [List.getElem?_set_ne (Ne.symm hk)]
  refine seq_ex Q (τ.set i (some d)) ?_ (k d h5)
  unfold sIf
  rw [h1,toFlB_ok,if_neg Bool.false_ne_true,es]
  rfl
theorem seq_ifret {c:SD->Res Bool}{a b:SF}{τ:SD} (Q:Fl->Prop) (hc:∃ t,c τ=.ok t/\(t=true->∃ d,a τ=.rt d/\Q (.rt d))/\(t=false->Q (b τ))):Q (sSeq (sIf c a sNext) b τ):=by
 obtain ⟨t,h1,h2,h3⟩:=hc
 cases t with
 | true =>
  obtain ⟨d,h4,h5⟩:=h2 rfl
  have:sSeq (sIf c a sNext) b τ=.rt d:=by
   unfold sSeq sIf
   rw [h1,toFlB_ok,if_pos rfl,h4]
   rfl
  rw [this]
  exact h5
 | false =>
  refine seq_ex Q τ ?_ (h3 rfl)
  unfold sIf
  rw [h1,toFlB_ok,if_neg Bool.false_ne_true]
  rfl
theorem atI_of {α:Type}{xs:List α}{i:Int}{j:Nat}{v:α} (hi:i=j) (h:xs[j]?=some v):atI xs i=some v:=by subst hi; exact atI_nat h
theorem forD_eq {tg:TGD}{body:SF} (st:Nat->SD):∀ {ds:List D} (i:Nat),(∀ j d,ds[j]?=some d->∃ τ',tg d (st (i + j))=some τ'/\body τ'=.nx (st (i + j + 1)))->forD tg body ds (st i)=.nx (st (i + ds.length))
 | [],i,_=>rfl
 | d :: r,i,h=>by
  obtain ⟨τ',h1,h2⟩:=h 0 d rfl
  unfold forD
  simp only [Nat.add_zero] at h1 h2
  rw [h1]
  simp only [h2]
  have ih:=forD_eq st (ds:=r) (i + 1) fun j e he=>by
   have:=h (j + 1) e (by simpa using he)
   rw [show i + (j + 1)=i + 1 + j by omega] at this
   exact this
  rw [ih,List.length_cons]
  congr 2
  omega
theorem forD_inv {tg:TGD}{body:SF} (Pv:Nat->SD->Prop):∀ {ds:List D} (i:Nat) (τ:SD),Pv i τ->(∀ j d τ,ds[j]?=some d->Pv (i + j) τ->∃ τ' t,tg d τ=some τ'/\(body τ'=.nx t ∨ body τ'=.ct t)/\Pv (i + j + 1) t)->∃ t,forD tg body ds τ=.nx t/\Pv (i + ds.length) t
 | [],i,τ,h0,_=>⟨τ,rfl,h0⟩
 | d :: r,i,τ,h0,h=>by
  obtain ⟨τ',t,h1,h2,h3⟩:=h 0 d τ rfl h0
  have ih:=forD_inv Pv (ds:=r) (i + 1) t h3 fun j e τ he hp=>by
   have:=h (j + 1) e τ (by simpa using he) (by rw [show i + (j + 1)=i + 1 + j by omega]; exact hp)
   rw [show i + (j + 1)=i + 1 + j by omega] at this
   exact this
  obtain ⟨u,h4,h5⟩:=ih
  refine ⟨u,?_,by rw [List.length_cons,show i + (r.length + 1)=i + 1 + r.length by omega]; exact h5⟩
  unfold forD
  rw [h1]
  rcases h2 with h2 | h2 <;> (simp only [h2]; exact h4)
theorem compD_one {tt:SD->Res Bool}{elt:SD->Res D}{caps:SD} (p:D->Bool) (f:D->D):∀ {ds:List D} (o:Option D),(∀ d ∈ ds,tt (some d :: caps)=.ok (p d))->(∀ d ∈ ds,p d=true->elt (some d :: caps)=.ok (f d)/\(f d).hasBor=false)->compD (gN 0) tt elt ds (o :: caps)=.ok ((ds.filter p).map f)
 | [],o,_,_=>rfl
 | d :: r,o,ht,he=>by
  have ih:=compD_one p f (ds:=r) (some d) (fun e m=>ht e (List.mem_cons_of_mem _ m)) fun e m=>he e (List.mem_cons_of_mem _ m)
  unfold compD
  simp only [gN,List.set_cons_zero]
  rw [ht d List.mem_cons_self]
  simp only [Res.bind_ok]
  by_cases hp:p d=true
  ·obtain ⟨h1,h2⟩:=he d List.mem_cons_self hp
   simp only [hp,if_true,h1,Res.bind_ok,h2,Bool.false_eq_true,if_false,ih]
   rw [List.filter_cons_of_pos hp,List.map_cons]
  ·simp only [hp,if_false,ih,Bool.false_eq_true]
   rw [List.filter_cons_of_neg hp]
theorem compD_all {elt:SD->Res D}{caps:SD} (f:D->D) {ds:List D} (o:Option D) (he:∀ d ∈ ds,elt (some d :: caps)=.ok (f d)/\(f d).hasBor=false):compD (gN 0) bTrue elt ds (o :: caps)=.ok (ds.map f):=by
 have:=compD_one (tt:=bTrue) (fun _=>true) f o (fun d _=>rfl) fun d m _=>he d m
 rw [List.filter_eq_self.mpr fun _ _=>rfl] at this
 exact this
theorem callD_pure {G:DF}{ds:List D}{d:D} (h:G (frzL ds)=.ok d) (hp:d.pure=true):callD G ds=.ok d:=by
 unfold callD
 rw [h]
 split
 ·simp [toBor_pure d hp]
 ·rfl
theorem callD_own {G:DF}{ds:List D}{d:D} (h:G (frzL ds)=.ok d) (hb:hasBorL ds=false):callD G ds=.ok d:=by
 unfold callD
 rw [h,hb]
 rfl
theorem eCall_pure {G:DF}{fs:SD->Res (List D)}{τ:SD}{ds:List D}{d:D} (ha:fs τ=.ok ds) (h:G (frzL ds)=.ok d) (hp:d.pure=true):eCall G fs τ=.ok d:=by
 unfold eCall; rw [ha]; exact callD_pure h hp
theorem eCall_own {G:DF}{fs:SD->Res (List D)}{τ:SD}{ds:List D}{d:D} (ha:fs τ=.ok ds) (h:G (frzL ds)=.ok d) (hb:hasBorL ds=false):eCall G fs τ=.ok d:=by
 unfold eCall; rw [ha]; exact callD_own h hb
theorem eComp_all {it:SD->Res (Bool × List D)}{elt:SD->Res D}{cap:List (PySem.Str × Nat)}{τ:SD}{fl:Bool}{ds:List D} (f:D->D) (hit:it τ=.ok (fl,ds)) (he:∀ d ∈ frzL ds,elt (some d :: capD τ cap)=.ok (f d)/\(f d).pure=true) (hl:ds.length <= 16777216) :
  eComp it (gN 0) bTrue elt 1 cap τ=.ok (.lst .own ((frzL ds).map f)):=by
 have hp:pureL ((frzL ds).map f)=true:=pureL_of fun d m=>by
  obtain ⟨x,hx,rfl⟩:=List.mem_map.mp m
  exact (he x hx).2
 have hl':((frzL ds).map f).length <= 16777216:=by rw [List.length_map,frzL_eq,List.length_map]; exact hl
 have hc:compD (gN 0) bTrue elt (frzL ds) (List.replicate 1 none ++ capD τ cap)=.ok ((frzL ds).map f):=compD_all f none fun d m=>⟨(he d m).1,hasBor_pure _ (he d m).2⟩
 unfold eComp
 rw [hit,Res.bind_ok]
 simp only [hc,if_pos hl',toBorL_pure _ hp,ite_self]
theorem sIx_nat (n d a:Nat):HT.sIx n d (some (a:Int))=min a n:=by
 unfold HT.sIx
 have h:¬ (a:Int) < 0:=by omega
 simp only [h,if_false]
 omega
theorem cut_from {α:Type} (xs:List α) (a:Nat):cut xs (some (a:Int)) none=xs.drop a:=by
 unfold cut
 rw [sIx_nat,show HT.sIx xs.length xs.length none=xs.length from rfl]
 by_cases h:a <= xs.length
 ·rw [Nat.min_eq_left h,List.take_of_length_le (by simp)]
 ·rw [List.drop_eq_nil_of_le (by omega:xs.length <= a),List.drop_eq_nil_of_le (by omega),List.take_nil]
theorem cut_to {α:Type} (xs:List α) (a:Nat):cut xs none (some (a:Int))=xs.take a:=by
 unfold cut
 rw [sIx_nat,show HT.sIx xs.length 0 none=0 from rfl,List.drop_zero,Nat.sub_zero]
 by_cases h:a <= xs.length
 ·rw [Nat.min_eq_left h]
 ·rw [Nat.min_eq_right (by omega),List.take_of_length_le (Nat.le_refl _),List.take_of_length_le (by omega)]
theorem bor_own {xs:List D} (h:pureL xs=true):(D.lst .own xs).hasBor=false:=by
 show (false || hasBorL xs)=false
 rw [hasBorL_pure xs h]; rfl
theorem eA_ok {g:List D->Res D}{f:SD->Res (List D)}{τ:SD}{ds:List D} (h:f τ=.ok ds):eA g f τ=g ds:=by unfold eA; rw [h]; rfl
theorem aCons_ok {f:SD->Res D}{g:SD->Res (List D)}{τ:SD}{d:D}{ds:List D} (h1:f τ=.ok d) (h2:g τ=.ok ds):aCons f g τ=.ok (d :: ds):=by unfold aCons; rw [h1,h2]; rfl
theorem aOne {f:SD->Res D}{τ:SD}{d:D} (h1:f τ=.ok d):aCons f aNil τ=.ok [d]:=aCons_ok h1 rfl
theorem ret_rt {e:SD->Res D}{τ:SD}{d:D} (h:e τ=.ok d) (hb:d.hasBor=false):sRet e τ=.rt d:=by unfold sRet; rw [h,toFl_ok,unbor_id d hb]
theorem var_pure {i:Nat}{τ:SD}{d:D} (h:τ[i]?=some (some d)) (hp:d.pure=true):eVar i τ=.ok d:=by unfold eVar; rw [h]; simp [view_pure d hp]
theorem var_frz {i:Nat}{τ:SD}{xs:List D} (h:τ[i]?=some (some (.lst .frz xs))) (hp:pureL xs=true):eVar i τ=.ok (.lst .frz xs):=by unfold eVar; rw [h]; simp [D.view,Tg.view,viewL_pure xs hp]
theorem var_own {i:Nat}{τ:SD}{xs:List D} (h:τ[i]?=some (some (.lst .own xs))) (hp:pureL xs=true):eVar i τ=.ok (.lst .bor xs):=by unfold eVar; rw [h]; simp [D.view,Tg.view,viewL_pure xs hp]
section
variable {K:PySem.W.Frag}{Y:XY}{H0 B0 B H:Hp}{σ:L2.St}{τ:SD}{P:List Addr}{F:Addr->Prop}{X:Cx}{pos:Pos}
def zipD (xs ys:List D):List D:=List.zipWith (fun x y=>D.tup [x,y]) xs ys
def zipB:List D->Res (Bool × List D)
 | [d,e]=>(itemsD d).bind fun p=>(itemsD e).bind fun q=>.ok (p.1 || q.1,zipD p.2 q.2)
 | _=>.bad
def eZip (f:SD->Res (List D)) (τ:SD):Res (Bool × List D):=(f τ).bind zipB
theorem frzL_zip:∀ xs ys:List D,frzL (zipD xs ys)=zipD (frzL xs) (frzL ys)
 | [],_=>rfl
 | _ :: _,[]=>rfl
 | x :: xs,y :: ys=>by
  show (D.tup [x,y]).frz :: frzL (zipD xs ys)=D.tup [x.frz,y.frz] :: zipD (frzL xs) (frzL ys)
  rw [frzL_zip xs ys]
  rfl
theorem zip_len (xs ys:List D):(zipD xs ys).length=min xs.length ys.length:=by simp [zipD]
theorem zip_at {xs ys:List D}{i:Nat}{d:D} (h:(zipD xs ys)[i]?=some d):∃ x y,xs[i]?=some x/\ys[i]?=some y/\d=.tup [x,y]:=by
 unfold zipD at h
 rw [List.getElem?_zipWith] at h
 cases hx:xs[i]? with
 | none=>rw [hx] at h; cases h
 | some x =>
  cases hy:ys[i]? with
  | none=>rw [hx,hy] at h; cases h
  | some y =>
   rw [hx,hy] at h
   cases h
   exact ⟨x,y,rfl,rfl,rfl⟩
theorem itd_zip {src1 src2:Hp->List V->Prop}{ds es:List D}{vs ws:List V} (r:RepL K B No H ds vs []) (r':RepL K B No H es ws []) (q:∀ B' H':Hp,Same B B'->Same B' H'->Imm H H'->src1 H' vs) (q':∀ B' H':Hp,Same B B'->Same B' H'->Imm H H'->src2 H' ws):ItD K (Iz src1 src2) (zipD ds es) B H where
 go:=fun B' H' i d s1 s2 im e=>by
  obtain ⟨x,y,h1,h2,rfl⟩:=zip_at e
  obtain ⟨v,f,a1,_⟩:=r.get h1
  obtain ⟨w,g,a2,_⟩:=r'.get h2
  exact ⟨vs,v,ws,w,q B' H' s1 s2 im,a1,q' B' H' s1 s2 im,a2⟩
 yld:=fun B' H' i d x H'' s1 s2 im e y=>by
  obtain ⟨p,w1,w2,rfl,hp,rfl,hy1,hy2⟩:=y
  obtain ⟨dx,dy,h1,h2,rfl⟩:=zip_at e
  obtain ⟨v,f,a1,a2,a3⟩:=r.get h1
  obtain ⟨w,g,c1,c2,c3⟩:=r'.get h2
  have z1:=hy1 vs (q B' H' s1 s2 im)
  have z2:=hy2 ws (q' B' H' s1 s2 im)
  rw [z1] at a1
  cases a1
  rw [z2] at c1
  cases c1
  cases sub_nil a3
  cases sub_nil c3
  have s:=sameUpd' (o := .tup [w1,w2]) hp
  exact ⟨s,p,[w1,w2],rfl,upd_same,w1,[w2],[],[],rfl,(a2.stay s1 im rfl).mono s (Same.refl _) (fun _ x=>x),RepL.one ((c2.stay s1 im rfl).mono s (Same.refl _) (fun _ x=>x)),rfl⟩
 stop:=fun B' H' s1 s2 im=>⟨vs,ws,q B' H' s1 s2 im,q' B' H' s1 s2 im,by
  have e1:=r.length
  have e2:=r'.length
  rw [zip_len]
  omega⟩
theorem zip_side {d:D}{fl:Bool}{xs:List D}{v:V}{f:List Addr} (hi:itemsD d=.ok (fl,xs)) (I:SI K H0 B0 B H σ τ P F) (r:Rep K B (· ∈ P) H d v f) :
  ∃ b a vs,v=.ref a/\sqs K b a H vs/\∀ Bx:Hp,Same B Bx->(∀ a ∈ f,∀ o,H a=some o->Bx a=some o)->(fl=true->∀ a ∈ P,∀ o,H a=some o->Bx a=some o)->∃ ws,RepL K Bx No H (frzL xs) ws []/\∀ B' H':Hp,Same Bx B'->Same B' H'->Imm H H'->sqs K b a H' ws:=by
 cases d with
 | lst t ys =>
  cases hi
  obtain ⟨a,vs,g,rfl,q,_⟩:=r.lst I
  refine ⟨false,a,vs,rfl,q,fun Bx sB h1 h2=>?_⟩
  obtain ⟨a',ws,ea,q',rl,_⟩:Rep K Bx No H (D.lst .frz (frzL xs)) (.ref a) []:=frz_for r sB h1 h2
  cases ea
  exact ⟨ws,rl,fun B' H' z1 z2 _=>rd_mono (z1.trans z2) q'⟩
 | tup ys =>
  cases hi
  obtain ⟨a,vs,rfl,q,_⟩:=r.tp
  refine ⟨true,a,vs,rfl,q,fun Bx sB h1 h2=>?_⟩
  obtain ⟨a',ws,ea,q',rl⟩:Rep K Bx No H (D.tup (frzL xs)) (.ref a) []:=frz_for r sB h1 h2
  cases ea
  exact ⟨ws,rl,fun B' H' z1 z2 im=>sqT_imm im (SqT.of q')⟩
 | _=>cases hi
theorem qi_zip {elts:List Expr}{x1:Nat}{tp p:Pos}{l m:Expr}{fs:SD->Res (List D)} (hg:Gl X "zip") (hm:X.mg "zip" = none) (ha:PA X [l,m] (tML X.K Y fs)) (hs:starEach [l,m] X.env=[(false,eval l X.env),(false,eval m X.env)]:=by rfl) (hs2:starEach [m] X.env=[(false,eval m X.env)]:=by rfl) :
  PI X (.Tuple elts x1 tp) (.Call (.Name "zip" p) [l,m] [] pos) (tMI X.K Y (eZip fs)):=by
 refine PI.imp (pi_zip hg hm ha hs hs2) fun σ H R hq=>ex8 hq fun H0 B0 B τ P F I h=>⟨H0,B0,B,τ,P,F,I,?_⟩
 cases z:fs τ with
 | exn C=>simp only [eZip,z,Res.bind_exn] at h; exact h
 | bad=>simp only [eZip,z,Res.bind_bad] at h
 | ok ds =>
  simp only [eZip,z,Res.bind_ok] at h
  intro vs H1 B1 fp I1 s1 b1 r1 k1
  match ds,r1,h with
  | [d,e],r1,h =>
   obtain ⟨v,u,f1,f2,rfl,rfl,rd,re⟩:=repL2 r1
   simp only [zipB] at h
   cases hd:itemsD d with
   | exn C=>exfalso; cases d <;> cases hd
   | bad=>rw [hd] at h; exact h.elim
   | ok p =>
    obtain ⟨g1,xs⟩:=p
    rw [hd,Res.bind_ok] at h
    cases he:itemsD e with
    | exn C=>exfalso; cases e <;> cases he
    | bad=>rw [he] at h; exact h.elim
    | ok p =>
     obtain ⟨g2,ys⟩:=p
     rw [he,Res.bind_ok] at h
     obtain ⟨c1,a1,vs1,rfl,q1,k2⟩:=zip_side hd I1 rd
     obtain ⟨c2,a2,vs2,rfl,q2,k3⟩:=zip_side he I1 re
     refine ⟨c1,c2,a1,a2,vs1,vs2,rfl,q1,q2,h _ H1 _ (f1 ++ f2) I1 s1 b1 k1 fun Bx sB sH h1 h2=>?_⟩
     obtain ⟨w1,rl1,m1⟩:=k2 Bx sB (fun a m=>h1 a (List.mem_append_left _ m)) fun t=>h2 (by rw [t]; rfl)
     obtain ⟨w2,rl2,m2⟩:=k3 Bx sB (fun a m=>h1 a (List.mem_append_right _ m)) fun t=>h2 (by rw [t]; simp)
     rw [frzL_zip]
     exact itd_zip rl1 rl2 m1 m2
  | [],r1,h=>exact h.elim
  | [_],r1,h=>exact h.elim
  | _ :: _ :: _ :: _,r1,h=>exact h.elim
end
section
variable {K:PySem.W.Frag}{Y:XY}{H0 B0 B H:Hp}{σ:L2.St}{τ:SD}{P:List Addr}{F:Addr->Prop}{X:Cx}{pos:Pos}{e:Expr}{fe:SD->Res D}
def extF (i:Nat) (xs:List D) (τ:SD):D->Fl
 | .lst .own ys=>if hasBorL ys=true then .bad else if xs.length + ys.length <= 16777216 then .nx (τ.set i (some (.lst .own (xs ++ ys)))) else .bad
 | _=>.bad
def sExt (i:Nat) (f:SD->Res D) (τ:SD):Fl:=match ownL τ i with
 | some xs=>(f τ).toFl τ (extF i xs τ)
 | none=>.bad
theorem s_ext (i:Nat) {x:Str}{p1 apos cpos:Pos} (he:PE X e (tM X.K Y fe)) (hN:X.N[i]?=some x:=by rfl) (hv:Vis X.env.scope x:=by first | exact Or.inl rfl | exact Or.inr (Or.inl rfl) | exact Or.inr (Or.inr rfl)) (hd:(x == ("__debug__" : Str))=false:=by decide) (hcd:(x == ("__classdict__" : Str))=false:=by decide)
  (hbase:attributeBase (.Name x p1) "extend" X.env (eval (.Name x p1) X.env)=eval (.Name x p1) X.env:=by rfl)
  (hfew:((backTo cpos (starEach [e] X.env)).all (fun x=>!x.1) && (backToKw cpos (keywordEach [] X.env)).all (fun x=>x.1.isSome)
   && decide ([e].length + ([]:List Keyword).length + (if ([]:List Keyword).isEmpty then 0 else 1) < 30))=true:=by rfl)
  (hline:(apos.endLine == cpos.line)=true:=by rfl) (hs:starEach [e] X.env=(false,eval e X.env) :: starEach [] X.env:=by rfl) (hplain:(backTo cpos (starEach [] X.env)).any (·.1)=false:=by rfl)
  (hsw:swapsWith (.Call (.Attribute (.Name x p1) "extend" apos) [e] [] cpos) none pos.line X.env=pure false:=by rfl) :
  PS X (.Expr (.Call (.Attribute (.Name x p1) "extend" apos) [e] [] cpos) pos) (tMS X.K Y (sExt i fe)):=by
 refine PS.imp (ps_expr (pe_bm PySem.F.plainAttrs_list PySem.F.slot_list_extend PySem.F.type_list_extend mt_extend (pe_var hN hv hd hcd) (pa_cons he pa_nil hs) hbase hfew hline hs hplain) hsw) fun E σ H hq=>ex7 hq fun H0 B0 B τ P I h=>?_
 unfold sExt at h
 cases z:ownL τ i with
 | none=>rw [z] at h; exact h.elim
 | some xs =>
  rw [z] at h
  have hi:=ownL_some z
  obtain ⟨a,vs,ea,ha,hl⟩:=I.listAt hi
  refine ⟨.ref a,ea,.inl ⟨rfl,vs,SqL.of ha⟩,exprS I h fun d v H1 B1 fp _ I1 s1 b1 r1 k1 h1=>?_⟩
  unfold extF at h1
  split at h1
  ·rename_i ys hfe
   obtain ⟨b,ws,f,rfl,hb,rl2,rfl⟩:=r1
   split at h1
   ·exact h1.elim
   ·rename_i hnb
    split at h1
    ·rename_i hz
     have ha1:=s1 a _ ha
     have hl2:=rl2.length
     refine ⟨a,b,vs,ws,rfl,rfl,ha1,hb,by rw [<- hl,<- hl2,sizeLine_eq]; exact hz,?_⟩
     have k2:Vok H0 B1 H1 P No f:=k1.sub (List.sublist_cons_self _ _)
     obtain ⟨P',I'⟩:=I1.mutL (xs' := xs ++ ys) (vs' := vs ++ ws) hi ea k2 (fun g _ rl=>⟨g ++ f,rl.append (rl2.noBor (by simpa using hnb)),fun b m=>List.mem_append.mp m,fun nf dis=>List.nodup_append.mpr ⟨nf,k2.nd,fun a ha b hb e=>dis b hb (e ▸ ha)⟩⟩) ha1
     exact h1 B1 _ σ P' I'
    ·exact h1.elim
  ·exact h1.elim
end
def blsOf:List D->Option (List Bool)
 | []=>some []
 | .bl b :: r=>(blsOf r).map (b :: ·)
 | _=>none
theorem blsOf_eq:∀ {xs:List D}{bs:List Bool},blsOf xs=some bs->xs=bs.map D.bl
 | [],bs,h=>by cases h; rfl
 | d :: r,bs,h=>by
  cases d with
  | bl b =>
   simp only [blsOf,Option.map_eq_some_iff] at h
   obtain ⟨cs,h1,rfl⟩:=h
   rw [blsOf_eq h1]
   rfl
  | _=>cases h
theorem repL_bls {K:PySem.W.Frag}{B H:Hp}{S:Addr->Prop}:∀ {bs:List Bool}{vs:List V}{f:List Addr},RepL K B S H (bs.map D.bl) vs f->vs=bs.map V.bl
 | [],vs,f,r=>by obtain ⟨rfl,_⟩:=r; rfl
 | b :: bs,vs,f,r=>by
  obtain ⟨v,w,f1,f2,rfl,r1,r2,rfl⟩:=r
  obtain ⟨rfl,_⟩:=r1
  rw [repL_bls r2]
  rfl
def blsD (g:List Bool->Bool):List D->Res D
 | [.lst _ xs]=>match blsOf xs with | some bs=>.ok (.bl (g bs)) | none=>.bad
 | [.tup xs]=>match blsOf xs with | some bs=>.ok (.bl (g bs)) | none=>.bad
 | _=>.bad
abbrev allD:=blsD fun bs=>bs.all id
theorem d_bls {K:PySem.W.Frag}{Y:XY} (g:List Bool->Bool):CallD K Y (fun xs H Q=>∃ (b:Bool) (a:Addr) (bs:List Bool),xs=[.ref a]/\sqs K b a H (bs.map V.bl)/\Q (.bl (g bs)) H) (blsD g):=by
 intro H0 B0 B H σ τ P F ds vs f Q I r k h
 unfold blsD at h
 split at h
 ·obtain ⟨v,rfl,r'⟩:=repL1 r
  obtain ⟨a,ws,g',rfl,q,l,s⟩:=r'.lst I
  split at h
  ·rename_i bs e
   have ex:=blsOf_eq e
   subst ex
   have e2:=repL_bls l
   subst e2
   exact ⟨false,a,bs,rfl,q,Out.here h I ⟨rfl,rfl⟩⟩
  ·exact h.elim
 ·obtain ⟨v,rfl,r'⟩:=repL1 r
  obtain ⟨a,ws,rfl,q,l⟩:=r'.tp
  split at h
  ·rename_i bs e
   have ex:=blsOf_eq e
   subst ex
   have e2:=repL_bls l
   subst e2
   exact ⟨true,a,bs,rfl,q,Out.here h I ⟨rfl,rfl⟩⟩
  ·exact h.elim
 ·exact h.elim
section
variable {K:PySem.W.Frag}{Y:XY}{X:Cx}{o e:Expr}{fo fe:SD->Res D}{apos cpos:Pos}
def ixOf (ns:List Int) (k:Int):Option Nat:=ns.findIdx? fun n=>decide (n=k)
def isTup (d:D):Bool:=match d with | .tup _=>true | _=>false
def tixD:D->D->Res D
 | .tup xs,.int k=>match intsOf xs with | some ns=>(match ixOf ns k with | some j=>.ok (.int j) | none=>.bad) | none=>.bad
 | _,_=>.bad
def eTix (a b:SD->Res D) (τ:SD):Res D:=(a τ).bind fun x=>if isTup x=true then (b τ).bind (tixD x) else .bad
theorem ixOf_some {ns:List Int}{k:Int}{j:Nat} (h:ixOf ns k=some j):ns[j]?=some k/\∀ m,m < j->ns[m]? ≠ some k:=by
 unfold ixOf at h
 rw [List.findIdx?_eq_some_iff_getElem] at h
 obtain ⟨h1,h2,h3⟩:=h
 refine ⟨by rw [List.getElem?_eq_getElem h1]; simpa using h2,fun m hm z=>?_⟩
 have:=h3 m hm
 rw [List.getElem?_eq_getElem (by omega)] at z
 cases z
 simp at this
theorem q_tix (ho:PE X o (tM X.K Y fo)) (he:PE X e (tM X.K Y fe)) (hbase:attributeBase o "index" X.env (eval o X.env)=eval o X.env:=by rfl)
  (hfew:((backTo cpos (starEach [e] X.env)).all (fun x=>!x.1) && (backToKw cpos (keywordEach [] X.env)).all (fun x=>x.1.isSome)
   && decide ([e].length + ([]:List Keyword).length + (if ([]:List Keyword).isEmpty then 0 else 1) < 30))=true:=by rfl)
  (hline:(apos.endLine == cpos.line)=true:=by rfl) (hs:starEach [e] X.env=(false,eval e X.env) :: starEach [] X.env:=by rfl) (hplain:(backTo cpos (starEach [] X.env)).any (·.1)=false:=by rfl) :
  PE X (.Call (.Attribute o "index" apos) [e] [] cpos) (tM X.K Y (eTix fo fe)):=by
 refine PE.imp (pe_tm PySem.F.slot_tuple_index PySem.F.type_tuple_index mt_tix ho (pa_cons he pa_nil hs) hbase hfew hline hs hplain) fun σ H Q hq=>ex8 hq fun H0 B0 B τ P F I h=>?_
 refine tM.seq (g:=fun x=>if isTup x=true then (fe τ).bind (tixD x) else .bad) I h fun d1 v1 H1 B1 fp1 _ I1 s1 b1 r1 k1 h1=>?_
 by_cases hdc:isTup d1=true
 ·rw [if_pos hdc] at h1
  cases d1 with
  | tup xs =>
   obtain ⟨a,vs,rfl,hq,rl⟩:=r1
   refine ⟨⟨a,vs,rfl,hq⟩,?_⟩
   have I1h:=I1.hold k1
   refine ⟨H0,B0,B1,τ,P,_,I1h,?_⟩
   cases z:fe τ with
   | exn C=>rw [z] at h1; exact OutX.later h1 (Same.refl _) (Same.refl _) fun a x=>.inr x
   | bad=>rw [z] at h1; exact h1
   | ok d2 =>
    rw [z] at h1
    intro v2 H2 B2 fp2 I2 s2 b2 r2 k2
    have I4:=I2.anti (F' := F) fun a x=>.inr x
    have h4:Goal X.K Y H0 B0 B2 H2 σ τ P F Q (tixD (.tup xs) d2):=Goal.later h1 s2 b2
    cases d2 with
    | int k =>
     simp only [tixD] at h4
     split at h4
     ·rename_i ns e
      split at h4
      ·rename_i j hj
       have ex:=intsOf_eq e
       subst ex
       obtain ⟨rfl,_⟩:=repL_ints rl
       obtain ⟨rfl,_⟩:=r2
       obtain ⟨c1,c2⟩:=ixOf_some hj
       exact ⟨a,ns,k,j,rfl,rfl,s2 a _ hq,c1,c2,Out.here h4 I4 ⟨rfl,rfl⟩⟩
      ·exact h4.elim
     ·exact h4.elim
    | _=>exact h4.elim
  | _=>cases hdc
 ·rw [if_neg hdc] at h1
  exact h1.elim
end
end DL
namespace L2
open PySem PySem.Spec PyProof.Rows
section
variable {X:Cx}
def rExtA (K:PySem.W.Frag):V->List V->Hp->VK->Prop:=fun x vs H Q=>∃ l b xs zs,x=.ref l/\vs=[.ref b]/\H l=some (.lst xs)/\(H b=some (.lst zs) ∨ H b=some (.tup zs))/\xs.length + zs.length <= sizeLine/\Q .non (upd H l (.lst (xs ++ zs)))
theorem mt_extA:MtM X "list.extend" (rExtA X.K):=by
 intro pins s σ H x vs v us Q I rx rv h
 obtain ⟨l,b,xs,zs,rfl,rfl,hH,hB,hz,q⟩:=h
 rcases hB with hB | hB
 ·exact mt_extend pins s σ H _ _ v us Q I rx rv ⟨l,b,xs,zs,rfl,rfl,hH,hB,hz,q⟩
 cases rx
 obtain ⟨u,rfl,ru⟩:=rv.one
 cases ru
 obtain ⟨z,its,n,r,hl,e⟩:=I.lstM hH
 obtain ⟨_,its2,r2,n2,e2⟩:=(show ObjOk X.prog X.w H s.heap b (.tup zs) from I.hok b _ hB)
 have hl2:=r2.length
 have hsz:its.toArray.size + its2.toArray.size <= sizeLine:=by rw [List.size_toArray,List.size_toArray]; omega
 have hlong:¬ (!its.toArray.isEmpty && Builtin.List.listTooLong (its.toArray.size + its2.toArray.size))=true:=by
  rw [notLongL hsz,Bool.and_false]
  exact Bool.false_ne_true
 refine call_meets F.slot_list_extend ⟨_,e,rfl⟩ F.entry_list_extend (F.args_list_extend_2 _ _)
  (AutoSeq1.list_extend_list_tuple_0 l its.toArray n b its2.toArray n2 hlong (by rw [List.size_toArray]; omega) (by omega)) ⟨e,e2,?_⟩
 refine ⟨.non,_,I.lset (its' := its ++ its2) hH e (by simp) (r.append r2) ?_,rfl,q⟩
 rw [List.length_append]
 omega
end
end L2
namespace DL
open PySem PySem.Spec PyProof.Rows L2
section
variable {K:PySem.W.Frag}{Y:XY}{H0 B0 B H:Hp}{σ:L2.St}{τ:SD}{P:List Addr}{F:Addr->Prop}{X:Cx}{pos:Pos}{e:Expr}{fe:SD->Res D}
mutual
def D.plain:D->Bool
 | .tup xs=>plainL xs
 | .lst _ _=>false
 | .dct _ _ _ _=>false
 | .exc _=>false
 | _=>true
def plainL:List D->Bool
 | []=>true
 | d :: r=>d.plain && plainL r
end
mutual
theorem Rep.plainI {B' H':Hp}{S S':Addr->Prop} (m:Imm H H'):∀ {d:D}{v:V}{f:List Addr},d.plain=true->Rep K B S H d v f->f=[]/\Rep K B' S' H' d v []
 | .non,v,f,_,r=>by obtain ⟨h1,h2⟩:=r; exact ⟨h2,h1,rfl⟩
 | .bl b,v,f,_,r=>by obtain ⟨h1,h2⟩:=r; exact ⟨h2,h1,rfl⟩
 | .int i,v,f,_,r=>by obtain ⟨h1,h2⟩:=r; exact ⟨h2,h1,rfl⟩
 | .str x,v,f,_,r=>by obtain ⟨h1,h2⟩:=r; exact ⟨h2,h1,rfl⟩
 | .tup xs,v,f,p,r=>by
  obtain ⟨a,vs,e,h,rl⟩:=r
  obtain ⟨e2,r2⟩:=RepL.plainI m (d:=xs) p rl
  exact ⟨e2,a,vs,e,m a _ h (fun z=>z),r2⟩
 | .lst _ _,_,_,p,_=>by cases p
 | .dct _ _ _ _,_,_,p,_=>by cases p
 | .exc _,_,_,p,_=>by cases p
theorem RepL.plainI {B' H':Hp}{S S':Addr->Prop} (m:Imm H H'):∀ {d:List D}{v:List V}{f:List Addr},plainL d=true->RepL K B S H d v f->f=[]/\RepL K B' S' H' d v []
 | [],v,f,_,r=>by obtain ⟨h1,h2⟩:=r; exact ⟨h2,h1,rfl⟩
 | d :: ds,v,f,p,r=>by
  obtain ⟨x,w,f1,f2,e,r1,r2,ef⟩:=r
  have p:(d.plain && plainL ds)=true:=p
  rw [Bool.and_eq_true] at p
  obtain ⟨e1,q1⟩:=Rep.plainI m p.1 r1
  obtain ⟨e2,q2⟩:=RepL.plainI m p.2 r2
  subst e1 e2
  exact ⟨ef,x,w,[],[],e,q1,q2,rfl⟩
end
theorem RepL.dropLast {S:Addr->Prop}{xs:List D}{vs:List V}{f:List Addr} (r:RepL K B S H xs vs f):∃ g,RepL K B S H xs.dropLast vs.dropLast g/\List.Sublist g f:=by
 obtain ⟨g,h1,h2⟩:=r.take (xs.length - 1)
 have hl:=r.length
 rw [List.dropLast_eq_take,List.dropLast_eq_take,<- hl]
 exact ⟨g,h1,h2⟩
def popF (j i:Nat) (xs:List D) (τ:SD):Option D->Fl
 | some d=>if d.plain=true then .nx ((τ.set i (some (.lst .own xs.dropLast))).set j (some d)) else .bad
 | none=>.bad
def sPop (j i:Nat) (τ:SD):Fl:=match ownL τ i with
 | some xs=>popF j i xs τ xs[xs.length - 1]?
 | none=>.bad
theorem s_pop (j i:Nat) {x y:Str}{p0 p1 apos cpos:Pos} (hN:X.N.Nodup) (hj:X.N[j]?=some y) (hx:Loc X.env.scope y) (hi:X.N[i]?=some x:=by rfl) (hv:Vis X.env.scope x:=by first | exact Or.inl rfl | exact Or.inr (Or.inl rfl) | exact Or.inr (Or.inr rfl)) (hd:(x == ("__debug__" : Str))=false:=by decide) (hcd:(x == ("__classdict__" : Str))=false:=by decide)
  (hbase:attributeBase (.Name x p1) "pop" X.env (eval (.Name x p1) X.env)=eval (.Name x p1) X.env:=by rfl) (hline:(apos.endLine == cpos.line)=true:=by rfl)
  (hsw:swapsWith (.Call (.Attribute (.Name x p1) "pop" apos) [] [] cpos) (some (.Name y p0)) pos.line X.env=pure false:=by rfl) (hf:X.fn y=true ∨ X.env.scope.names.lookup y=some .local:=by first | exact .inl rfl | exact .inr rfl) :
  PS X (.Assign [.Name y p0] (.Call (.Attribute (.Name x p1) "pop" apos) [] [] cpos) pos) (tMS X.K Y (sPop j i)):=by
 refine PS.imp (ps_set hN hj hx (pe_bm0 PySem.F.plainAttrs_list PySem.F.slot_list_pop PySem.F.type_list_pop mt_pop (pe_var hi hv hd hcd) hbase hline) hsw hf) fun E σ H hq=>ex7 hq fun H0 B0 B τ P I h=>?_
 unfold sPop at h
 cases z:ownL τ i with
 | none=>rw [z] at h; exact h.elim
 | some xs =>
  rw [z] at h
  replace h:GoalS X.K Y H0 B0 B H E (popF j i xs τ xs[xs.length - 1]?):=h
  have hi:=ownL_some z
  obtain ⟨a,vs,ea,ha,hl⟩:=I.listAt hi
  cases hd:xs[xs.length - 1]? with
  | none=>rw [hd] at h; exact h.elim
  | some d =>
   rw [hd] at h
   unfold popF at h
   split at h
   ·rename_i d' hp
    cases hp
    split at h
    ·rename_i hpl
     obtain ⟨v0,f0,g1,r0,_⟩:=I.rep.get hi
     obtain ⟨a',ws,g,ea',q',rl,_⟩:=r0
     rw [ea] at g1
     cases g1
     cases ea'
     have hw:ws=vs:=by
      rw [ha] at q'
      cases q'
      rfl
     subst hw
     obtain ⟨v,f,hv',rv,_⟩:=rl.get hd
     have hlast:ws[ws.length - 1]?=some v:=by rw [<- hl]; exact hv'
     refine ⟨.ref a,ea,.inl ⟨rfl,ws,SqL.of ha⟩,a,ws,v,rfl,rfl,ha,hlast,?_⟩
     obtain ⟨P',I'⟩:=I.mutL (xs' := xs.dropLast) (vs' := ws.dropLast) (gp := []) hi ea Vok.nil (fun f _ rl=>by
      obtain ⟨g,h1,h2⟩:=rl.dropLast
      exact ⟨g,h1,fun b m=>.inl (h2.subset m),fun nf _=>nf.sublist h2⟩) ha
     obtain ⟨_,rv'⟩:=Rep.plainI (B' := B) (S' := No) I'.imm hpl rv
     obtain ⟨P'',I'',_⟩:=I'.si.set j rv' Vok.nil
     exact h B _ _ P'' ⟨I'',I'.b,I'.imm⟩
    ·exact h.elim
   ·exact h.elim
def truD:D->Res Bool
 | .bl b=>.ok b
 | .lst _ xs=>.ok (!xs.isEmpty)
 | .tup xs=>.ok (!xs.isEmpty)
 | _=>.bad
def eTr (f:SD->Res D) (τ:SD):Res Bool:=(f τ).bind truD
theorem empty_of {S:Addr->Prop}{xs:List D}{vs:List V}{f:List Addr} (r:RepL K B S H xs vs f):(!vs.isEmpty) = !xs.isEmpty:=by
 have:=r.length
 cases xs <;> cases vs <;> simp_all
theorem qt_tru {a:Expr}{fa:SD->Res D} (ha:PE X a (tM X.K Y fa)) (he:∀ whole,isTrue a X.env whole=(do let v <- whole; standAt a.pos; holding [v] (truthy v)):=by intro _; rfl):PT X a (tMB X.K Y (eTr fa)) :=
 PT.imp (pt_truth ha he) fun σ H Q hq=>ex8 hq fun H0 B0 B τ P F I h=>by
  refine ⟨H0,B0,B,τ,P,F,I,?_⟩
  unfold eTr at h
  cases e:fa τ with
  | bad=>rw [e] at h; exact h.elim
  | exn C=>rw [e] at h; exact h
  | ok d =>
   rw [e] at h
   intro v H' B' fp I' s b r k
   cases d with
   | bl c=>obtain ⟨rfl,rfl⟩:=r; exact ⟨c,rfl,h H' B' I' s b⟩
   | lst t xs =>
    obtain ⟨p,ws,g,rfl,q,l,_⟩:=Rep.lst I' r
    exact ⟨_,.inl ⟨ws,q,rfl⟩,by rw [empty_of l]; exact h H' B' I' s b⟩
   | tup xs =>
    obtain ⟨p,ws,rfl,q,l⟩:=Rep.tp r
    exact ⟨_,.inr (.inl ⟨ws,q,rfl⟩),by rw [empty_of l]; exact h H' B' I' s b⟩
   | non=>exact h.elim
   | int i=>exact h.elim
   | str x=>exact h.elim
   | dct t k2 ks vs=>exact h.elim
   | exc C=>exact h.elim
end
end DL
namespace L2
open PySem PySem.Spec PyProof.Rows
def Itk (a:Addr) (kvs:List (Key × V)) (ep:Nat):It :=
 ⟨fun i H=>H a=some (.dK kvs ep)/\i < kvs.length,fun i H x H'=>H'=H/\∃ p,kvs[i]?=some p/\x=kV p.1,fun i H=>H a=some (.dK kvs ep)/\kvs.length <= i⟩
theorem is_kV {P:Program}{w:World}{k:Key}{u:Value} (h:(mixKind P w).is k u=true):RelV (kV k) u:=by
 rcases keyIs_shape (show keyIs k u=true from h) with ⟨i,t,rfl,rfl⟩ | ⟨x,t,rfl,rfl⟩
 ·exact ⟨t,rfl⟩
 ·exact ⟨t,rfl⟩
theorem kv_get:∀ {kvs:List (Key × V)}{vs:List (Key × Value)},KV kvs vs->∀ {i:Nat}{p:Key × V},kvs[i]?=some p->∃ v,vs[i]?=some (p.1,v)
 | _,_,.nil,i,p,h=>by simp at h
 | _,_,.cons (b:=q) r t,0,p,h=>by cases h; exact ⟨q.2,by simp [r.1]⟩
 | _,_,.cons r t,i + 1,p,h=>kv_get t (i:=i) h
theorem turn_dict {P:Program}{w:World}{K:PySem.W.Frag}{tg:Expr} (a it:Addr) (kvs:List (Key × V)) (ep:Nat):Turn P w K tg (Itk a kvs ep) [it] it (fun i h=>h.IsKeyIter it a i kvs.length ep) where
 mem:=by simp
 obj:=fun i h st b hb=>by
  have e:b=it:=by simpa using hb
  subst e
  obtain ⟨o,e,c,d⟩:=st
  exact ⟨o,e,fun v z=>by rw [d] at z; cases z⟩
 keep:=fun i h h' st k=>by
  obtain ⟨o,e,c,d⟩:=st
  exact ⟨o,k it (by simp) o e,c,d⟩
 item:=by
  intro X hP hw hK hc i pins s σ H E I hf st hg
  subst hP hw hK
  obtain ⟨ha,hi⟩:=hg
  obtain ⟨z,y,vs,r,dd⟩:=(show ObjOk X.prog X.w H s.heap a (.dK kvs ep) from I.hok a _ ha)
  have hl:kvs.length=vs.length:=Paired.length r
  obtain ⟨v,hv⟩:=kv_get r (List.getElem?_eq_getElem hi)
  obtain ⟨f0,f1,f2,f3,f4,f5⟩:=hf it (by simp)
  rw [hl] at st
  refine wpAny_pyNext_dict_item st dd hv fun key h' hk st' sb=>?_
  have I1:Inv X pins σ H { s with heap:=h' }:=I.turned (t' := s.toks) (fun b o hb e=>(sb.2 b hb).trans e) f0 f1 f3 f4 f5
  obtain ⟨o,e,c,d⟩:=id st'
  rw [<- hl] at st'
  exact ⟨key,rfl,go_of (s := { s with heap:=h' }) e c d (by decide) ⟨kV kvs[i].1,H,I1,is_kV hk,⟨rfl,_,List.getElem?_eq_getElem hi,rfl⟩,st',fun b hb=>(hf b hb).1⟩⟩
 done:=by
  intro X hP hw hK hc i pins s σ H E I hf st hg
  subst hP hw hK
  obtain ⟨ha,hi⟩:=hg
  obtain ⟨z,y,vs,r,dd⟩:=(show ObjOk X.prog X.w H s.heap a (.dK kvs ep) from I.hok a _ ha)
  have hl:kvs.length=vs.length:=Paired.length r
  obtain ⟨f0,f1,f2,f3,f4,f5⟩:=hf it (by simp)
  rw [hl] at st
  exact wpAny_pyNext_dict_end (I.ok.hd hc) st dd (List.getElem?_eq_none (by omega)) fun h' eb=>⟨rfl,I.turned (t' := s.toks) (fun b o hb e=>eb b o hb e) f0 f1 f3 f4 f5⟩
 self:=fun _ _ _ _ _ st h=>wpAny_pyIter_keyiter st h
section
variable {X:Cx}{tg:Expr}
theorem pi_keys {l:Expr}{tl:TE} (hl:PE X l tl):PI X tg l (fun σ H R=>tl σ H fun x H1=>∃ a kvs ep,x=.ref a/\H1 a=some (.dK kvs ep)/\R (Itk a kvs ep) H1):=by
 intro pins s σ H R I h
 refine thn (hl pins s σ H _ I h) fun v s1 ⟨x,H1,I1,r1,a,kvs,ep,e,ha,q⟩=>?_
 subst e
 cases r1
 obtain ⟨z,y,vs,r,dd⟩:=(show ObjOk X.prog X.w H1 s1.heap a (.dK kvs ep) from I1.hok a _ ha)
 have hl:kvs.length=vs.length:=Paired.length r
 refine wpAny_pyIter_dict y dd ?_
 refine ⟨s1.heap.objs.size,[s1.heap.objs.size],_,_,H1,rfl,I1.kept (t' := s1.toks) fun b o e=>Heap.get?_push_of_some _ e,turn_dict a _ kvs ep,⟨_,Heap.get?_push_size _ rfl,rfl,by rw [hl]; rfl⟩,fun b hb=>?_,q⟩
 have e:b=s1.heap.objs.size:=by simpa using hb
 subst e
 exact I1.fpOk (Nat.le_refl _) (I1.hok.fresh (Nat.le_refl _))
end
end L2
namespace DL
open PySem PySem.Spec PyProof.Rows L2
def keyDl:KT->D
 | .inl (.inl i)=>.int i
 | .inl (.inr x)=>.str x
 | .inr _=>.non
theorem keyDl_pure (ks:List KT):pureL (ks.map keyDl)=true:=pureL_of fun d m=>by
 obtain ⟨k,_,rfl⟩:=List.mem_map.mp m
 match k with
 | .inl (.inl i)=>rfl
 | .inl (.inr x)=>rfl
 | .inr _=>rfl
def itemsK:D->Res (Bool × List D)
 | .dct t false ks vs=>.ok ((D.dct t false ks vs).hasBor,ks.map keyDl)
 | _=>.bad
def eKeys (f:SD->Res D) (τ:SD):Res (Bool × List D):=(f τ).bind itemsK
section
variable {K:PySem.W.Frag}{Y:XY}{B H:Hp}{X:Cx}{e:Expr}{fe:SD->Res D}
theorem itd_keys {a:Addr}{kvs:List (Key × V)}{ep:Nat} (hb:B a=some (.dK kvs ep)):ItD K (Itk a kvs ep) ((kvs.map fun p=>(Sum.inl p.1:KT)).map keyDl) B H where
 go:=fun B' H' i d s1 s2 im e=>by
  have:=(List.getElem?_eq_some_iff.mp e).1
  exact ⟨s2 _ _ (s1 _ _ hb),by simpa using this⟩
 yld:=fun B' H' i d x H'' s1 s2 im e y=>by
  obtain ⟨rfl,p,hp,rfl⟩:=y
  rw [List.getElem?_map,List.getElem?_map,hp] at e
  cases e
  refine ⟨Same.refl _,?_⟩
  obtain ⟨k,v⟩:=p
  match k with
  | .inl i=>exact ⟨rfl,rfl⟩
  | .inr x=>exact ⟨rfl,rfl⟩
 stop:=fun B' H' s1 s2 im=>⟨s2 _ _ (s1 _ _ hb),by rw [List.length_map,List.length_map]; exact Nat.le_refl _⟩
theorem qi_keys {tg:Expr} (he:PE X e (tM X.K Y fe)):PI X tg e (tMI X.K Y (eKeys fe)):=by
 refine PI.imp (pi_keys he) fun σ H R hq=>ex8 hq fun H0 B0 B τ P F I h=>⟨H0,B0,B,τ,P,F,I,?_⟩
 cases z:fe τ with
 | exn C=>simp only [eKeys,z,Res.bind_exn] at h; exact h
 | bad=>simp only [eKeys,z,Res.bind_bad] at h
 | ok d =>
  simp only [eKeys,z,Res.bind_ok] at h
  intro v H1 B1 fp I1 s1 b1 r1 k1
  cases d with
  | dct t k ks xs =>
   cases k with
   | true=>exact h.elim
   | false =>
    simp only [itemsK] at h
    obtain ⟨a,vs,g,rfl,q,_⟩:=r1.dc I1
    rcases q with ⟨_,kvs,ep,ha,hks,hvs⟩ | ⟨q0,_⟩
    ·refine ⟨a,kvs,ep,rfl,ha,h _ H1 _ fp I1 s1 b1 k1 fun Bx sB sH h1 h2=>?_⟩
     obtain ⟨a',ws,ea,q',rl,_⟩:Rep X.K Bx No H1 (D.dct .frz false ks (frzL xs)) (.ref a) []:=frz_for r1 sB h1 h2
     cases ea
     rw [frzL_pure _ (keyDl_pure ks),hks]
     rcases q' with ⟨_,kvs',ep',hb,_⟩ | ⟨q0,_⟩
     ·have e1:=sH _ _ hb
      rw [ha] at e1
      cases e1
      exact itd_keys hb
     ·cases q0
    ·cases q0
  | _=>exact h.elim
end
end DL
namespace DI
open PySem
variable {prog:Program}{w:World}{A:Around}{E:Value->Shared->Prop}{s:Shared}
theorem pair_owner {it d:Addr}{i n ep:Nat}{x y u v:Value}{Q:Value->Shared->Prop} (ht:IsItemIter s.heap it d i n ep x y)
  (h:∀ h',IsItemIterOut h' it d i n ep u v s.heap.objs.size->h'.get? s.heap.objs.size=some { cls := .type "tuple",data := .seq #[u,v] }->(∀ b o,b ≠ it->s.heap.get? b=some o->h'.get? b=some o)->Q (.ref s.heap.objs.size) { s with heap:=h' }) :
  wpAny (model prog w) A (Builtin.Dict_items.pairFromOwner (.ref it) 6 u v) Q E s:=by
 unfold Builtin.Dict_items.pairFromOwner Builtin.Dict_items.ownedTupleIsFree
 have lt:it < s.heap.objs.size:=Heap.lt_size ht
 refine wpAny_bind (wpAny_newTuple ?_)
 generalize hk:s.heap.push { cls := .type "tuple",data := .seq #[u,v] }=k
 have tk:k.get? s.heap.objs.size=some { cls := .type "tuple",data := .seq #[u,v] }:=by rw [<- hk]; exact Heap.get?_push_size _ rfl
 have ks:∀ b o,s.heap.get? b=some o->k.get? b=some o:=fun b o e=>by rw [<- hk]; exact Heap.get?_push_of_some _ e
 have r0:IsItemIter k it d i n ep x y:=ks _ _ ht
 refine wpAny_bind (wpAny_bind (wpAny_field r0 rfl (x := .none) rfl (wpAny_pure ?_)))
 simp only [if_true]
 refine wpAny_bind (wpAny_field r0 rfl (x:=x) rfl (wpAny_bind (wpAny_field r0 rfl (x:=y) rfl (wpAny_bind ?_))))
 refine wpAny_setField_rec r0 (by simp) fun k1 r1 q1=>wpAny_bind (wpAny_setField_rec r1 (by simp) fun k2 r2 q2=>wpAny_bind (wpAny_setField_rec r2 (by simp) fun k3 r3 q3=>wpAny_bind (wpAny_setField_rec r3 (by simp) fun k4 r4 q4=>?_)))
 have ex:∀ b o,b ≠ it->k.get? b=some o->k4.get? b=some o:=fun b o nb e=>Heap.SameBut.extBut q4 b o nb (Heap.SameBut.extBut q3 b o nb (Heap.SameBut.extBut q2 b o nb (Heap.SameBut.extBut q1 b o nb e)))
 exact wpAny_bind (wpAny_letGo (wpAny_pure (h k4 r4 (ex _ _ (Nat.ne_of_gt lt) tk) fun b o nb e=>ex b o nb (ks b o e))))
theorem items_item {it d:Addr}{o:Obj}{i ep:Nat}{es:Array DictEntry}{x y:Value}{Q:Option Value->Shared->Prop} (hi:i < es.size) (ho:s.heap.get? d=some o) (hdat:o.data=.dict es ep) (ht:IsItemIter s.heap it d i es.size ep x y)
  (h:∀ h',IsItemIterOut h' it d (i + 1) es.size ep es[i].key es[i].val s.heap.objs.size->h'.get? s.heap.objs.size=some { cls := .type "tuple",data := .seq #[es[i].key,es[i].val] } ->
   (∀ b o,b ≠ it->s.heap.get? b=some o->h'.get? b=some o)->Q (some (.ref s.heap.objs.size)) { s with heap:=h' }) :
  wpAny (model prog w) A (pyNext (.ref it)) Q E s:=by
 have hT:s.TypeIs (.ref it) "dict_itemiterator" := ⟨_,ht,rfl⟩
 obtain ⟨cl,dd,dt,sl⟩:=o
 simp only at hdat
 subst hdat
 have hw:Builtin.Dict_items.ownsTuple "dict_itemiterator" = true:=by decide
 have n0:¬ ((i:Int) < 0):=by omega
 have e0:es[((i:Int)).toNat]?=some es[i]:=by rw [Int.toNat_natCast]; exact Array.getElem?_eq_getElem hi
 unfold pyNext
 refine wpAny_bind (wpAny_attempt (wpAny_callSpecial?_slot hT F.slot_dict_itemiterator_next (wpAny_call_entry F.slot_dict_itemiterator_next hT F.entry_dict_itemiterator_next ?_ (F.args_dict_itemiterator_next_1 _))))
 wp_walk using wpAny_typeNameOfWhole_itemiter hT,wpAny_isOneOf_itemiter hT
 rw [if_neg (by simp)]
 wp_walk using wpAny_typeNameOfWhole_itemiter hT,wpAny_isOneOf_itemiter hT
 simp only [e0]
 refine wpAny_bind (wpAny_bind (wpAny_typeNameOfWhole_itemiter hT (wpAny_pure (wpAny_bind (wpAny_isOneOf_itemiter hT (wpAny_bind ?_))))))
 refine wpAny_setField_rec ht (by rw [hw]; simp) fun k1 a1 b1=>?_
 replace b1:Heap.SameBut it s.heap k1:=b1
 have f1:IsItemIter k1 it d (i + 1) es.size ep x y:=by
  have e:((i + 1:Nat):Int)=(i:Int) + 1:=by omega
  unfold IsItemIter
  rw [e]
  exact a1
 have T1:Shared.TypeIs ⟨k1,s.gens,s.drawn,s.toks,s.os⟩ (.ref it) "dict_itemiterator" := ⟨_,f1,rfl⟩
 clear a1
 have z1:k1.objs.size=s.heap.objs.size:=b1.1
 have lt:it < s.heap.objs.size:=Heap.lt_size ht
 refine wpAny_bind (wpAny_holding (wpAny_bind (wpAny_isOneOf_itemiter T1 (wpAny_bind (wpAny_isOneOf_itemiter T1 ?_)))))
 rw [if_neg (by decide)]
 refine pair_owner f1 fun k2 p1 p2 p3=>wpAny_pure ⟨_,rfl,wpAny_pure ?_⟩
 rw [z1] at p1 p2 ⊢
 exact h k2 p1 p2 fun b o nb e=>p3 b o nb (Heap.SameBut.extBut b1 b o nb e)
theorem items_end {it d:Addr}{o:Obj}{i ep:Nat}{es:Array DictEntry}{x y:Value}{Q:Option Value->Shared->Prop} (hh:A.handled=none) (hi:es.size <= i) (ho:s.heap.get? d=some o) (hdat:o.data=.dict es ep) (ht:IsItemIter s.heap it d i es.size ep x y)
  (h:∀ h',Heap.ExtBut it s.heap h'->Q none { s with heap:=h' }):wpAny (model prog w) A (pyNext (.ref it)) Q E s:=by
 have hT:s.TypeIs (.ref it) "dict_itemiterator" := ⟨_,ht,rfl⟩
 obtain ⟨cl,dd,dt,sl⟩:=o
 simp only at hdat
 subst hdat
 have e0:es[((i:Int)).toNat]?=none:=by rw [Int.toNat_natCast]; exact Array.getElem?_eq_none hi
 unfold pyNext
 refine wpAny_bind (wpAny_attempt (wpAny_callSpecial?_slot hT F.slot_dict_itemiterator_next (wpAny_call_entry F.slot_dict_itemiterator_next hT F.entry_dict_itemiterator_next ?_ (F.args_dict_itemiterator_next_1 _))))
 wp_walk using wpAny_typeNameOfWhole_itemiter hT,wpAny_isOneOf_itemiter hT
 rw [if_neg (by simp)]
 wp_walk using wpAny_typeNameOfWhole_itemiter hT,wpAny_isOneOf_itemiter hT
 simp only [e0]
 refine wpAny_bind (wpAny_bind (wpAny_typeNameOfWhole_itemiter hT (wpAny_pure (wpAny_bind ?_))))
 refine wpAny_setField_rec ht (by rw [show Builtin.Dict_items.ownsTuple "dict_itemiterator" = true by decide]; simp) fun k1 r1 q1=>?_
 replace q1:Heap.SameBut it s.heap k1:=q1
 wp_walk
 unfold raiseNew
 refine wpAny_bind (wpAny_handled ?_)
 rw [show A.in1.handled=none from hh]
 refine wpAny_bind (wpAny_pure (wpAny_throw ?_))
 refine wpAny_bind (wpAny_isInstance (T := "StopIteration") (b:=true) ⟨_,Heap.get?_push_size _ rfl,rfl⟩ isSubtype_stop (wpAny_pure ?_))
 exact h _ ((q1.extBut.push _).push _)
theorem view_call {d:Addr}{o:Obj}{Q:Value->Shared->Prop} (hn:(d == sysModules)=false) (ho:s.heap.get? d=some o) (hx:o.ExactDict)
  (h:Q (.ref s.heap.objs.size) { s with heap:=s.heap.push { cls := .type "dict_items",data := .fields #[.ref d] } }):wpAny (model prog w) A (call (.builtin "dict.items") [.ref d]) Q E s:=by
 have hT:s.TypeIs (.ref d) "dict" := ⟨o,ho,hx.1⟩
 refine wpAny_call_entry F.slot_dict_items hT F.entry_dict_items ?_ (F.args_dict_items_1 _)
 wp_walk
 rw [if_neg (by rw [hx.1]; decide)]
 wp_walk
 exact ⟨_,rfl,h⟩
theorem view_iter {v d:Addr}{o:Obj}{es:Array DictEntry}{ep:Nat}{Q:Value->Shared->Prop} (hv:s.heap.IsItemsView v d) (ho:s.heap.get? d=some o) (hdat:o.data=.dict es ep)
  (h:∀ h',IsItemIter h' s.heap.objs.size d 0 es.size ep .none .none->(∀ b o,s.heap.get? b=some o->h'.get? b=some o)->Q (.ref s.heap.objs.size) { s with heap:=h' }):wpAny (model prog w) A (pyIter (.ref v)) Q E s:=by
 obtain ⟨⟨c1,d1,t1,l1⟩,h1,h2,h3⟩:=id hv
 obtain ⟨c2,d2,t2,l2⟩:=o
 simp only at h2 h3 hdat
 subst h2 h3 hdat
 refine wpAny_pyIter_slot hv.typeIs F.slot_dict_items_iter (wpAny_call_entry F.slot_dict_items_iter hv.typeIs F.entry_dict_items_iter ?_ (F.args_dict_items_iter_1 _))
 wp_walk
 exact ⟨_,rfl,"dict_itemiterator",_,⟨_,Heap.get?_push_size _ rfl,rfl⟩,F.slot_dict_itemiterator_next.lookup,h _ (Heap.get?_push_size _ rfl) fun b o e=>Heap.get?_push_of_some _ e⟩
theorem entry_self:entryFor table "dict_itemiterator.__iter__" = some Builtin.«dict_keyiterator.__iter__» := by
 first | exact entryFor_alias (id' := "dict_keyiterator.__iter__") (by kernel_rfl) rfl (by decide +kernel) (by kernel_rfl) | exact entryFor_of_tree (by kernel_rfl)
theorem self_iter {it d:Addr}{i n ep:Nat}{x y:Value}{Q:Value->Shared->Prop} (ht:IsItemIter s.heap it d i n ep x y) (h:Q (.ref it) s):wpAny (model prog w) A (pyIter (.ref it)) Q E s:=by
 have hT:s.TypeIs (.ref it) "dict_itemiterator" := ⟨_,ht,rfl⟩
 refine wpAny_pyIter_slot hT F.slot_dict_itemiterator_iter (wpAny_call_entry F.slot_dict_itemiterator_iter hT entry_self ?_ (F.args_dict_itemiterator_iter_1 _))
 wp_walk
 exact ⟨_,rfl,"dict_itemiterator",_,hT,F.slot_dict_itemiterator_next.lookup,h⟩
end DI
namespace L2
open PySem PySem.Spec PyProof.Rows
def Iti (a:Addr) (kvs:List (List Key × V)) (ep:Nat):It :=
 ⟨fun i H=>H a=some (.dT kvs ep)/\i < kvs.length,fun i H x H'=>∃ p b q,kvs[i]?=some q/\H b=some (.tup (q.1.map kV))/\H p=none/\x=.ref p/\H'=upd H p (.tup [.ref b,q.2]),fun i H=>H a=some (.dT kvs ep)/\kvs.length <= i⟩
theorem paired_at {α β:Type}{R:α->β->Prop}:∀ {l:List α}{m:List β},Paired R l m->∀ {i:Nat},i < l.length->∃ p q,l[i]?=some p/\m[i]?=some q/\R p q
 | _,_,.nil,i,h=>absurd h (Nat.not_lt_zero _)
 | _,_,.cons r t,0,h=>⟨_,_,rfl,rfl,r⟩
 | _,_,.cons r t,i + 1,h=>paired_at t (i:=i) (by simpa using h)
theorem turn_items {P:Program}{w:World}{K:PySem.W.Frag}{elts:List Expr}{x1:Nat}{tp:Pos} (a it:Addr) (kvs:List (List Key × V)) (ep:Nat):Turn P w K (.Tuple elts x1 tp) (Iti a kvs ep) [it] it (fun i h=>∃ x y,IsItemIter h it a i kvs.length ep x y) where
 mem:=by simp
 obj:=fun i h st b hb=>by
  have e:b=it:=by simpa using hb
  subst e
  obtain ⟨x,y,q⟩:=st
  exact ⟨_,q,fun v z=>by cases z⟩
 keep:=fun i h h' st k=>by
  obtain ⟨x,y,q⟩:=st
  exact ⟨x,y,k it (by simp) _ q⟩
 item:=by
  intro X hP hw hK hc i pins s σ H E I hf st hg
  obtain ⟨ha,hi⟩:=hg
  obtain ⟨x,y,st⟩:=st
  subst hP hw hK
  obtain ⟨z,ns,xs,r,o,es,ho,hx,hd,he,_⟩:=(show ObjOk X.prog X.w H s.heap a (.dT kvs ep) from I.hok a _ ha)
  have hl:kvs.length=xs.length:=Paired.length r
  have hs:es.size=kvs.length:=by rw [<- Array.length_toList,he,List.length_map,hl]
  have hi':i < es.size:=by omega
  obtain ⟨f0,f1,f2,f3,f4,f5⟩:=hf it (by simp)
  obtain ⟨q,u,hq,hu,e1,hb,rv⟩:=paired_at r hi
  have hes:es[i]=entryOfKey (tupleKind (mixKind X.prog X.w)) u:=by
   have e2:es[i]?=some (entryOfKey (tupleKind (mixKind X.prog X.w)) u):=by rw [<- Array.getElem?_toList,he,List.getElem?_map,hu]; rfl
   rw [Array.getElem?_eq_getElem hi'] at e2
   exact Option.some.inj e2
  rw [<- hs] at st
  have lt:it < s.heap.objs.size:=Heap.lt_size st
  refine DI.items_item hi' ho hd st fun h1 k1 k2 k3=>⟨_,rfl,wpAny_letOwnedTupleGo_items k1 fun h2 m1 m2=>?_⟩
  have m2:Heap.SameBut it h1 h2:=m2
  rw [hes] at k2 m1
  have fr:H s.heap.objs.size=none:=I.fresh
  have kp:∀ b o,b ≠ it->s.heap.get? b=some o->h2.get? b=some o:=fun b o nb e=>(m2.2 b nb).trans (k3 b o nb e)
  have tk:h2.get? s.heap.objs.size=some { cls := .type "tuple",data := .seq #[.ref u.2.1,u.2.2] }:=(m2.2 _ (Nat.ne_of_gt lt)).trans k2
  have ok1:HOk X.prog X.w H h2:=fun b o hb=>(I.hok b o hb).stay (fun c v hcb q=>kp c v (fun z=>by
    subst z
    rcases hcb with z | z
    ·subst z
     rw [f0] at hb
     cases hb
    ·rw [f0] at z
     cases z) q) (fun _ z=>z) fun _ _ z=>z
  have ok2:HOk X.prog X.w (upd H s.heap.objs.size (.tup [.ref u.2.1,q.2])) h2:=hok_add ok1 fr ⟨by show 2 <= sizeLine; decide,[.ref u.2.1,u.2.2],.cons rfl (.cons rv .nil),⟨_,tk⟩⟩
  have I2:Inv X pins σ (upd H s.heap.objs.size (.tup [.ref u.2.1,q.2])) { s with heap:=h2 }:=by
   refine I.step (g' := s.gens) (d' := s.drawn) (ch := [it]) (fun b hb=>?_) (fun b o _ _ hb q _=>kp b o (fun z=>hb (by simp [z])) q) (fun b o _ _ hb q _=>⟨o.slots,kp b o (fun z=>hb (by simp [z])) q⟩)
    (fun b o _ q n=>by rw [upd_ne (Nat.ne_of_lt (Heap.lt_size q))]; exact n) (fun b o hb q=>⟨o,kp b o (fun z=>hb (by simp [z])) q⟩)
    (fun b ys q=>by rw [upd_ne (ne_of_none q fr)]; exact q) (fun b o v q=>by rw [upd_ne (ne_of_none q fr)]; exact q) (fun b ps q=>⟨#[],by rw [upd_ne (ne_of_none q fr),Array.append_empty]; exact q⟩)
    (fun m hm=>hm.at fun o q=>kp _ o (Ne.symm f1) q) ok2 I.bare
   have z:b=it:=by simpa using hb
   subst z
   exact ⟨f3,f1,f4,f5⟩
  refine ⟨.ref s.heap.objs.size,_,I2,rfl,⟨_,u.2.1,q,hq,hb,fr,rfl,rfl⟩,⟨.ref u.2.1,u.2.2,?_⟩,fun b hb=>?_⟩
  ·rw [<- hs]
   exact m1
  ·have z:b=it:=by simpa using hb
   subst z
   rw [upd_ne (Nat.ne_of_lt lt)]
   exact f0
 done:=by
  intro X hP hw hK hc i pins s σ H E I hf st hg
  obtain ⟨ha,hi⟩:=hg
  obtain ⟨x,y,st⟩:=st
  subst hP hw hK
  obtain ⟨z,ns,xs,r,o,es,ho,hx,hd,he,_⟩:=(show ObjOk X.prog X.w H s.heap a (.dT kvs ep) from I.hok a _ ha)
  have hl:kvs.length=xs.length:=Paired.length r
  have hs:es.size=kvs.length:=by rw [<- Array.length_toList,he,List.length_map,hl]
  obtain ⟨f0,f1,f2,f3,f4,f5⟩:=hf it (by simp)
  rw [<- hs] at st
  exact DI.items_end (I.ok.hd hc) (by omega) ho hd st fun h' eb=>⟨rfl,I.turned (t' := s.toks) (fun b o hb e=>eb b o hb e) f0 f1 f3 f4 f5⟩
 self:=fun _ _ _ _ _ ⟨_,_,st⟩ h=>DI.self_iter st h
section
variable {X:Cx}{elts:List Expr}{x1:Nat}{tp apos cpos:Pos}
theorem pi_items {o:Expr}{to:TE} (ho:PE X o to) (hbase:attributeBase o "items" X.env (eval o X.env)=eval o X.env:=by rfl) (hline:(apos.endLine == cpos.line)=true:=by rfl) :
  PI X (.Tuple elts x1 tp) (.Call (.Attribute o "items" apos) [] [] cpos) (fun σ H R=>to σ H fun x H1=>∃ a kvs ep,x=.ref a/\H1 a=some (.dT kvs ep)/\R (Iti a kvs ep) H1):=by
 intro pins s σ H R I h
 refine wpAny_Call_method0_late hbase hline (thn (ho pins s σ H _ I h) fun v s1 ⟨x,H1,I1,r1,a,kvs,ep,e,ha,q⟩=>?_)
 subst e
 cases r1
 obtain ⟨h1,h2⟩:=tyV_is (T := "dict") I1 (show RelV (.ref a) (.ref a) from rfl) (.inr (.inr (.inl ⟨rfl,.inr ⟨kvs,ep,ha⟩⟩)))
 refine ⟨"dict","dict.items",PySem.F.plainAttrs_dict,PySem.F.slot_dict_items,PySem.F.type_dict_items,h1,h2,Calls.callWith_builtin rfl (PySem.evalArgs_none ?_)⟩
 obtain ⟨z,ns,xs,r,o,es,hob,hx,hd,he,_⟩:=(show ObjOk X.prog X.w H1 s1.heap a (.dT kvs ep) from I1.hok a _ ha)
 have hl:kvs.length=xs.length:=Paired.length r
 have hs:es.size=kvs.length:=by rw [<- Array.length_toList,he,List.length_map,hl]
 refine DI.view_call ns hob hx ?_
 refine DI.view_iter (v:=s1.heap.objs.size) ⟨_,Heap.get?_push_size _ rfl,rfl,rfl⟩ (Heap.get?_push_of_some _ hob) hd fun h' k1 k2=>?_
 have I2:Inv X pins σ H1 { s1 with heap:=s1.heap.push { cls := .type "dict_items",data := .fields #[.ref a] } }:=I1.kept (t' := s1.toks) fun b o e=>Heap.get?_push_of_some _ e
 have I3:Inv X pins σ H1 { s1 with heap:=h' }:=I2.kept (t' := s1.toks) fun b o e=>k2 b o e
 refine ⟨_,[_],_,_,H1,rfl,I3,turn_items a _ kvs ep,⟨_,_,by rw [<- hs]; exact k1⟩,fun b hb=>?_,q⟩
 have e:=List.mem_singleton.mp hb
 subst e
 exact I2.fpOk (Nat.le_refl _) (I2.hok.fresh (Nat.le_refl _))
end
end L2
namespace DL
open PySem PySem.Spec PyProof.Rows L2
def keyD1:Key->D | .inl i=>.int i | .inr x=>.str x
def keyTp:KT->D | .inr ks=>.tup (ks.map keyD1) | .inl _=>.non
def pairsD:List KT->List D->List D
 | k :: ks,d :: ds=>.tup [keyTp k,d] :: pairsD ks ds
 | _,_=>[]
def itemsI:D->Res (Bool × List D)
 | .dct t true ks vs=>if pureL vs=true then .ok ((D.dct t true ks vs).hasBor,pairsD ks vs) else .bad
 | _=>.bad
def eItems (f:SD->Res D) (τ:SD):Res (Bool × List D):=(f τ).bind itemsI
section
variable {K:PySem.W.Frag}{Y:XY}{B H:Hp}{X:Cx}{e:Expr}{fe:SD->Res D}
theorem keys_rep {S:Addr->Prop}:∀ (ks:List Key),RepL K B S H (ks.map keyD1) (ks.map kV) []
 | []=>⟨rfl,rfl⟩
 | .inl i :: ks=>⟨_,_,[],[],rfl,⟨rfl,rfl⟩,keys_rep ks,rfl⟩
 | .inr x :: ks=>⟨_,_,[],[],rfl,⟨rfl,rfl⟩,keys_rep ks,rfl⟩
theorem pureL_keys (ks:List Key):pureL (ks.map keyD1)=true:=pureL_of fun d m=>by
 obtain ⟨k,_,rfl⟩:=List.mem_map.mp m
 cases k <;> rfl
theorem keyTp_pure (k:KT):(keyTp k).pure=true:=by
 cases k with
 | inl k=>rfl
 | inr k=>exact pureL_keys k
theorem pairsD_pure:∀ (ks:List KT) (vs:List D),pureL vs=true->pureL (pairsD ks vs)=true
 | [],vs,_=>by cases vs <;> rfl
 | k :: ks,[],_=>rfl
 | k :: ks,d :: ds,h=>by
  have h:(d.pure && pureL ds)=true:=h
  rw [Bool.and_eq_true] at h
  show ((keyTp k).pure && (d.pure && true) && pureL (pairsD ks ds))=true
  rw [keyTp_pure,h.1,pairsD_pure ks ds h.2]; rfl
theorem pairsD_at {S:Addr->Prop}:∀ {kvs:List (List Key × V)}{vs:List D}{f:List Addr},RepL K B S H vs (kvs.map (·.2)) f->(pairsD (kvs.map fun p=>Sum.inr p.1) vs).length=kvs.length/\∀ {i:Nat}{d:D}{q:List Key × V},(pairsD (kvs.map fun p=>Sum.inr p.1) vs)[i]?=some d->kvs[i]?=some q->∃ x g,vs[i]?=some x/\d=.tup [.tup (q.1.map keyD1),x]/\Rep K B S H x q.2 g
 | [],vs,f,r=>by
  cases vs with
  | nil=>exact ⟨rfl,fun h=>by simp [pairsD] at h⟩
  | cons v vs=>obtain ⟨_,_,_,_,e,_⟩:=r; cases e
 | p :: kvs,[],f,r=>by obtain ⟨e,_⟩:=r; cases e
 | p :: kvs,x :: vs,f,r=>by
  obtain ⟨v,w,f1,f2,e,r1,r2,rfl⟩:=r
  rw [List.map_cons] at e
  cases e
  obtain ⟨h1,h2⟩:=pairsD_at r2
  refine ⟨by rw [List.map_cons,pairsD,List.length_cons,List.length_cons,h1],fun {i d q} hd hq=>?_⟩
  cases i with
  | zero=>cases hd; cases hq; exact ⟨x,f1,rfl,rfl,r1⟩
  | succ i=>exact h2 (i:=i) hd hq
theorem itd_items {a:Addr}{kvs:List (List Key × V)}{ep:Nat}{vs:List D} (hb:B a=some (.dT kvs ep)) (r:RepL K B No H vs (kvs.map (·.2)) []) (hp:pureL vs=true):ItD K (Iti a kvs ep) (pairsD (kvs.map fun p=>Sum.inr p.1) vs) B H where
 go:=fun B' H' i d s1 s2 im e=>by
  have:=(List.getElem?_eq_some_iff.mp e).1
  rw [(pairsD_at r).1] at this
  exact ⟨s2 _ _ (s1 _ _ hb),this⟩
 yld:=fun B' H' i d x H'' s1 s2 im e y=>by
  obtain ⟨p,b,q,hq,hbt,hpn,rfl,rfl⟩:=y
  obtain ⟨x,g,hx,rfl,rx⟩:=(pairsD_at r).2 e hq
  have sm:Same H' (upd H' p (.tup [.ref b,q.2])):=sameUpd' hpn
  have px:x.pure=true:=pureL_mem hp x (List.mem_of_getElem? hx)
  have eg:=pure_fp.1 x px rx
  subst eg
  refine ⟨sm,p,_,rfl,upd_same,.ref b,[q.2],[],[],rfl,⟨b,_,rfl,sm _ _ hbt,keys_rep _⟩,RepL.one ((rx.stay s1 im rfl).mono sm (Same.refl _) fun _ x=>x),rfl⟩
 stop:=fun B' H' s1 s2 im=>⟨s2 _ _ (s1 _ _ hb),by rw [(pairsD_at r).1]; exact Nat.le_refl _⟩
theorem qi_items {elts:List Expr}{x1:Nat}{tp apos cpos:Pos} (he:PE X e (tM X.K Y fe)) (hbase:attributeBase e "items" X.env (eval e X.env)=eval e X.env:=by rfl) (hline:(apos.endLine == cpos.line)=true:=by rfl) :
  PI X (.Tuple elts x1 tp) (.Call (.Attribute e "items" apos) [] [] cpos) (tMI X.K Y (eItems fe)):=by
 refine PI.imp (pi_items he hbase hline) fun σ H R hq=>ex8 hq fun H0 B0 B τ P F I h=>⟨H0,B0,B,τ,P,F,I,?_⟩
 cases z:fe τ with
 | exn C=>simp only [eItems,z,Res.bind_exn] at h; exact h
 | bad=>simp only [eItems,z,Res.bind_bad] at h
 | ok d =>
  simp only [eItems,z,Res.bind_ok] at h
  intro v H1 B1 fp I1 s1 b1 r1 k1
  cases d with
  | dct t k ks xs =>
   cases k with
   | false=>exact h.elim
   | true =>
    simp only [itemsI] at h
    by_cases hp:pureL xs=true
    ·rw [if_pos hp] at h
     obtain ⟨a,vs,g,rfl,q,_⟩:=r1.dc I1
     rcases q with ⟨q0,_⟩ | ⟨_,kvs,ep,ha,hks,hvs⟩
     ·cases q0
     ·refine ⟨a,kvs,ep,rfl,ha,h _ H1 _ fp I1 s1 b1 k1 fun Bx sB sH h1 h2=>?_⟩
      obtain ⟨a',ws,ea,q',rl,_⟩:Rep X.K Bx No H1 (D.dct .frz true ks (frzL xs)) (.ref a) []:=frz_for r1 sB h1 h2
      cases ea
      rw [frzL_pure _ hp] at rl
      rw [frzL_pure _ (pairsD_pure ks xs hp),hks]
      rcases q' with ⟨q0,_⟩ | ⟨_,kvs',ep',hb,_,hvs'⟩
      ·cases q0
      ·have e1:=sH _ _ hb
       rw [ha] at e1
       cases e1
       subst hvs'
       exact itd_items hb (rl.mono (Same.refl _) (Same.refl _) fun _ x=>x) hp
    ·rw [if_neg hp] at h; exact h.elim
  | _=>exact h.elim
end
def repl1:List KT->List D->KT->D->List D
 | k :: ks,d :: ds,q,x=>if k=q then x :: ds else d :: repl1 ks ds q x
 | _,ds,_,_=>ds
theorem nodup_swap {A g g' C:List Addr} (h:(A ++ g ++ C).Nodup) (n:g'.Nodup) (s:∀ x ∈ g',x ∈ g):(A ++ g' ++ C).Nodup:=by
 rw [List.append_assoc,List.nodup_append] at h ⊢
 obtain ⟨h1,h2,h3⟩:=h
 rw [List.nodup_append] at h2
 obtain ⟨h4,h5,h6⟩:=h2
 refine ⟨h1,List.nodup_append.mpr ⟨n,h5,fun a ha b hb=>h6 a (s a ha) b hb⟩,fun a ha b hb=>h3 a ha b ?_⟩
 rcases List.mem_append.mp hb with z | z
 ·exact List.mem_append_left _ (s b z)
 ·exact List.mem_append_right _ z
section
variable {K:PySem.W.Frag}{Y:XY}{H0 B0 B H:Hp}{σ:L2.St}{τ:SD}{P:List Addr}{F:Addr->Prop}{X:Cx}{pos:Pos}
theorem RepL.conv {B' H':Hp}{M:List Addr} (kp:∀ d v h,Rep K B No H d v h->(∀ a ∈ h,a ∈ M)->Rep K B' No H' d v h):∀ {ds:List D}{vs:List V}{f:List Addr},RepL K B No H ds vs f->(∀ a ∈ f,a ∈ M)->RepL K B' No H' ds vs f
 | [],_,_,r,_=>r
 | d :: ds,vs,f,r,m=>by
  obtain ⟨v,w,f1,f2,rfl,r1,r2,rfl⟩:=r
  exact ⟨v,w,f1,f2,rfl,kp _ _ _ r1 fun a z=>m a (List.mem_append_left _ z),RepL.conv kp r2 fun a z=>m a (List.mem_append_right _ z),rfl⟩
theorem RepL.cutK:∀ {kvs:List (Key × V)}{xs:List D}{f:List Addr}{k:Key}{din:D},RepL K B No H xs (kvs.map (·.2)) f->lookD (kvs.map fun p=>Sum.inl p.1) xs (.inl k)=some din ->
  ∃ w A g C,valV kvs k=some w/\f=A ++ g ++ C/\Rep K B No H din w g/\∀ {B' H':Hp}{d':D}{g':List Addr},(∀ d v h,Rep K B No H d v h->(∀ a ∈ h,a ∈ A ++ C)->Rep K B' No H' d v h)->Rep K B' No H' d' w g'->RepL K B' No H' (repl1 (kvs.map fun p=>Sum.inl p.1) xs (.inl k) d') (kvs.map (·.2)) (A ++ g' ++ C)
 | [],xs,f,k,din,r,e=>by cases xs <;> cases e
 | p :: kvs,[],f,k,din,r,e=>by cases e
 | p :: kvs,d :: ds,f,k,din,r,e=>by
  obtain ⟨v,w,f1,f2,ev,r1,r2,rfl⟩:=r
  rw [List.map_cons] at ev
  cases ev
  rw [List.map_cons,lookD] at e
  by_cases h:p.1=k
  ·rw [if_pos (congrArg Sum.inl h)] at e
   cases e
   refine ⟨p.2,[],f1,f2,valV_pos h,rfl,r1,fun {B' H' d' g'} kp r'=>?_⟩
   rw [List.map_cons,List.map_cons,repl1,if_pos (congrArg Sum.inl h)]
   exact ⟨p.2,_,g',f2,rfl,r',RepL.conv kp r2 (fun a m=>m),rfl⟩
  ·rw [if_neg fun z=>h (Sum.inl.inj z)] at e
   obtain ⟨w,A,g,C,h1,h2,h3,h4⟩:=RepL.cutK r2 e
   subst h2
   refine ⟨w,f1 ++ A,g,C,by rw [valV_neg h]; exact h1,by simp,h3,fun {B' H' d' g'} kp r'=>?_⟩
   rw [List.map_cons,List.map_cons,repl1,if_neg fun z=>h (Sum.inl.inj z)]
   exact ⟨p.2,_,f1,A ++ g' ++ C,rfl,kp _ _ _ r1 (fun a m=>List.mem_append_left _ (List.mem_append_left _ m)),h4 (fun d v u r m=>kp d v u r fun a z=>by
    rcases List.mem_append.mp (m a z) with q | q
    ·exact List.mem_append_left _ (List.mem_append_right _ q)
    ·exact List.mem_append_right _ q) r',by simp⟩
def sDput2 (i:Nat) (f1 fk fv:SD->Res D) (τ:SD):Fl:=(fv τ).toFl τ fun d=>match ownDc τ i with
 | some (t,false,ks,xs)=>(f1 τ).toFl τ fun d1=>match keyK d1 with
  | some (.inl q1)=>match lookD ks xs (.inl q1) with
   | some (.dct .own false ks2 ys)=>(fk τ).toFl τ fun dk=>match keyK dk with
    | some (.inl q)=>if d.pure=true/\ks2.length < 16777216 then .nx (τ.set i (some (.dct t false ks (repl1 ks xs (.inl q1) (.dct .own false (putKs ks2 (.inl q)) (putVs ks2 ys (.inl q) d)))))) else .bad
    | _=>.bad
   | _=>.bad
  | _=>.bad
 | _=>.bad
theorem DictAt_upd {kvs:List (Key × V)}{ep:Nat}{a b:Addr}{o:HO} (n:a ≠ b) (h:H a=some (.dK kvs ep)):DictAt (upd H b o) a false (kvs.map fun p=>Sum.inl p.1) (kvs.map (·.2)) := .inl ⟨rfl,kvs,ep,by rw [upd_ne n]; exact h,rfl,rfl⟩
theorem SI.mutD2 {i:Nat}{t:Tg} (ht:t.isOwn=true) {kvs:List (Key × V)}{ep:Nat}{ks2:List KT}{xs ys:List D}{a b:Addr}{q1 q:Key}{d:D}{v:V} (I:SI K H0 B0 B H σ τ P No) (hi:τ[i]?=some (some (.dct t false (kvs.map fun p=>Sum.inl p.1) xs))) (ev:σ[i]?=some (some (.ref a))) (ha:H a=some (.dK kvs ep))
  (hlk:lookD (kvs.map fun p=>Sum.inl p.1) xs (.inl q1)=some (.dct .own false ks2 ys)) (hb:valV kvs q1=some (.ref b)) (hp:d.pure=true) (rd:Rep K B No H d v []) :
  ∃ kvs2 ep2,H b=some (.dK kvs2 ep2)/\ks2=kvs2.map (fun p=>Sum.inl p.1)/\∀ en,∃ P',Aft K H0 B0 B H B (upd H b (.dK (putK kvs2 q v) en)) σ (τ.set i (some (.dct t false (kvs.map fun p=>Sum.inl p.1) (repl1 (kvs.map fun p=>Sum.inl p.1) xs (.inl q1) (.dct .own false (putKs ks2 (.inl q)) (putVs ks2 ys (.inl q) d)))))) P' := by
 have hi':i < τ.length:=(List.getElem?_eq_some_iff.mp hi).1
 obtain ⟨A0,f0,C0,eP,g1,g2⟩:=I.rep.cut hi'
 obtain ⟨v',e1,r1⟩:=g1 _ hi
 rw [ev] at e1
 cases e1
 obtain ⟨a',ws,g,ea,hq,rl,ef,back'⟩:=r1.ownD ht
 cases ea
 rcases hq with ⟨_,kvs',ep',ha',hks',hws'⟩ | ⟨q0,_⟩
 rotate_left
 ·cases q0
 rw [ha] at ha'
 cases ha'
 subst hws'
 obtain ⟨w,A,gi,C,hv1,hf,rin,back⟩:=RepL.cutK rl hlk
 rw [hb] at hv1
 cases hv1
 obtain ⟨b',us,gg,eb,dqb,rlb,rfl⟩:=rin
 cases eb
 rcases dqb with ⟨_,kvs2,ep2,hb2,hks2,hus⟩ | ⟨q0,_⟩
 rotate_left
 ·cases q0
 subst hf ef hus hks2
 refine ⟨kvs2,ep2,hb2,rfl,fun en=>?_⟩
 have nd0:=I.nd
 rw [eP] at nd0
 have ndf:(a :: (A ++ b :: gg ++ C)).Nodup:=(nd0.sublist (List.sublist_append_left _ _)).sublist (List.sublist_append_right _ _)
 have hab:a ≠ b:=fun z=>by
  subst z
  exact (List.nodup_cons.mp ndf).1 (by simp)
 have hbf:b ∈ a :: (A ++ b :: gg ++ C):=by simp
 obtain ⟨p1,f',p2,p3,p4⟩:=put_ok Sum.inl (fun a b h=>Sum.inl.inj h) (k:=q) (kvs:=kvs2) rlb rd fun _=>hp
 have ndg:(b :: gg).Nodup:=(((List.nodup_cons.mp ndf).2.sublist (List.sublist_append_left _ _)).sublist (List.sublist_append_right _ _))
 have sg:∀ x ∈ f',x ∈ gg:=fun x m=>(p3 x m).resolve_right (by simp)
 have nf':(b :: f').Nodup:=List.nodup_cons.mpr ⟨fun m=>(List.nodup_cons.mp ndg).1 (sg b m),p4 (List.nodup_cons.mp ndg).2 List.nodup_nil (fun _ m=>by cases m)⟩
 have kp:Keep H (upd H b (.dK (putK kvs2 q v) en)) [b]:=⟨fun x o h n=>by rw [upd_ne (by simpa using n)]; exact h,fun x m=>by
  have:x=b:=by simpa using m
  subst this
  exact ⟨_,hb2,trivial⟩⟩
 have es:σ.set i (some (.ref a))=σ:=by
  refine List.ext_getElem? fun k=>?_
  by_cases hk:k=i
  ·subst hk
   rw [List.getElem?_set_self (List.getElem?_eq_some_iff.mp ev).1,ev]
  ·rw [List.getElem?_set_ne (Ne.symm hk)]
 have kpf:Keep H (upd H b (.dK (putK kvs2 q v) en)) (a :: (A ++ b :: gg ++ C)):=⟨fun x o h n=>kp.keep x o h (fun z=>n (by
  have:x=b:=by simpa using z
  subst this
  exact hbf)),fun x m=>I.rep.own x (by rw [eP]; exact sublist_mid _ _ _ x m)⟩
 have nbM:∀ x ∈ A ++ C,x ≠ b:=fun x m z=>by
  subst z
  have n:=(List.nodup_cons.mp ndf).2
  rw [List.append_assoc,List.nodup_append] at n
  obtain ⟨_,n2,n3⟩:=n
  rcases List.mem_append.mp m with y | y
  ·exact n3 x y x (by simp) rfl
  ·rw [List.nodup_append] at n2
   exact n2.2.2 x List.mem_cons_self x y rfl
 have rin':Rep K B No (upd H b (.dK (putK kvs2 q v) en)) (.dct .own false (putKs (kvs2.map fun p=>Sum.inl p.1) (.inl q)) (putVs (kvs2.map fun p=>Sum.inl p.1) ys (.inl q) d)) (.ref b) (b :: f') :=
  ⟨b,_,f',rfl,.inl ⟨rfl,_,en,upd_same,p1,rfl⟩,p2.keep kp (fun x m z=>(List.nodup_cons.mp nf').1 ((by simpa using z:x=b) ▸ m)),rfl⟩
 have rn:=back' (DictAt_upd hab ha) (back (fun d v h r m=>r.keep kp fun x z y=>nbM x (m x z) (by simpa using y)) rin')
 have key:=I.put (i:=i) (H1:=upd H b (.dK (putK kvs2 q v) en)) hi' eP g2 kpf rn ?_ fun x m=>.inl ?_
 ·rw [es] at key
  exact ⟨_,key,Same.refl _,fun x o h n=>kp.imm h n⟩
 ·exact nodup_swap (A:=a :: A) ndf nf' fun x m=>(List.mem_cons.mp m).elim (fun z=>z ▸ List.mem_cons_self) fun z=>List.mem_cons_of_mem _ (sg x z)
 ·have:x ∈ a :: A ++ b :: f' ++ C:=m
  simp only [List.cons_append,List.mem_cons,List.mem_append] at this ⊢
  rcases this with z | (z | z | z) | z
  ·exact .inl z
  ·exact .inr (.inl (.inl z))
  ·exact .inr (.inl (.inr (.inl z)))
  ·exact .inr (.inl (.inr (.inr (sg x z))))
  ·exact .inr (.inr z)
theorem s_dput2 (i:Nat) {x:Str}{p1 p2 pos':Pos}{k1e ke value:Expr}{f1 fk fv:SD->Res D} (hu:X.A.units + 1 < cLine) (h1e:PE X k1e (tM X.K Y f1)) (hk:PE X ke (tM X.K Y fk)) (hv:PE X value (tM X.K Y fv)) (hs1:NoSl k1e) (hN:X.N[i]?=some x:=by rfl) (hvi:Vis X.env.scope x:=by first | exact Or.inl rfl | exact Or.inr (Or.inl rfl) | exact Or.inr (Or.inr rfl)) (hd:(x == ("__debug__" : Str))=false:=by decide) (hcd:(x == ("__classdict__" : Str))=false:=by decide)
  (hs:swapsWith value (some (.Subscript (.Subscript (.Name x p1) k1e p2) ke pos')) pos.line X.env=pure false:=by rfl):PS X (.Assign [.Subscript (.Subscript (.Name x p1) k1e p2) ke pos'] value pos) (tMS X.K Y (sDput2 i f1 fk fv)):=by
 refine PS.imp (ps_dput hu (pe_dget hu (pe_var hN hvi hd hcd) h1e hs1) hk hv hs) fun E σ H hq=>ex7 hq fun H0 B0 B τ P I h=>?_
 refine exprS I h fun d v H1 B1 fp _ I1 s1 b1 r1 k1 h1=>?_
 cases z:ownDc τ i with
 | none=>rw [z] at h1; exact h1.elim
 | some t =>
  obtain ⟨t,k,ks,xs⟩:=t
  rw [z] at h1
  cases k with
  | true=>exact h1.elim
  | false =>
   simp only at h1
   obtain ⟨hi,ht⟩:=ownDc_some z
   obtain ⟨w,f,e1,r2,sf⟩:=I1.rep.get hi
   obtain ⟨a,ws,g,rfl,dq,rl,ef,_⟩:=r2.ownD ht
   rcases dq with ⟨_,kvs,ep,ha,hks,hws⟩ | ⟨q0,_⟩
   rotate_left
   ·cases q0
   subst hks hws
   refine ⟨.ref a,e1,?_⟩
   refine ⟨H0,B0,B1,τ,P,_,I1.hold k1,?_⟩
   cases y:f1 τ with
   | exn C=>rw [y] at h1; exact fun H2 B2 I2 s2 b2=>h1 B2 H2 σ P (Aft.grow (I2.anti fun _ x=>x.elim) b2 s2)
   | bad=>rw [y] at h1; exact h1
   | ok d1 =>
    rw [y] at h1
    intro vk1 H2 B2 fq I2 s2 b2 rk1 kk1
    simp only [Res.toFl] at h1
    cases hk1:keyK d1 with
    | none=>rw [hk1] at h1; exact h1.elim
    | some q1 =>
     rw [hk1] at h1
     cases q1 with
     | inr q1=>exact h1.elim
     | inl q1 =>
      simp only at h1
      have ev:=keyK_l hk1 rk1
      subst ev
      have rl2:=rl.mono s2 b2 fun _ x=>x
      have ha2:=s2 _ _ ha
      cases hlk:lookD (kvs.map fun p=>Sum.inl p.1) xs (.inl q1) with
      | none=>rw [hlk] at h1; exact h1.elim
      | some din =>
       rw [hlk] at h1
       split at h1
       ·rename_i ks2 ys heq
        cases heq
        obtain ⟨w,A,gi,C,hv1,hf,⟨b,us,gg,rfl,_,_,_⟩,_⟩:=RepL.cutK rl2 hlk
        refine ⟨a,.ref b,rfl,hv1 ▸ DGet.k ⟨ep,ha2⟩,?_⟩
        refine ⟨H0,B0,B2,τ,P,_,I2,?_⟩
        cases y2:fk τ with
        | exn C=>rw [y2] at h1; exact fun H3 B3 I3 s3 b3=>h1 B3 H3 σ P (Aft.grow (I3.anti fun _ x=>x.elim) (b2.trans b3) (s2.trans s3))
        | bad=>rw [y2] at h1; exact h1
        | ok dk =>
         rw [y2] at h1
         intro vk H3 B3 fr I3 s3 b3 rk kk
         have I5:SI X.K H0 B0 B3 H3 σ τ P No:=I3.anti fun _ x=>x.elim
         have h2:=GoalS.later h1 (Aft.grow I5 (b2.trans b3) (s2.trans s3))
         simp only at h2
         split at h2
         ·rename_i q hkk
          split at h2
          ·rename_i hc
           obtain ⟨c1,c2⟩:=hc
           have ef:=pure_fp.1 d c1 r1
           subst ef
           have rd:=(r1.noBor (hasBor_pure d c1)).mono (s2.trans s3) (b2.trans b3) fun _ x=>x
           have ev:=keyK_l hkk rk
           subst ev
           obtain ⟨kvs2,ep2,hb2,hks2,A'⟩:=I5.mutD2 ht (q:=q) hi e1 (s3 _ _ ha2) hlk hv1 c1 rd
           refine ⟨b,rfl,.inl ⟨kvs2,q,⟨ep2,hb2⟩,rfl,?_,fun en=>?_⟩⟩
           ·rw [hks2,List.length_map] at c2
            rw [sizeLine_eq]; exact c2
           ·obtain ⟨P',A''⟩:=A' en
            exact h2 B3 _ σ P' A''
          ·exact h2.elim
         ·exact h2.elim
       ·exact h1.elim
end
section
variable {K:PySem.W.Frag}{Y:XY}{H0 B0 B H:Hp}{σ:L2.St}{τ:SD}{P:List Addr}{F:Addr->Prop}{X:Cx}{pos:Pos}
theorem RepS.drop:∀ {τ:SD}{σ:L2.St}{P:List Addr}{i:Nat}{d:D},RepS K B H τ σ P->τ[i]?=some (some d)->∃ v A f C,σ[i]?=some (some v)/\Rep K B No H d v f/\P=A ++ f ++ C/\RepS K B H (τ.set i none) σ (A ++ C)
 | [],_,_,i,_,_,e=>by simp at e
 | none :: r,σ,P,0,d,h,e=>by simp at e
 | none :: r,σ,P,i + 1,d,h,e=>by
  obtain ⟨o,t,rfl,h⟩:=h
  obtain ⟨v,A,f,C,h1,h2,h3,h4⟩:=RepS.drop (i:=i) h (by simpa using e)
  exact ⟨v,A,f,C,by simpa using h1,h2,h3,⟨o,t,rfl,h4⟩⟩
 | some d :: r,σ,P,0,d',h,e=>by
  obtain ⟨v,t,f,g,rfl,h1,h2,rfl⟩:=h
  have e:d=d' := by simpa using e
  subst e
  exact ⟨v,[],f,g,rfl,h1,rfl,⟨some v,t,rfl,h2⟩⟩
 | some d :: r,σ,P,i + 1,d',h,e=>by
  obtain ⟨v,t,f,g,rfl,h1,h2,rfl⟩:=h
  obtain ⟨w,A,f',C,a1,a2,a3,a4⟩:=RepS.drop (i:=i) h2 (by simpa using e)
  subst a3
  exact ⟨w,f ++ A,f',C,by simpa using a1,a2,by simp,⟨v,t,f,A ++ C,rfl,h1,a4,by simp⟩⟩
theorem RepS.free:∀ {τ:SD}{σ:L2.St}{P:List Addr}{i:Nat} (o:Option V),RepS K B H τ σ P->τ[i]?=some none->RepS K B H τ (σ.set i o) P
 | [],_,_,i,_,_,e=>by simp at e
 | none :: r,σ,P,0,o,h,e=>by
  obtain ⟨u,t,rfl,h⟩:=h
  exact ⟨o,t,rfl,h⟩
 | none :: r,σ,P,i + 1,o,h,e=>by
  obtain ⟨u,t,rfl,h⟩:=h
  exact ⟨u,t.set i o,rfl,RepS.free o h (by simpa using e)⟩
 | some d :: r,σ,P,0,o,h,e=>by simp at e
 | some d :: r,σ,P,i + 1,o,h,e=>by
  obtain ⟨v,t,f,g,rfl,h1,h2,rfl⟩:=h
  exact ⟨v,t.set i o,f,g,rfl,h1,RepS.free o h2 (by simpa using e),rfl⟩
theorem SI.drop {i:Nat}{d:D} (I:SI K H0 B0 B H σ τ P F) (h:τ[i]?=some (some d)):∃ v f P',σ[i]?=some (some v)/\Rep K B No H d v f/\(∀ a ∈ f,a ∈ P)/\SI K H0 B0 B H σ (τ.set i none) P' (fun a=>a ∈ f ∨ F a):=by
 obtain ⟨v,A,f,C,h1,h2,h3,h4⟩:=I.rep.drop h
 subst h3
 have nd:=I.nd
 have sb:List.Sublist (A ++ C) (A ++ f ++ C):=by
  rw [List.append_assoc]
  exact (List.Sublist.refl A).append (List.sublist_append_right f C)
 have dis:∀ a ∈ A ++ C,a ∉ f:=fun a m z=>by
  rw [List.append_assoc,List.nodup_append] at nd
  obtain ⟨_,n2,n3⟩:=nd
  rw [List.nodup_append] at n2
  rcases List.mem_append.mp m with q | q
  ·exact n3 a q a (List.mem_append_left _ z) rfl
  ·exact n2.2.2 a z a q rfl
 have inP:∀ a ∈ f,a ∈ A ++ f ++ C:=fun a m=>List.mem_append_left _ (List.mem_append_right _ m)
 refine ⟨v,f,A ++ C,h1,h2,inP,I.bh,I.h0,I.b0,I.nb,h4,I.nd.sublist sb,fun a m=>?_,fun a m=>?_⟩
 ·obtain ⟨x,y,z⟩:=I.own a (sb.subset m)
  exact ⟨x,y,fun q=>q.elim (dis a m) z⟩
 ·rcases m with m | m
  ·exact ⟨(I.own a (inP a m)).1,I.stands (inP a m)⟩
  ·exact I.fr a m
theorem SI.free {i:Nat} (o:Option V) (I:SI K H0 B0 B H σ τ P F) (h:τ[i]?=some none):SI K H0 B0 B H (σ.set i o) τ P F:=⟨I.bh,I.h0,I.b0,I.nb,I.rep.free o h,I.nd,I.own,I.fr⟩
def twoL:D->Bool
 | .tup [.lst .own xs,.lst .own ys]=>pureL xs && (pureL ys && (decide (xs.length < 16777000) && decide (ys.length < 16777000)))
 | _=>false
theorem twoL_rep {d:D}{v:V}{f:List Addr} (h:twoL d=true) (r:Rep K B No H d v f):∃ t a b vs ws,v=.ref t/\H t=some (.tup [.ref a,.ref b])/\H a=some (.lst vs)/\H b=some (.lst ws)/\f=[a,b]/\vs.length < 16777000/\ws.length < 16777000:=by
 unfold twoL at h
 split at h
 ·rename_i xs ys
  simp only [Bool.and_eq_true,decide_eq_true_eq] at h
  obtain ⟨p1,p2,l1,l2⟩:=h
  obtain ⟨t,us,rfl,ht,u1,r1,f1,g1,rfl,⟨a,vs,fa,rfl,ha,ra,rfl⟩,⟨u2,r2,f2,g2,rfl,⟨b,ws,fb,rfl,hb,rb,rfl⟩,⟨rfl,rfl⟩,rfl⟩,rfl⟩:=r
  have ea:=pure_fp.2 xs p1 ra
  have eb:=pure_fp.2 ys p2 rb
  subst ea eb
  exact ⟨t,a,b,vs,ws,rfl,ht,ha,hb,rfl,by rw [<- ra.length]; exact l1,by rw [<- rb.length]; exact l2⟩
 ·cases h
def wrL (τ:SD) (i:Nat):Bool:=match τ[i]? with | some (some d)=>twoL d | _=>false
theorem wrL_some {i:Nat} (h:wrL τ i=true):∃ d,τ[i]?=some (some d)/\twoL d=true:=by
 unfold wrL at h
 split at h
 ·rename_i d e; exact ⟨d,e,h⟩
 ·cases h
def sWreck (i j r:Nat) (τ:SD):Fl:=match τ[r]? with
 | some none=>if (decide (i ≠ j) && (wrL τ i && wrL τ j))=true then .nx ((τ.set i none).set j none) else .bad
 | _=>.bad
abbrev wWreck (K:PySem.W.Frag) (i j:Nat):TI:=fun σ H R=>tLst (tCons (tOp (rIx K) (tVar i) (tC (.int 0))) (tCons (tOp (rIx K) (tVar i) (tC (.int 1))) (tCons (tOp (rIx K) (tVar j) (tC (.int 0))) (tCons (tOp (rIx K) (tVar j) (tC (.int 1))) tNil)))) σ H
 fun x H1=>(∃ a,x=.ref a/\(∃ xs,SqL K H1 a xs)/\R (Itl K a) H1) ∨ ∃ a,x=.ref a/\(∃ xs,SqT K H1 a xs)/\R (Itt K a) H1
abbrev bWreck (K:PySem.W.Frag) (r:Nat):TS:=tSeq (tDrop (tBM0 K "list" rReverse (tVar r))) (tDrop (tBM K "list" rAppend (tVar r) (tCons (tUn (rU fun i=>.int (-i)) (tC (.int 1))) tNil)))
structure Four (H:Hp) (cs:List Addr) (k:Nat):Prop where
 at_:∀ c ∈ cs,∃ ws,H c=some (.lst ws)/\ws.length < 16777000 + k
theorem s_wreck (i j r:Nat) {tg iter:Expr}{body:List Stmt} (hp:PassesOwn (model X.prog X.w) X.A X.env X.xe) (hc:X.calm=true) (hi:PI X tg iter (wWreck X.K i j)) (hg:PG X tg (gName r)) (hb:PSs X body (bWreck X.K r))
  (hs:∀ x,foldedSetIterable iter X.env x=pure x:=by intro _; rfl):PS X (.For tg iter body [] pos) (tMS X.K Y (sWreck i j r)):=by
 refine PS.imp (ps_for hp hc hi hg hb hs) fun E σ H hq=>ex7 hq fun H0 B0 B τ P I h=>?_
 unfold sWreck at h
 split at h
 rotate_left
 ·exact h.elim
 rename_i hr
 split at h
 rotate_left
 ·exact h.elim
 rename_i hk
 simp only [Bool.and_eq_true,decide_eq_true_eq] at hk
 obtain ⟨hij,wi,wj⟩:=hk
 obtain ⟨d1,e1,t1⟩:=wrL_some wi
 obtain ⟨d2,e2,t2⟩:=wrL_some wj
 obtain ⟨v1,f1,P1,s1,r1,in1,I1⟩:=I.drop e1
 have e2':(τ.set i none)[j]?=some (some d2):=by rw [List.getElem?_set_ne hij]; exact e2
 obtain ⟨v2,f2,P2,s2,r2,in2,I2⟩:=I1.drop e2'
 obtain ⟨ta,a,b,va,vb,rfl,ht1,ha,hb',rfl,la,lb⟩:=twoL_rep t1 r1
 obtain ⟨tc,c,e,vc,ve,rfl,ht2,hc',he,rfl,lc,le⟩:=twoL_rep t2 r2
 have rr:((τ.set i none).set j none)[r]?=some none:=by
  have n1:r ≠ i:=fun z=>by subst z; rw [hr] at e1; cases e1
  have n2:r ≠ j:=fun z=>by subst z; rw [hr] at e2; cases e2
  rw [List.getElem?_set_ne (Ne.symm n2),List.getElem?_set_ne (Ne.symm n1)]; exact hr
 let cs:List Addr := [a,b,c,e]
 have hF:∀ x ∈ cs,(fun q=>q ∈ [c,e] ∨ q ∈ [a,b] ∨ No q) x:=fun x m=>by
  simp only [cs,List.mem_cons,List.not_mem_nil,or_false] at m
  rcases m with rfl | rfl | rfl | rfl <;> simp
 have h0:∀ x ∈ cs,H0 x=none:=fun x m=>by
  rcases hF x m with z | z | z
  ·exact (I1.own x (in2 x z)).2.1
  ·exact (I.own x (in1 x z)).2.1
  ·exact z.elim
 have f0:Four H cs 0:=⟨fun x m=>by
  simp only [cs,List.mem_cons,List.not_mem_nil,or_false] at m
  rcases m with m | m | m | m <;> subst m
  ·exact ⟨va,ha,la⟩
  ·exact ⟨vb,hb',lb⟩
  ·exact ⟨vc,hc',lc⟩
  ·exact ⟨ve,he,le⟩⟩
 refine ⟨.ref ta,s1,.inr (.inl ⟨ta,_,0,.ref a,rfl,rfl,SqT.of ht1,rfl,?_⟩)⟩
 refine ⟨.ref ta,s1,.inr (.inl ⟨ta,_,1,.ref b,rfl,rfl,SqT.of ht1,rfl,?_⟩)⟩
 refine ⟨.ref tc,s2,.inr (.inl ⟨tc,_,0,.ref c,rfl,rfl,SqT.of ht2,rfl,?_⟩)⟩
 refine ⟨.ref tc,s2,.inr (.inl ⟨tc,_,1,.ref e,rfl,rfl,SqT.of ht2,rfl,?_⟩)⟩
 refine ⟨by rw [sizeLine_eq]; show 4 <= _; decide,fun p hp0=>.inl ⟨p,rfl,⟨_,SqL.of upd_same⟩,?_⟩⟩
 have ne:∀ x ∈ cs,x ≠ p:=fun x m z=>by
  subst z
  obtain ⟨ws,q,_⟩:=f0.at_ x m
  rw [hp0] at q; cases q
 have sU:Same H (upd H p (.lst (cs.map V.ref))):=sameUpd' hp0
 refine ⟨fun k m σ' H'=>k <= 4/\m=4 - k/\SI X.K H0 B0 B H' σ' ((τ.set i none).set j none) P2 (fun q=>q ∈ [c,e] ∨ q ∈ [a,b] ∨ No q)/\H' p=some (.lst (cs.map V.ref))/\Four H' cs k/\Imm H H',⟨4,Nat.zero_le _,rfl,I2.grow sU,upd_same,⟨fun x m=>by
  obtain ⟨ws,q,l⟩:=f0.at_ x m
  exact ⟨ws,sU _ _ q,l⟩⟩,Imm.of sU⟩,?_⟩
 rintro k m σ' H' ⟨k4,rfl,J,hpl,ff,im⟩
 by_cases hk:k=4
 ·subst hk
  refine .inl ⟨⟨_,SqL.of hpl,Nat.le_refl _⟩,h B H' σ' P2 ⟨J.anti fun _ x=>x.elim,Same.refl _,im⟩⟩
 ·have hlt:k < (cs.map V.ref).length:=by show k < 4; omega
  have hlt':k < cs.length:=by show k < 4; omega
  refine .inr ⟨⟨_,_,SqL.of hpl,List.getElem?_eq_getElem hlt⟩,fun σ3 H3=>k + 1 <= 4/\SI X.K H0 B0 B H3 σ3 ((τ.set i none).set j none) P2 (fun q=>q ∈ [c,e] ∨ q ∈ [a,b] ∨ No q)/\H3 p=some (.lst (cs.map V.ref))/\Four H3 cs (k + 1)/\Imm H H3,fun σ3 H3 q=>⟨4 - (k + 1),by omega,q.1,rfl,q.2⟩,?_⟩
  rintro x H2 ⟨rfl,hx⟩
  have ex:=hx _ (SqL.of hpl)
  rw [List.getElem?_map,List.getElem?_eq_getElem hlt'] at ex
  cases ex
  have mq:cs[k] ∈ cs:=List.getElem_mem hlt'
  obtain ⟨ws,hw,lw⟩:=ff.at_ _ mq
  have J2:=J.free (some (.ref cs[k])) rr
  have hl:r < σ'.length:=by
   rw [<- J.rep.length]; exact (List.getElem?_eq_some_iff.mp rr).1
  have gr:(σ'.set r (some (V.ref cs[k])))[r]?=some (some (.ref cs[k])):=List.getElem?_set_self hl
  refine ⟨.ref cs[k],gr,.inl ⟨rfl,ws,SqL.of hw⟩,cs[k],ws,rfl,rfl,hw,?_⟩
  refine ⟨.ref cs[k],gr,.inl ⟨rfl,ws.reverse,SqL.of upd_same⟩,1,rfl,cs[k],ws.reverse,.int (-1),rfl,rfl,upd_same,by rw [List.length_reverse,sizeLine_eq]; omega,?_⟩
  have W1:=J2.writeF (o' := .lst ws.reverse) (hF _ mq) (h0 _ mq) hw trivial
  have W2:=W1.writeF (o' := .lst (ws.reverse ++ [.int (-1)])) (hF _ mq) (h0 _ mq) upd_same trivial
  refine ⟨by omega,W2,?_,⟨fun y my=>?_⟩,fun y o hy n=>?_⟩
  ·rw [upd_ne (ne _ mq).symm,upd_ne (ne _ mq).symm]; exact hpl
  ·by_cases z:y=cs[k]
   ·subst z
    exact ⟨_,upd_same,by rw [List.length_append,List.length_reverse]; show _ + 1 < _; omega⟩
   ·obtain ⟨us,q,l⟩:=ff.at_ y my
    exact ⟨us,by rw [upd_ne z,upd_ne z]; exact q,by omega⟩
  ·have q:=im y o hy n
   have z:y ≠ cs[k]:=fun z=>by subst z; rw [hw] at q; cases q; exact n trivial
   rw [upd_ne z,upd_ne z]; exact q
def sRetT (f:SD->Res D) (i:Nat) (τ:SD):Fl:=(f τ).toFl τ fun d=>if d.hasBor=true then .bad else match τ[i]? with | some (some u)=>.rt (.tup [d,u]) | _=>.bad
theorem s_retT (i:Nat) {e:Expr}{fe:SD->Res D}{x:Str}{x1:Nat}{pos' pt:Pos} (he:PE X e (tM X.K Y fe)) (hN:X.N[i]?=some x:=by rfl) (hv:Vis X.env.scope x:=by first | exact Or.inl rfl | exact Or.inr (Or.inl rfl) | exact Or.inr (Or.inr rfl)) (hd:(x == ("__debug__" : Str))=false:=by decide)
  (hcd:(x == ("__classdict__" : Str))=false:=by decide) (hl:Y.ln=false:=by rfl) (hs:starEach [e,.Name x pos'] X.env=(false,eval e X.env) :: starEach [.Name x pos'] X.env:=by rfl) (hs2:starEach [.Name x pos'] X.env=(false,eval (.Name x pos') X.env) :: starEach [] X.env:=by rfl) :
  PS X (.Return (some (.Tuple [e,.Name x pos'] x1 pt)) pos) (tMS X.K Y (sRetT fe i)):=by
 refine PS.imp (ps_ret (pe_tup (x1:=x1) (pa_cons he (pa_cons (pe_var hN hv hd hcd) pa_nil hs2) hs))) fun E σ H hq=>ex7 hq fun H0 B0 B τ P I h=>?_
 refine exprS I h fun d v H1 B1 fp _ I1 s1 b1 r1 k1 h1=>?_
 split at h1
 ·exact h1.elim
 ·rename_i hb
  split at h1
  ·rename_i u e
   obtain ⟨w,g,q1,q2,q3⟩:=I1.rep.get e
   refine ⟨w,q1,by rw [sizeLine_eq]; show 2 <= _; decide,fun p hp=>?_⟩
   have s:=sameUpd' (o := .tup [v,w]) hp
   refine (GoalS.rt hl h1) B1 _ (.ref p) (fp ++ g) ⟨I1.h0.trans s,I1.b0,I1.bh.trans s,I1.nb,⟨p,[v,w],rfl,upd_same,v,[w],fp,g,rfl,(r1.noBor (by simpa using hb)).mono s (Same.refl _) (fun _ x=>x),RepL.one (q2.mono s (Same.refl _) fun _ x=>x),rfl⟩,List.nodup_append.mpr ⟨k1.nd,I1.nd.sublist q3,fun a ha b hb e=>?_⟩,fun a m=>?_⟩
   ·subst e; exact (k1.own a ha).2.2.2.1 (q3.subset hb)
   ·rcases List.mem_append.mp m with m | m
    ·obtain ⟨a1,a2,a3,_⟩:=k1.own a m
     exact ⟨a1,a2,fun z=>a3 (s.free z)⟩
    ·obtain ⟨a1,a2,_⟩:=I1.own a (q3.subset m)
     exact ⟨a1,a2,fun z=>I1.stands (q3.subset m) (s.free z)⟩
  ·exact h1.elim
def sExtV (i j:Nat) (τ:SD):Fl:=match ownL τ i,ownL τ j with
 | some xs,some ys=>if plainL ys=true/\xs.length + ys.length <= 16777216 then .nx (τ.set i (some (.lst .own (xs ++ ys)))) else .bad
 | _,_=>.bad
theorem s_extV (i j:Nat) {x y:Str}{p1 p2 apos cpos:Pos} (hN:X.N[i]?=some x:=by rfl) (hM:X.N[j]?=some y:=by rfl) (hv:Vis X.env.scope x:=by first | exact Or.inl rfl | exact Or.inr (Or.inl rfl) | exact Or.inr (Or.inr rfl)) (hw:Vis X.env.scope y:=by first | exact Or.inl rfl | exact Or.inr (Or.inl rfl) | exact Or.inr (Or.inr rfl))
  (hd:(x == ("__debug__" : Str))=false:=by decide) (hcd:(x == ("__classdict__" : Str))=false:=by decide) (hd':(y == ("__debug__" : Str))=false:=by decide) (hcd':(y == ("__classdict__" : Str))=false:=by decide)
  (hbase:attributeBase (.Name x p1) "extend" X.env (eval (.Name x p1) X.env)=eval (.Name x p1) X.env:=by rfl)
  (hfew:((backTo cpos (starEach [.Name y p2] X.env)).all (fun x=>!x.1) && (backToKw cpos (keywordEach [] X.env)).all (fun x=>x.1.isSome)
   && decide (([.Name y p2]:List Expr).length + ([]:List Keyword).length + (if ([]:List Keyword).isEmpty then 0 else 1) < 30))=true:=by rfl)
  (hline:(apos.endLine == cpos.line)=true:=by rfl) (hs:starEach [.Name y p2] X.env=(false,eval (.Name y p2) X.env) :: starEach [] X.env:=by rfl) (hplain:(backTo cpos (starEach [] X.env)).any (·.1)=false:=by rfl)
  (hsw:swapsWith (.Call (.Attribute (.Name x p1) "extend" apos) [.Name y p2] [] cpos) none pos.line X.env=pure false:=by rfl) :
  PS X (.Expr (.Call (.Attribute (.Name x p1) "extend" apos) [.Name y p2] [] cpos) pos) (tMS X.K Y (sExtV i j)):=by
 refine PS.imp (ps_expr (pe_bm PySem.F.plainAttrs_list PySem.F.slot_list_extend PySem.F.type_list_extend mt_extA (pe_var hN hv hd hcd) (pa_cons (pe_var hM hw hd' hcd') pa_nil hs) hbase hfew hline hs hplain) hsw) fun E σ H hq=>ex7 hq fun H0 B0 B τ P I h=>?_
 unfold sExtV at h
 split at h
 ·rename_i xs ys z z'
  split at h
  ·rename_i hc
   have hi:=ownL_some z
   obtain ⟨a,vs,ea,ha,hl⟩:=I.listAt hi
   obtain ⟨w,f,h1,r,s⟩:=I.rep.get (ownL_some z')
   obtain ⟨b,ws,g,rfl,hb,rl,rfl⟩:=r
   have hl2:=rl.length
   refine ⟨.ref a,ea,.inl ⟨rfl,vs,SqL.of ha⟩,.ref b,h1,a,b,vs,ws,rfl,rfl,ha,.inl hb,by rw [<- hl,<- hl2,sizeLine_eq]; exact hc.2,?_⟩
   obtain ⟨_,rl3⟩:=RepL.plainI (B' := B) (S' := No) (Imm.refl H) hc.1 rl
   obtain ⟨P',I'⟩:=I.mutL (xs' := xs ++ ys) (vs' := vs ++ ws) (gp := []) hi ea Vok.nil (fun g _ rl=>⟨g ++ [],rl.append rl3,fun b m=>by rw [List.append_nil] at m; exact .inl m,fun nf _=>by rw [List.append_nil]; exact nf⟩) ha
   exact h B _ σ P' I'
  ·exact h.elim
 ·exact h.elim
end
end DL
namespace L2
open PySem PySem.Spec PyProof.Rows
theorem vals_at {ns:List Int}{its:List Value} (r:Vals (ns.map V.int) its) {i:Nat}{v:Value} (h:its.toArray[i]?=some v):∃ t,v=.int (ns.getD i 0) t:=by
 have h:its[i]?=some v:=by simpa using h
 have hl:=r.length
 rw [List.length_map] at hl
 have hi:i < its.length:=(List.getElem?_eq_some_iff.mp h).1
 obtain ⟨u,hu,ru⟩:=r.get (show (ns.map V.int)[i]?=some (.int (ns.getD i 0)) by
  rw [List.getElem?_map,List.getElem?_eq_getElem (by omega:i < ns.length),List.getD_eq_getElem?_getD,List.getElem?_eq_getElem (by omega:i < ns.length)]; rfl)
 rw [hu] at h
 cases h
 obtain ⟨t,rfl⟩:=ru
 exact ⟨t,rfl⟩
theorem all_same:∀ {ns ms:List Int},ns.length=ms.length->((List.range ns.length).all fun j=>ns.getD j 0 == ms.getD j 0)=decide (ns=ms):=by
 intro ns ms h
 rw [Bool.eq_iff_iff,decide_eq_true_eq,List.all_eq_true]
 constructor
 ·intro a
  refine List.ext_getElem h fun j h1 h2=>?_
  have:=a j (List.mem_range.mpr h1)
  rw [List.getD_eq_getElem?_getD,List.getD_eq_getElem?_getD,List.getElem?_eq_getElem h1,List.getElem?_eq_getElem h2] at this
  simpa using this
 ·intro e j _
  rw [e]; exact beq_self_eq_true _
section
variable {X:Cx}
def rEqI (K:PySem.W.Frag) (neg:Bool):R2:=fun x y H Q=>∃ (a b:Addr) (ns ms:List Int),x=.ref a/\y=.ref b/\SqL K H a (ns.map V.int)/\SqL K H b (ms.map V.int)/\Q (.bl (xor neg (decide (ns=ms)))) H
theorem ints_at {s:Shared}{A:Around}{ns ms:List Int}{i1 i2:List Value} (r1:Vals (ns.map V.int) i1) (r2:Vals (ms.map V.int) i2) (j:Nat) (h1:j < i1.toArray.size) (h2:j < i2.toArray.size):SeqAt.EqAt A s i1.toArray[j] i2.toArray[j] (ns.getD j 0 == ms.getD j 0):=by
 obtain ⟨t,e1⟩:=vals_at r1 (Array.getElem?_eq_getElem h1)
 obtain ⟨t',e2⟩:=vals_at r2 (Array.getElem?_eq_getElem h2)
 rw [e1,e2]
 exact SeqAt.EqAt.int_int (A:=A) (s:=s) (ns.getD j 0) t (ms.getD j 0) t'
theorem op_eqI (hu:X.A.units + 1 < cLine):OpR X (compareOp .Eq) (rEqI X.K false):=by
 intro pins s σ H x y v u Q I rx ry h
 obtain ⟨a,b,ns,ms,rfl,rfl,ha,hb,q⟩:=h
 cases rx
 cases ry
 obtain ⟨i1,r1,p1,_⟩:=I.list ha
 obtain ⟨i2,r2,p2,_⟩:=I.list hb
 have l1:=r1.length
 have l2:=r2.length
 rw [List.length_map] at l1 l2
 rw [Bool.false_xor] at q
 by_cases hl:ns.length=ms.length
 ·have h:=SeqAt.RcAt.lists (A:=X.A) p1.isList p2.isList (by rw [List.size_toArray,List.size_toArray]; omega) (by omega) (ints_at r1 r2)
  rw [List.size_toArray,<- l1,all_same hl] at h
  exact h _ _ _ _ ⟨.bl _,H,I,rfl,q⟩
 ·have h:=SeqAt.RcAt.lists_lengths (A:=X.A) p1.isList p2.isList (by rw [List.size_toArray,List.size_toArray,<- l1,<- l2]; simpa using hl) (by omega)
  rw [decide_eq_false fun z=>hl (congrArg List.length z)] at q
  exact h _ _ _ _ ⟨.bl false,H,I,rfl,q⟩
theorem op_neI (hu:X.A.units + 1 < cLine):OpR X (compareOp .NotEq) (rEqI X.K true):=by
 intro pins s σ H x y v u Q I rx ry h
 obtain ⟨a,b,ns,ms,rfl,rfl,ha,hb,q⟩:=h
 cases rx
 cases ry
 obtain ⟨i1,r1,p1,_⟩:=I.list ha
 obtain ⟨i2,r2,p2,_⟩:=I.list hb
 have l1:=r1.length
 have l2:=r2.length
 rw [List.length_map] at l1 l2
 rw [Bool.true_xor] at q
 by_cases hl:ns.length=ms.length
 ·have h:=SeqAt.RcNeAt.lists (A:=X.A) p1.isList p2.isList (by rw [List.size_toArray,List.size_toArray]; omega) (by omega) (ints_at r1 r2)
  rw [List.size_toArray,<- l1,all_same hl] at h
  exact h _ _ _ _ ⟨.bl _,H,I,rfl,q⟩
 ·have h:=SeqAt.RcNeAt.lists_lengths (A:=X.A) p1.isList p2.isList (by rw [List.size_toArray,List.size_toArray,<- l1,<- l2]; simpa using hl) (by omega)
  rw [decide_eq_false fun z=>hl (congrArg List.length z)] at q
  exact h _ _ _ _ ⟨.bl true,H,I,rfl,q⟩
theorem vals_tys:∀ {ts:List String}{us:List Value},Vals (ts.map V.ty) us->us=ts.map Value.type
 | [],us,r=>by cases r; rfl
 | c :: cs,us,r=>by
  cases r with
  | cons h t=>rw [vals_tys t]; cases h; rfl
theorem call_instLT:CallR X (.builtin "isinstance") (fun xs H Q=>∃ x tp,xs=[x,.ref tp]/\H tp=some (.tup (["list","tuple"].map V.ty))/\((∃ a vs,x=.ref a/\SqT X.K H a vs) ∨ (∃ a vs,x=.ref a/\SqL X.K H a vs))/\Q (.bl true) H):=by
 intro pins s σ H xs us Q I r h
 obtain ⟨x,tp,rfl,hT,ty,q⟩:=h
 obtain ⟨u1,u2,rfl,r1,r2⟩:=vals2 r
 cases r2
 obtain ⟨_,its,rv,n,hits⟩:=(show ObjOk X.prog X.w H s.heap tp (.tup (["list","tuple"].map V.ty)) from I.hok tp _ hT)
 have:=vals_tys rv
 subst this
 rcases ty with ⟨a,vs,rfl,hq⟩ | ⟨a,vs,rfl,hq⟩
 ·cases r1
  obtain ⟨its,_,⟨o,h1,h2,_⟩,_⟩:=I.tuple hq
  exact PySem.W.kia_tup PySem.W.kitx_tuple I.kIn ⟨o,h1,h2⟩ hits rfl (fun z=>nomatch z) fun tk=>⟨.bl true,H,I.tok tk,rfl,q⟩
 ·cases r1
  obtain ⟨its,_,pl,_⟩:=I.list hq
  obtain ⟨o,h1,h2,_⟩:=pl.isList
  exact PySem.W.kia_tup PySem.W.kitx_list I.kIn ⟨o,h1,h2⟩ hits rfl (fun z=>nomatch z) fun tk=>⟨.bl true,H,I.tok tk,rfl,q⟩
end
end L2
namespace DL
open PySem PySem.Spec PyProof.Rows L2
def eqID (neg:Bool) (x y:D):Res D:=match x,y with
 | .lst _ xs,.lst _ ys=>match intsOf xs,intsOf ys with
  | some ns,some ms=>.ok (.bl (xor neg (decide (ns=ms))))
  | _,_=>.bad
 | _,_=>.bad
section
variable {K:PySem.W.Frag}{Y:XY}{X:Cx}{pos p:Pos}{e:Expr}{fe:SD->Res D}
theorem d_eqI (neg:Bool):OpD K Y (rEqI K neg) (eqID neg):=by
 intro H0 B0 B H σ τ P F d1 d2 x y f1 f2 Q I r1 r2 k h
 unfold eqID at h
 split at h
 ·split at h
  ·rename_i ns ms e1 e2
   have ex:=intsOf_eq e1
   have ey:=intsOf_eq e2
   subst ex ey
   obtain ⟨a,vs,g,rfl,q,l,s⟩:=r1.lst I
   obtain ⟨b,us,g',rfl,q',l',s'⟩:=r2.lst I
   obtain ⟨rfl,rfl⟩:=repL_ints l
   obtain ⟨rfl,rfl⟩:=repL_ints l'
   exact ⟨a,b,ns,ms,rfl,rfl,q,q',Out.here h I ⟨rfl,rfl⟩⟩
  ·exact h.elim
 ·exact h.elim
def instLT:D->Res D | .lst _ _=>.ok (.bl true) | .tup _=>.ok (.bl true) | _=>.bad
theorem q_instLT {x1:Nat}{pt pl pk:Pos} (hg:Gl X "isinstance") (hm:X.mg "isinstance" = none) (he:PE X e (tM X.K Y fe)) (hgl:Gl X "list") (hml:X.mg "list" = none) (hgt:Gl X "tuple") (hmt:X.mg "tuple" = none)
  (hs:starEach [e,.Tuple [.Name "list" pl,.Name "tuple" pk] x1 pt] X.env=(false,eval e X.env) :: starEach [.Tuple [.Name "list" pl,.Name "tuple" pk] x1 pt] X.env:=by rfl) (hs2:starEach [.Tuple [.Name "list" pl,.Name "tuple" pk] x1 pt] X.env=(false,eval (.Tuple [.Name "list" pl,.Name "tuple" pk] x1 pt) X.env) :: starEach [] X.env:=by rfl)
  (hs3:starEach [.Name "list" pl,.Name "tuple" pk] X.env=(false,eval (.Name "list" pl) X.env) :: starEach [.Name "tuple" pk] X.env:=by rfl) (hs4:starEach [.Name "tuple" pk] X.env=(false,eval (.Name "tuple" pk) X.env) :: starEach [] X.env:=by rfl) (hpl:(backTo pos (starEach [.Tuple [.Name "list" pl,.Name "tuple" pk] x1 pt] X.env)).any (·.1)=false:=by rfl) :
  PE X (.Call (.Name "isinstance" p) [e,.Tuple [.Name "list" pl,.Name "tuple" pk] x1 pt] [] pos) (tM X.K Y (eUn instLT fe)):=by
 refine PE.imp (pe_callB call_instLT hg hm (by decide +kernel) (pa_cons he (pa_cons (pe_tup (x1:=x1) (pa_cons (pe_bltn hgl hml (by decide +kernel:bootBuiltins "list" = some (.type "list")) (show RelV (.ty "list") _ from rfl)) (pa_cons (pe_bltn hgt hmt (by decide +kernel:bootBuiltins "tuple" = some (.type "tuple")) (show RelV (.ty "tuple") _ from rfl)) pa_nil hs4) hs3)) pa_nil hs2) hs) (he:=hs) (hpl:=hpl)) fun σ H Q hq=>ex8 hq fun H0 B0 B τ P F I h=>?_
 refine tM.seq (g:=instLT) I h fun d v H1 B1 fp _ I1 s1 b1 r1 k1 h1=>?_
 refine ⟨by rw [sizeLine_eq]; show 2 <= _; decide,fun tp htp=>?_⟩
 have s:=sameUpd' (o := .tup [.ty "list",.ty "tuple"]) htp
 have J:=I1.grow s
 have r:=r1.mono s (Same.refl _) fun _ x=>x
 cases d with
 | lst t xs =>
  obtain ⟨a,vs,g,rfl,q,_⟩:=r.lst J
  exact ⟨_,tp,rfl,upd_same,.inr ⟨a,vs,rfl,q⟩,Out.here (Out.later h1 s (Same.refl _)) J ⟨rfl,rfl⟩⟩
 | tup xs =>
  obtain ⟨a,vs,rfl,q,_⟩:=r.tp
  exact ⟨_,tp,rfl,upd_same,.inl ⟨a,vs,rfl,q⟩,Out.here (Out.later h1 s (Same.refl _)) J ⟨rfl,rfl⟩⟩
 | _=>exact h1.elim
end
end DL
namespace SR
open PySem
abbrev Rise (xs:Array Nat):Prop:=xs.toList.Pairwise (· < ·)
theorem rise_at {xs:Array Nat} (h:Rise xs) {i j:Nat}{a b:Nat} (hi:xs[i]?=some a) (hj:xs[j]?=some b) (hij:i < j):a < b:=by
 rw [<- Array.getElem?_toList] at hi hj
 obtain ⟨h1,e1⟩:=List.getElem?_eq_some_iff.mp hi
 obtain ⟨h2,e2⟩:=List.getElem?_eq_some_iff.mp hj
 rw [<- e1,<- e2]
 exact List.pairwise_iff_getElem.mp h i j h1 h2 hij
theorem go_spec {xs:Array Nat}{j:Nat} (hr:Rise xs):∀ (fuel lo hi:Nat),lo <= hi->hi <= xs.size->hi - lo <= fuel->(∀ (i a:Nat),xs[i]?=some a->i < lo->a < j)->(∀ (i a:Nat),xs[i]?=some a->hi <= i->j <= a) ->
  SetTable.below.go xs j fuel lo hi <= xs.size/\(∀ (i a:Nat),xs[i]?=some a->i < SetTable.below.go xs j fuel lo hi->a < j)/\(∀ (i a:Nat),xs[i]?=some a->SetTable.below.go xs j fuel lo hi <= i->j <= a)
 | 0,lo,hi,h1,h2,h3,h4,h5=>by
  have e:lo=hi:=by omega
  subst e
  exact ⟨h2,h4,h5⟩
 | fuel + 1,lo,hi,h1,h2,h3,h4,h5=>by
  unfold SetTable.below.go
  by_cases hlt:lo < hi
  ·rw [if_pos hlt]
   have hm:(lo + hi) / 2 < hi:=by omega
   have hm2:lo <= (lo + hi) / 2:=by omega
   have hs:(lo + hi) / 2 < xs.size:=by omega
   have hg:xs[(lo + hi) / 2]?=some xs[(lo + hi) / 2]:=Array.getElem?_eq_getElem hs
   have hd:xs.getD ((lo + hi) / 2) j=xs[(lo + hi) / 2]:=by rw [Array.getD_eq_getD_getElem?,hg]; rfl
   show (if xs.getD ((lo + hi) / 2) j < j then SetTable.below.go xs j fuel ((lo + hi) / 2 + 1) hi else SetTable.below.go xs j fuel lo ((lo + hi) / 2)) <= _/\_
   by_cases hc:xs.getD ((lo + hi) / 2) j < j
   ·simp only [if_pos hc]
    refine go_spec hr fuel _ _ (by omega) h2 (by omega) (fun i a ha hi'=>?_) h5
    rcases Nat.lt_or_ge i ((lo + hi) / 2) with q | q
    ·have:=rise_at hr ha hg q
     rw [hd] at hc
     omega
    ·have e:i=(lo + hi) / 2:=by omega
     subst e
     rw [hg] at ha
     cases ha
     rw [hd] at hc
     exact hc
   ·simp only [if_neg hc]
    refine go_spec hr fuel _ _ hm2 (by omega) (by omega) h4 (fun i a ha hi'=>?_)
    rw [hd] at hc
    rcases Nat.lt_or_ge ((lo + hi) / 2) i with q | q
    ·have:=rise_at hr hg ha q
     omega
    ·have e:i=(lo + hi) / 2:=by omega
     subst e
     rw [hg] at ha
     cases ha
     omega
  ·rw [if_neg hlt]
   have e:lo=hi:=by omega
   subst e
   exact ⟨h2,h4,h5⟩
theorem below_spec {xs:Array Nat} (hr:Rise xs) (j:Nat):SetTable.below xs j <= xs.size/\(∀ (i a:Nat),xs[i]?=some a->i < SetTable.below xs j->a < j)/\(∀ (i a:Nat),xs[i]?=some a->SetTable.below xs j <= i->j <= a) :=
 go_spec hr xs.size 0 xs.size (Nat.zero_le _) (Nat.le_refl _) (Nat.le_refl _) (fun _ _ _ h=>absurd h (Nat.not_lt_zero _)) fun i a ha h=>by
  have:=(Array.getElem?_eq_some_iff.mp ha).1
  omega
theorem rise_ins {xs:Array Nat} (hr:Rise xs) {j:Nat} (hn:xs[SetTable.below xs j]? ≠ some j):Rise (SetTable.insertAt xs (SetTable.below xs j) j):=by
 obtain ⟨h1,h2,h3⟩:=below_spec hr j
 unfold Rise
 rw [SetTable.toList_insertAt]
 have hr':xs.toList.Pairwise (· < ·):=hr
 rw [<- List.take_append_drop (SetTable.below xs j) xs.toList] at hr'
 obtain ⟨p1,p2,p3⟩:=List.pairwise_append.mp hr'
 have lo:∀ a ∈ xs.toList.take (SetTable.below xs j),a < j:=fun a ha=>by
  obtain ⟨i,hi,e⟩:=List.getElem_of_mem ha
  rw [List.length_take] at hi
  rw [List.getElem_take] at e
  exact h2 i a (by rw [<- Array.getElem?_toList,<- e]; exact List.getElem?_eq_getElem (by omega)) (by omega)
 have hi:∀ a ∈ xs.toList.drop (SetTable.below xs j),j < a:=fun a ha=>by
  obtain ⟨i,hi,e⟩:=List.getElem_of_mem ha
  rw [List.length_drop] at hi
  rw [List.getElem_drop] at e
  have hg:xs[SetTable.below xs j + i]?=some a:=by rw [<- Array.getElem?_toList,<- e]; exact List.getElem?_eq_getElem (by omega)
  have g:=h3 _ a hg (Nat.le_add_right _ _)
  rcases Nat.lt_or_eq_of_le g with g | g
  ·exact g
  ·subst g
   rcases Nat.eq_zero_or_pos i with z | z
   ·subst z; exact absurd hg hn
   ·have hg0:xs[SetTable.below xs j]?=some (xs[SetTable.below xs j]'(by simp at hi; omega)):=Array.getElem?_eq_getElem _
    have l:=rise_at hr hg0 hg (by omega)
    have g0:=h3 _ _ hg0 (Nat.le_refl _)
    omega
 refine List.pairwise_append.mpr ⟨p1,List.pairwise_cons.mpr ⟨hi,p2⟩,fun a ha b hb=>?_⟩
 rcases List.mem_cons.mp hb with rfl | hb
 ·exact lo a ha
 ·exact Nat.lt_trans (lo a ha) (hi b hb)
structure Good (led:Bool) (t:SetTable):Prop where
 led:t.led=led
 rise:Rise t.place
 dum:t.dummies = #[]
theorem good_fresh (led:Bool):Good led (SetTable.fresh 0 0 led):=⟨rfl,List.Pairwise.nil,rfl⟩
theorem good_stand {led:Bool}{t:SetTable} (g:Good led t) (n:Nat):Good led (t.standIn n):=⟨g.led,by
 show (Array.range n).toList.Pairwise (· < ·)
 rw [Array.toList_range]
 exact List.pairwise_lt_range,rfl⟩
theorem good_plain {led:Bool}{t:SetTable} (g:Good led t):Good led { t with plain:=false }:=⟨g.led,g.rise,g.dum⟩
theorem has_nil (j:Nat):SetTable.has #[] j=false:=by
 unfold SetTable.has
 simp
theorem slot_no_dummy {led:Bool}{t:SetTable} (g:Good led t) (j:Nat):t.slot j ≠ .dummy:=by
 unfold SetTable.slot
 rw [g.dum,has_nil]
 simp only [Bool.false_eq_true,if_false]
 split <;> simp
theorem slot_empty {t:SetTable}{j:Nat} (h:t.slot j=.empty):t.place[SetTable.below t.place j]? ≠ some j:=fun e=>by
 unfold SetTable.slot at h
 simp only [e,beq_self_eq_true,if_true] at h
 cases h
theorem probe_free {led:Bool}{t:SetTable} (g:Good led t) {h:Int}:∀ (fuel:Nat) (p:SetTable.Probe) (j:Nat) (d:Option Nat),p.dummy=none->SetTable.probe.go t (fun _=>h + 1) h fuel p=some (.empty j d)->d=none/\t.slot j=.empty
 | 0,p,j,d,_,e=>by unfold SetTable.probe.go at e; cases e
 | fuel + 1,p,j,d,hp,e=>by
  unfold SetTable.probe.go at e
  cases z:t.slot p.j with
  | empty =>
   rw [z] at e
   simp only [Option.some.injEq,SetTable.Met.empty.injEq] at e
   exact ⟨e.2.symm.trans hp,e.1 ▸ z⟩
  | dummy=>exact absurd z (slot_no_dummy g p.j)
  | live i =>
   rw [z] at e
   have hne:(h + 1 == h)=false:=by
    rw [beq_eq_false_iff_ne]
    omega
   simp only [hne,Bool.false_eq_true,if_false] at e
   refine probe_free g fuel (t.advance p) j d ?_ e
   unfold SetTable.advance
   split
   ·exact hp
   ·exact hp
theorem free_spec {led:Bool}{t:SetTable} (g:Good led t) {h:Int}{j:Nat}{b:Bool} (e:t.freeSlot h=some (j,b)):t.slot j=.empty:=by
 unfold SetTable.freeSlot at e
 split at e
 ·rename_i j' d hp
  obtain ⟨rfl,hs⟩:=probe_free g _ _ j' d rfl hp
  simp only [Option.getD_none,Option.isSome_none,Option.some.injEq,Prod.mk.injEq] at e
  exact e.1 ▸ hs
 ·cases e
theorem good_put {led:Bool}{t:SetTable} (g:Good led t) {j:Nat} (h:t.slot j=.empty):Good led (t.put j).1:=by
 refine ⟨g.led,rise_ins g.rise (slot_empty h),?_⟩
 show (if SetTable.has t.dummies j=true then SetTable.eraseAt t.dummies (SetTable.below t.dummies j) else t.dummies) = #[]
 rw [g.dum,has_nil]
 rfl
theorem good_lay {led:Bool}{t:SetTable} (g:Good led t) (es:Array (Int × Value)) (h:Int) (x:Value):Good led (layNew t es h x).2.1:=by
 unfold layNew
 split
 ·rename_i slot b e
  show Good led ((t.put slot).1.orStandIn _)
  have gp:=good_put g (free_spec g e)
  unfold SetTable.orStandIn
  split
  ·exact gp
  ·exact good_stand gp _
 ·exact good_stand g _
theorem live_rise (n:Nat) (f:Nat->Option Nat):(((List.range n).filterMap fun j=>(f j).map (j,·)).map (·.1)).Pairwise (· < ·):=by
 have hs:(((List.range n).filterMap fun j=>(f j).map (j,·)).map (·.1)).Sublist (List.range n):=by
  induction List.range n with
  | nil=>exact List.Sublist.slnil
  | cons a r ih =>
   cases e:f a with
   | none=>rw [List.filterMap_cons_none (by rw [e]; rfl)]; exact ih.cons a
   | some b=>rw [List.filterMap_cons_some (b:=(a,b)) (by rw [e]; rfl)]; exact ih.cons₂ a
 exact List.pairwise_lt_range.sublist hs
theorem good_relay {led:Bool}{t:SetTable} (g:Good led t) (es:Array (Int × Value)) (w:Nat):Good led (relayAll t es w).2.1:=by
 unfold relayAll
 split
 ·rename_i t' order e
  dsimp only
  split
  ·unfold SetTable.relaid SetTable.laid at e
   simp only [Option.bind_eq_bind,Option.bind_eq_some_iff] at e
   obtain ⟨owner,_,e⟩:=e
   simp only [Option.pure_def,Option.some.injEq,Prod.mk.injEq] at e
   obtain ⟨e,_⟩:=e
   subst e
   exact ⟨g.led,by simpa [Rise] using live_rise _ fun j=>owner.getD j none,rfl⟩
  ·exact good_stand g _
 ·exact good_stand g _
end SR
namespace SR
open PySem PySem.Spec PyProof.Rows
section
variable {prog:Program}{w:World}{A:Around}{E:Value->Shared->Prop}{s:Shared}{led:Bool}
def SetG (prog:Program) (w:World) (led:Bool) (h:Heap) (a:Addr) (S:Int->Bool) (n:Nat):Prop :=
 ∃ o es ep t,h.get? a=some o/\o.ExactSet/\o.data=.set es ep t/\ElemsOf (intKind prog w) es.toList/\(∀ k,S k=true ↔ ∃ e ∈ es.toList,(intKind prog w).is k e.2=true)
  /\ es.size < scanBound/\t.fits es.size=true/\es.size=n/\Good led t
theorem SetG.store {h:Heap}{a:Addr}{o:Obj}{es es':Array (Int × Value)}{ep:Nat}{t t':SetTable}{S':Int->Bool} (ho:h.get? a=some o) (hex:o.ExactSet) (hd:o.data=.set es ep t)
  (hel:ElemsOf (intKind prog w) es'.toList) (hmem:∀ k,S' k=true ↔ ∃ e ∈ es'.toList,(intKind prog w).is k e.2=true) (hb:es'.size < scanBound) (hf:t'.fits es'.size=true) (g:Good led t') :
  (h.update a (Obj.putSet es' t')).get? a=some { o with data := .set es' (ep + 1) t' }/\SetG prog w led (h.update a (Obj.putSet es' t')) a S' es'.size:=by
 obtain ⟨hg,_⟩:=SetOf_store (knd:=intKind prog w) ho hex hd hel hmem hb hf
 exact ⟨hg,_,es',ep + 1,t',hg,hex,rfl,hel,hmem,hb,hf,rfl,g⟩
theorem tail_G {gw:Bool->Sem Unit} (hg:∀ (b:Bool) (s₁:Shared) (Q':Unit->Shared->Prop),Q' () s₁->wpAny (model prog w) A (gw b) Q' E s₁)
  {a:Addr}{o:Obj}{es es1:Array (Int × Value)}{ep:Nat}{t t2:SetTable}{S':Int->Bool} (ho:s.heap.get? a=some o) (hex:o.ExactSet) (hd:o.data=.set es ep t)
  (hel1:ElemsOf (intKind prog w) es1.toList) (hmem1:∀ k',S' k'=true ↔ ∃ e ∈ es1.toList,(intKind prog w).is k' e.2=true)
  (hb1:es1.size < scanBound) (hf2:t2.fits es1.size=true) (g2:Good led t2) {wasDummy:Bool}{R:Option Bool->Shared->Prop}
  (h:∀ h',Heap.SameBut a s.heap h'->SetG prog w led h' a S' es1.size->R (some true) { s with heap:=h' }) :
  wpAny (model prog w) A (do
    storeSet a es1 t2
    if (!wasDummy && t2.tooFull)=true then do
      gw (relayAll t2 es1 (SetTable.grown es1.size)).2.2
      storeSet a (relayAll t2 es1 (SetTable.grown es1.size)).1 (relayAll t2 es1 (SetTable.grown es1.size)).2.1
      pure (some true)
     else pure (some true)) R E s:=by
 refine wpAny_bind (wpAny_storeSet_of ho hd ?_ (fits_of_scanBound hb1))
 obtain ⟨ho1,hS1⟩:=SetG.store (prog:=prog) (w:=w) (led:=led) ho hex hd hel1 hmem1 hb1 hf2 g2
 have hsb1:=Heap.SameBut.update s.heap a (Obj.putSet es1 t2)
 split
 ·have hp:=relayAll_perm t2 es1 (SetTable.grown es1.size)
  have hfr:=relayAll_fits t2 es1 (SetTable.grown es1.size)
  have gr:=good_relay g2 es1 (SetTable.grown es1.size)
  have hsz:(relayAll t2 es1 (SetTable.grown es1.size)).1.size=es1.size:=by rw [<- Array.length_toList,hp.length_eq,Array.length_toList]
  have hb2:(relayAll t2 es1 (SetTable.grown es1.size)).1.size < scanBound:=by rw [hsz]; exact hb1
  refine wpAny_bind (hg _ _ _ (wpAny_bind (wpAny_storeSet_of ho1 rfl ?_ (fits_of_scanBound hb2))))
  obtain ⟨_,hS2⟩:=SetG.store (prog:=prog) (w:=w) (led:=led) ho1 hex rfl (hel1.perm hp) (fun k'=>(hmem1 k').trans ⟨fun ⟨e,he,q⟩=>⟨e,hp.mem_iff.mpr he,q⟩,fun ⟨e,he,q⟩=>⟨e,hp.mem_iff.mp he,q⟩⟩) hb2 hfr gr
  rw [hsz] at hS2
  exact wpAny_pure (h _ (hsb1.trans (Heap.SameBut.update _ a _)) hS2)
 ·exact wpAny_pure (h _ hsb1 hS1)
theorem add_G {a:Addr}{S:Int->Bool}{n:Nat}{k:Int}{x:Value}{Q:Bool->Shared->Prop} (hkey:(intKind prog w).is k x=true) (hsc:x.scannable=true) (hS:SetG prog w led s.heap a S n) (hroom:n + 1 < scanBound)
  (h:∀ h',Heap.SameBut a s.heap h'->SetG prog w led h' a (fun k'=>S k' || decide (k'=k)) (if S k then n else n + 1)->Q (!S k) { s with heap:=h' }) :
  wpAny (model prog w) A (setAddHashed a x ((intKind prog w).hash k)) Q E s:=by
 obtain ⟨o,es,ep,t,ho,hex,hd,hel,hmem,hb,hf,hn,g⟩:=hS
 have hb1:es.size + 1 < scanBound:=by rw [hn]; exact hroom
 unfold setAddHashed setAddHashedIn
 refine wpAny_holding (wpAny_bind (wpAny_setState_of ho hd hf ?_))
 dsimp only
 rw [byScan_of hsc hb hel]
 simp only [↓reduceIte]
 unfold setAddByScan
 refine wpAny_bind (wpAny_bind (wpAny_rule (wpAny_bind (wpAny_setScan_of hkey ho hd hf hel ?_))))
 cases hr:List.findIdx? (fun e=>(intKind prog w).is k e.2) es.toList with
 | some j =>
  dsimp only
  obtain ⟨hj,hpj,_⟩:=List.findIdx?_eq_some_iff_getElem.mp hr
  have hSk:S k=true:=(hmem k).mpr ⟨es.toList[j],List.getElem_mem hj,hpj⟩
  refine wpAny_pure (wpAny_pure ?_)
  have e:s = { s with heap:=s.heap }:=by cases s; rfl
  have:=h s.heap (Heap.SameBut.refl a s.heap) ⟨o,es,ep,t,ho,hex,hd,hel,fun k'=>by
   rw [Bool.or_eq_true,decide_eq_true_eq,<- hmem k']
   exact ⟨fun hk=>hk.elim id (fun e=>e ▸ hSk),.inl⟩,hb,hf,by rw [hSk]; exact hn,g⟩
  rw [hSk] at this
  rw [e]
  exact this
 | none =>
  dsimp only
  have hSk:S k=false:=by
   cases hk:S k with
   | false=>rfl
   | true=>obtain ⟨e,he,hp⟩:=(hmem k).mp hk; have:=List.findIdx?_eq_none_iff.mp hr e he; rw [hp] at this; exact Bool.noConfusion this
  have hgw:∀ (b:Bool) {s₁:Shared}{Q':Unit->Shared->Prop},Q' () s₁->wpAny (model prog w) A (match b with | true=>rule "set.scan.the-table-gave-way" | false=>pure ()) Q' E s₁ :=
   fun b s₁ Q' hq=>by cases b <;> first | exact wpAny_pure hq | exact wpAny_rule hq
  have hperm:=layNew_perm t es ((intKind prog w).hash k) x
  have hfits:=layNew_fits t es ((intKind prog w).hash k) x
  have g1:=good_lay g es ((intKind prog w).hash k) x
  generalize hL:layNew t es ((intKind prog w).hash k) x=L at hperm hfits g1 ⊢
  obtain ⟨es1,t1,wasDummy,gave⟩:=L
  dsimp only at hperm hfits g1 ⊢
  rw [Array.toList_push] at hperm
  have hel1:ElemsOf (intKind prog w) es1.toList:=(hel.push hkey hsc).perm hperm
  have hmem1:∀ k',(S k' || decide (k'=k))=true ↔ ∃ e ∈ es1.toList,(intKind prog w).is k' e.2=true:=mem_push_iff hkey hmem hperm
  have hsz1:es1.size=n + 1:=by rw [<- Array.length_toList,hperm.length_eq,List.length_append,Array.length_toList,hn]; rfl
  have hb1':es1.size < scanBound:=by rw [hsz1]; exact hroom
  refine wpAny_bind (hgw _ ?_)
  have hend:∀ h',Heap.SameBut a s.heap h'->SetG prog w led h' a (fun k'=>S k' || decide (k'=k)) es1.size->Q true { s with heap:=h' }:=by
   intro h' hsb hS'; have:=h h' hsb; rw [hSk] at this; rw [hsz1] at hS'; exact this hS'
  split
  ·refine wpAny_bind ?_
   rw [hashByValue_scannable 8 hsc]
   refine wpAny_pure ?_
   refine tail_G (led:=led) ?_ ho hex hd hel1 hmem1 hb1' ?_ ?_ ?_
   ·intro b s₁ Q' hq; cases b <;> first | exact wpAny_pure hq | exact wpAny_rule hq
   ·split
    ·exact hfits
    ·exact SetTable.fits_plain_off hfits
   ·split
    ·exact g1
    ·exact good_plain g1
   ·intro h' hsb hS'; dsimp only; exact wpAny_pure (hend h' hsb hS')
  ·refine wpAny_bind (wpAny_pure ?_)
   simp only [↓reduceIte]
   refine tail_G (led:=led) ?_ ho hex hd hel1 hmem1 hb1' hfits g1 ?_
   ·intro b s₁ Q' hq; cases b <;> first | exact wpAny_pure hq | exact wpAny_rule hq
   ·intro h' hsb hS'; dsimp only; exact wpAny_pure (hend h' hsb hS')
theorem SetG.congr {h:Heap}{a:Addr}{S S':Int->Bool}{n n':Nat} (hS:SetG prog w led h a S n) (e:∀ k,S k=S' k) (en:n=n'):SetG prog w led h a S' n' := by
 have:S=S' := funext e
 subst this en
 exact hS
theorem SetG.keep {h h':Heap}{a:Addr}{S:Int->Bool}{n:Nat} (hS:SetG prog w led h a S n) (hk:∀ o,h.get? a=some o->h'.get? a=some o):SetG prog w led h' a S n:=by
 obtain ⟨o,es,ep,t,ho,rest⟩:=hS
 exact ⟨o,es,ep,t,hk o ho,rest⟩
theorem fresh_G (led:Bool) {h:Heap}{a:Addr} (ho:h.get? a=some { cls := .type "set",dict:=none,data := .set #[] 0 (.fresh 0 0 led) }):SetG prog w led h a (fun _=>false) 0 :=
 ⟨_,#[],0,_,ho,⟨rfl,rfl,rfl⟩,rfl,fun e he=>by simp at he,fun k=>by simp,by decide,rfl,rfl,good_fresh led⟩
end
section
variable {prog:Program}{w:World}{A:Around}{R:Result->Shared->Prop}{I:Addr}{fp wr:List Addr}{G:Array GenState->Array GenState->Prop}{n:Nat}{P:Nat->Value->Prop}{St:Nat->Shared->Prop}{led:Bool}
theorem loop_G (W:WalksS prog w A.in1 I fp wr G n P St) (S:Addr) (hSf:S ∉ fp) (val:Nat->Int) (hval:∀ i v,P i v->∃ t,v=.int (val i) t) (hb:n + 1 < scanBound) :
  ∀ (k i:Nat) (s:Shared),n - i=k->i <= n->St i s->SetG prog w led s.heap S (fun k'=>(firstMet val i).any (· == k')) (firstMet val i).length ->
   (∀ s',Moved (S :: wr) G s s'->SetG prog w led s'.heap S (fun k'=>(firstMet val n).any (· == k')) (firstMet val n).length->R (.ok (.ret .none)) s') ->
   codeAny (model prog w) A (.builtin "set.update.loop" ⟨[.ref S,.ref I],[]⟩) R s:=by
 have hSw:S ∉ wr:=fun h=>hSf (W.sub _ h)
 have hsub:∀ b ∈ wr,b ∈ S :: wr:=fun b hb=>List.mem_cons_of_mem _ hb
 intro k
 induction k with
 | zero =>
  intro i s hk hi hst hS hR
  have hin:i=n:=by omega
  subst hin
  refine codeAny_builtin F.entry_set_update_loop ?_
  rw [Around.under_plainId F.plain_set_update_loop _]
  show wpAny _ A.in1 (pyNext (.ref I) >>= _) _ _ s
  refine wpAny_bind (W.done s _ _ hst fun s' hm=>?_)
  exact wpAny_pure (hR s' (hm.mono hsub) (hS.keep fun o ho=>hm.heap S _ hSw ho))
 | succ k ih =>
  intro i s hk hi hst hS hR
  have hlt:i < n:=by omega
  refine codeAny_builtin F.entry_set_update_loop ?_
  rw [Around.under_plainId F.plain_set_update_loop _]
  show wpAny _ A.in1 (pyNext (.ref I) >>= _) _ _ s
  refine wpAny_bind (W.item i s _ _ hlt hst fun v s' hP hst' hm=>?_)
  obtain ⟨t,rfl⟩:=hval i v hP
  have hS' := hS.keep (h' := s'.heap) fun o ho=>hm.heap S _ hSw ho
  show wpAny _ A.in1 (holding [Value.int (val i) t] (setAdd S (.int (val i) t)) >>= _) _ _ s'
  refine wpAny_bind (wpAny_holding ?_)
  unfold setAdd
  refine wpAny_holding (wpAny_bind ((intKind prog w).pyHash (k:=val i) (intKind_is _ _ _ _) ?_))
  have hroom:(firstMet val i).length + 1 < scanBound:=by have:=firstMet_length_le val i; omega
  refine add_G (s := { s' with toks:=s'.toks + 1 }) (intKind_is _ _ _ _) rfl hS' hroom fun h' hsb hS2=>?_
  have hSi:SetG prog w led h' S (fun k'=>(firstMet val (i + 1)).any (· == k')) (firstMet val (i + 1)).length:=hS2.congr (fun k'=>by rw [firstMet_succ,step_any]) (by rw [firstMet_succ,step_length])
  refine wpAny_pure ⟨plainId_quiet F.plain_set_update_loop _,ih (i + 1) _ (by omega) hlt (W.frame _ s' _ _ hst' (Nat.le_succ _) fun b hb o e=>?_) hSi fun s'' hm'' hS''=>?_⟩
  ·rw [hsb.2 b (fun h:b=S=>hSf (by rw [<- h]; exact hb))]; exact e
  ·refine hR s'' (Moved.trans W.gtrans ((hm.mono hsub).then_heap (Nat.le_succ _) fun b o hb e=>?_) hm'') hS''
   rw [hsb.2 b (fun h:b=S=>hb (by rw [h]; exact List.mem_cons_self))]; exact e
end
def ledW (w:World):Bool := !w.params.followText "set-order"
abbrev set0 (w:World):Obj:=⟨.type "set",none,.set #[] 0 (.fresh 0 0 (ledW w)),#[]⟩
section
variable {prog:Program}{w:World}{A:Around}{E:Value->Shared->Prop}{s:Shared}
theorem new_G (a:Value) {R:Value->Shared->Prop} (h:R (.ref s.heap.objs.size) { s with heap:=s.heap.push (set0 w) }):codeAny (model prog w) A (.call (.builtin "set.__new__") ⟨[.type "set",a],[]⟩) (wants R E) s:=by
 have self:=sub_set_self
 refine codeAny_of_tree (wpAny_bind (wpAny_of_eq (F.newCall_set_1 a) (wpAny_pure ⟨plainId_quiet F.plain_set_new _,codeAny_builtin F.entry_set_new ?_⟩)))
 rw [Around.under_plainId F.plain_set_new _]
 unfold Builtin.«set.__new__» Builtin.Frozenset.newClass
 cases s
 dsimp only
 wp_walk
 exact wpAny_askSetting (wpAny_pure (wpAny_bind (wpAny_alloc (wpAny_pure (wpAny_pure h)))))
abbrev Made (prog:Program) (w:World) (s:Shared) (ns:List Int) (n:Nat) (S:Addr) (s':Shared):Prop := ∃ h' tk,s' = { s with heap:=h',toks:=tk }/\SetG prog w (ledW w) h' S (fun k=>(firstMet (fun i=>ns.getD i 0) n).any (· == k)) (firstMet (fun i=>ns.getD i 0) n).length/\∀ b o,b ≠ S->s.heap.get? b=some o->h'.get? b=some o
theorem init_G {l S:Addr}{items:Array Value}{ns:List Int} (hh:A.handled=none) (hl:s.heap.IsList l items) (hi:IntsAre items.toList ns) (hb:items.size + 1 < scanBound) (hS:s.heap.get? S=some (set0 w)) (ne:l ≠ S) :
  codeAny (model prog w) A (.call (.builtin "set.__init__") ⟨[.ref S,.ref l],[]⟩) (wants (fun r s'=>r=.none/\Made prog w s ns items.size S s') E) s:=by
 have hT:s.TypeIs (.ref S) "set" := ⟨_,hS,rfl⟩
 refine codeAny_call_builtin F.called_set.init.plain F.entry_set_init (check_set_init_1 hT ?_)
 obtain ⟨⟨c,dc,dt,sl⟩,g1,g2,n,g3⟩:=id hl
 simp only at g2 g3
 subst g2 g3
 have x1:=F.sub_list_set
 have x2:=F.sub_list_frozenset
 have x3:(Value.type "list" == Value.type "dict")=false:=by decide
 unfold Builtin.«set.__init__» noKeywords Builtin.Frozenset.updateFrom
 generalize hI:pyIter=It
 wp_walk
 subst hI
 refine wpAny_pyIter_list hl (wpAny_bind (wpAny_runValue ?_))
 have lS:S < s.heap.objs.size:=Heap.lt_size hS
 have ll:l < s.heap.objs.size:=Heap.lt_size g1
 refine loop_G (led:=ledW w) ((Walks.list (by simp [hh]) _ l (Nat.ne_of_lt ll) items).toS) S (by simp [Nat.ne_of_lt lS,ne.symm]) (fun i=>ns.getD i 0) (fun i v e=>IntsAre.int_at hi i v (by rw [Array.getElem?_toList]; exact e)) hb (items.size - 0) 0 _ (by omega) (Nat.zero_le _)
  ⟨⟨_,Heap.get?_push_size _ rfl,rfl,rfl⟩,hl.push _⟩ ((fresh_G (ledW w) (Heap.get?_push_of_some _ hS)).congr (fun _=>rfl) rfl) ?_
 rintro ⟨h',g',d',tk',os'⟩ hm hG
 have e1:g'=s.gens:=hm.gens
 have e2:d'=s.drawn:=hm.drawn
 have e3:os'=s.os:=hm.os
 subst e1 e2 e3
 refine wpAny_pure (wpAny_pure ⟨rfl,h',tk',rfl,hG,fun b o nb e=>hm.heap b o ?_ (Heap.get?_push_of_some _ e)⟩)
 simp [nb,Nat.ne_of_lt (Heap.lt_size e)]
theorem call_set_G {l:Addr}{items:Array Value}{ns:List Int}{Q:Value->Shared->Prop} (hh:A.handled=none) (hl:s.heap.IsList l items) (hi:IntsAre items.toList ns) (hb:items.size + 1 < scanBound)
  (h:∀ (h':Heap) (tk:Nat),SetG prog w (ledW w) h' s.heap.objs.size (fun k=>(firstMet (fun i=>ns.getD i 0) items.size).any (· == k)) (firstMet (fun i=>ns.getD i 0) items.size).length->(∀ b o,b < s.heap.objs.size->s.heap.get? b=some o->h'.get? b=some o)->Q (.ref s.heap.objs.size) { s with heap:=h',toks:=tk }) :
  wpAny (model prog w) A (call (.type "set") [.ref l]) Q E s:=by
 have T:=F.called_set
 obtain ⟨m1,m2,m3⟩:=T.mro
 have m4:=T.made
 have m5:=T.sub
 have m6:=T.notType
 have m7:=T.canCreate
 have m8:=F.typeCall_set_1 (.ref l)
 refine wpAny_call (codeAny_of_tree (wpAny_pure ⟨Code.quiet_builtin _ (by decide +kernel),codeAny_builtin F.entry_type_call ?_⟩))
 rw [Around.under_plain (weight_type_call_type "set" [.ref l] []) rfl]
 repeat (any_goals (first | assumption | wp_step))
 refine codeAny_mono (new_G (.ref l) (E:=E) (R:=fun x s'=>x=.ref s.heap.objs.size/\s' = { s with heap:=s.heap.push (set0 w) }) ⟨rfl,rfl⟩) fun r1 s1 q1=>?_
 rcases r1 with e | fl
 ·exact q1
 cases fl with
 | ret x =>
  obtain ⟨rfl,rfl⟩:=q1
  have gS:(s.heap.push (set0 w)).get? s.heap.objs.size=some (set0 w):=Heap.get?_push_size _ rfl
  have y1:=T.init.lookup
  have y2:=T.init.bind (.ref s.heap.objs.size)
  have y3:Shared.TypeIs { s with heap:=s.heap.push (set0 w) } (.ref s.heap.objs.size) "set" := ⟨_,gS,rfl⟩
  repeat (any_goals (first | assumption | wp_step))
  obtain ⟨ol,g1,_⟩:=id hl
  refine codeAny_mono (init_G (E:=E) (ns:=ns) (by simp [hh]) (hl.push _) hi hb gS (Nat.ne_of_lt (Heap.lt_size g1))) fun r2 s2 q2=>?_
  rcases r2 with e | fl
  ·exact q2
  cases fl with
  | ret x =>
   obtain ⟨rfl,h',tk,rfl,hG,hk⟩:=q2
   repeat (any_goals (first | assumption | wp_step))
   exact h _ _ hG fun b o lb e=>hk b o (Nat.ne_of_lt lb) (Heap.get?_push_of_some _ e)
  | _=>exact q2.elim
 | _=>exact q1.elim
end
theorem entry_set_iter:entryFor table "set.__iter__" = some Builtin.«frozenset.__iter__» :=
 entryFor_alias (id' := "frozenset.__iter__") (by kernel_rfl) rfl (by decide +kernel) (by kernel_rfl)
theorem slot_si_next:Slot "set_iterator" "__next__" "set_iterator.__next__" :=
 .of (owner := "set_iterator") (n := "__next__") (by rw [typeLookup_type,builtinLookup_eq_fast]; kernel_rfl) (by decide +kernel) (by decide +kernel) (by decide +kernel)
  (by first | exact .inl (by decide +kernel) | exact .inr (by decide +kernel)) (by rw [isSubtype_type]; kernel_rfl)
theorem entry_si_next:entryFor table "set_iterator.__next__" = some Builtin.«set_iterator.__next__» := entryFor_of_tree (by kernel_rfl)
theorem args_si_next (a:Value):argsOk "set_iterator.__next__" ⟨[a],[]⟩:=by unfold argsOk; kernel_rfl
section
variable {prog:Program}{w:World}{A:Around}{E:Value->Shared->Prop}{s:Shared}
theorem get_erase_perm {α:Type}:∀ (l:List α) (i:Nat) (h:i < l.length),(l[i] :: l.eraseIdx i).Perm l
 | [],i,h=>absurd h (Nat.not_lt_zero _)
 | a :: l,0,_=>List.Perm.refl _
 | a :: l,i + 1,h=>by
  have hi:i < l.length:=by simpa using h
  have ih:=get_erase_perm l i hi
  show (l[i] :: a :: l.eraseIdx i).Perm (a :: l)
  exact (List.Perm.swap a l[i] _).trans (List.Perm.cons a ih)
theorem choose_any {M:Model}{src:Source}{n:Nat}{Q:Nat->Shared->Prop} (hn:n ≠ 0) (h:∀ (i:Nat) d,i < n->Q i { s with drawn:=d }):wpAny M A (choose src n) Q E s:=fun Γ p hΓ =>
 ⟨hn,h _ _ (Nat.mod_lt _ (Nat.pos_of_ne_zero hn))⟩
theorem draw_any {M:Model}{α:Type}:∀ (n:Nat) (xs:List α) (s:Shared) (Q:List α->Shared->Prop),xs.length=n->(∀ ys d,ys.Perm xs->Q ys { s with drawn:=d })->wpAny M A (drawOrder n xs) Q E s
 | 0,xs,s,Q,hl,h=>by
  have e:xs=[]:=List.length_eq_zero_iff.mp hl
  subst e
  unfold drawOrder
  have:=h [] s.drawn (List.Perm.refl _)
  exact wpAny_pure this
 | n + 1,[],s,Q,hl,h=>by simp at hl
 | n + 1,x :: r,s,Q,hl,h=>by
  unfold drawOrder
  refine wpAny_bind (choose_any (by simp) fun i d hi=>?_)
  have hg:(x :: r)[i]?=some ((x :: r)[i]):=List.getElem?_eq_getElem hi
  simp only [hg]
  refine wpAny_bind (draw_any n ((x :: r).eraseIdx i) _ _ (by rw [List.length_eraseIdx_of_lt hi,hl]; rfl) fun ys d' hp=>?_)
  exact wpAny_pure (h _ d' ((List.Perm.cons _ hp).trans (get_erase_perm _ _ hi)))
theorem pick_go {α:Type} (next:Nat->Nat):∀ (fuel k:Nat) (left:List α) (out:Array α),left.length=fuel->∃ l:List α,l.Perm left/\(pickOrder.go next fuel k left out).toList=out.toList ++ l
 | 0,k,left,out,hl=>by
  have e:left=[]:=List.length_eq_zero_iff.mp hl
  subst e
  exact ⟨[],List.Perm.refl _,by unfold pickOrder.go; simp⟩
 | fuel + 1,k,left,out,hl=>by
  have hpos:0 < left.length:=by omega
  have hi:next k % left.length < left.length:=Nat.mod_lt _ hpos
  have hg:left[next k % left.length]?=some (left[next k % left.length]):=List.getElem?_eq_getElem hi
  obtain ⟨l,hp,e⟩:=pick_go next fuel (k + 1) (left.eraseIdx (next k % left.length)) (out.push (left[next k % left.length])) (by rw [List.length_eraseIdx_of_lt hi,hl]; rfl)
  refine ⟨left[next k % left.length] :: l,(List.Perm.cons _ hp).trans (get_erase_perm _ _ hi),?_⟩
  unfold pickOrder.go
  rw [hg]
  show (pickOrder.go next fuel (k + 1) (left.eraseIdx (next k % left.length)) (out.push (left[next k % left.length]))).toList=_
  rw [e,Array.toList_push,List.append_assoc]
  rfl
theorem pick_perm {α:Type} (next:Nat->Nat) (xs:Array α):(pickOrder next xs).toList.Perm xs.toList:=by
 obtain ⟨l,hp,e⟩:=pick_go next xs.size 0 xs.toList #[] (by simp)
 unfold pickOrder
 rw [e]
 simpa using hp
variable {a it:Addr}{o:Obj}{es:Array (Int × Value)}{ep:Nat}{t:SetTable}
theorem text_any {M:Model}{Q:Bool->Shared->Prop} (h:Q (M.w.params.followText "set-order") s):wpAny M A setsByText Q E s:=by
 unfold setsByText
 exact wpAny_bind (wpAny_askSetting (wpAny_pure h))
theorem next_A (hby:w.params.followText "set-order" = true) (ho:s.heap.get? a=some o) (hd:o.data=.set es ep t) (hf:t.fits es.size=true) {slot i:Nat}{Q:Option (Value × Nat)->Shared->Prop}
  (h:Q (((pickOrder (w.params.setOrder a ep) es)[i]?).map fun e=>(e.2,slot)) s):wpAny (model prog w) A (setNext a slot i ep) Q E s:=by
 unfold setNext
 refine wpAny_bind (wpAny_setState_of ho hd hf ?_)
 dsimp only
 refine wpAny_bind (text_any ?_)
 rw [show (model prog w).w.params.followText "set-order" = true from hby]
 simp only [↓reduceIte,bne_self_eq_false,Bool.false_eq_true]
 refine wpAny_bind ?_
 unfold setWalk
 refine wpAny_bind (wpAny_setState_of ho hd hf ?_)
 dsimp only
 refine wpAny_bind (text_any ?_)
 rw [show (model prog w).w.params.followText "set-order" = true from hby]
 simp only [↓reduceIte]
 exact wpAny_bind (wpAny_askSetting (wpAny_pure (wpAny_pure h)))
theorem next_C (hby:w.params.followText "set-order" = false) (hdr:(!t.plain && decide (es.size > 1))=false) (hled:t.led=true) (ho:s.heap.get? a=some o) (hd:o.data=.set es ep t) (hf:t.fits es.size=true) {slot i:Nat}{Q:Option (Value × Nat)->Shared->Prop}
  (h:Q (match es[SetTable.below t.place slot]?,t.place[SetTable.below t.place slot]? with | some (_,x),some j=>some (x,j + 1) | _,_=>none) s):wpAny (model prog w) A (setNext a slot i ep) Q E s:=by
 unfold setNext
 refine wpAny_bind (wpAny_setState_of ho hd hf ?_)
 dsimp only
 refine wpAny_bind (text_any ?_)
 rw [show (model prog w).w.params.followText "set-order" = false from hby]
 simp only [Bool.false_eq_true,↓reduceIte]
 split
 ·rename_i hx
  have hx':(!t.plain && decide (es.size > 1))=true:=hx
  rw [hdr] at hx'
  cases hx'
 ·refine wpAny_bind ?_
  show wpAny _ _ (if (!t.led && !es.isEmpty)=true then unsupported "set:maker-not-led" else pure ()) _ _ _
  rw [hled,if_neg (by simp)]
  exact wpAny_pure (wpAny_pure h)
abbrev iobj (first:Value) (i:Nat) (a:Addr) (n ep:Nat):Obj := { cls := .type "set_iterator",dict:=none,data := .fields #[first,.int i 0,.ref a,.int n 0,.int ep 0],slots := #[] }
theorem step_some {slot i nx:Nat}{x:Value}{Q:Option Value->Shared->Prop} (hit:s.heap.get? it=some (iobj (.int slot 0) i a es.size ep)) (ho:s.heap.get? a=some o) (hd:o.data=.set es ep t) (hf:t.fits es.size=true)
  (hn:∀ (A':Around) (E':Value->Shared->Prop) (Q':Option (Value × Nat)->Shared->Prop),Q' (some (x,nx)) s->wpAny (model prog w) A' (setNext a slot i ep) Q' E' s)
  (hQ:∀ h',h'.get? it=some (iobj (.int nx 0) (i + 1) a es.size ep)->Heap.SameBut it s.heap h'->Q (some x) { s with heap:=h' }):wpAny (model prog w) A (pyNext (.ref it)) Q E s:=by
 have hT:s.TypeIs (.ref it) "set_iterator" := ⟨_,hit,rfl⟩
 unfold pyNext
 refine wpAny_bind (wpAny_attempt (wpAny_callSpecial?_slot (name:=Str.ofString "__next__") hT slot_si_next (wpAny_call_entry slot_si_next hT entry_si_next ?_ (args_si_next _))))
 unfold Builtin.«set_iterator.__next__» slotArgs
 simp only [List.isEmpty_nil,Bool.not_true,Bool.false_eq_true,↓reduceIte,List.length_nil,bne_self_eq_false]
 refine wpAny_bind (wpAny_pure ?_)
 dsimp only
 refine wpAny_bind (wpAny_fieldsOf hit rfl ?_)
 dsimp only
 refine wpAny_bind (wpAny_setEntries_of ho hd hf ?_)
 simp only [bne_self_eq_false,Bool.false_eq_true,↓reduceIte]
 rw [Int.toNat_natCast,Int.toNat_natCast,Int.toNat_natCast]
 refine wpAny_bind (hn _ _ _ ?_)
 dsimp only
 refine wpAny_bind (wpAny_setField_rec hit (by simp) fun h1 e1 sb1=>?_)
 refine wpAny_bind (wpAny_setField_rec (s := { s with heap:=h1 }) e1 (by simp) fun h2 e2 sb2=>?_)
 refine wpAny_pure ⟨_,rfl,wpAny_pure (hQ h2 ?_ (sb1.trans sb2))⟩
 rw [e2]
 simp [rawInt,iobj]
theorem isSubtype_stop':isSubtype (.type "StopIteration") (.type "StopIteration")=pure true:=by rw [isSubtype_type]; kernel_rfl
theorem step_none {slot i:Nat}{Q:Option Value->Shared->Prop} (hh:A.handled=none) (hit:s.heap.get? it=some (iobj (.int slot 0) i a es.size ep)) (ho:s.heap.get? a=some o) (hd:o.data=.set es ep t) (hf:t.fits es.size=true)
  (hn:∀ (A':Around) (E':Value->Shared->Prop) (Q':Option (Value × Nat)->Shared->Prop),Q' none s->wpAny (model prog w) A' (setNext a slot i ep) Q' E' s)
  (hQ:∀ h',Heap.ExtBut it s.heap h'->Q none { s with heap:=h' }):wpAny (model prog w) A (pyNext (.ref it)) Q E s:=by
 have hT:s.TypeIs (.ref it) "set_iterator" := ⟨_,hit,rfl⟩
 unfold pyNext
 refine wpAny_bind (wpAny_attempt (wpAny_callSpecial?_slot (name:=Str.ofString "__next__") hT slot_si_next (wpAny_call_entry slot_si_next hT entry_si_next ?_ (args_si_next _))))
 unfold Builtin.«set_iterator.__next__» slotArgs
 simp only [List.isEmpty_nil,Bool.not_true,Bool.false_eq_true,↓reduceIte,List.length_nil,bne_self_eq_false]
 refine wpAny_bind (wpAny_pure ?_)
 dsimp only
 refine wpAny_bind (wpAny_fieldsOf hit rfl ?_)
 dsimp only
 refine wpAny_bind (wpAny_setEntries_of ho hd hf ?_)
 simp only [bne_self_eq_false,Bool.false_eq_true,↓reduceIte]
 rw [Int.toNat_natCast,Int.toNat_natCast,Int.toNat_natCast]
 refine wpAny_bind (hn _ _ _ ?_)
 dsimp only
 refine wpAny_bind (wpAny_setField hit rfl (by simp) ?_)
 show wpAny _ _ (newExc (.type "StopIteration") [] >>= _) _ _ _
 refine wpAny_bind ?_
 simp only [newExc,newTuple]
 refine wpAny_bind (wpAny_newObj_type ?_ (by size_fits))
 refine wpAny_bind (m:=firstArgMember _ _) (wpAny_of_eq (a:=Value.none) (by first | rfl | (simp only [firstArgMember]; rfl)) ?_)
 refine wpAny_newObj_type ?_ (by size_fits)
 simp only [raiseNew]
 refine wpAny_bind (wpAny_handled ?_)
 rw [show A.in1.handled=none from hh]
 refine wpAny_bind (wpAny_pure (wpAny_throw ?_))
 refine wpAny_bind (wpAny_isInstance (T := "StopIteration") (b:=true) ⟨_,Heap.get?_push_size _ rfl,rfl⟩ isSubtype_stop' ?_)
 exact wpAny_pure (hQ _ (((Heap.SameBut.update ..).extBut.push _).push _))
theorem step_draw {i p:Nat}{T:Addr}{ps:Array Value}{x:Value}{Q:Option Value->Shared->Prop} (hit:s.heap.get? it=some (iobj (.ref T) i a es.size ep)) (ho:s.heap.get? a=some o) (hd:o.data=.set es ep t) (hf:t.fits es.size=true)
  (hp:s.heap.IsTuple T ps) (hpi:ps[i]?=some (.int p 0)) (hx:(es[p]?).map (·.2)=some x)
  (hQ:∀ h',h'.get? it=some (iobj (.ref T) (i + 1) a es.size ep)->Heap.SameBut it s.heap h'->Q (some x) { s with heap:=h' }):wpAny (model prog w) A (pyNext (.ref it)) Q E s:=by
 have hT:s.TypeIs (.ref it) "set_iterator" := ⟨_,hit,rfl⟩
 obtain ⟨ot,hot,_,nt,hdt⟩:=hp
 unfold pyNext
 refine wpAny_bind (wpAny_attempt (wpAny_callSpecial?_slot (name:=Str.ofString "__next__") hT slot_si_next (wpAny_call_entry slot_si_next hT entry_si_next ?_ (args_si_next _))))
 unfold Builtin.«set_iterator.__next__» slotArgs
 simp only [List.isEmpty_nil,Bool.not_true,Bool.false_eq_true,↓reduceIte,List.length_nil,bne_self_eq_false]
 refine wpAny_bind (wpAny_pure ?_)
 dsimp only
 refine wpAny_bind (wpAny_fieldsOf hit rfl ?_)
 dsimp only
 refine wpAny_bind (wpAny_setEntries_of ho hd hf ?_)
 simp only [bne_self_eq_false,Bool.false_eq_true,↓reduceIte]
 refine wpAny_bind (wpAny_seqItems hot hdt ?_)
 dsimp only
 rw [Int.toNat_natCast,hpi]
 dsimp only
 rw [Int.toNat_natCast,Int.toNat_natCast]
 refine wpAny_bind ?_
 unfold setNextDrawn
 refine wpAny_bind (wpAny_setState_of ho hd hf ?_)
 simp only [bne_self_eq_false,Bool.false_eq_true,↓reduceIte]
 cases he:es[p]? with
 | none=>rw [he] at hx; cases hx
 | some e =>
  rw [he] at hx
  simp only [Option.map_some,Option.some.injEq] at hx
  subst hx
  dsimp only
  refine wpAny_pure ?_
  refine wpAny_bind (wpAny_setField_rec hit (by simp) fun h1 e1 sb1=>?_)
  refine wpAny_pure ⟨_,rfl,wpAny_pure (hQ h1 ?_ sb1)⟩
  rw [e1]
  simp [rawInt,iobj]
theorem stop_draw {i:Nat}{T:Addr}{ps:Array Value}{Q:Option Value->Shared->Prop} (hh:A.handled=none) (hit:s.heap.get? it=some (iobj (.ref T) i a es.size ep)) (ho:s.heap.get? a=some o) (hd:o.data=.set es ep t) (hf:t.fits es.size=true)
  (hp:s.heap.IsTuple T ps) (hpi:ps[i]?=none)
  (hQ:∀ h',Heap.ExtBut it s.heap h'->Q none { s with heap:=h' }):wpAny (model prog w) A (pyNext (.ref it)) Q E s:=by
 have hT:s.TypeIs (.ref it) "set_iterator" := ⟨_,hit,rfl⟩
 obtain ⟨ot,hot,_,nt,hdt⟩:=hp
 unfold pyNext
 refine wpAny_bind (wpAny_attempt (wpAny_callSpecial?_slot (name:=Str.ofString "__next__") hT slot_si_next (wpAny_call_entry slot_si_next hT entry_si_next ?_ (args_si_next _))))
 unfold Builtin.«set_iterator.__next__» slotArgs
 simp only [List.isEmpty_nil,Bool.not_true,Bool.false_eq_true,↓reduceIte,List.length_nil,bne_self_eq_false]
 refine wpAny_bind (wpAny_pure ?_)
 dsimp only
 refine wpAny_bind (wpAny_fieldsOf hit rfl ?_)
 dsimp only
 refine wpAny_bind (wpAny_setEntries_of ho hd hf ?_)
 simp only [bne_self_eq_false,Bool.false_eq_true,↓reduceIte]
 refine wpAny_bind (wpAny_seqItems hot hdt ?_)
 dsimp only
 rw [Int.toNat_natCast,hpi]
 dsimp only
 refine wpAny_bind (wpAny_setField_rec hit (by simp) fun h1 e1 sb1=>?_)
 refine wpAny_bind (wpAny_setField (s := { s with heap:=h1 }) e1 rfl (by simp) ?_)
 show wpAny _ _ (newExc (.type "StopIteration") [] >>= _) _ _ _
 refine wpAny_bind ?_
 simp only [newExc,newTuple]
 refine wpAny_bind (wpAny_newObj_type ?_ (by size_fits))
 refine wpAny_bind (m:=firstArgMember _ _) (wpAny_of_eq (a:=Value.none) (by first | rfl | (simp only [firstArgMember]; rfl)) ?_)
 refine wpAny_newObj_type ?_ (by size_fits)
 simp only [raiseNew]
 refine wpAny_bind (wpAny_handled ?_)
 rw [show A.in1.handled=none from hh]
 refine wpAny_bind (wpAny_pure (wpAny_throw ?_))
 refine wpAny_bind (wpAny_isInstance (T := "StopIteration") (b:=true) ⟨_,Heap.get?_push_size _ rfl,rfl⟩ isSubtype_stop' ?_)
 exact wpAny_pure (hQ _ (((sb1.trans (Heap.SameBut.update ..)).extBut.push _).push _))
end
theorem slot_si_iter:Slot "set_iterator" "__iter__" "set_iterator.__iter__" :=
 .of (owner := "set_iterator") (n := "__iter__") (by rw [typeLookup_type,builtinLookup_eq_fast]; kernel_rfl) (by decide +kernel) (by decide +kernel) (by decide +kernel)
  (by first | exact .inl (by decide +kernel) | exact .inr (by decide +kernel)) (by rw [isSubtype_type]; kernel_rfl)
theorem entry_si_iter:entryFor table "set_iterator.__iter__" = some Builtin.«dict_keyiterator.__iter__» := entryFor_alias (id' := "dict_keyiterator.__iter__") (by kernel_rfl) rfl (by decide +kernel) (by kernel_rfl)
theorem args_si_iter (a:Value):argsOk "set_iterator.__iter__" ⟨[a],[]⟩:=by unfold argsOk; kernel_rfl
section
variable {prog:Program}{w:World}{A:Around}{E:Value->Shared->Prop}{s:Shared}{a I:Addr}{o:Obj}{es:Array (Int × Value)}{ep:Nat}{t:SetTable}
theorem self_si {h:s.TypeIs (.ref I) "set_iterator"}{Q:Value->Shared->Prop} (hQ:Q (.ref I) s):wpAny (model prog w) A (pyIter (.ref I)) Q E s:=by
 refine wpAny_pyIter_slot h slot_si_iter (wpAny_call_entry slot_si_iter h entry_si_iter ?_ (args_si_iter _))
 show wpAny _ _ (ret (.ref I)) _ _ s
 exact wpAny_pure ⟨_,rfl,"set_iterator",_,h,slot_si_next.lookup,hQ⟩
theorem walk_A (hby:w.params.followText "set-order" = true) (hh:A.handled=none) (hne:a ≠ I) (hd:o.data=.set es ep t) (hf:t.fits es.size=true) :
  Walks prog w A I [I,a] [I] es.size (fun i v=>((pickOrder (w.params.setOrder a ep) es).toList.map (·.2))[i]?=some v) (fun i h=>h.get? I=some (iobj (.int (0:Nat) 0) i a es.size ep)/\h.get? a=some o) where
 sub:=fun b hb=>by simp at hb; simp [hb]
 frame:=fun _ _ _ st hk=>⟨hk I (by simp) _ st.1,hk a (by simp) _ st.2⟩
 item:=fun i s Q E hi st hQ=>by
  have hl:=(pick_perm (w.params.setOrder a ep) es).length_eq
  simp only [Array.length_toList] at hl
  have hg:(pickOrder (w.params.setOrder a ep) es)[i]?=some ((pickOrder (w.params.setOrder a ep) es)[i]'(by omega)):=Array.getElem?_eq_getElem _
  refine step_some (slot:=0) (nx:=0) (x:=((pickOrder (w.params.setOrder a ep) es)[i]'(by omega)).2) st.1 st.2 hd hf (fun A' E' Q' q=>next_A hby st.2 hd hf (by rw [hg]; exact q)) fun h' e1 sb=>?_
  refine hQ _ h' s.toks ?_ ⟨e1,?_⟩ fun b o' hb e=>?_
  ·rw [List.getElem?_map,Array.getElem?_toList,hg]; rfl
  ·rw [sb.2 a hne]; exact st.2
  ·rw [sb.2 b (fun z=>hb (by simp [z]))]; exact e
 done:=fun s Q E st hQ=>by
  have hl:=(pick_perm (w.params.setOrder a ep) es).length_eq
  simp only [Array.length_toList] at hl
  refine step_none (slot:=0) hh st.1 st.2 hd hf (fun A' E' Q' q=>next_A hby st.2 hd hf (by rw [Array.getElem?_eq_none (by omega)]; exact q)) fun h' he=>?_
  exact hQ h' s.toks fun b o hb e=>he b o (fun h=>hb (by simp [h])) e
 self:=fun _ s _ _ st hQ=>self_si (h:=⟨_,st.1,rfl⟩) hQ
def slotC (t:SetTable):Nat->Nat
 | 0=>0
 | i + 1=>t.place.getD i 0 + 1
theorem below_slot (hr:Rise t.place):∀ i,i <= t.place.size->SetTable.below t.place (slotC t i)=i
 | 0,_=>by
  obtain ⟨h1,h2,h3⟩:=below_spec hr 0
  show SetTable.below t.place 0=0
  rcases Nat.eq_zero_or_pos (SetTable.below t.place 0) with z | z
  ·exact z
  ·have:=h2 0 _ (Array.getElem?_eq_getElem (by omega)) z
   omega
 | i + 1,hi=>by
  have hg:t.place[i]?=some (t.place[i]'(by omega)):=Array.getElem?_eq_getElem _
  have hgd:t.place.getD i 0=t.place[i]'(by omega):=by rw [Array.getD_eq_getD_getElem?,hg]; rfl
  obtain ⟨h1,h2,h3⟩:=below_spec hr (slotC t (i + 1))
  have es:slotC t (i + 1)=t.place[i]'(by omega) + 1:=by show t.place.getD i 0 + 1=_; rw [hgd]
  rw [es] at h1 h2 h3 ⊢
  rcases Nat.lt_trichotomy (SetTable.below t.place (t.place[i]'(by omega) + 1)) (i + 1) with z | z | z
  ·have:=h3 i _ hg (by omega)
   omega
  ·exact z
  ·have hg':t.place[i + 1]?=some (t.place[i + 1]'(by omega)):=Array.getElem?_eq_getElem _
   have l:=h2 (i + 1) _ hg' z
   have r:=rise_at hr hg hg' (by omega)
   omega
theorem walk_C (hby:w.params.followText "set-order" = false) (hdr:(!t.plain && decide (es.size > 1))=false) (g:Good true t) (hh:A.handled=none) (hne:a ≠ I) (hd:o.data=.set es ep t) (hf:t.fits es.size=true) :
  Walks prog w A I [I,a] [I] es.size (fun i v=>(es.toList.map (·.2))[i]?=some v) (fun i h=>i <= es.size/\h.get? I=some (iobj (.int (slotC t i:Nat) 0) i a es.size ep)/\h.get? a=some o) where
 sub:=fun b hb=>by simp at hb; simp [hb]
 frame:=fun _ _ _ st hk=>⟨st.1,hk I (by simp) _ st.2.1,hk a (by simp) _ st.2.2⟩
 item:=fun i s Q E hi st hQ=>by
  have hp:t.place.size=es.size:=by
   unfold SetTable.fits at hf
   simp only [Bool.and_eq_true,beq_iff_eq] at hf
   exact hf.1
  have hb:=below_slot g.rise i (by omega)
  have hg:es[i]?=some (es[i]'hi):=Array.getElem?_eq_getElem _
  have hgp:t.place[i]?=some (t.place[i]'(by omega)):=Array.getElem?_eq_getElem _
  have hgd:t.place.getD i 0=t.place[i]'(by omega):=by rw [Array.getD_eq_getD_getElem?,hgp]; rfl
  refine step_some (slot:=slotC t i) (nx:=slotC t (i + 1)) (x:=(es[i]'hi).2) st.2.1 st.2.2 hd hf (fun A' E' Q' q=>next_C hby hdr g.led st.2.2 hd hf (by
   rw [hb,hg,hgp]
   have:slotC t (i + 1)=t.place[i]'(by omega) + 1:=by show t.place.getD i 0 + 1=_; rw [hgd]
   rw [this] at q
   exact q)) fun h' e1 sb=>?_
  refine hQ _ h' s.toks ?_ ⟨hi,e1,?_⟩ fun b o' hb e=>?_
  ·rw [List.getElem?_map,Array.getElem?_toList,hg]; rfl
  ·rw [sb.2 a hne]; exact st.2.2
  ·rw [sb.2 b (fun z=>hb (by simp [z]))]; exact e
 done:=fun s Q E st hQ=>by
  have hp:t.place.size=es.size:=by
   unfold SetTable.fits at hf
   simp only [Bool.and_eq_true,beq_iff_eq] at hf
   exact hf.1
  have hb:=below_slot g.rise es.size (by omega)
  refine step_none (slot:=slotC t es.size) hh st.2.1 st.2.2 hd hf (fun A' E' Q' q=>next_C hby hdr g.led st.2.2 hd hf (by rw [hb,Array.getElem?_eq_none (Nat.le_refl _)]; exact q)) fun h' he=>?_
  exact hQ h' s.toks fun b o hb e=>he b o (fun h=>hb (by simp [h])) e
 self:=fun _ s _ _ st hQ=>self_si (h:=⟨_,st.2.1,rfl⟩) hQ
def ordB (es:Array (Int × Value)) (ps:List Nat):List Value:=ps.map fun p=>((es[p]?).map (·.2)).getD .none
theorem walk_B {T:Addr}{ps:List Nat} (hps:ps.Perm (List.range es.size)) (hh:A.handled=none) (hne:a ≠ I) (hnT:T ≠ I) (hd:o.data=.set es ep t) (hf:t.fits es.size=true) :
  Walks prog w A I [I,a,T] [I] es.size (fun i v=>(ordB es ps)[i]?=some v) (fun i h=>h.get? I=some (iobj (.ref T) i a es.size ep)/\h.get? a=some o/\h.IsTuple T (ps.map fun p:Nat=>Value.int p 0).toArray) where
 sub:=fun b hb=>by simp at hb; simp [hb]
 frame:=fun _ _ _ st hk=>⟨hk I (by simp) _ st.1,hk a (by simp) _ st.2.1,st.2.2.at fun o e=>hk T (by simp) o e⟩
 item:=fun i s Q E hi st hQ=>by
  have hl:ps.length=es.size:=by rw [hps.length_eq,List.length_range]
  have hpi:ps[i]?=some (ps[i]'(by omega)):=List.getElem?_eq_getElem _
  have hpm:ps[i]'(by omega) < es.size:=List.mem_range.mp (hps.mem_iff.mp (List.getElem_mem _))
  have hg:es[ps[i]'(by omega)]?=some (es[ps[i]'(by omega)]'hpm):=Array.getElem?_eq_getElem _
  refine step_draw (p:=ps[i]'(by omega)) (x:=(es[ps[i]'(by omega)]'hpm).2) st.1 st.2.1 hd hf st.2.2 (by rw [<- Array.getElem?_toList,List.toList_toArray,List.getElem?_map,hpi]; rfl) (by rw [hg]; rfl) fun h' e1 sb=>?_
  refine hQ _ h' s.toks ?_ ⟨e1,?_,?_⟩ fun b o' hb e=>?_
  ·unfold ordB
   rw [List.getElem?_map,hpi,Option.map_some,hg]; rfl
  ·rw [sb.2 a hne]; exact st.2.1
  ·exact st.2.2.at fun o e=>by rw [sb.2 T hnT]; exact e
  ·rw [sb.2 b (fun z=>hb (by simp [z]))]; exact e
 done:=fun s Q E st hQ=>by
  have hl:ps.length=es.size:=by rw [hps.length_eq,List.length_range]
  refine stop_draw hh st.1 st.2.1 hd hf st.2.2 (by rw [<- Array.getElem?_toList,List.toList_toArray,List.getElem?_eq_none (by rw [List.length_map]; omega)]) fun h' he=>?_
  exact hQ h' s.toks fun b o hb e=>he b o (fun h=>hb (by simp [h])) e
 self:=fun _ s _ _ st hQ=>self_si (h:=⟨_,st.1,rfl⟩) hQ
theorem ordB_perm {ps:List Nat} (hps:ps.Perm (List.range es.size)):(ordB es ps).Perm (es.toList.map (·.2)):=by
 unfold ordB
 refine (hps.map _).trans ?_
 refine List.Perm.of_eq ?_
 refine List.ext_getElem (by simp) fun i h1 h2=>?_
 have hi:i < es.size:=by simpa using h1
 simp [hi]
end
theorem len_set:typeLookup (.type "set") "__len__" = pure (some (.builtin "set.__len__")):=by rw [typeLookup_type,builtinLookup_eq_fast]; kernel_rfl
section
variable {prog:Program}{w:World}{A:Around}{E:Value->Shared->Prop}{s:Shared}{a:Addr}{o:Obj}{es:Array (Int × Value)}{ep:Nat}{t:SetTable}
theorem iter_G (ho:s.heap.get? a=some o) (hex:o.ExactSet) (hd:o.data=.set es ep t) (hf:t.fits es.size=true) (g:Good (ledW w) t) (hb:es.size < scanBound) {Q:Value->Shared->Prop}
  (hQ:∀ (I:Addr) (fp:List Addr) (ord:List Value) (St:Nat->Heap->Prop) (h':Heap) d,(∀ A':Around,A'.handled=none->Walks prog w A' I fp [I] es.size (fun i v=>ord[i]?=some v) St)->ord.Perm (es.toList.map (·.2))->St 0 h' ->
   (∀ b ∈ fp,b=a ∨ s.heap.objs.size <= b)->s.heap.objs.size <= I->(∀ b o,s.heap.get? b=some o->h'.get? b=some o)->Q (.ref I) { s with heap:=h',drawn:=d }):wpAny (model prog w) A (pyIter (.ref a)) Q E s:=by
 have hT:s.TypeIs (.ref a) "set" := ⟨o,ho,hex.1⟩
 have hal:a < s.heap.objs.size:=Heap.lt_size ho
 have hsl:sizeLine=16777216:=sizeLine_eq
 refine wpAny_pyIter_slot hT F.slot_set_iter (wpAny_call_entry F.slot_set_iter hT entry_set_iter ?_ (F.args_set_iter_1 _))
 unfold Builtin.«frozenset.__iter__» Builtin.Frozenset.slot0 slotArgs
 simp only [List.isEmpty_nil,Bool.not_true,Bool.false_eq_true,↓reduceIte,bind_assoc,List.length_nil,bne_self_eq_false]
 unfold Builtin.Frozenset.addrOf Builtin.Frozenset.sizeOf
 refine wpAny_bind (wpAny_pure ?_)
 dsimp only
 refine wpAny_bind (wpAny_pure ?_)
 refine wpAny_bind (wpAny_bind (wpAny_setEntries_of ho hd hf (wpAny_pure ?_)))
 refine wpAny_bind ?_
 unfold setDrawn
 refine wpAny_bind (wpAny_setState_of ho hd hf ?_)
 dsimp only
 refine wpAny_bind (text_any (wpAny_pure ?_))
 have ep_any:∀ (s1:Shared) (Q':Nat->Shared->Prop),s1.heap.get? a=some o->Q' ep s1->wpAny (model prog w) A.in1 (setEpoch a) Q' E s1:=fun s1 Q' h1 q=>by
  unfold setEpoch
  exact wpAny_bind (wpAny_setState_of h1 hd hf (wpAny_pure q))
 cases hby:w.params.followText "set-order" with
 | true =>
  rw [show (model prog w).w.params.followText "set-order" = true from hby]
  simp only [Bool.not_true,Bool.false_and,Bool.false_eq_true,↓reduceIte]
  refine wpAny_bind (wpAny_pure ?_)
  refine wpAny_bind (ep_any _ _ ho ?_)
  refine wpAny_bind (wpAny_newObj_type (wpAny_pure ⟨_,rfl,"set_iterator",_,⟨_,Heap.get?_push_size _ rfl,rfl⟩,slot_si_next.lookup,?_⟩))
  refine hQ s.heap.objs.size [s.heap.objs.size,a] _ _ _ s.drawn (fun A' hh=>walk_A (prog:=prog) (I:=s.heap.objs.size) (o:=o) hby hh (Nat.ne_of_lt hal) hd hf) ((pick_perm _ es).map _) ⟨Heap.get?_push_size _ rfl,Heap.get?_push_of_some _ ho⟩ (fun b hbm=>?_) (Nat.le_refl _) fun b o e=>Heap.get?_push_of_some _ e
  rcases List.mem_cons.mp hbm with rfl | hbm
  ·exact .inr (Nat.le_refl _)
  ·rcases List.mem_cons.mp hbm with rfl | hbm
   ·exact .inl rfl
   ·cases hbm
 | false =>
  rw [show (model prog w).w.params.followText "set-order" = false from hby]
  have gl:Good true t:=by
   have e:ledW w=true:=by unfold ledW; rw [hby]; rfl
   rw [e] at g
   exact g
  cases hdr:(!t.plain && decide (es.size > 1)) with
  | false =>
   refine wpAny_ite_split (fun hc=>?_) (fun _=>?_)
   ·have hc':(!false && (!t.plain && decide (es.size > 1)))=true:=hc
    rw [hdr] at hc'
    cases hc'
   refine wpAny_bind (wpAny_pure ?_)
   refine wpAny_bind (ep_any _ _ ho ?_)
   refine wpAny_bind (wpAny_newObj_type (wpAny_pure ⟨_,rfl,"set_iterator",_,⟨_,Heap.get?_push_size _ rfl,rfl⟩,slot_si_next.lookup,?_⟩))
   refine hQ s.heap.objs.size [s.heap.objs.size,a] _ _ _ s.drawn (fun A' hh=>walk_C (prog:=prog) (I:=s.heap.objs.size) (o:=o) hby hdr gl hh (Nat.ne_of_lt hal) hd hf) (List.Perm.refl _) ⟨Nat.zero_le _,Heap.get?_push_size _ rfl,Heap.get?_push_of_some _ ho⟩ (fun b hbm=>?_) (Nat.le_refl _) fun b o e=>Heap.get?_push_of_some _ e
   rcases List.mem_cons.mp hbm with rfl | hbm
   ·exact .inr (Nat.le_refl _)
   ·rcases List.mem_cons.mp hbm with rfl | hbm
    ·exact .inl rfl
    ·cases hbm
  | true =>
   refine wpAny_ite_split (fun _=>?_) (fun hc=>?_)
   ·refine wpAny_bind (draw_any es.size (List.range es.size) s _ (List.length_range) fun ps d hps=>?_)
    have hpl:ps.length=es.size:=by rw [hps.length_eq,List.length_range]
    simp only [newTuple]
    refine wpAny_bind (wpAny_newObj_type ?_ ?_)
    ·refine wpAny_bind (ep_any _ _ (Heap.get?_push_of_some _ ho) ?_)
     refine wpAny_bind (wpAny_newObj_type (wpAny_pure ⟨_,rfl,"set_iterator",_,⟨_,Heap.get?_push_size _ rfl,rfl⟩,slot_si_next.lookup,?_⟩))
     refine hQ _ [_,a,s.heap.objs.size] _ _ _ d (fun A' hh=>walk_B (prog:=prog) (w:=w) (o:=o) (T:=s.heap.objs.size) hps hh ?_ ?_ hd hf) (ordB_perm hps) ⟨Heap.get?_push_size _ rfl,Heap.get?_push_of_some _ (Heap.get?_push_of_some _ ho),?_⟩ (fun b hbm=>?_) ?_ fun b o e=>Heap.get?_push_of_some _ (Heap.get?_push_of_some _ e)
     ·rw [Heap.size_push]; exact Nat.ne_of_lt (Nat.lt_succ_of_lt hal)
     ·rw [Heap.size_push]; exact Nat.ne_of_lt (Nat.lt_succ_self _)
     ·exact ⟨_,Heap.get?_push_of_some _ (Heap.get?_push_size _ rfl),rfl,0,rfl⟩
     ·rcases List.mem_cons.mp hbm with rfl | hbm
      ·right; rw [Heap.size_push]; exact Nat.le_succ _
      ·rcases List.mem_cons.mp hbm with rfl | hbm
       ·exact .inl rfl
       ·rcases List.mem_cons.mp hbm with rfl | hbm
        ·exact .inr (Nat.le_refl _)
        ·cases hbm
     ·rw [Heap.size_push]; exact Nat.le_succ _
    ·show (ps.map fun (i:Nat)=>rawInt i).toArray.size <= sizeLine
     rw [List.size_toArray,List.length_map,hpl]
     unfold scanBound at hb
     omega
   ·exact absurd (show (!false && (!t.plain && decide (es.size > 1)))=true by rw [hdr]; rfl) hc
theorem hint_set (hT:s.TypeIs (.ref a) "set") {Q:Bool->Shared->Prop} (h:Q false s):wpAny (model prog w) A (Builtin.List.listLengthHint (.ref a)) Q E s:=by
 unfold Builtin.List.listLengthHint
 refine wpAny_bind (wpAny_specialOf hT len_set ?_)
 generalize hid:("set.__len__" : String)=id0
 wp_delta
 rw [show splitId id0=some ("set","__len__") from by subst hid; decide +kernel]
 subst hid
 refine wpAny_bind (wpAny_isInstance (T := "set") (b:=true) hT (by rw [isSubtype_type]; kernel_rfl) ?_)
 refine wpAny_ite_split (fun hab=>absurd hab (by decide)) (fun _=>?_)
 refine wpAny_ite_split (fun _=>?_) (fun hab=>absurd (by decide +kernel) hab)
 refine wpAny_bind (wpAny_typeOf hT ?_)
 exact wpAny_pure h
theorem items_eq {ord:List Value}{acc:Array Value}{n:Nat} (h:ItemsOf (fun i v=>ord[i]?=some v) acc n) (hn:ord.length=n):acc.toList=ord:=by
 refine List.ext_getElem? fun i=>?_
 rcases Nat.lt_or_ge i n with q | q
 ·have hi:i < acc.size:=by rw [h.1]; exact q
  have e:acc[i]?=some acc[i]:=Array.getElem?_eq_getElem hi
  rw [Array.getElem?_toList,e,h.2 i _ e]
 ·rw [List.getElem?_eq_none (by rw [Array.length_toList,h.1]; exact q),List.getElem?_eq_none (by omega)]
theorem collect_G (hh:A.handled=none) (ho:s.heap.get? a=some o) (hex:o.ExactSet) (hd:o.data=.set es ep t) (hf:t.fits es.size=true) (g:Good (ledW w) t) (hb:es.size < scanBound) {Q:List Value->Shared->Prop}
  (hQ:∀ (vs:List Value) (h':Heap) (tk:Nat) d,vs.Perm (es.toList.map (·.2))->(∀ b o,s.heap.get? b=some o->h'.get? b=some o)->s.heap.objs.size <= h'.objs.size->Q vs { s with heap:=h',toks:=tk,drawn:=d }):wpAny (model prog w) A (collect (.ref a)) Q E s:=by
 have hal:a < s.heap.objs.size:=Heap.lt_size ho
 have hn:es.size <= sizeLine:=fits_of_scanBound hb
 unfold collect
 refine wpAny_bind (wpAny_runValue (codeAny_builtin F.entry_proto_collect ?_))
 rw [Around.under_plainId F.plain_proto_collect _]
 show wpAny _ A.in1 (newList [] >>= fun l=>again (.builtin "list.__iadd__" ⟨[l,.ref a],[]⟩)) _ _ s
 refine wpAny_bind (wpAny_newObj_type ?_)
 refine wpAny_pure ⟨plainId_quiet F.plain_list_iadd _,codeAny_builtin F.entry_list_iadd ?_⟩
 rw [Around.under_plainId F.plain_list_iadd _]
 have ho1:(s.heap.push { cls := .type "list",data := .seq ([]:List Value).toArray }).get? a=some o:=Heap.get?_push_of_some _ ho
 show wpAny _ A.in1 (Builtin.List.listExtendWith (.ref s.heap.objs.size) (.ref a) (.ref s.heap.objs.size)) _ _ _
 unfold Builtin.List.listExtendWith
 refine wpAny_bind (wpAny_typeOf (T := "set") ⟨o,ho1,hex.1⟩ ?_)
 have h1:Builtin.List.listSameRef (.ref s.heap.objs.size) (.ref a)=false:=by simp [Builtin.List.listSameRef,Nat.ne_of_gt hal]
 have h2:(Value.type "set" == Value.type "list")=false:=by decide
 have h3:(Value.type "set" == Value.type "tuple")=false:=by decide
 simp only [h1,h2,h3,Bool.or_false,Bool.false_eq_true,if_false]
 refine wpAny_bind (iter_G (s := { s with heap:=s.heap.push { cls := .type "list",data := .seq ([]:List Value).toArray } }) ho1 hex hd hf g hb fun I fp ord St hp d W hord hst hfp hI kp=>?_)
 have hS0:hp.get? s.heap.objs.size=some { cls := .type "list",data := .seq ([]:List Value).toArray }:=kp _ _ (Heap.get?_push_size _ rfl)
 have hsz:s.heap.objs.size + 1 <= I:=by
  have:(s.heap.push { cls := .type "list",data := .seq ([]:List Value).toArray }).objs.size <= I:=hI
  rw [Heap.size_push] at this
  exact this
 refine wpAny_bind (wpAny_holding (hint_set ⟨o,kp _ _ ho1,hex.1⟩ ?_))
 refine wpAny_ite_split (fun _=>?_) (fun hc=>absurd (by decide +kernel) hc)
 refine wpAny_bind (wpAny_rule ?_)
 refine wpAny_bind ?_
 show wpAny _ _ (updateSeq s.heap.objs.size (·.push .none) >>= fun _=>updateSeq s.heap.objs.size (·.pop)) _ _ _
 refine wpAny_bind (wpAny_updateSeq hS0 rfl ?_)
 have hS₂:=Heap.get?_update_self (Obj.mapSeq (·.push Value.none)) hS0 rfl
 refine wpAny_updateSeq hS₂ rfl ?_
 have hS₃:=Heap.get?_update_self (Obj.mapSeq (·.pop)) hS₂ rfl
 have oth:∀ b o,b ≠ s.heap.objs.size->hp.get? b=some o->((hp.update s.heap.objs.size (Obj.mapSeq (·.push Value.none))).update s.heap.objs.size (Obj.mapSeq (·.pop))).get? b=some o :=
  fun b o hb e=>(Heap.get?_update_other _ _ (Ne.symm hb)).trans ((Heap.get?_update_other _ _ (Ne.symm hb)).trans e)
 have WS:=(W A.in1 hh).toS
 have hSf:s.heap.objs.size ∉ fp:=fun hm=>by
  rcases hfp _ hm with z | z
  ·exact absurd z (Nat.ne_of_gt hal)
  ·have z:(s.heap.push { cls := .type "list",data := .seq ([]:List Value).toArray }).objs.size <= s.heap.objs.size:=z
   rw [Heap.size_push] at z
   exact absurd z (Nat.not_succ_le_self _)
 have hol:ord.length=es.size:=by rw [hord.length_eq,List.length_map,Array.length_toList]
 refine wpAny_pure ⟨plainId_quiet F.plain_extend_loop _,codeAny_extend_loopS WS hn _ hSf _ es.size 0 _ _ _ rfl (Nat.zero_le _)
  (WS.frame 0 ({ s with heap:=hp,drawn:=d }:Shared) _ s.toks hst (Nat.le_refl _) fun b hb o e=>oth b o (fun h=>hSf (h ▸ hb)) e) hS₃ (ItemsOf.nil _) fun s' acc' c' hm hS' hacc=>?_⟩
 show wpAny _ A (load s.heap.objs.size >>= _) _ _ s'
 refine wpAny_bind (wpAny_load hS' ?_)
 refine wpAny_pure ?_
 rw [items_eq hacc hol]
 obtain ⟨h',g',d',tk',os'⟩:=s'
 have eg:g'=s.gens:=hm.gens
 have ed:d'=d:=hm.drawn
 have eo:os'=s.os:=hm.os
 subst eg ed eo
 refine hQ ord h' tk' _ hord (fun b o' e=>hm.heap b o' (fun z=>?_) (oth b o' (Nat.ne_of_lt (Heap.lt_size e)) (kp b o' (Heap.get?_push_of_some _ e)))) (Nat.le_of_lt (Heap.lt_size hS'))
 rcases List.mem_cons.mp z with z | z
 ·exact absurd z (Nat.ne_of_lt (Heap.lt_size e))
 ·have z:b=I:=by simpa using z
  have l:=Nat.lt_of_lt_of_le (Heap.lt_size e) (Nat.le_of_succ_le hsz)
  rw [z] at l
  exact absurd l (Nat.lt_irrefl _)
end
theorem ints_of:∀ (vs:List Value),(∀ v ∈ vs,∃ k t,v=.int k t)->∃ ns:List Int,IntsAre vs ns/\ns.length=vs.length/\∀ k,k ∈ ns ↔ ∃ t,Value.int k t ∈ vs
 | [],_=>⟨[],.nil,rfl,fun k=>by simp⟩
 | v :: vs,h=>by
  obtain ⟨k,t,rfl⟩:=h v List.mem_cons_self
  obtain ⟨ns,h1,h2,h3⟩:=ints_of vs fun v hv=>h v (List.mem_cons_of_mem _ hv)
  refine ⟨k :: ns,.cons k t h1,by rw [List.length_cons,List.length_cons,h2],fun k'=>?_⟩
  constructor
  ·intro m
   rcases List.mem_cons.mp m with rfl | m
   ·exact ⟨t,List.mem_cons_self⟩
   ·obtain ⟨t',q⟩:=(h3 k').mp m
    exact ⟨t',List.mem_cons_of_mem _ q⟩
  ·rintro ⟨t',m⟩
   rcases List.mem_cons.mp m with e | m
   ·cases e; exact List.mem_cons_self
   ·exact List.mem_cons_of_mem _ ((h3 k').mpr ⟨t',m⟩)
section
variable {prog:Program}{w:World}{A:Around}{E:Value->Shared->Prop}{s:Shared}{a:Addr}
theorem sorted_G (hh:A.handled=none) {S:Int->Bool}{n:Nat} (hS:SetG prog w (ledW w) s.heap a S n) (h64:n < 64) {Q:Value->Shared->Prop}
  (h:∀ (out:Array Value) (ns':List Int) (h':Heap) (tk:Nat) d (q:Addr),IntsAre out.toList ns'->ns'.Pairwise (· <= ·)->(∀ k,k ∈ ns' ↔ S k=true)->ns'.length=n->(∀ b o,s.heap.get? b=some o->h'.get? b=some o)->s.heap.objs.size <= q ->
   (∃ e,h'.get? q=some (seqObj "list" out e))->Q (.ref q) { s with heap:=h',toks:=tk,drawn:=d }) :
  wpAny (model prog w) A (call (.builtin "sorted") [.ref a]) Q E s:=by
 obtain ⟨o,es,ep,t,ho,hex,hd,hel,hmem,hb,hf,hn,g⟩:=hS
 refine Calls.call_function_entry kind_sorted plain_sorted entry_sorted (args_sorted1 _) ?_
 unfold Builtin.«sorted»
 refine wpAny_bind (m:=checkCount "sorted" 1 1 _) (wpAny_pure ?_)
 refine wpAny_bind (collect_G (A:=A.in1) hh ho hex hd hf g hb fun vs h1 tk d hp kp hsz=>?_)
 have hvl:vs.length=n:=by rw [hp.length_eq,List.length_map,Array.length_toList,hn]
 obtain ⟨ns,hI,hnl,hnm⟩:=ints_of vs fun v hv=>by
  obtain ⟨e,he,rfl⟩:=List.mem_map.mp (hp.mem_iff.mp hv)
  obtain ⟨⟨k,hk,_⟩,_⟩:=hel e he
  obtain ⟨t',q⟩:=Value.isInt_shape hk
  exact ⟨k,t',q⟩
 refine wpAny_bind (wpAny_newList ?_ (by rw [hvl,sizeLine_eq]; omega))
 have hoL:(h1.push (seqObj "list" vs.toArray 0)).get? h1.objs.size=some (seqObj "list" vs.toArray 0):=Heap.get?_push_size _ rfl
 show wpAny _ _ _ _ _ ({ s with heap:=h1.push (seqObj "list" vs.toArray 0),toks:=tk,drawn:=d }:Shared)
 refine wpAny_bind (wpAny_holding (wpAny_call_entry slot_list_sort ⟨_,hoL,rfl⟩ entry_list_sort (list_sort_tree hoL hI (by omega) fun out ns' a1 a2 a3=>⟨_,rfl,?_⟩) (args_list_sort _)))
 have ge:∀ b o,s.heap.get? b=some o->b < h1.objs.size:=fun b o e=>Heap.lt_size (kp b o e)
 refine wpAny_pure ⟨_,rfl,h out ns' _ tk d h1.objs.size a1 a3 (fun k=>?_) (by rw [a2.length_eq,hnl,hvl]) (fun b o e=>?_) ?_ (sortedHeap_at hoL)⟩
 ·rw [a2.mem_iff,hnm,hmem]
  constructor
  ·rintro ⟨t',m⟩
   obtain ⟨e,he,q⟩:=List.mem_map.mp (hp.mem_iff.mp m)
   exact ⟨e,he,by rw [q]; exact intKind_is _ _ _ _⟩
  ·rintro ⟨e,he,q⟩
   obtain ⟨t',q⟩:=Value.isInt_shape q
   exact ⟨t',hp.mem_iff.mpr (List.mem_map.mpr ⟨e,he,q⟩)⟩
 ·have hlt:=ge b o e
  have hne:b ≠ h1.objs.size:=Nat.ne_of_lt hlt
  have sh:(sortedHeap (h1.push (seqObj "list" vs.toArray 0)) h1.objs.size vs out).get? b=(h1.push (seqObj "list" vs.toArray 0)).get? b:=sortedHeap_old hne (by rw [size_push']; exact Nat.lt_succ_of_lt hlt)
  show (sortedHeap (h1.push (seqObj "list" vs.toArray 0)) h1.objs.size vs out).get? b=some o
  rw [sh]
  exact Heap.get?_push_of_some _ (kp b o e)
 ·exact hsz
end
end SR
namespace L2
open PySem PySem.Spec PyProof.Rows
theorem dd_nodup:∀ (ns acc:List Int),acc.Nodup->(ns.foldl step_dedup acc).Nodup
 | [],acc,h=>h
 | x :: r,acc,h=>by
  rw [List.foldl_cons]
  refine dd_nodup r _ ?_
  unfold step_dedup
  split
  ·exact h
  ·rename_i hx
   rw [List.nodup_append]
   refine ⟨h,List.nodup_cons.mpr ⟨List.not_mem_nil,List.nodup_nil⟩,fun a ha b hb z=>hx ?_⟩
   have e:b=x:=by simpa using hb
   rw [List.any_eq_true]
   exact ⟨a,ha,by rw [z,e]; simp⟩
theorem dd_mem (ns:List Int) (k:Int):(dd ns).any (· == k)=true ↔ k ∈ dd ns:=by
 rw [List.any_eq_true]
 constructor
 ·rintro ⟨x,hx,e⟩
  have e:x=k:=by simpa using e
  exact e ▸ hx
 ·intro h
  exact ⟨k,h,by simp⟩
theorem perm_of:∀ (d ks:List Int),d.Nodup->(∀ k ∈ d,k ∈ ks)->ks.length <= d.length->ks.Perm d
 | [],ks,_,_,hl=>by
  have e:ks=[]:=List.length_eq_zero_iff.mp (Nat.le_zero.mp hl)
  subst e
  exact List.Perm.refl _
 | x :: r,ks,hn,hm,hl=>by
  have hx:=hm x List.mem_cons_self
  have hp:=List.perm_cons_erase hx
  have hn' := List.nodup_cons.mp hn
  have ih:=perm_of r (ks.erase x) hn'.2 (fun k hk=>(List.mem_erase_of_ne (fun z:k=x=>hn'.1 (z ▸ hk))).mpr (hm k (List.mem_cons_of_mem _ hk))) (by
   have:=hp.length_eq
   rw [List.length_cons] at this hl
   omega)
  exact hp.trans (List.Perm.cons x ih)
theorem Inv.drawnAny {X:Cx}{pins:List (Addr × Obj)}{σ:L2.St}{H:Hp}{s:Shared} (I:Inv X pins σ H s) (d):Inv X pins σ H { s with drawn:=d } :=
 ⟨I.ok,I.os,I.bare,I.base,I.loc,I.cell,I.free,I.freeC,I.pin,I.hok,I.len⟩
section
variable {X:Cx}{x y:Str}{p p2 pos pos2:Pos}{e:Expr}{te:TE}
theorem pe_sortedSet (hc:X.calm=true) (hg:Gl X x) (hm:X.mg x=none) (hv:bootBuiltins x=some (.builtin "sorted")) (hg2:Gl X y) (hm2:X.mg y=none) (hv2:bootBuiltins y=some (.type "set")) (he:PE X e te)
  (hn:x ≠ "__name__" := by decide) (hdb:(x == ("__debug__" : Str))=false:=by decide) (hn2:y ≠ "__name__" := by decide) (hdb2:(y == ("__debug__" : Str))=false:=by decide)
  (hst:starEach [.Call (.Name y p2) [e] [] pos2] X.env=(false,eval (.Call (.Name y p2) [e] [] pos2) X.env) :: starEach [] X.env:=by rfl) (hst2:starEach [e] X.env=(false,eval e X.env) :: starEach [] X.env:=by rfl) :
  PE X (.Call (.Name x p) [.Call (.Name y p2) [e] [] pos2] [] pos) (fun σ H Q=>tCons te tNil σ H fun vs H1=>∃ a ns,vs=[.ref a]/\SqL X.K H1 a (ns.map V.int)/\ns.length < 64 /\
   ∀ (q:Addr) (ns':List Int),H1 q=none->ns'.Perm (dd ns)->ns'.Pairwise (· <= ·)->Q (.ref q) (upd H1 q (.lst (ns'.map V.int)))):=by
 intro pins s σ H Q I h
 refine wpAny_Call_Name_kw (ld_blt I hg hm hv ?_ hn hdb)
 refine PyProof.Rows.callWith_builtin1 (e := .Call (.Name y p2) [e] [] pos2) (rest := []) ?_ hst rfl
 rw [hst]
 show wpAny _ _ (spliced ((false,eval (.Call (.Name y p2) [e] [] pos2) X.env) :: [])) _ _ s
 refine Calls.spliced_cons ?_
 refine wpAny_Call_Name_kw (ld_blt I hg2 hm2 hv2 ?_ hn2 hdb2)
 refine PyProof.Rows.callWith_type1 (e:=e) (rest := []) (thn (pa_cons he pa_nil hst2 pos2 pins s σ H _ I h) fun us s1 hq5=>L2.ex5 hq5 fun vs H1 I1 r1 q1=>?_) hst2 rfl
 obtain ⟨a,ns,rfl,hq,hl,q⟩:=q1
 obtain ⟨u,rfl,ru⟩:=r1.one
 cases ru
 obtain ⟨its,rv,pl,hz⟩:=I1.list hq
 have hlen:=rv.length
 rw [List.length_map] at hlen
 have hsz:its.toArray.size=ns.length:=by rw [List.size_toArray,hlen]
 refine SR.call_set_G (I1.ok.hd hc) pl.isList (by simpa using intsAre_of rv) (by show its.toArray.size + 1 < 4096; omega) fun h2 tk2 hs2 kp2=>?_
 rw [hsz] at hs2
 refine Calls.spliced_nil ?_
 have hdl:(dd ns).length <= ns.length:=PyProof.Rows.firstMet_length_le _ _
 refine SR.sorted_G (s := { s1 with heap:=h2,toks:=tk2 }) (I1.ok.hd hc) hs2 (show (dd ns).length < 64 by omega) fun out ns' h3 tk3 d q' a1 a2 a3 a4 k3 g3 a5=>?_
 obtain ⟨ep,e5⟩:=a5
 have hpm:ns'.Perm (dd ns):=perm_of (dd ns) ns' (dd_nodup _ [] List.nodup_nil) (fun k hk=>(a3 k).mpr ((dd_mem ns k).mpr hk)) (by rw [a4]; exact Nat.le_refl _)
 have hge:s1.heap.objs.size <= q' := by
  obtain ⟨o,es,ep',t,ho,_⟩:=hs2
  exact Nat.le_trans (Nat.le_of_lt (Heap.lt_size ho)) g3
 refine ⟨.ref q',_,(I1.laid (t' := tk3) (fun b o z=>k3 b o (kp2 b o (Heap.lt_size z) z)) hge ?_).drawnAny d,rfl,q q' ns' (I1.hok.fresh hge) hpm a2⟩
 refine ⟨?_,out.toList,ep,vals_ints a1,by rw [Array.toArray_toList]; exact e5⟩
 rw [List.length_map,a4]
 exact Nat.le_trans (Nat.le_of_lt (show (dd ns).length < 64 by omega)) (by decide)
end
end L2
namespace DL
open PySem PySem.Spec PyProof.Rows L2
section
variable {K:PySem.W.Frag}{Y:XY}{X:Cx}{pos pos2 p p2:Pos}{e:Expr}{fe:SD->Res D}{x y:Str}
def sortedSetD:D->Res D
 | .lst _ xs=>match intsOf xs with | some ns=>if ns.length < 64 then .ok (.lst .own ((sortI (dd ns)).map D.int)) else .bad | none=>.bad
 | _=>.bad
theorem q_sortedSet (hc:X.calm=true) (hg:Gl X x) (hm:X.mg x=none) (hv:bootBuiltins x=some (.builtin "sorted")) (hg2:Gl X y) (hm2:X.mg y=none) (hv2:bootBuiltins y=some (.type "set")) (he:PE X e (tM X.K Y fe))
  (hn:x ≠ "__name__" := by decide) (hdb:(x == ("__debug__" : Str))=false:=by decide) (hn2:y ≠ "__name__" := by decide) (hdb2:(y == ("__debug__" : Str))=false:=by decide)
  (hst:starEach [.Call (.Name y p2) [e] [] pos2] X.env=(false,eval (.Call (.Name y p2) [e] [] pos2) X.env) :: starEach [] X.env:=by rfl) (hst2:starEach [e] X.env=(false,eval e X.env) :: starEach [] X.env:=by rfl) :
  PE X (.Call (.Name x p) [.Call (.Name y p2) [e] [] pos2] [] pos) (tM X.K Y (eUn sortedSetD fe)) :=
 PE.imp (pe_sortedSet hc hg hm hv hg2 hm2 hv2 he hn hdb hn2 hdb2 hst hst2) fun σ H Q hq=>ex8 hq fun H0 B0 B τ P F I h=>tM.seq I h fun d v H1 B1 f _ I1 _ _ r1 k h1=>by
  cases d with
  | lst t xs =>
   obtain ⟨a,ws,g,rfl,q,l,s⟩:=r1.lst I1
   have h3:Goal X.K Y H0 B0 B1 H1 σ τ P F Q (match intsOf xs with | some ns=>if ns.length < 64 then .ok (.lst .own ((sortI (dd ns)).map D.int)) else .bad | none=>.bad):=h1
   cases e:intsOf xs with
   | none=>rw [e] at h3; exact h3.elim
   | some ns =>
    rw [e] at h3
    simp only at h3
    split at h3
    ·rename_i hl
     have ex:=intsOf_eq e
     subst ex
     obtain ⟨rfl,rfl⟩:=repL_ints l
     refine ⟨a,ns,rfl,sqL_of q,hl,fun p ns' hp h1 h2=>?_⟩
     have e2:ns'=sortI (dd ns):=sorted_unique (h1.trans (sortI_perm (dd ns)).symm) h2 (sortI_sorted (dd ns))
     subst e2
     exact Out.newL h3 I1 (ints_repL _) Vok.nil hp
    ·exact h3.elim
  | _=>exact h1.elim
end
end DL
namespace KL
open PySem PySem.Spec PyProof.Rows L2 DL
def top (i:Nat):Stmt:=PySem.Challenge.pw_modulewood_k07_pulled.main.body.getD i (.Pass ⟨0,0,0,0⟩)
structure Txt (mg:Str->Option Value):Prop where
 b_all:mg "all" = none
 b_bool:mg "bool" = none
 b_enumerate:mg "enumerate" = none
 b_int:mg "int" = none
 b_isinstance:mg "isinstance" = none
 b_len:mg "len" = none
 b_list:mg "list" = none
 b_max:mg "max" = none
 b_min:mg "min" = none
 b_range:mg "range" = none
 b_set:mg "set" = none
 b_sorted:mg "sorted" = none
 b_tuple:mg "tuple" = none
 b_zip:mg "zip" = none
section
variable {P:Program}{w:World}{K:PySem.W.Frag}{mg:Str->Option Value}{base:Heap}
abbrev s_require_place:Stmt:=top 5
theorem sc_require_place:FnScope ["places","place"] ["places","place"] (defScope s_require_place):=⟨rfl,rfl,rfl,by decide +kernel,rfl,by decide +kernel,by decide +kernel⟩
def g_require_place:SF:=sIf (eT (eBin (inD true) (eVar 1) (eVar 0))) sNever sNext
def G_require_place:DF:=runF 2 2 (g_require_place)
theorem ok_require_place (T:Txt mg)  (F:Dfn K mg "require_place" s_require_place ["places","place"]):Cal P w K mg base 1 "require_place" ["places","place"] (spF K (G_require_place)):=cal_of2 (k:=0) (n:=2) (m:=2) (g:=g_require_place) F sc_require_place rfl rfl fun f cdv A outer s H hr=>by
 have hu:=hu_of hr
 exact ss_one (s_if (qt_cmp op_notIn_seq (d_in true) (qv 1) (qv 0) (by with_unfolding_all rfl))
    (ss_one s_never)
    (ss_nil))
abbrev s_checked_set:Stmt:=top 6
theorem sc_checked_set:FnScope ["places","some","place"] ["places","some"] (defScope s_checked_set):=⟨rfl,rfl,rfl,by decide +kernel,rfl,by decide +kernel,by decide +kernel⟩
def g_checked_set_b1:SF:=sExpr (eCall G_require_place (aCons (eVar 0) (aCons (eVar 2) aNil)))
def g_checked_set:SF:=sSeq (sFor [1] (eIt (eVar 1)) (gN 2) g_checked_set_b1) (sSeq (sIf (eT (eBin eqD (eA lenD (aCons (eVar 1) aNil)) (eC (.int 0)))) sNever sNext) (sRet (eUn sortedSetD (eVar 1))))
def G_checked_set:DF:=runF 2 3 (g_checked_set)
theorem ok_checked_set (T:Txt mg) (C_require_place:Cal P w K mg base 1 "require_place" ["places","place"] (spF K G_require_place)) (F:Dfn K mg "checked_set" s_checked_set ["places","some"]):Cal P w K mg base 2 "checked_set" ["places","some"] (spF K (G_checked_set)):=cal_of2 (k:=1) (n:=2) (m:=3) (g:=g_checked_set) F sc_checked_set rfl rfl fun f cdv A outer s H hr=>by
 have hu:=hu_of hr
 exact ss_cons (s_for [1] PassesOwn.never rfl (qi_seq (qv 1)) (g_name (i:=2) sc_checked_set.nd rfl (by first | exact Or.inl rfl | exact Or.inr rfl))
    (ss_one (s_expr (q_cal C_require_place (hr.mono (by decide)) rfl (qa_cons (qv 0) (qa_cons (qv 2) qa_nil))))))
    (ss_cons (s_if (qt_cmp op_eq d_eq (q_callB call_lenA d_len rfl T.b_len PySem.boot_len (qa_cons (qv 1) qa_nil)) q_int (nomark _))
    (ss_one s_never)
    (ss_nil))
    (ss_one (s_ret (q_sortedSet rfl rfl T.b_sorted (by decide +kernel) rfl T.b_set (by decide +kernel) (qv 1)))))
abbrev s_pair:Stmt:=top 8
theorem sc_pair:FnScope ["one","other"] ["one","other"] (defScope s_pair):=⟨rfl,rfl,rfl,by decide +kernel,rfl,by decide +kernel,by decide +kernel⟩
def g_pair:SF:=sRet (eIf (eT (eBin gtD (eVar 0) (eVar 1))) (eA tupD (aCons (eVar 0) (aCons (eVar 1) aNil))) (eA tupD (aCons (eVar 1) (aCons (eVar 0) aNil))))
def G_pair:DF:=runF 2 2 (g_pair)
theorem ok_pair (T:Txt mg)  (F:Dfn K mg "pair" s_pair ["one","other"]):Cal P w K mg base 1 "pair" ["one","other"] (spF K (G_pair)):=cal_of2 (k:=0) (n:=2) (m:=2) (g:=g_pair) F sc_pair rfl rfl fun f cdv A outer s H hr=>by
 have hu:=hu_of hr
 exact ss_one (s_ret (q_if (qt_cmp op_gt d_gt (qv 0) (qv 1) (nomark _)) (q_tup (qa_cons (qv 0) (qa_cons (qv 1) qa_nil))) (q_tup (qa_cons (qv 1) (qa_cons (qv 0) qa_nil)))))
abbrev s_colours_of:Stmt:=top 9
theorem sc_colours_of:FnScope ["net","colours","place","row","ahead","tint"] ["net"] (defScope s_colours_of):=⟨rfl,rfl,rfl,by decide +kernel,rfl,by decide +kernel,by decide +kernel⟩
def g_colours_of_b1:SF:=sDput 1 (eCall G_pair (aCons (eVar 2) (aCons (eVar 4) aNil))) (eVar 5)
def g_colours_of_b2:SF:=sFor [0,3] (eZip (aCons (eBin ixD (eVar 0) (eC (.int 0))) (aCons (eVar 3) aNil))) (gT 2 (gsCons 4 (gsCons 5 gsNil))) g_colours_of_b1
def g_colours_of:SF:=sSeq (sSet 1 (eDict true)) (sSeq (sFor [0] (eZip (aCons (eBin ixD (eVar 0) (eC (.int 0))) (aCons (eBin ixD (eVar 0) (eC (.int 1))) aNil))) (gT 2 (gsCons 2 (gsCons 3 gsNil))) g_colours_of_b2) (sRetV 1))
def G_colours_of:DF:=runF 1 6 (g_colours_of)
theorem ok_colours_of (T:Txt mg) (C_pair:Cal P w K mg base 1 "pair" ["one","other"] (spF K G_pair)) (F:Dfn K mg "colours_of" s_colours_of ["net"]):Cal P w K mg base 2 "colours_of" ["net"] (spF K (G_colours_of)):=cal_of2 (k:=1) (n:=1) (m:=6) (g:=g_colours_of) F sc_colours_of rfl rfl fun f cdv A outer s H hr=>by
 have hu:=hu_of hr
 exact ss_cons (s_set (i:=1) sc_colours_of.nd rfl (by first | exact Or.inl rfl | exact Or.inr rfl) q_dictT)
    (ss_cons (s_for [0] PassesOwn.never rfl (qi_zip rfl T.b_zip (qa_cons (q_ix ix_seq d_ix (qv 0) q_int (fun _ _=>rfl)) (qa_cons (q_ix ix_seq d_ix (qv 0) q_int (fun _ _=>rfl)) qa_nil))) (g_tup rfl (gs_cons (i:=2) sc_colours_of.nd rfl (by first | exact Or.inl rfl | exact Or.inr rfl) (gs_cons (i:=3) sc_colours_of.nd rfl (by first | exact Or.inl rfl | exact Or.inr rfl) gs_nil)))
    (ss_one (s_for [0,3] PassesOwn.never rfl (qi_zip rfl T.b_zip (qa_cons (q_ix ix_seq d_ix (qv 0) q_int (fun _ _=>rfl)) (qa_cons (qv 3) qa_nil))) (g_tup rfl (gs_cons (i:=4) sc_colours_of.nd rfl (by first | exact Or.inl rfl | exact Or.inr rfl) (gs_cons (i:=5) sc_colours_of.nd rfl (by first | exact Or.inl rfl | exact Or.inr rfl) gs_nil)))
    (ss_one (s_dput 1 hu (q_cal C_pair (hr.mono (by decide)) rfl (qa_cons (qv 2) (qa_cons (qv 4) qa_nil))) (qv 5))))))
    (ss_one (s_retV 1)))
abbrev s_sights_of:Stmt:=top 11
theorem sc_sights_of:FnScope ["net","sights","place","ends","tint"] ["net"] (defScope s_sights_of):=⟨rfl,rfl,rfl,by decide +kernel,rfl,by decide +kernel,by decide +kernel⟩
def g_sights_of_b1:SF:=sSeq (sDput2 1 (eBin ixD (eVar 3) (eC (.int 0))) (eBin ixD (eVar 3) (eC (.int 1))) (eVar 4)) (sDput2 1 (eBin ixD (eVar 3) (eC (.int 1))) (eBin ixD (eVar 3) (eC (.int 0))) (eVar 4))
def g_sights_of_b2:SF:=sDput 1 (eVar 2) (eDict false)
def g_sights_of:SF:=sSeq (sSet 1 (eDict false)) (sSeq (sFor [0] (eIt (eBin ixD (eVar 0) (eC (.int 0)))) (gN 2) g_sights_of_b2) (sSeq (sFor [0] (eItems (eCall G_colours_of (aCons (eVar 0) aNil))) (gT 2 (gsCons 3 (gsCons 4 gsNil))) g_sights_of_b1) (sRetV 1)))
def G_sights_of:DF:=runF 1 5 (g_sights_of)
theorem ok_sights_of (T:Txt mg) (C_colours_of:Cal P w K mg base 2 "colours_of" ["net"] (spF K G_colours_of)) (F:Dfn K mg "sights_of" s_sights_of ["net"]):Cal P w K mg base 3 "sights_of" ["net"] (spF K (G_sights_of)):=cal_of2 (k:=2) (n:=1) (m:=5) (g:=g_sights_of) F sc_sights_of rfl rfl fun f cdv A outer s H hr=>by
 have hu:=hu_of hr
 exact ss_cons (s_set (i:=1) sc_sights_of.nd rfl (by first | exact Or.inl rfl | exact Or.inr rfl) q_dictK)
    (ss_cons (s_for [0] PassesOwn.never rfl (qi_seq (q_ix ix_seq d_ix (qv 0) q_int (fun _ _=>rfl))) (g_name (i:=2) sc_sights_of.nd rfl (by first | exact Or.inl rfl | exact Or.inr rfl))
    (ss_one (s_dput 1 hu (qv 2) q_dictK)))
    (ss_cons (s_for [0] PassesOwn.never rfl (qi_items (q_cal C_colours_of (hr.mono (by decide)) rfl (qa_cons (qv 0) qa_nil))) (g_tup rfl (gs_cons (i:=3) sc_sights_of.nd rfl (by first | exact Or.inl rfl | exact Or.inr rfl) (gs_cons (i:=4) sc_sights_of.nd rfl (by first | exact Or.inl rfl | exact Or.inr rfl) gs_nil)))
    (ss_cons (s_dput2 1 hu (q_ix ix_seq d_ix (qv 3) q_int (fun _ _=>rfl)) (q_ix ix_seq d_ix (qv 3) q_int (fun _ _=>rfl)) (qv 4) (fun _ _=>rfl))
    (ss_one (s_dput2 1 hu (q_ix ix_seq d_ix (qv 3) q_int (fun _ _=>rfl)) (q_ix ix_seq d_ix (qv 3) q_int (fun _ _=>rfl)) (qv 4) (fun _ _=>rfl)))))
    (ss_one (s_retV 1))))
abbrev s_pulls_from:Stmt:=top 12
theorem sc_pulls_from:FnScope ["sights","members","first","outside","waiting","pulls","newcomer","came"] ["sights","members"] (defScope s_pulls_from):=⟨rfl,rfl,rfl,by decide +kernel,rfl,by decide +kernel,by decide +kernel⟩
def g_pulls_from_e1:SD->Res D:=eA tupD (aCons (eVar 0) (aCons (eVar 1) (aCons (eVar 2) aNil)))
def g_pulls_from_c2:SD->Res Bool:=eT (eBin (inD true) (eVar 0) (eVar 1))
def g_pulls_from_e3:SD->Res D:=eVar 0
def g_pulls_from_c4:SD->Res Bool:=eT (eBin neD (eBin dgetD (eBin dgetD (eVar 1) (eVar 0)) (eVar 2)) (eBin dgetD (eBin dgetD (eVar 1) (eVar 0)) (eVar 3)))
def g_pulls_from_e5:SD->Res D:=eVar 0
def g_pulls_from_w6:SD->Res Bool:=eTr (eVar 4)
def g_pulls_from_b7:SF:=sSeq (sPop 6 4) (sSeq (sSet 7 (eComp (eIt (eVar 3)) (gN 0) g_pulls_from_c4 g_pulls_from_e5 1 [("sights",0),("newcomer",6),("first",2)])) (sSeq (sSet 3 (eComp (eIt (eVar 3)) (gN 0) g_pulls_from_c2 g_pulls_from_e3 1 [("came",7)])) (sSeq (sExt 5 (eComp (eIt (eVar 7)) (gN 0) bTrue g_pulls_from_e1 1 [("first",2),("newcomer",6)])) (sExtV 4 7))))
def g_pulls_from_c8:SD->Res Bool:=eT (eBin (inD true) (eVar 0) (eVar 1))
def g_pulls_from_e9:SD->Res D:=eVar 0
def g_pulls_from:SF:=sSeq (sSet 2 (eBin ixD (eVar 1) (eC (.int 0)))) (sSeq (sSet 3 (eComp (eKeys (eVar 0)) (gN 0) g_pulls_from_c8 g_pulls_from_e9 1 [("members",1)])) (sSeq (sSet 4 (eCut (eVar 1) (eP (eC (.int 1))) eP0)) (sSeq (sSet 5 (eA lstD aNil)) (sSeq (sWhile g_pulls_from_w6 g_pulls_from_b7) (sRetV 5)))))
def G_pulls_from:DF:=runF 2 8 (g_pulls_from)
theorem ok_pulls_from (T:Txt mg)  (F:Dfn K mg "pulls_from" s_pulls_from ["sights","members"]):Cal P w K mg base 1 "pulls_from" ["sights","members"] (spF K (G_pulls_from)):=cal_of2 (k:=0) (n:=2) (m:=8) (g:=g_pulls_from) F sc_pulls_from rfl rfl fun f cdv A outer s H hr=>by
 have hu:=hu_of hr
 exact ss_cons (s_set (i:=2) sc_pulls_from.nd rfl (by first | exact Or.inl rfl | exact Or.inr rfl) (q_ix ix_seq d_ix (qv 1) q_int (fun _ _=>rfl)))
    (ss_cons (s_setComp (i:=3) sc_pulls_from.nd rfl (by first | exact Or.inl rfl | exact Or.inr rfl) (own := ["place"]) (cap := [("members",1)]) (compOk_mk _ rfl _ rfl (by kernel_rfl)) rfl (qi_keys (qv 0)) ⟨fun _ _ _ _ _=>g_name (i:=0) (show (["place","members"]:List Str).Nodup by decide +kernel) rfl (by first | exact Or.inl rfl | exact Or.inr rfl),fun _ _ _ _ _=>qif_one (qt_cmp op_notIn_seq (d_in true) (qv 0) (qv 1) (by with_unfolding_all rfl)),fun _ _ _ _ _=>qv 0⟩)
    (ss_cons (s_set (i:=4) sc_pulls_from.nd rfl (by first | exact Or.inl rfl | exact Or.inr rfl) (q_slice (qv 1) (qo_some q_int) qo_none))
    (ss_cons (s_set (i:=5) sc_pulls_from.nd rfl (by first | exact Or.inl rfl | exact Or.inr rfl) (q_lst qa_nil))
    (ss_cons (s_while PassesOwn.never (qt_tru (qv 4))
    (ss_cons (s_pop 6 4 sc_pulls_from.nd rfl (by first | exact Or.inl rfl | exact Or.inr rfl))
    (ss_cons (s_set (i:=7) sc_pulls_from.nd rfl (by first | exact Or.inl rfl | exact Or.inr rfl) (q_comp (own := ["place"]) (cap := [("sights",0),("newcomer",6),("first",2)]) (compOk_mk _ rfl _ rfl (by kernel_rfl)) rfl (qi_seq (qv 3)) ⟨fun _ _ _ _ _=>g_name (i:=0) (show (["place","sights","newcomer","first"]:List Str).Nodup by decide +kernel) rfl (by first | exact Or.inl rfl | exact Or.inr rfl),fun _ _ _ _ _=>qif_one (qt_cmp op_ne d_ne (q_dget hu (q_dget hu (qv 1) (qv 0) (fun _ _=>rfl)) (qv 2) (fun _ _=>rfl)) (q_dget hu (q_dget hu (qv 1) (qv 0) (fun _ _=>rfl)) (qv 3) (fun _ _=>rfl)) (nomark _)),fun _ _ _ _ _=>qv 0⟩))
    (ss_cons (s_setComp (i:=3) sc_pulls_from.nd rfl (by first | exact Or.inl rfl | exact Or.inr rfl) (own := ["place"]) (cap := [("came",7)]) (compOk_mk _ rfl _ rfl (by kernel_rfl)) rfl (qi_seq (qv 3)) ⟨fun _ _ _ _ _=>g_name (i:=0) (show (["place","came"]:List Str).Nodup by decide +kernel) rfl (by first | exact Or.inl rfl | exact Or.inr rfl),fun _ _ _ _ _=>qif_one (qt_cmp op_notIn_seq (d_in true) (qv 0) (qv 1) (by with_unfolding_all rfl)),fun _ _ _ _ _=>qv 0⟩)
    (ss_cons (s_ext 5 (q_comp (own := ["place"]) (cap := [("first",2),("newcomer",6)]) (compOk_mk _ rfl _ rfl (by kernel_rfl)) rfl (qi_seq (qv 7)) ⟨fun _ _ _ _ _=>g_name (i:=0) (show (["place","first","newcomer"]:List Str).Nodup by decide +kernel) rfl (by first | exact Or.inl rfl | exact Or.inr rfl),fun _ _ _ _ _=>qif_nil,fun _ _ _ _ _=>q_tup (qa_cons (qv 0) (qa_cons (qv 1) (qa_cons (qv 2) qa_nil)))⟩))
    (ss_one (s_extV 4 7)))))))
    (ss_one (s_retV 5))))))
abbrev s_pulled:Stmt:=top 13
theorem sc_pulled:FnScope ["net","some","members","pulls"] ["net","some"] (defScope s_pulled):=⟨rfl,rfl,rfl,by decide +kernel,rfl,by decide +kernel,by decide +kernel⟩
def g_pulled_e1:SD->Res D:=eBin ixD (eVar 0) (eC (.int 0))
def g_pulled:SF:=sSeq (sSet 2 (eCall G_checked_set (aCons (eBin ixD (eVar 0) (eC (.int 0))) (aCons (eVar 1) aNil)))) (sSeq (sSet 3 (eCall G_pulls_from (aCons (eCall G_sights_of (aCons (eVar 0) aNil)) (aCons (eVar 2) aNil)))) (sRetT (eA sortedD (aCons (eBin addD (eVar 2) (eComp (eIt (eVar 3)) (gN 0) bTrue g_pulled_e1 1 [])) aNil)) 3))
def G_pulled:DF:=runF 2 4 (g_pulled)
theorem ok_pulled (T:Txt mg) (C_checked_set:Cal P w K mg base 2 "checked_set" ["places","some"] (spF K G_checked_set)) (C_sights_of:Cal P w K mg base 3 "sights_of" ["net"] (spF K G_sights_of)) (C_pulls_from:Cal P w K mg base 1 "pulls_from" ["sights","members"] (spF K G_pulls_from)) (F:Dfn K mg "pulled" s_pulled ["net","some"]):Cal P w K mg base 4 "pulled" ["net","some"] (spF K (G_pulled)):=cal_of2 (k:=3) (n:=2) (m:=4) (g:=g_pulled) F sc_pulled rfl rfl fun f cdv A outer s H hr=>by
 have hu:=hu_of hr
 exact ss_cons (s_set (i:=2) sc_pulled.nd rfl (by first | exact Or.inl rfl | exact Or.inr rfl) (q_cal C_checked_set (hr.mono (by decide)) rfl (qa_cons (q_ix ix_seq d_ix (qv 0) q_int (fun _ _=>rfl)) (qa_cons (qv 1) qa_nil))))
    (ss_cons (s_set (i:=3) sc_pulled.nd rfl (by first | exact Or.inl rfl | exact Or.inr rfl) (q_cal C_pulls_from (hr.mono (by decide)) rfl (qa_cons (q_cal C_sights_of (hr.mono (by decide)) rfl (qa_cons (qv 0) qa_nil)) (qa_cons (qv 2) qa_nil))))
    (ss_one (s_retT 3 (q_callB call_sorted d_sorted rfl T.b_sorted (by decide +kernel) (qa_cons (q_op op_addA d_add (qv 2) (q_comp (own := ["pull"]) (cap := []) (compOk_mk _ rfl _ rfl (by kernel_rfl)) rfl (qi_seq (qv 3)) ⟨fun _ _ _ _ _=>g_name (i:=0) (show (["pull"]:List Str).Nodup by decide +kernel) rfl (by first | exact Or.inl rfl | exact Or.inr rfl),fun _ _ _ _ _=>qif_nil,fun _ _ _ _ _=>q_ix ix_seq d_ix (qv 0) q_int (fun _ _=>rfl)⟩)) qa_nil)))))
abbrev s_Lcell:Stmt:=top 15
theorem sc_Lcell:FnScope ["_law_script","_law_k"] ["_law_script","_law_k"] (defScope s_Lcell):=⟨rfl,rfl,rfl,by decide +kernel,rfl,by decide +kernel,by decide +kernel⟩
def g_Lcell:SF:=sSeq (sIf (eT (eBin ltD (eVar 1) (eA lenD (aCons (eVar 0) aNil)))) (sRet (eBin ixD (eVar 0) (eVar 1))) sNext) (sRet (eC (.int 0)))
def G_Lcell:DF:=runF 2 2 (g_Lcell)
theorem ok_Lcell (T:Txt mg)  (F:Dfn K mg "_law_cell" s_Lcell ["_law_script","_law_k"]):Cal P w K mg base 1 "_law_cell" ["_law_script","_law_k"] (spF K (G_Lcell)):=cal_of2 (k:=0) (n:=2) (m:=2) (g:=g_Lcell) F sc_Lcell rfl rfl fun f cdv A outer s H hr=>by
 have hu:=hu_of hr
 exact ss_cons (s_if (qt_cmp op_lt d_lt (qv 1) (q_callB call_lenA d_len rfl T.b_len PySem.boot_len (qa_cons (qv 0) qa_nil)) (nomark _))
    (ss_one (s_ret (q_ix ix_seq d_ix (qv 0) (qv 1) (fun _ _=>rfl))))
    (ss_nil))
    (ss_one (s_ret q_int))
abbrev s_Lmany:Stmt:=top 16
theorem sc_Lmany:FnScope ["_law_cell_here"] ["_law_cell_here"] (defScope s_Lmany):=⟨rfl,rfl,rfl,by decide +kernel,rfl,by decide +kernel,by decide +kernel⟩
def g_Lmany:SF:=sSeq (sIf (eT (eBin eqD (eBin modD (eBin fdivD (eVar 0) (eC (.int 9))) (eC (.int 8))) (eC (.int 1)))) (sRet (eBin addD (eC (.int 1)) (eBin modD (eBin fdivD (eVar 0) (eC (.int 72))) (eC (.int 24))))) sNext) (sRet (eBin addD (eC (.int 1)) (eBin modD (eVar 0) (eC (.int 9)))))
def G_Lmany:DF:=runF 1 1 (g_Lmany)
theorem ok_Lmany (T:Txt mg)  (F:Dfn K mg "_law_many" s_Lmany ["_law_cell_here"]):Cal P w K mg base 1 "_law_many" ["_law_cell_here"] (spF K (G_Lmany)):=cal_of2 (k:=0) (n:=1) (m:=1) (g:=g_Lmany) F sc_Lmany rfl rfl fun f cdv A outer s H hr=>by
 have hu:=hu_of hr
 exact ss_cons (s_if (qt_cmp op_eq d_eq (q_op op_mod d_mod (q_op op_fdiv d_fdiv (qv 0) q_int) q_int) q_int (nomark _))
    (ss_one (s_ret (q_op op_addA d_add q_int (q_op op_mod d_mod (q_op op_fdiv d_fdiv (qv 0) q_int) q_int))))
    (ss_nil))
    (ss_one (s_ret (q_op op_addA d_add q_int (q_op op_mod d_mod (qv 0) q_int))))
abbrev s_Lmix:Stmt:=top 17
theorem sc_Lmix:FnScope ["_law_script","_law_at","_law_k","_law_many_here"] ["_law_script","_law_at","_law_k"] (defScope s_Lmix):=⟨rfl,rfl,rfl,by decide +kernel,rfl,by decide +kernel,by decide +kernel⟩
def g_Lmix:SF:=sSeq (sSet 3 (eA max2D (aCons (eC (.int 1)) (aCons (eBin subD (eA lenD (aCons (eVar 0) aNil)) (eVar 1)) aNil)))) (sRet (eBin modD (eBin addD (eBin addD (eBin mulD (eCall G_Lcell (aCons (eVar 0) (aCons (eBin addD (eVar 1) (eBin modD (eVar 2) (eVar 3))) aNil))) (eC (.int 48271))) (eBin mulD (eVar 2) (eC (.int 16807)))) (eC (.int 11))) (eC (.int 2147483647))))
def G_Lmix:DF:=runF 3 4 (g_Lmix)
theorem ok_Lmix (T:Txt mg) (C_Lcell:Cal P w K mg base 1 "_law_cell" ["_law_script","_law_k"] (spF K G_Lcell)) (F:Dfn K mg "_law_mix" s_Lmix ["_law_script","_law_at","_law_k"]):Cal P w K mg base 2 "_law_mix" ["_law_script","_law_at","_law_k"] (spF K (G_Lmix)):=cal_of2 (k:=1) (n:=3) (m:=4) (g:=g_Lmix) F sc_Lmix rfl rfl fun f cdv A outer s H hr=>by
 have hu:=hu_of hr
 exact ss_cons (s_set (i:=3) sc_Lmix.nd rfl (by first | exact Or.inl rfl | exact Or.inr rfl) (q_callB (call_max2 rfl) d_max2 rfl T.b_max (by decide +kernel) (qa_cons q_int (qa_cons (q_op op_sub d_sub (q_callB call_lenA d_len rfl T.b_len PySem.boot_len (qa_cons (qv 0) qa_nil)) (qv 1)) qa_nil))))
    (ss_one (s_ret (q_op op_mod d_mod (q_op op_addA d_add (q_op op_addA d_add (q_op op_mulD d_mul (q_cal C_Lcell (hr.mono (by decide)) rfl (qa_cons (qv 0) (qa_cons (q_op op_addA d_add (qv 1) (q_op op_mod d_mod (qv 2) (qv 3))) qa_nil))) q_int) (q_op op_mulD d_mul (qv 2) q_int)) q_int) q_int)))
abbrev s_Lplaces:Stmt:=top 18
theorem sc_Lplaces:FnScope ["_law_script","_law_at","_law_many_here","_law_head","_law_step","_law_number","_law_places_here","_law_k"] ["_law_script","_law_at","_law_many_here"] (defScope s_Lplaces):=⟨rfl,rfl,rfl,by decide +kernel,rfl,by decide +kernel,by decide +kernel⟩
def g_Lplaces_b1:SF:=sSeq (sApp 6 (eVar 5)) (sSet 5 (eBin addD (eBin addD (eVar 5) (eC (.int 1))) (eBin modD (eBin fdivD (eVar 4) (eBin addD (eVar 7) (eC (.int 1)))) (eBin ixD (eA lstD (aCons (eC (.int 1)) (aCons (eC (.int 3)) (aCons (eBin powD (eC (.int 10)) (eC (.int 29))) aNil)))) (eBin modD (eVar 4) (eC (.int 3)))))))
def g_Lplaces:SF:=sSeq (sSet 3 (eCall G_Lcell (aCons (eVar 0) (aCons (eVar 1) aNil)))) (sSeq (sSet 4 (eCall G_Lcell (aCons (eVar 0) (aCons (eBin addD (eVar 1) (eC (.int 1))) aNil)))) (sSeq (sSet 5 (eBin modD (eBin fdivD (eVar 3) (eC (.int 2))) (eC (.int 4)))) (sSeq (sIf (eT (eBin eqD (eBin modD (eVar 3) (eC (.int 2))) (eC (.int 1)))) (sSet 5 (eBin modD (eBin fdivD (eVar 3) (eC (.int 2))) (eBin powD (eC (.int 10)) (eC (.int 30))))) sNext) (sSeq (sSet 6 (eA lstD aNil)) (sSeq (sFor [] (eRng1 (aCons (eVar 2) aNil)) (gN 7) g_Lplaces_b1) (sRetV 6))))))
def G_Lplaces:DF:=runF 3 8 (g_Lplaces)
theorem ok_Lplaces (T:Txt mg) (C_Lcell:Cal P w K mg base 1 "_law_cell" ["_law_script","_law_k"] (spF K G_Lcell)) (F:Dfn K mg "_law_places" s_Lplaces ["_law_script","_law_at","_law_many_here"]):Cal P w K mg base 2 "_law_places" ["_law_script","_law_at","_law_many_here"] (spF K (G_Lplaces)):=cal_of2 (k:=1) (n:=3) (m:=8) (g:=g_Lplaces) F sc_Lplaces rfl rfl fun f cdv A outer s H hr=>by
 have hu:=hu_of hr
 exact ss_cons (s_set (i:=3) sc_Lplaces.nd rfl (by first | exact Or.inl rfl | exact Or.inr rfl) (q_cal C_Lcell (hr.mono (by decide)) rfl (qa_cons (qv 0) (qa_cons (qv 1) qa_nil))))
    (ss_cons (s_set (i:=4) sc_Lplaces.nd rfl (by first | exact Or.inl rfl | exact Or.inr rfl) (q_cal C_Lcell (hr.mono (by decide)) rfl (qa_cons (qv 0) (qa_cons (q_op op_addA d_add (qv 1) q_int) qa_nil))))
    (ss_cons (s_set (i:=5) sc_Lplaces.nd rfl (by first | exact Or.inl rfl | exact Or.inr rfl) (q_op op_mod d_mod (q_op op_fdiv d_fdiv (qv 3) q_int) q_int))
    (ss_cons (s_if (qt_cmp op_eq d_eq (q_op op_mod d_mod (qv 3) q_int) q_int (nomark _))
    (ss_one (s_set (i:=5) sc_Lplaces.nd rfl (by first | exact Or.inl rfl | exact Or.inr rfl) (q_op op_mod d_mod (q_op op_fdiv d_fdiv (qv 3) q_int) (q_op op_pow d_pow q_int q_int))))
    (ss_nil))
    (ss_cons (s_set (i:=6) sc_Lplaces.nd rfl (by first | exact Or.inl rfl | exact Or.inr rfl) (q_lst qa_nil))
    (ss_cons (s_for [] PassesOwn.never rfl (qi_range1 rfl T.b_range (qa_cons (qv 2) qa_nil)) (g_name (i:=7) sc_Lplaces.nd rfl (by first | exact Or.inl rfl | exact Or.inr rfl))
    (ss_cons (s_app 6 (qv 5))
    (ss_one (s_set (i:=5) sc_Lplaces.nd rfl (by first | exact Or.inl rfl | exact Or.inr rfl) (q_op op_addA d_add (q_op op_addA d_add (qv 5) q_int) (q_op op_mod d_mod (q_op op_fdiv d_fdiv (qv 4) (q_op op_addA d_add (qv 7) q_int)) (q_ix ix_seq d_ix (q_lst (qa_cons q_int (qa_cons q_int (qa_cons (q_op op_pow d_pow q_int q_int) qa_nil)))) (q_op op_mod d_mod (qv 4) q_int) (fun _ _=>rfl))))))))
    (ss_one (s_retV 6)))))))
abbrev s_Lshade:Stmt:=top 19
theorem sc_Lshade:FnScope ["_law_script","_law_at","_law_k","_law_j","_law_head","_law_blocks","_law_one","_law_other","_law_number","_law_shades"] ["_law_script","_law_at","_law_k","_law_j"] (defScope s_Lshade):=⟨rfl,rfl,rfl,by decide +kernel,rfl,by decide +kernel,by decide +kernel⟩
def g_Lshade:SF:=sSeq (sSet 4 (eCall G_Lcell (aCons (eVar 0) (aCons (eBin addD (eVar 1) (eC (.int 2))) aNil)))) (sSeq (sSet 5 (eBin addD (eC (.int 1)) (eBin modD (eBin fdivD (eVar 4) (eC (.int 4))) (eC (.int 4))))) (sSeq (sSet 6 (eBin modD (eBin fdivD (eCall G_Lmix (aCons (eVar 0) (aCons (eBin addD (eVar 1) (eC (.int 4))) (aCons (eBin addD (eC (.int 300)) (eVar 2)) aNil)))) (eC (.int 3))) (eVar 5))) (sSeq (sSet 7 (eBin modD (eBin fdivD (eCall G_Lmix (aCons (eVar 0) (aCons (eBin addD (eVar 1) (eC (.int 4))) (aCons (eBin addD (eC (.int 300)) (eVar 3)) aNil)))) (eC (.int 3))) (eVar 5))) (sSeq (sSet 8 (eBin fdivD (eCall G_Lmix (aCons (eVar 0) (aCons (eBin addD (eVar 1) (eC (.int 4))) (aCons (eBin addD (eBin fdivD (eBin mulD (eVar 2) (eBin subD (eVar 2) (eC (.int 1)))) (eC (.int 2))) (eVar 3)) aNil)))) (eC (.int 5)))) (sSeq (sIf (bAnd (eT (eBin ltD (eBin modD (eVar 4) (eC (.int 4))) (eC (.int 2)))) (eT (eBin neD (eVar 6) (eVar 7)))) (sSet 8 (eBin fdivD (eCall G_Lmix (aCons (eVar 0) (aCons (eBin addD (eVar 1) (eC (.int 4))) (aCons (eBin addD (eBin addD (eC (.int 400)) (eBin mulD (eC (.int 4)) (eA max2D (aCons (eVar 6) (aCons (eVar 7) aNil))))) (eA min2D (aCons (eVar 6) (aCons (eVar 7) aNil)))) aNil)))) (eC (.int 5)))) sNext) (sSeq (sIf (bAnd (eT (eBin eqD (eBin modD (eVar 4) (eC (.int 4))) (eC (.int 1)))) (eT (eBin eqD (eBin addD (eBin fdivD (eBin mulD (eVar 2) (eBin subD (eVar 2) (eC (.int 1)))) (eC (.int 2))) (eVar 3)) (eBin modD (eBin fdivD (eVar 4) (eC (.int 32))) (eC (.int 36)))))) (sSet 8 (eBin addD (eVar 8) (eC (.int 1)))) sNext) (sSeq (sIf (bAnd (eT (eBin eqD (eBin modD (eVar 4) (eC (.int 4))) (eC (.int 2)))) (eT (eBin eqD (eBin modD (eBin fdivD (eVar 4) (eC (.int 4))) (eC (.int 2))) (eC (.int 1))))) (sRet (eBin modD (eVar 8) (eBin powD (eC (.int 10)) (eC (.int 8))))) sNext) (sSeq (sSet 9 (eA lstD (aCons (eC (.int 0)) (aCons (eBin addD (eC (.int 1)) (eBin modD (eCall G_Lcell (aCons (eVar 0) (aCons (eBin addD (eVar 1) (eC (.int 3))) aNil))) (eBin powD (eC (.int 10)) (eC (.int 30))))) (aCons (eBin modD (eBin fdivD (eCall G_Lcell (aCons (eVar 0) (aCons (eBin addD (eVar 1) (eC (.int 3))) aNil))) (eC (.int 9))) (eC (.int 5))) aNil))))) (sRet (eBin ixD (eVar 9) (eBin modD (eVar 8) (eBin addD (eC (.int 2)) (eBin modD (eBin fdivD (eVar 4) (eC (.int 16))) (eC (.int 2)))))))))))))))
def G_Lshade:DF:=runF 4 10 (g_Lshade)
theorem ok_Lshade (T:Txt mg) (C_Lcell:Cal P w K mg base 1 "_law_cell" ["_law_script","_law_k"] (spF K G_Lcell)) (C_Lmix:Cal P w K mg base 2 "_law_mix" ["_law_script","_law_at","_law_k"] (spF K G_Lmix)) (F:Dfn K mg "_law_shade" s_Lshade ["_law_script","_law_at","_law_k","_law_j"]):Cal P w K mg base 3 "_law_shade" ["_law_script","_law_at","_law_k","_law_j"] (spF K (G_Lshade)):=cal_of2 (k:=2) (n:=4) (m:=10) (g:=g_Lshade) F sc_Lshade rfl rfl fun f cdv A outer s H hr=>by
 have hu:=hu_of hr
 exact ss_cons (s_set (i:=4) sc_Lshade.nd rfl (by first | exact Or.inl rfl | exact Or.inr rfl) (q_cal C_Lcell (hr.mono (by decide)) rfl (qa_cons (qv 0) (qa_cons (q_op op_addA d_add (qv 1) q_int) qa_nil))))
    (ss_cons (s_set (i:=5) sc_Lshade.nd rfl (by first | exact Or.inl rfl | exact Or.inr rfl) (q_op op_addA d_add q_int (q_op op_mod d_mod (q_op op_fdiv d_fdiv (qv 4) q_int) q_int)))
    (ss_cons (s_set (i:=6) sc_Lshade.nd rfl (by first | exact Or.inl rfl | exact Or.inr rfl) (q_op op_mod d_mod (q_op op_fdiv d_fdiv (q_cal C_Lmix (hr.mono (by decide)) rfl (qa_cons (qv 0) (qa_cons (q_op op_addA d_add (qv 1) q_int) (qa_cons (q_op op_addA d_add q_int (qv 2)) qa_nil)))) q_int) (qv 5)))
    (ss_cons (s_set (i:=7) sc_Lshade.nd rfl (by first | exact Or.inl rfl | exact Or.inr rfl) (q_op op_mod d_mod (q_op op_fdiv d_fdiv (q_cal C_Lmix (hr.mono (by decide)) rfl (qa_cons (qv 0) (qa_cons (q_op op_addA d_add (qv 1) q_int) (qa_cons (q_op op_addA d_add q_int (qv 3)) qa_nil)))) q_int) (qv 5)))
    (ss_cons (s_set (i:=8) sc_Lshade.nd rfl (by first | exact Or.inl rfl | exact Or.inr rfl) (q_op op_fdiv d_fdiv (q_cal C_Lmix (hr.mono (by decide)) rfl (qa_cons (qv 0) (qa_cons (q_op op_addA d_add (qv 1) q_int) (qa_cons (q_op op_addA d_add (q_op op_fdiv d_fdiv (q_op op_mulD d_mul (qv 2) (q_op op_sub d_sub (qv 2) q_int)) q_int) (qv 3)) qa_nil)))) q_int))
    (ss_cons (s_if (L2.PW.pt (qw_and (qt_cmp op_lt d_lt (q_op op_mod d_mod (qv 4) q_int) q_int (nomark _)) (qw_and1 (qt_cmp op_ne d_ne (qv 6) (qv 7) (nomark _)))))
    (ss_one (s_set (i:=8) sc_Lshade.nd rfl (by first | exact Or.inl rfl | exact Or.inr rfl) (q_op op_fdiv d_fdiv (q_cal C_Lmix (hr.mono (by decide)) rfl (qa_cons (qv 0) (qa_cons (q_op op_addA d_add (qv 1) q_int) (qa_cons (q_op op_addA d_add (q_op op_addA d_add q_int (q_op op_mulD d_mul q_int (q_callB (call_max2 rfl) d_max2 rfl T.b_max (by decide +kernel) (qa_cons (qv 6) (qa_cons (qv 7) qa_nil))))) (q_callB (call_min2 rfl) d_min2 rfl T.b_min (by decide +kernel) (qa_cons (qv 6) (qa_cons (qv 7) qa_nil)))) qa_nil)))) q_int)))
    (ss_nil))
    (ss_cons (s_if (L2.PW.pt (qw_and (qt_cmp op_eq d_eq (q_op op_mod d_mod (qv 4) q_int) q_int (nomark _)) (qw_and1 (qt_cmp op_eq d_eq (q_op op_addA d_add (q_op op_fdiv d_fdiv (q_op op_mulD d_mul (qv 2) (q_op op_sub d_sub (qv 2) q_int)) q_int) (qv 3)) (q_op op_mod d_mod (q_op op_fdiv d_fdiv (qv 4) q_int) q_int) (nomark _)))))
    (ss_one (s_set (i:=8) sc_Lshade.nd rfl (by first | exact Or.inl rfl | exact Or.inr rfl) (q_op op_addA d_add (qv 8) q_int)))
    (ss_nil))
    (ss_cons (s_if (L2.PW.pt (qw_and (qt_cmp op_eq d_eq (q_op op_mod d_mod (qv 4) q_int) q_int (nomark _)) (qw_and1 (qt_cmp op_eq d_eq (q_op op_mod d_mod (q_op op_fdiv d_fdiv (qv 4) q_int) q_int) q_int (nomark _)))))
    (ss_one (s_ret (q_op op_mod d_mod (qv 8) (q_op op_pow d_pow q_int q_int))))
    (ss_nil))
    (ss_cons (s_set (i:=9) sc_Lshade.nd rfl (by first | exact Or.inl rfl | exact Or.inr rfl) (q_lst (qa_cons q_int (qa_cons (q_op op_addA d_add q_int (q_op op_mod d_mod (q_cal C_Lcell (hr.mono (by decide)) rfl (qa_cons (qv 0) (qa_cons (q_op op_addA d_add (qv 1) q_int) qa_nil))) (q_op op_pow d_pow q_int q_int))) (qa_cons (q_op op_mod d_mod (q_op op_fdiv d_fdiv (q_cal C_Lcell (hr.mono (by decide)) rfl (qa_cons (qv 0) (qa_cons (q_op op_addA d_add (qv 1) q_int) qa_nil))) q_int) q_int) qa_nil)))))
    (ss_one (s_ret (q_ix ix_seq d_ix (qv 9) (q_op op_mod d_mod (qv 8) (q_op op_addA d_add q_int (q_op op_mod d_mod (q_op op_fdiv d_fdiv (qv 4) q_int) q_int))) (fun _ _=>rfl))))))))))))
abbrev s_Lnet:Stmt:=top 20
theorem sc_Lnet:FnScope ["_law_script","_law_at","_law_many_here","_law_rows"] ["_law_script","_law_at","_law_many_here"] (defScope s_Lnet):=⟨rfl,rfl,rfl,by decide +kernel,rfl,by decide +kernel,by decide +kernel⟩
def g_Lnet_e1:SD->Res D:=eCall G_Lshade (aCons (eVar 1) (aCons (eVar 2) (aCons (eVar 3) (aCons (eVar 0) aNil))))
def g_Lnet_e2:SD->Res D:=eA tupleD (aCons (eComp (eRng1 (aCons (eVar 0) aNil)) (gN 0) bTrue g_Lnet_e1 1 [("_law_script",1),("_law_at",2),("_law_k",0)]) aNil)
def g_Lnet:SF:=sSeq (sSet 3 (eComp (eRng1 (aCons (eVar 2) aNil)) (gN 0) bTrue g_Lnet_e2 1 [("_law_script",0),("_law_at",1)])) (sRet (eA tupD (aCons (eA tupleD (aCons (eCall G_Lplaces (aCons (eVar 0) (aCons (eVar 1) (aCons (eVar 2) aNil)))) aNil)) (aCons (eA tupleD (aCons (eVar 3) aNil)) aNil))))
def G_Lnet:DF:=runF 3 4 (g_Lnet)
theorem ok_Lnet (T:Txt mg) (C_Lplaces:Cal P w K mg base 2 "_law_places" ["_law_script","_law_at","_law_many_here"] (spF K G_Lplaces)) (C_Lshade:Cal P w K mg base 3 "_law_shade" ["_law_script","_law_at","_law_k","_law_j"] (spF K G_Lshade)) (F:Dfn K mg "_law_net" s_Lnet ["_law_script","_law_at","_law_many_here"]):Cal P w K mg base 4 "_law_net" ["_law_script","_law_at","_law_many_here"] (spF K (G_Lnet)):=cal_of2 (k:=3) (n:=3) (m:=4) (g:=g_Lnet) F sc_Lnet rfl rfl fun f cdv A outer s H hr=>by
 have hu:=hu_of hr
 exact ss_cons (s_setComp (i:=3) sc_Lnet.nd rfl (by first | exact Or.inl rfl | exact Or.inr rfl) (own := ["_law_k"]) (cap := [("_law_script",0),("_law_at",1)]) (compOk_mk _ rfl _ rfl (by kernel_rfl)) rfl (qi_range1 rfl T.b_range (qa_cons (qv 2) qa_nil)) ⟨fun _ _ _ _ _=>g_name (i:=0) (show (["_law_k","_law_script","_law_at"]:List Str).Nodup by decide +kernel) rfl (by first | exact Or.inl rfl | exact Or.inr rfl),fun _ _ _ _ _=>qif_nil,fun _ _ _ _ _=>q_callTy call_tuple_of d_tuple rfl T.b_tuple (by decide +kernel) (qa_cons (q_comp (own := ["_law_j"]) (cap := [("_law_script",1),("_law_at",2),("_law_k",0)]) (compOk_mk _ rfl _ rfl (by kernel_rfl)) rfl (qi_range1 rfl T.b_range (qa_cons (qv 0) qa_nil)) ⟨fun _ _ _ _ _=>g_name (i:=0) (show (["_law_j","_law_script","_law_at","_law_k"]:List Str).Nodup by decide +kernel) rfl (by first | exact Or.inl rfl | exact Or.inr rfl),fun _ _ _ _ _=>qif_nil,fun _ _ _ _ _=>q_cal C_Lshade (hr.mono (by decide)) rfl (qa_cons (qv 1) (qa_cons (qv 2) (qa_cons (qv 3) (qa_cons (qv 0) qa_nil))))⟩) qa_nil)⟩)
    (ss_one (s_ret (q_tup (qa_cons (q_callTy call_tuple_of d_tuple rfl T.b_tuple (by decide +kernel) (qa_cons (q_cal C_Lplaces (hr.mono (by decide)) rfl (qa_cons (qv 0) (qa_cons (qv 1) (qa_cons (qv 2) qa_nil)))) qa_nil)) (qa_cons (q_callTy call_tuple_of d_tuple rfl T.b_tuple (by decide +kernel) (qa_cons (qv 3) qa_nil)) qa_nil)))))
abbrev s_Lshown:Stmt:=top 21
theorem sc_Lshown:FnScope ["_law_net_here","_law_k","_law_j"] ["_law_net_here","_law_k","_law_j"] (defScope s_Lshown):=⟨rfl,rfl,rfl,by decide +kernel,rfl,by decide +kernel,by decide +kernel⟩
def g_Lshown:SF:=sRet (eBin ixD (eBin ixD (eBin ixD (eVar 0) (eC (.int 1))) (eA max2D (aCons (eVar 1) (aCons (eVar 2) aNil)))) (eA min2D (aCons (eVar 1) (aCons (eVar 2) aNil))))
def G_Lshown:DF:=runF 3 3 (g_Lshown)
theorem ok_Lshown (T:Txt mg)  (F:Dfn K mg "_law_shown" s_Lshown ["_law_net_here","_law_k","_law_j"]):Cal P w K mg base 1 "_law_shown" ["_law_net_here","_law_k","_law_j"] (spF K (G_Lshown)):=cal_of2 (k:=0) (n:=3) (m:=3) (g:=g_Lshown) F sc_Lshown rfl rfl fun f cdv A outer s H hr=>by
 have hu:=hu_of hr
 exact ss_one (s_ret (q_ix ix_seq d_ix (q_ix ix_seq d_ix (q_ix ix_seq d_ix (qv 0) q_int (fun _ _=>rfl)) (q_callB (call_max2 rfl) d_max2 rfl T.b_max (by decide +kernel) (qa_cons (qv 1) (qa_cons (qv 2) qa_nil))) (fun _ _=>rfl)) (q_callB (call_min2 rfl) d_min2 rfl T.b_min (by decide +kernel) (qa_cons (qv 1) (qa_cons (qv 2) qa_nil))) (fun _ _=>rfl)))
abbrev s_Lteller:Stmt:=top 22
theorem sc_Lteller:FnScope ["_law_net_here","_law_inside_here","_law_k","_law_j"] ["_law_net_here","_law_inside_here"] (defScope s_Lteller):=⟨rfl,rfl,rfl,by decide +kernel,rfl,by decide +kernel,by decide +kernel⟩
def g_Lteller_b1:SF:=sIf (eT (eBin neD (eCall G_Lshown (aCons (eVar 0) (aCons (eVar 2) (aCons (eVar 3) aNil)))) (eCall G_Lshown (aCons (eVar 0) (aCons (eVar 2) (aCons (eBin ixD (eVar 1) (eC (.int 0))) aNil)))))) (sRet (eA tupD (aCons (eVar 2) (aCons (eBin ixD (eVar 1) (eC (.int 0))) (aCons (eVar 3) aNil))))) sNext
def g_Lteller_b2:SF:=sIf (eT (eBin (inD true) (eVar 2) (eVar 1))) (sFor [1] (eIt (eCut (eVar 1) (eP (eC (.int 1))) eP0)) (gN 3) g_Lteller_b1) sNext
def g_Lteller:SF:=sSeq (sFor [] (eRng1 (aCons (eA lenD (aCons (eBin ixD (eVar 0) (eC (.int 0))) aNil)) aNil)) (gN 2) g_Lteller_b2) (sRet (eC .non))
def G_Lteller:DF:=runF 2 4 (g_Lteller)
theorem ok_Lteller (T:Txt mg) (C_Lshown:Cal P w K mg base 1 "_law_shown" ["_law_net_here","_law_k","_law_j"] (spF K G_Lshown)) (F:Dfn K mg "_law_teller" s_Lteller ["_law_net_here","_law_inside_here"]):Cal P w K mg base 2 "_law_teller" ["_law_net_here","_law_inside_here"] (spF K (G_Lteller)):=cal_of2 (k:=1) (n:=2) (m:=4) (g:=g_Lteller) F sc_Lteller rfl rfl fun f cdv A outer s H hr=>by
 have hu:=hu_of hr
 exact ss_cons (s_for [] PassesOwn.never rfl (qi_range1 rfl T.b_range (qa_cons (q_callB call_lenA d_len rfl T.b_len PySem.boot_len (qa_cons (q_ix ix_seq d_ix (qv 0) q_int (fun _ _=>rfl)) qa_nil)) qa_nil)) (g_name (i:=2) sc_Lteller.nd rfl (by first | exact Or.inl rfl | exact Or.inr rfl))
    (ss_one (s_if (qt_cmp op_notIn_seq (d_in true) (qv 2) (qv 1) (by with_unfolding_all rfl))
    (ss_one (s_for [1] PassesOwn.never rfl (qi_seq (q_slice (qv 1) (qo_some q_int) qo_none)) (g_name (i:=3) sc_Lteller.nd rfl (by first | exact Or.inl rfl | exact Or.inr rfl))
    (ss_one (s_if (qt_cmp op_ne d_ne (q_cal C_Lshown (hr.mono (by decide)) rfl (qa_cons (qv 0) (qa_cons (qv 2) (qa_cons (qv 3) qa_nil)))) (q_cal C_Lshown (hr.mono (by decide)) rfl (qa_cons (qv 0) (qa_cons (qv 2) (qa_cons (q_ix ix_seq d_ix (qv 1) q_int (fun _ _=>rfl)) qa_nil)))) (nomark _))
    (ss_one (s_ret (q_tup (qa_cons (qv 2) (qa_cons (q_ix ix_seq d_ix (qv 1) q_int (fun _ _=>rfl)) (qa_cons (qv 3) qa_nil))))))
    (ss_nil)))))
    (ss_nil))))
    (ss_one (s_ret q_non))
abbrev s_Lclosed:Stmt:=top 23
theorem sc_Lclosed:FnScope ["_law_net_here","_law_inside_here","_law_found"] ["_law_net_here","_law_inside_here"] (defScope s_Lclosed):=⟨rfl,rfl,rfl,by decide +kernel,rfl,by decide +kernel,by decide +kernel⟩
def g_Lclosed_w1:SD->Res Bool:=eT (eBin (isND true) (eVar 2) (eC .non))
def g_Lclosed_b2:SF:=sSeq (sSet 1 (eA sortedD (aCons (eBin addD (eVar 1) (eA lstD (aCons (eBin ixD (eVar 2) (eC (.int 0))) aNil))) aNil))) (sSet 2 (eCall G_Lteller (aCons (eVar 0) (aCons (eVar 1) aNil))))
def g_Lclosed:SF:=sSeq (sSet 2 (eCall G_Lteller (aCons (eVar 0) (aCons (eVar 1) aNil)))) (sSeq (sWhile g_Lclosed_w1 g_Lclosed_b2) (sRetV 1))
def G_Lclosed:DF:=runF 2 3 (g_Lclosed)
theorem ok_Lclosed (T:Txt mg) (C_Lteller:Cal P w K mg base 2 "_law_teller" ["_law_net_here","_law_inside_here"] (spF K G_Lteller)) (F:Dfn K mg "_law_closed" s_Lclosed ["_law_net_here","_law_inside_here"]):Cal P w K mg base 3 "_law_closed" ["_law_net_here","_law_inside_here"] (spF K (G_Lclosed)):=cal_of2 (k:=2) (n:=2) (m:=3) (g:=g_Lclosed) F sc_Lclosed rfl rfl fun f cdv A outer s H hr=>by
 have hu:=hu_of hr
 exact ss_cons (s_set (i:=2) sc_Lclosed.nd rfl (by first | exact Or.inl rfl | exact Or.inr rfl) (q_cal C_Lteller (hr.mono (by decide)) rfl (qa_cons (qv 0) (qa_cons (qv 1) qa_nil))))
    (ss_cons (s_while PassesOwn.never (qt_cmp op_notN d_notN (qv 2) q_non (nomark _))
    (ss_cons (s_set (i:=1) sc_Lclosed.nd rfl (by first | exact Or.inl rfl | exact Or.inr rfl) (q_callB call_sorted d_sorted rfl T.b_sorted (by decide +kernel) (qa_cons (q_op op_addA d_add (qv 1) (q_lst (qa_cons (q_ix ix_seq d_ix (qv 2) q_int (fun _ _=>rfl)) qa_nil))) qa_nil)))
    (ss_one (s_set (i:=2) sc_Lclosed.nd rfl (by first | exact Or.inl rfl | exact Or.inr rfl) (q_cal C_Lteller (hr.mono (by decide)) rfl (qa_cons (qv 0) (qa_cons (qv 1) qa_nil)))))))
    (ss_one (s_retV 1)))
abbrev s_Linside:Stmt:=top 24
theorem sc_Linside:FnScope ["_law_net_here","_law_number","_law_many_here","_law_way","_law_rest","_law_pair"] ["_law_net_here","_law_number"] (defScope s_Linside):=⟨rfl,rfl,rfl,by decide +kernel,rfl,by decide +kernel,by decide +kernel⟩
def g_Linside_c1:SD->Res Bool:=eT (eBin neD (eVar 0) (eBin ixD (eVar 1) (eC (.int 0))))
def g_Linside_e2:SD->Res D:=eVar 0
def g_Linside_c3:SD->Res Bool:=bOr (eT (eBin neD (eVar 0) (eBin modD (eVar 1) (eVar 2)))) (eT (eBin eqD (eVar 2) (eC (.int 1))))
def g_Linside_e4:SD->Res D:=eVar 0
def g_Linside_c5:SD->Res Bool:=bOr (eT (eBin eqD (eBin modD (eBin shrD (eVar 1) (eBin modD (eVar 0) (eC (.int 20)))) (eC (.int 2))) (eC (.int 1)))) (eT (eBin eqD (eVar 0) (eBin modD (eVar 1) (eVar 2))))
def g_Linside_e6:SD->Res D:=eVar 0
def g_Linside:SF:=sSeq (sSet 2 (eA lenD (aCons (eBin ixD (eVar 0) (eC (.int 0))) aNil))) (sSeq (sSet 3 (eBin modD (eVar 1) (eC (.int 5)))) (sSeq (sSet 4 (eBin fdivD (eVar 1) (eC (.int 5)))) (sSeq (sIf (eT (eBin eqD (eVar 3) (eC (.int 0)))) (sRet (eA lstD (aCons (eBin modD (eVar 4) (eVar 2)) aNil))) sNext) (sSeq (sIf (eT (eBin eqD (eVar 3) (eC (.int 1)))) (sRet (eComp (eRng1 (aCons (eVar 2) aNil)) (gN 0) g_Linside_c5 g_Linside_e6 1 [("_law_rest",4),("_law_many_here",2)])) sNext) (sSeq (sIf (eT (eBin eqD (eVar 3) (eC (.int 2)))) (sRet (eComp (eRng1 (aCons (eVar 2) aNil)) (gN 0) g_Linside_c3 g_Linside_e4 1 [("_law_rest",4),("_law_many_here",2)])) sNext) (sSeq (sSet 5 (eA sortedD (aCons (eA lstD (aCons (eBin modD (eVar 4) (eVar 2)) (aCons (eBin modD (eBin fdivD (eVar 4) (eC (.int 31))) (eVar 2)) aNil))) aNil))) (sSeq (sIf (bOr (eT (eBin eqD (eVar 3) (eC (.int 3)))) (eT (eBin eqD (eBin ixD (eVar 5) (eC (.int 0))) (eBin ixD (eVar 5) (eC (.int 1)))))) (sRet (eBin addD (eCut (eVar 5) eP0 (eP (eC (.int 1)))) (eComp (eIt (eCut (eVar 5) (eP (eC (.int 1))) eP0)) (gN 0) g_Linside_c1 g_Linside_e2 1 [("_law_pair",5)]))) sNext) (sFrz [5] (sRet (eCall G_Lclosed (aCons (eVar 0) (aCons (eVar 5) aNil))))))))))))
def G_Linside:DF:=runF 2 6 (g_Linside)
theorem ok_Linside (T:Txt mg) (C_Lclosed:Cal P w K mg base 3 "_law_closed" ["_law_net_here","_law_inside_here"] (spF K G_Lclosed)) (F:Dfn K mg "_law_inside" s_Linside ["_law_net_here","_law_number"]):Cal P w K mg base 4 "_law_inside" ["_law_net_here","_law_number"] (spF K (G_Linside)):=cal_of2 (k:=3) (n:=2) (m:=6) (g:=g_Linside) F sc_Linside rfl rfl fun f cdv A outer s H hr=>by
 have hu:=hu_of hr
 exact ss_cons (s_set (i:=2) sc_Linside.nd rfl (by first | exact Or.inl rfl | exact Or.inr rfl) (q_callB call_lenA d_len rfl T.b_len PySem.boot_len (qa_cons (q_ix ix_seq d_ix (qv 0) q_int (fun _ _=>rfl)) qa_nil)))
    (ss_cons (s_set (i:=3) sc_Linside.nd rfl (by first | exact Or.inl rfl | exact Or.inr rfl) (q_op op_mod d_mod (qv 1) q_int))
    (ss_cons (s_set (i:=4) sc_Linside.nd rfl (by first | exact Or.inl rfl | exact Or.inr rfl) (q_op op_fdiv d_fdiv (qv 1) q_int))
    (ss_cons (s_if (qt_cmp op_eq d_eq (qv 3) q_int (nomark _))
    (ss_one (s_ret (q_lst (qa_cons (q_op op_mod d_mod (qv 4) (qv 2)) qa_nil))))
    (ss_nil))
    (ss_cons (s_if (qt_cmp op_eq d_eq (qv 3) q_int (nomark _))
    (ss_one (s_ret (q_comp (own := ["_law_k"]) (cap := [("_law_rest",4),("_law_many_here",2)]) (compOk_mk _ rfl _ rfl (by kernel_rfl)) rfl (qi_range1 rfl T.b_range (qa_cons (qv 2) qa_nil)) ⟨fun _ _ _ _ _=>g_name (i:=0) (show (["_law_k","_law_rest","_law_many_here"]:List Str).Nodup by decide +kernel) rfl (by first | exact Or.inl rfl | exact Or.inr rfl),fun _ _ _ _ _=>qif_one (L2.PW.pt (qw_or (qt_cmp op_eq d_eq (q_op op_mod d_mod (q_op op_shr d_shr (qv 1) (q_op op_mod d_mod (qv 0) q_int)) q_int) q_int (nomark _)) (qw_or1 (qt_cmp op_eq d_eq (qv 0) (q_op op_mod d_mod (qv 1) (qv 2)) (nomark _))))),fun _ _ _ _ _=>qv 0⟩)))
    (ss_nil))
    (ss_cons (s_if (qt_cmp op_eq d_eq (qv 3) q_int (nomark _))
    (ss_one (s_ret (q_comp (own := ["_law_k"]) (cap := [("_law_rest",4),("_law_many_here",2)]) (compOk_mk _ rfl _ rfl (by kernel_rfl)) rfl (qi_range1 rfl T.b_range (qa_cons (qv 2) qa_nil)) ⟨fun _ _ _ _ _=>g_name (i:=0) (show (["_law_k","_law_rest","_law_many_here"]:List Str).Nodup by decide +kernel) rfl (by first | exact Or.inl rfl | exact Or.inr rfl),fun _ _ _ _ _=>qif_one (L2.PW.pt (qw_or (qt_cmp op_ne d_ne (qv 0) (q_op op_mod d_mod (qv 1) (qv 2)) (nomark _)) (qw_or1 (qt_cmp op_eq d_eq (qv 2) q_int (nomark _))))),fun _ _ _ _ _=>qv 0⟩)))
    (ss_nil))
    (ss_cons (s_set (i:=5) sc_Linside.nd rfl (by first | exact Or.inl rfl | exact Or.inr rfl) (q_callB call_sorted d_sorted rfl T.b_sorted (by decide +kernel) (qa_cons (q_lst (qa_cons (q_op op_mod d_mod (qv 4) (qv 2)) (qa_cons (q_op op_mod d_mod (q_op op_fdiv d_fdiv (qv 4) q_int) (qv 2)) qa_nil))) qa_nil)))
    (ss_cons (s_if (L2.PW.pt (qw_or (qt_cmp op_eq d_eq (qv 3) q_int (nomark _)) (qw_or1 (qt_cmp op_eq d_eq (q_ix ix_seq d_ix (qv 5) q_int (fun _ _=>rfl)) (q_ix ix_seq d_ix (qv 5) q_int (fun _ _=>rfl)) (nomark _)))))
    (ss_one (s_ret (q_op op_addA d_add (q_slice (qv 5) qo_none (qo_some q_int)) (q_comp (own := ["_law_k"]) (cap := [("_law_pair",5)]) (compOk_mk _ rfl _ rfl (by kernel_rfl)) rfl (qi_seq (q_slice (qv 5) (qo_some q_int) qo_none)) ⟨fun _ _ _ _ _=>g_name (i:=0) (show (["_law_k","_law_pair"]:List Str).Nodup by decide +kernel) rfl (by first | exact Or.inl rfl | exact Or.inr rfl),fun _ _ _ _ _=>qif_one (qt_cmp op_ne d_ne (qv 0) (q_ix ix_seq d_ix (qv 1) q_int (fun _ _=>rfl)) (nomark _)),fun _ _ _ _ _=>qv 0⟩))))
    (ss_nil))
    (ss_one (s_frz [5] (s_ret (q_cal C_Lclosed (hr.mono (by decide)) rfl (qa_cons (qv 0) (qa_cons (qv 5) qa_nil)))))))))))))
abbrev s_Lhanded:Stmt:=top 25
theorem sc_Lhanded:FnScope ["_law_net_here","_law_inside_here","_law_number","_law_some"] ["_law_net_here","_law_inside_here","_law_number"] (defScope s_Lhanded):=⟨rfl,rfl,rfl,by decide +kernel,rfl,by decide +kernel,by decide +kernel⟩
def g_Lhanded_e1:SD->Res D:=eBin ixD (eBin ixD (eVar 1) (eC (.int 0))) (eVar 0)
def g_Lhanded:SF:=sSeq (sSet 3 (eComp (eIt (eVar 1)) (gN 0) bTrue g_Lhanded_e1 1 [("_law_net_here",0)])) (sSeq (sIf (eT (eBin eqD (eBin modD (eVar 2) (eC (.int 3))) (eC (.int 1)))) (sSet 3 (eBin addD (eVar 3) (eCut (eVar 3) eP0 (eP (eBin addD (eC (.int 1)) (eBin modD (eBin fdivD (eVar 2) (eC (.int 3))) (eC (.int 3)))))))) sNext) (sSeq (sIf (eT (eBin eqD (eBin modD (eBin fdivD (eVar 2) (eC (.int 9))) (eC (.int 2))) (eC (.int 1)))) (sRev 3) sNext) (sRetV 3)))
def G_Lhanded:DF:=runF 3 4 (g_Lhanded)
theorem ok_Lhanded (T:Txt mg)  (F:Dfn K mg "_law_handed" s_Lhanded ["_law_net_here","_law_inside_here","_law_number"]):Cal P w K mg base 1 "_law_handed" ["_law_net_here","_law_inside_here","_law_number"] (spF K (G_Lhanded)):=cal_of2 (k:=0) (n:=3) (m:=4) (g:=g_Lhanded) F sc_Lhanded rfl rfl fun f cdv A outer s H hr=>by
 have hu:=hu_of hr
 exact ss_cons (s_setComp (i:=3) sc_Lhanded.nd rfl (by first | exact Or.inl rfl | exact Or.inr rfl) (own := ["_law_k"]) (cap := [("_law_net_here",0)]) (compOk_mk _ rfl _ rfl (by kernel_rfl)) rfl (qi_seq (qv 1)) ⟨fun _ _ _ _ _=>g_name (i:=0) (show (["_law_k","_law_net_here"]:List Str).Nodup by decide +kernel) rfl (by first | exact Or.inl rfl | exact Or.inr rfl),fun _ _ _ _ _=>qif_nil,fun _ _ _ _ _=>q_ix ix_seq d_ix (q_ix ix_seq d_ix (qv 1) q_int (fun _ _=>rfl)) (qv 0) (fun _ _=>rfl)⟩)
    (ss_cons (s_if (qt_cmp op_eq d_eq (q_op op_mod d_mod (qv 2) q_int) q_int (nomark _))
    (ss_one (s_set (i:=3) sc_Lhanded.nd rfl (by first | exact Or.inl rfl | exact Or.inr rfl) (q_op op_addA d_add (qv 3) (q_slice (qv 3) qo_none (qo_some (q_op op_addA d_add q_int (q_op op_mod d_mod (q_op op_fdiv d_fdiv (qv 2) q_int) q_int)))))))
    (ss_nil))
    (ss_cons (s_if (qt_cmp op_eq d_eq (q_op op_mod d_mod (q_op op_fdiv d_fdiv (qv 2) q_int) q_int) q_int (nomark _))
    (ss_one (s_rev 3))
    (ss_nil))
    (ss_one (s_retV 3))))
abbrev s_Lwhole:Stmt:=top 26
theorem sc_Lwhole:FnScope ["_law_found"] ["_law_found"] (defScope s_Lwhole):=⟨rfl,rfl,rfl,by decide +kernel,rfl,by decide +kernel,by decide +kernel⟩
def g_Lwhole:SF:=sRet (eAnd (eUn (instD isI) (eVar 0)) (eNot (eUn (instD isB) (eVar 0))))
def G_Lwhole:DF:=runF 1 1 (g_Lwhole)
theorem ok_Lwhole (T:Txt mg)  (F:Dfn K mg "_law_whole" s_Lwhole ["_law_found"]):Cal P w K mg base 1 "_law_whole" ["_law_found"] (spF K (G_Lwhole)):=cal_of2 (k:=0) (n:=1) (m:=1) (g:=g_Lwhole) F sc_Lwhole rfl rfl fun f cdv A outer s H hr=>by
 have hu:=hu_of hr
 exact ss_one (s_ret (q_and (q_inst (ty := .Name "int" ⟨0,0,0,0⟩) inst_int rfl T.b_isinstance (qv 0) rfl T.b_int (by decide +kernel)) (q_one (q_not (q_inst (ty := .Name "bool" ⟨0,0,0,0⟩) inst_bool rfl T.b_isinstance (qv 0) rfl T.b_bool (by decide +kernel))))))
abbrev s_Lwholes:Stmt:=top 27
theorem sc_Lwholes:FnScope ["_law_found","_law_many_here"] ["_law_found","_law_many_here"] (defScope s_Lwholes):=⟨rfl,rfl,rfl,by decide +kernel,rfl,by decide +kernel,by decide +kernel⟩
def g_Lwholes_e1:SD->Res D:=eCall G_Lwhole (aCons (eVar 0) aNil)
def g_Lwholes:SF:=sSeq (sIf (bOr (bNot (eT (eUn instLT (eVar 0)))) (bAnd (eT (eBin geD (eVar 1) (eC (.int 0)))) (eT (eBin neD (eA lenD (aCons (eVar 0) aNil)) (eVar 1))))) (sRet (eC (.bl false))) sNext) (sRet (eA allD (aCons (eComp (eIt (eVar 0)) (gN 0) bTrue g_Lwholes_e1 1 []) aNil)))
def G_Lwholes:DF:=runF 2 2 (g_Lwholes)
theorem ok_Lwholes (T:Txt mg) (C_Lwhole:Cal P w K mg base 1 "_law_whole" ["_law_found"] (spF K G_Lwhole)) (F:Dfn K mg "_law_wholes" s_Lwholes ["_law_found","_law_many_here"]):Cal P w K mg base 2 "_law_wholes" ["_law_found","_law_many_here"] (spF K (G_Lwholes)):=cal_of2 (k:=1) (n:=2) (m:=2) (g:=g_Lwholes) F sc_Lwholes rfl rfl fun f cdv A outer s H hr=>by
 have hu:=hu_of hr
 exact ss_cons (s_if (L2.PW.pt (qw_or (qt_not (qt_val (q_instLT rfl T.b_isinstance (qv 0) rfl T.b_list rfl T.b_tuple))) (qw_or1 (L2.PW.pt (qw_and (qt_cmp op_ge d_ge (qv 1) q_int (nomark _)) (qw_and1 (qt_cmp op_ne d_ne (q_callB call_lenA d_len rfl T.b_len PySem.boot_len (qa_cons (qv 0) qa_nil)) (qv 1) (nomark _))))))))
    (ss_one (s_ret q_bl))
    (ss_nil))
    (ss_one (s_ret (q_callB (call_allS rfl) (d_bls _) rfl T.b_all (by decide +kernel) (qa_cons (q_comp (own := ["_law_one"]) (cap := []) (compOk_mk _ rfl _ rfl (by kernel_rfl)) rfl (qi_seq (qv 0)) ⟨fun _ _ _ _ _=>g_name (i:=0) (show (["_law_one"]:List Str).Nodup by decide +kernel) rfl (by first | exact Or.inl rfl | exact Or.inr rfl),fun _ _ _ _ _=>qif_nil,fun _ _ _ _ _=>q_cal C_Lwhole (hr.mono (by decide)) rfl (qa_cons (qv 0) qa_nil)⟩) qa_nil))))
abbrev s_Lgrown:Stmt:=top 28
theorem sc_Lgrown:FnScope ["_law_net_here","_law_inside_here","_law_pulls","_law_there","_law_pull","_law_place","_law_at"] ["_law_net_here","_law_inside_here","_law_pulls"] (defScope s_Lgrown):=⟨rfl,rfl,rfl,by decide +kernel,rfl,by decide +kernel,by decide +kernel⟩
def g_Lgrown_e1:SD->Res D:=eTix (eBin ixD (eVar 1) (eC (.int 0))) (eVar 0)
def g_Lgrown_b2:SF:=sIf (eT (eBin (inD true) (eVar 5) (eBin ixD (eVar 0) (eC (.int 0))))) (sRet (eA lstD aNil)) sNext
def g_Lgrown_b3:SF:=sSeq (sIf (bOr (bNot (eT (eUn (instD isTp) (eVar 4)))) (bNot (eT (eCall G_Lwholes (aCons (eVar 4) (aCons (eC (.int 3)) aNil)))))) (sRet (eA lstD aNil)) sNext) (sSeq (sFor [4] (eIt (eVar 4)) (gN 5) g_Lgrown_b2) (sSeq (sSet 6 (eComp (eIt (eVar 4)) (gN 0) bTrue g_Lgrown_e1 1 [("_law_net_here",0)])) (sSeq (sIf (bOr (eT (eBin (inD false) (eBin ixD (eVar 6) (eC (.int 0))) (eVar 3))) (bOr (eT (eBin (inD true) (eBin ixD (eVar 6) (eC (.int 1))) (eVar 3))) (eT (eBin (inD true) (eBin ixD (eVar 6) (eC (.int 2))) (eVar 3))))) (sRet (eA lstD aNil)) sNext) (sSeq (sIf (eT (eBin eqD (eCall G_Lshown (aCons (eVar 0) (aCons (eBin ixD (eVar 6) (eC (.int 0))) (aCons (eBin ixD (eVar 6) (eC (.int 1))) aNil)))) (eCall G_Lshown (aCons (eVar 0) (aCons (eBin ixD (eVar 6) (eC (.int 0))) (aCons (eBin ixD (eVar 6) (eC (.int 2))) aNil)))))) (sRet (eA lstD aNil)) sNext) (sApp 3 (eBin ixD (eVar 6) (eC (.int 0))))))))
def g_Lgrown:SF:=sSeq (sSet 3 (eA listD (aCons (eVar 1) aNil))) (sSeq (sFor [2] (eIt (eVar 2)) (gN 4) g_Lgrown_b3) (sRet (eA sortedD (aCons (eVar 3) aNil))))
def G_Lgrown:DF:=runF 3 7 (g_Lgrown)
theorem ok_Lgrown (T:Txt mg) (C_Lshown:Cal P w K mg base 1 "_law_shown" ["_law_net_here","_law_k","_law_j"] (spF K G_Lshown)) (C_Lwholes:Cal P w K mg base 2 "_law_wholes" ["_law_found","_law_many_here"] (spF K G_Lwholes)) (F:Dfn K mg "_law_grown" s_Lgrown ["_law_net_here","_law_inside_here","_law_pulls"]):Cal P w K mg base 3 "_law_grown" ["_law_net_here","_law_inside_here","_law_pulls"] (spF K (G_Lgrown)):=cal_of2 (k:=2) (n:=3) (m:=7) (g:=g_Lgrown) F sc_Lgrown rfl rfl fun f cdv A outer s H hr=>by
 have hu:=hu_of hr
 exact ss_cons (s_set (i:=3) sc_Lgrown.nd rfl (by first | exact Or.inl rfl | exact Or.inr rfl) (q_callTy call_list_of d_list rfl T.b_list (by decide +kernel) (qa_cons (qv 1) qa_nil)))
    (ss_cons (s_for [2] PassesOwn.never rfl (qi_seq (qv 2)) (g_name (i:=4) sc_Lgrown.nd rfl (by first | exact Or.inl rfl | exact Or.inr rfl))
    (ss_cons (s_if (L2.PW.pt (qw_or (qt_not (qt_val (q_inst (ty := .Name "tuple" ⟨0,0,0,0⟩) inst_tuple rfl T.b_isinstance (qv 4) rfl T.b_tuple (by decide +kernel)))) (qw_or1 (qt_not (qt_val (q_cal C_Lwholes (hr.mono (by decide)) rfl (qa_cons (qv 4) (qa_cons q_int qa_nil))))))))
    (ss_one (s_ret (q_lst qa_nil)))
    (ss_nil))
    (ss_cons (s_for [4] PassesOwn.never rfl (qi_seq (qv 4)) (g_name (i:=5) sc_Lgrown.nd rfl (by first | exact Or.inl rfl | exact Or.inr rfl))
    (ss_one (s_if (qt_cmp op_notIn_seq (d_in true) (qv 5) (q_ix ix_seq d_ix (qv 0) q_int (fun _ _=>rfl)) (by with_unfolding_all rfl))
    (ss_one (s_ret (q_lst qa_nil)))
    (ss_nil))))
    (ss_cons (s_setComp (i:=6) sc_Lgrown.nd rfl (by first | exact Or.inl rfl | exact Or.inr rfl) (own := ["_law_place"]) (cap := [("_law_net_here",0)]) (compOk_mk _ rfl _ rfl (by kernel_rfl)) rfl (qi_seq (qv 4)) ⟨fun _ _ _ _ _=>g_name (i:=0) (show (["_law_place","_law_net_here"]:List Str).Nodup by decide +kernel) rfl (by first | exact Or.inl rfl | exact Or.inr rfl),fun _ _ _ _ _=>qif_nil,fun _ _ _ _ _=>q_tix (q_ix ix_seq d_ix (qv 1) q_int (fun _ _=>rfl)) (qv 0)⟩)
    (ss_cons (s_if (L2.PW.pt (qw_or (qt_cmp op_in_seq (d_in false) (q_ix ix_seq d_ix (qv 6) q_int (fun _ _=>rfl)) (qv 3) (by with_unfolding_all rfl)) (qw_or (qt_cmp op_notIn_seq (d_in true) (q_ix ix_seq d_ix (qv 6) q_int (fun _ _=>rfl)) (qv 3) (by with_unfolding_all rfl)) (qw_or1 (qt_cmp op_notIn_seq (d_in true) (q_ix ix_seq d_ix (qv 6) q_int (fun _ _=>rfl)) (qv 3) (by with_unfolding_all rfl))))))
    (ss_one (s_ret (q_lst qa_nil)))
    (ss_nil))
    (ss_cons (s_if (qt_cmp op_eq d_eq (q_cal C_Lshown (hr.mono (by decide)) rfl (qa_cons (qv 0) (qa_cons (q_ix ix_seq d_ix (qv 6) q_int (fun _ _=>rfl)) (qa_cons (q_ix ix_seq d_ix (qv 6) q_int (fun _ _=>rfl)) qa_nil)))) (q_cal C_Lshown (hr.mono (by decide)) rfl (qa_cons (qv 0) (qa_cons (q_ix ix_seq d_ix (qv 6) q_int (fun _ _=>rfl)) (qa_cons (q_ix ix_seq d_ix (qv 6) q_int (fun _ _=>rfl)) qa_nil)))) (nomark _))
    (ss_one (s_ret (q_lst qa_nil)))
    (ss_nil))
    (ss_one (s_app 3 (q_ix ix_seq d_ix (qv 6) q_int (fun _ _=>rfl))))))))))
    (ss_one (s_ret (q_callB call_sorted d_sorted rfl T.b_sorted (by decide +kernel) (qa_cons (qv 3) qa_nil)))))
abbrev s_Lright:Stmt:=top 29
theorem sc_Lright:FnScope ["_law_net_here","_law_inside_here","_law_found","_law_there"] ["_law_net_here","_law_inside_here","_law_found"] (defScope s_Lright):=⟨rfl,rfl,rfl,by decide +kernel,rfl,by decide +kernel,by decide +kernel⟩
def g_Lright_e1:SD->Res D:=eBin ixD (eBin ixD (eVar 1) (eC (.int 0))) (eVar 0)
def g_Lright:SF:=sSeq (sIf (bOr (bNot (eT (eUn (instD isTp) (eVar 2)))) (eT (eBin neD (eA lenD (aCons (eVar 2) aNil)) (eC (.int 2))))) (sRet (eC (.bl false))) sNext) (sSeq (sIf (bOr (bNot (eT (eUn (instD isL) (eBin ixD (eVar 2) (eC (.int 0)))))) (bOr (bNot (eT (eUn (instD isL) (eBin ixD (eVar 2) (eC (.int 1)))))) (bNot (eT (eCall G_Lwholes (aCons (eBin ixD (eVar 2) (eC (.int 0))) (aCons (eUn negD (eC (.int 1))) aNil))))))) (sRet (eC (.bl false))) sNext) (sSeq (sSet 3 (eCall G_Lgrown (aCons (eVar 0) (aCons (eVar 1) (aCons (eBin ixD (eVar 2) (eC (.int 1))) aNil))))) (sSeq (sIf (bOr (eT (eBin (eqID false) (eVar 3) (eA lstD aNil))) (eT (eBin (isND true) (eCall G_Lteller (aCons (eVar 0) (aCons (eVar 3) aNil))) (eC .non)))) (sRet (eC (.bl false))) sNext) (sRet (eBin (eqID false) (eBin ixD (eVar 2) (eC (.int 0))) (eComp (eIt (eVar 3)) (gN 0) bTrue g_Lright_e1 1 [("_law_net_here",0)]))))))
def G_Lright:DF:=runF 3 4 (g_Lright)
theorem ok_Lright (T:Txt mg) (C_Lteller:Cal P w K mg base 2 "_law_teller" ["_law_net_here","_law_inside_here"] (spF K G_Lteller)) (C_Lwholes:Cal P w K mg base 2 "_law_wholes" ["_law_found","_law_many_here"] (spF K G_Lwholes)) (C_Lgrown:Cal P w K mg base 3 "_law_grown" ["_law_net_here","_law_inside_here","_law_pulls"] (spF K G_Lgrown)) (F:Dfn K mg "_law_right" s_Lright ["_law_net_here","_law_inside_here","_law_found"]):Cal P w K mg base 4 "_law_right" ["_law_net_here","_law_inside_here","_law_found"] (spF K (G_Lright)):=cal_of2 (k:=3) (n:=3) (m:=4) (g:=g_Lright) F sc_Lright rfl rfl fun f cdv A outer s H hr=>by
 have hu:=hu_of hr
 exact ss_cons (s_if (L2.PW.pt (qw_or (qt_not (qt_val (q_inst (ty := .Name "tuple" ⟨0,0,0,0⟩) inst_tuple rfl T.b_isinstance (qv 2) rfl T.b_tuple (by decide +kernel)))) (qw_or1 (qt_cmp op_ne d_ne (q_callB call_lenA d_len rfl T.b_len PySem.boot_len (qa_cons (qv 2) qa_nil)) q_int (nomark _)))))
    (ss_one (s_ret q_bl))
    (ss_nil))
    (ss_cons (s_if (L2.PW.pt (qw_or (qt_not (qt_val (q_inst (ty := .Name "list" ⟨0,0,0,0⟩) inst_list rfl T.b_isinstance (q_ix ix_seq d_ix (qv 2) q_int (fun _ _=>rfl)) rfl T.b_list (by decide +kernel)))) (qw_or (qt_not (qt_val (q_inst (ty := .Name "list" ⟨0,0,0,0⟩) inst_list rfl T.b_isinstance (q_ix ix_seq d_ix (qv 2) q_int (fun _ _=>rfl)) rfl T.b_list (by decide +kernel)))) (qw_or1 (qt_not (qt_val (q_cal C_Lwholes (hr.mono (by decide)) rfl (qa_cons (q_ix ix_seq d_ix (qv 2) q_int (fun _ _=>rfl)) (qa_cons (q_neg q_int) qa_nil)))))))))
    (ss_one (s_ret q_bl))
    (ss_nil))
    (ss_cons (s_set (i:=3) sc_Lright.nd rfl (by first | exact Or.inl rfl | exact Or.inr rfl) (q_cal C_Lgrown (hr.mono (by decide)) rfl (qa_cons (qv 0) (qa_cons (qv 1) (qa_cons (q_ix ix_seq d_ix (qv 2) q_int (fun _ _=>rfl)) qa_nil)))))
    (ss_cons (s_if (L2.PW.pt (qw_or (qt_cmp (op_eqI hu) (d_eqI false) (qv 3) (q_lst qa_nil) (nomark _)) (qw_or1 (qt_cmp op_notN d_notN (q_cal C_Lteller (hr.mono (by decide)) rfl (qa_cons (qv 0) (qa_cons (qv 3) qa_nil))) q_non (nomark _)))))
    (ss_one (s_ret q_bl))
    (ss_nil))
    (ss_one (s_ret (q_cmp (op_eqI hu) (d_eqI false) (q_ix ix_seq d_ix (qv 2) q_int (fun _ _=>rfl)) (q_comp (own := ["_law_k"]) (cap := [("_law_net_here",0)]) (compOk_mk _ rfl _ rfl (by kernel_rfl)) rfl (qi_seq (qv 3)) ⟨fun _ _ _ _ _=>g_name (i:=0) (show (["_law_k","_law_net_here"]:List Str).Nodup by decide +kernel) rfl (by first | exact Or.inl rfl | exact Or.inr rfl),fun _ _ _ _ _=>qif_nil,fun _ _ _ _ _=>q_ix ix_seq d_ix (q_ix ix_seq d_ix (qv 1) q_int (fun _ _=>rfl)) (qv 0) (fun _ _=>rfl)⟩) (nomark _)))))))
abbrev s_law:Stmt:=top 30
theorem sc_law:FnScope ["_law_script","_law_net_here","_law_k","_law_cell_here","_law_number","_law_inside_here","_law_some","_law_handed_here","_law_found","_law_again","_law_row"] ["_law_script"] (defScope s_law):=⟨rfl,rfl,rfl,by decide +kernel,rfl,by decide +kernel,by decide +kernel⟩
def g_law_b1:SF:=sSeq (sSet 4 (eBin modD (eBin addD (eBin mulD (eVar 3) (eC (.int 16807))) (eBin mulD (eVar 2) (eC (.int 48271)))) (eC (.int 2147483647)))) (sSeq (sSet 5 (eCall G_Linside (aCons (eVar 1) (aCons (eVar 4) aNil)))) (sSeq (sSet 6 (eCall G_Lhanded (aCons (eVar 1) (aCons (eVar 5) (aCons (eBin fdivD (eVar 4) (eC (.int 7))) aNil))))) (sSeq (sSet 7 (eA listD (aCons (eVar 6) aNil))) (sSeq (sSet 8 (eCall G_pulled (aCons (eVar 1) (aCons (eVar 7) aNil)))) (sSeq (sIf (bOr (eT (eBin (eqID true) (eVar 7) (eVar 6))) (bNot (eT (eCall G_Lright (aCons (eVar 1) (aCons (eVar 5) (aCons (eVar 8) aNil))))))) (sRet (eC (.bl false))) sNext) (sSeq (sSet 9 (eCall G_pulled (aCons (eVar 1) (aCons (eBin addD (eVar 6) (eA lstD (aCons (eBin ixD (eBin ixD (eVar 8) (eC (.int 0))) (eBin modD (eBin fdivD (eVar 4) (eC (.int 31))) (eA lenD (aCons (eBin ixD (eVar 8) (eC (.int 0))) aNil)))) aNil))) aNil)))) (sSeq (sIf (bOr (bNot (eT (eUn (instD isTp) (eVar 9)))) (bOr (eT (eBin neD (eA lenD (aCons (eVar 9) aNil)) (eC (.int 2)))) (eT (eBin (eqID true) (eBin ixD (eVar 9) (eC (.int 0))) (eBin ixD (eVar 8) (eC (.int 0))))))) (sRet (eC (.bl false))) sNext) (sSeq (sWreck 8 9 10) (sIf (bNot (eT (eCall G_Lright (aCons (eVar 1) (aCons (eVar 5) (aCons (eCall G_pulled (aCons (eVar 1) (aCons (eVar 7) aNil))) aNil)))))) (sRet (eC (.bl false))) sNext)))))))))
def g_law:SF:=sSeq (sSet 1 (eCall G_Lnet (aCons (eVar 0) (aCons (eC (.int 1)) (aCons (eCall G_Lmany (aCons (eCall G_Lcell (aCons (eVar 0) (aCons (eC (.int 0)) aNil))) aNil)) aNil))))) (sSeq (sFor [0] (eEnum (aCons (eBin addD (eA lstD (aCons (eC (.int 6)) (aCons (eC (.int 39)) aNil))) (eCut (eVar 0) (eP (eC (.int 2))) (eP (eC (.int 8))))) aNil)) (gT 2 (gsCons 2 (gsCons 3 gsNil))) g_law_b1) (sRet (eC (.bl true))))
def G_law:DF:=runF 1 11 (g_law)
theorem fn_law {f:Addr}{fd:FuncData} (T:Txt mg) (C_pulled:Cal P w K mg base 4 "pulled" ["net","some"] (spF K G_pulled)) (C_Lcell:Cal P w K mg base 1 "_law_cell" ["_law_script","_law_k"] (spF K G_Lcell)) (C_Lmany:Cal P w K mg base 1 "_law_many" ["_law_cell_here"] (spF K G_Lmany)) (C_Lnet:Cal P w K mg base 4 "_law_net" ["_law_script","_law_at","_law_many_here"] (spF K G_Lnet)) (C_Linside:Cal P w K mg base 4 "_law_inside" ["_law_net_here","_law_number"] (spF K G_Linside)) (C_Lhanded:Cal P w K mg base 1 "_law_handed" ["_law_net_here","_law_inside_here","_law_number"] (spF K G_Lhanded)) (C_Lright:Cal P w K mg base 4 "_law_right" ["_law_net_here","_law_inside_here","_law_found"] (spF K G_Lright)) (F:Fun K "law" "law" s_law f fd):FnOk P w K mg base CX0 5 f fd ["_law_script"] (spF K (G_law)):=fnok_of2 (k:=4) (n:=1) (m:=11) (g:=g_law) F sc_law rfl rfl fun f cdv A outer s H hr=>by
 have hu:=hu_of hr
 exact ss_cons (s_set (i:=1) sc_law.nd rfl (by first | exact Or.inl rfl | exact Or.inr rfl) (q_cal C_Lnet (hr.mono (by decide)) rfl (qa_cons (qv 0) (qa_cons q_int (qa_cons (q_cal C_Lmany (hr.mono (by decide)) rfl (qa_cons (q_cal C_Lcell (hr.mono (by decide)) rfl (qa_cons (qv 0) (qa_cons q_int qa_nil))) qa_nil)) qa_nil)))))
    (ss_cons (s_for [0] PassesOwn.never rfl (qi_enum rfl T.b_enumerate (qa_cons (q_op op_addA d_add (q_lst (qa_cons q_int (qa_cons q_int qa_nil))) (q_slice (qv 0) (qo_some q_int) (qo_some q_int))) qa_nil)) (g_tup rfl (gs_cons (i:=2) sc_law.nd rfl (by first | exact Or.inl rfl | exact Or.inr rfl) (gs_cons (i:=3) sc_law.nd rfl (by first | exact Or.inl rfl | exact Or.inr rfl) gs_nil)))
    (ss_cons (s_set (i:=4) sc_law.nd rfl (by first | exact Or.inl rfl | exact Or.inr rfl) (q_op op_mod d_mod (q_op op_addA d_add (q_op op_mulD d_mul (qv 3) q_int) (q_op op_mulD d_mul (qv 2) q_int)) q_int))
    (ss_cons (s_set (i:=5) sc_law.nd rfl (by first | exact Or.inl rfl | exact Or.inr rfl) (q_cal C_Linside (hr.mono (by decide)) rfl (qa_cons (qv 1) (qa_cons (qv 4) qa_nil))))
    (ss_cons (s_set (i:=6) sc_law.nd rfl (by first | exact Or.inl rfl | exact Or.inr rfl) (q_cal C_Lhanded (hr.mono (by decide)) rfl (qa_cons (qv 1) (qa_cons (qv 5) (qa_cons (q_op op_fdiv d_fdiv (qv 4) q_int) qa_nil)))))
    (ss_cons (s_set (i:=7) sc_law.nd rfl (by first | exact Or.inl rfl | exact Or.inr rfl) (q_callTy call_list_of d_list rfl T.b_list (by decide +kernel) (qa_cons (qv 6) qa_nil)))
    (ss_cons (s_set (i:=8) sc_law.nd rfl (by first | exact Or.inl rfl | exact Or.inr rfl) (q_cal C_pulled (hr.mono (by decide)) rfl (qa_cons (qv 1) (qa_cons (qv 7) qa_nil))))
    (ss_cons (s_if (L2.PW.pt (qw_or (qt_cmp (op_neI hu) (d_eqI true) (qv 7) (qv 6) (nomark _)) (qw_or1 (qt_not (qt_val (q_cal C_Lright (hr.mono (by decide)) rfl (qa_cons (qv 1) (qa_cons (qv 5) (qa_cons (qv 8) qa_nil)))))))))
    (ss_one (s_ret q_bl))
    (ss_nil))
    (ss_cons (s_set (i:=9) sc_law.nd rfl (by first | exact Or.inl rfl | exact Or.inr rfl) (q_cal C_pulled (hr.mono (by decide)) rfl (qa_cons (qv 1) (qa_cons (q_op op_addA d_add (qv 6) (q_lst (qa_cons (q_ix ix_seq d_ix (q_ix ix_seq d_ix (qv 8) q_int (fun _ _=>rfl)) (q_op op_mod d_mod (q_op op_fdiv d_fdiv (qv 4) q_int) (q_callB call_lenA d_len rfl T.b_len PySem.boot_len (qa_cons (q_ix ix_seq d_ix (qv 8) q_int (fun _ _=>rfl)) qa_nil))) (fun _ _=>rfl)) qa_nil))) qa_nil))))
    (ss_cons (s_if (L2.PW.pt (qw_or (qt_not (qt_val (q_inst (ty := .Name "tuple" ⟨0,0,0,0⟩) inst_tuple rfl T.b_isinstance (qv 9) rfl T.b_tuple (by decide +kernel)))) (qw_or (qt_cmp op_ne d_ne (q_callB call_lenA d_len rfl T.b_len PySem.boot_len (qa_cons (qv 9) qa_nil)) q_int (nomark _)) (qw_or1 (qt_cmp (op_neI hu) (d_eqI true) (q_ix ix_seq d_ix (qv 9) q_int (fun _ _=>rfl)) (q_ix ix_seq d_ix (qv 8) q_int (fun _ _=>rfl)) (nomark _))))))
    (ss_one (s_ret q_bl))
    (ss_nil))
    (ss_cons (s_wreck 8 9 10 PassesOwn.never rfl (pi_seq (pe_lst (pa_cons (pe_ix ix_seq (pe_var (i:=8) rfl (by first | exact Or.inl rfl | exact Or.inr (Or.inl rfl) | exact Or.inr (Or.inr rfl))) pe_int (fun _ _=>rfl)) (pa_cons (pe_ix ix_seq (pe_var (i:=8) rfl (by first | exact Or.inl rfl | exact Or.inr (Or.inl rfl) | exact Or.inr (Or.inr rfl))) pe_int (fun _ _=>rfl)) (pa_cons (pe_ix ix_seq (pe_var (i:=9) rfl (by first | exact Or.inl rfl | exact Or.inr (Or.inl rfl) | exact Or.inr (Or.inr rfl))) pe_int (fun _ _=>rfl)) (pa_cons (pe_ix ix_seq (pe_var (i:=9) rfl (by first | exact Or.inl rfl | exact Or.inr (Or.inl rfl) | exact Or.inr (Or.inr rfl))) pe_int (fun _ _=>rfl)) pa_nil)))))) (pg_name (i:=10) sc_law.nd rfl (by first | exact Or.inl rfl | exact Or.inr rfl)) (pss_cons (ps_expr (pe_bm0 PySem.F.plainAttrs_list PySem.F.slot_list_reverse PySem.F.type_list_reverse mt_reverse (pe_var (i:=10) rfl (by first | exact Or.inl rfl | exact Or.inr (Or.inl rfl) | exact Or.inr (Or.inr rfl))))) (pss_one (ps_expr (pe_bm PySem.F.plainAttrs_list PySem.F.slot_list_append PySem.F.type_list_append mt_append (pe_var (i:=10) rfl (by first | exact Or.inl rfl | exact Or.inr (Or.inl rfl) | exact Or.inr (Or.inr rfl))) (pa_cons (pe_un un_neg pe_int) pa_nil))))))
    (ss_one (s_if (qt_not (qt_val (q_cal C_Lright (hr.mono (by decide)) rfl (qa_cons (qv 1) (qa_cons (qv 5) (qa_cons (q_cal C_pulled (hr.mono (by decide)) rfl (qa_cons (qv 1) (qa_cons (qv 7) qa_nil))) qa_nil))))))
    (ss_one (s_ret q_bl))
    (ss_nil)))))))))))))
    (ss_one (s_ret q_bl)))
end
end KL
namespace PG
variable (c:Nat->Nat->Int)
def Closed (n:Nat) (T:List Nat):Prop := ∀ k,k < n->k ∉ T->∀ i ∈ T,∀ j ∈ T,c k i=c k j
def Valid (n f:Nat):List Nat->List (Nat × Nat)->Prop
 | _,[]=>True
 | th,x :: r=>(x.1 < n/\x.1 ∉ th/\x.2 ∈ th/\c x.1 x.2 ≠ c x.1 f)/\Valid n f (th ++ [x.1]) r
variable {c}
theorem Valid.append {n f:Nat}:∀ {a b:List (Nat × Nat)}{th:List Nat},Valid c n f th a->Valid c n f (th ++ a.map (·.1)) b->Valid c n f th (a ++ b)
 | [],b,th,_,h=>by simpa using h
 | x :: r,b,th,h,h'=>⟨h.1,Valid.append h.2 (by simpa using h')⟩
theorem Valid.many {n f q:Nat}:∀ {came:List Nat}{th:List Nat},came.Nodup->(∀ p ∈ came,p < n/\p ∉ th/\c p q ≠ c p f)->q ∈ th->Valid c n f th (came.map fun p=>(p,q))
 | [],th,_,_,_=>trivial
 | p :: r,th,nd,h,hq=>by
  have hp:=h p List.mem_cons_self
  have nd' := List.nodup_cons.mp nd
  refine ⟨⟨hp.1,hp.2.1,hq,hp.2.2⟩,Valid.many nd'.2 (fun x hx=>?_) (List.mem_append_left _ hq)⟩
  have hx' := h x (List.mem_cons_of_mem _ hx)
  refine ⟨hx'.1,fun m=>?_,hx'.2.2⟩
  rcases List.mem_append.mp m with m | m
  ·exact hx'.2.1 m
  ·have e:x=p:=by simpa using m
   exact nd'.1 (e ▸ hx)
theorem Valid.least {n f:Nat}{T:List Nat} (hT:Closed c n T) (hf:f ∈ T):∀ {a:List (Nat × Nat)}{th:List Nat},Valid c n f th a->(∀ x ∈ th,x ∈ T)->∀ x ∈ a,x.1 ∈ T
 | [],th,_,_,x,hx=>by cases hx
 | y :: r,th,h,hs,x,hx=>by
  obtain ⟨⟨h1,h2,h3,h4⟩,h5⟩:=h
  have hy:y.1 ∈ T:=Classical.byContradiction fun z=>h4 (hT y.1 h1 z _ (hs _ h3) _ hf)
  rcases List.mem_cons.mp hx with e | e
  ·rw [e]; exact hy
  ·refine Valid.least hT hf h5 (fun u hu=>?_) x e
   rcases List.mem_append.mp hu with m | m
   ·exact hs u m
   ·have e:u=y.1:=by simpa using m
    rw [e]; exact hy
theorem Valid.nodup {n f:Nat}:∀ {a:List (Nat × Nat)}{th:List Nat},Valid c n f th a->th.Nodup->(th ++ a.map (·.1)).Nodup
 | [],th,_,h=>by simpa using h
 | y :: r,th,h,nd=>by
  have ih:=Valid.nodup h.2 (List.nodup_append.mpr ⟨nd,by simp,fun a ha b hb e=>by
   have e2:b=y.1:=by simpa using hb
   exact h.1.2.1 (e2 ▸ e ▸ ha)⟩)
  simpa using ih
theorem Valid.bound {n f:Nat}:∀ {a:List (Nat × Nat)}{th:List Nat},Valid c n f th a->∀ x ∈ a,x.1 < n
 | y :: r,th,h,x,hx=>by
  rcases List.mem_cons.mp hx with e | e
  ·rw [e]; exact h.1.1
  ·exact Valid.bound h.2 x e
abbrev gr (ms:List Nat) (Pl:List (Nat × Nat)):List Nat:=ms ++ Pl.map (·.1)
structure St (c:Nat->Nat->Int) (n f:Nat) (ms O W:List Nat) (Pl:List (Nat × Nat)):Prop where
 out:∀ p,p ∈ O ↔ p < n/\p ∉ gr ms Pl
 nd:O.Nodup
 wait:∀ w ∈ W,w ∈ gr ms Pl
 done:∀ m ∈ gr ms Pl,m ∉ W->∀ p ∈ O,c p m=c p f
 val:Valid c n f ms Pl
def outOf (n:Nat) (ms:List Nat):List Nat:=(List.range n).filter fun p=>!decide (p ∈ ms)
theorem St.init (c:Nat->Nat->Int) (n f:Nat) (rest:List Nat):St c n f (f :: rest) (outOf n (f :: rest)) rest [] where
 out:=fun p=>by simp [outOf,gr]
 nd:=List.nodup_range.filter _
 wait:=fun w h=>by simp [gr,h]
 done:=fun m h n p _=>by
  have:m=f:=by simpa [gr,n] using h
  rw [this]
 val:=trivial
def came (c:Nat->Nat->Int) (f q:Nat) (O:List Nat):List Nat:=O.filter fun p=>!decide (c p q=c p f)
def left (c:Nat->Nat->Int) (f q:Nat) (O:List Nat):List Nat:=O.filter fun p=>!decide (p ∈ came c f q O)
theorem mem_came {f q p:Nat}{O:List Nat}:p ∈ came c f q O ↔ p ∈ O/\c p q ≠ c p f:=by simp [came]
theorem mem_left {f q p:Nat}{O:List Nat}:p ∈ left c f q O ↔ p ∈ O/\c p q=c p f:=by
 unfold left
 rw [List.mem_filter]
 simp only [Bool.not_eq_true',decide_eq_false_iff_not,mem_came]
 constructor
 ·intro ⟨h1,h2⟩
  exact ⟨h1,Classical.byContradiction fun z=>h2 ⟨h1,z⟩⟩
 ·intro ⟨h1,h2⟩
  exact ⟨h1,fun z=>z.2 h2⟩
theorem filter_two {α:Type} (p:α->Bool):∀ l:List α,(l.filter p).length + (l.filter fun x=>!p x).length=l.length
 | []=>rfl
 | x :: r=>by
  have ih:=filter_two p r
  cases h:p x <;> simp [List.filter,h] <;> omega
theorem left_len (f q:Nat) (O:List Nat):(came c f q O).length + (left c f q O).length=O.length:=by
 have e:left c f q O=O.filter fun p=>!(!decide (c p q=c p f)):=by
  unfold left
  refine List.filter_congr fun p hp=>?_
  congr 1
  rw [Bool.eq_iff_iff]
  simp [mem_came,hp]
 rw [e]
 exact filter_two _ O
theorem St.step {n f q:Nat}{ms O W:List Nat}{Pl:List (Nat × Nat)} (h:St c n f ms O (W ++ [q]) Pl):St c n f ms (left c f q O) (W ++ came c f q O) (Pl ++ (came c f q O).map fun p=>(p,q)):=by
 have hm:∀ x,x ∈ gr ms (Pl ++ (came c f q O).map fun p=>(p,q)) ↔ x ∈ gr ms Pl ∨ x ∈ came c f q O:=by
  intro x
  simp only [gr,List.map_append,List.map_map,List.mem_append]
  have:List.map ((fun x:Nat × Nat=>x.1) ∘ fun p=>(p,q)) (came c f q O)=came c f q O:=by
   show List.map (fun p=>p) _=_
   simp
  rw [this]
  constructor
  ·rintro (h | h | h)
   ·exact .inl (.inl h)
   ·exact .inl (.inr h)
   ·exact .inr h
  ·rintro ((h | h) | h)
   ·exact .inl h
   ·exact .inr (.inl h)
   ·exact .inr (.inr h)
 refine ⟨fun p=>?_,h.nd.filter _,fun w hw=>?_,fun m h1 h2 p hp=>?_,Valid.append h.val (Valid.many (h.nd.filter _) (fun p hp=>?_) (h.wait q (by simp)))⟩
 ·rw [mem_left,hm,h.out]
  constructor
  ·rintro ⟨⟨a,b⟩,e⟩
   refine ⟨a,fun z=>z.elim b fun z=>(mem_came.mp z).2 e⟩
  ·rintro ⟨a,b⟩
   have b1:p ∉ gr ms Pl:=fun z=>b (.inl z)
   exact ⟨⟨a,b1⟩,Classical.byContradiction fun z=>b (.inr (mem_came.mpr ⟨(h.out p).mpr ⟨a,b1⟩,z⟩))⟩
 ·rw [hm]
  rcases List.mem_append.mp hw with x | x
  ·exact .inl (h.wait w (List.mem_append_left _ x))
  ·exact .inr x
 ·rw [mem_left] at hp
  have h2a:m ∉ W:=fun z=>h2 (List.mem_append_left _ z)
  have h2b:m ∉ came c f q O:=fun z=>h2 (List.mem_append_right _ z)
  have h1' := ((hm m).mp h1).resolve_right h2b
  by_cases e:m=q
  ·rw [e]; exact hp.2
  ·exact h.done m h1' (fun z=>(List.mem_append.mp z).elim h2a fun z=>e (by simpa using z)) p hp.1
 ·have:=mem_came.mp hp
  have ho:=(h.out p).mp this.1
  exact ⟨ho.1,ho.2,this.2⟩
theorem St.closed {n f:Nat}{ms O:List Nat}{Pl:List (Nat × Nat)} (h:St c n f ms O [] Pl):Closed c n (gr ms Pl):=fun k hk hn i hi j hj=>by
 have ho:=(h.out k).mpr ⟨hk,hn⟩
 rw [h.done i hi (by simp) k ho,h.done j hj (by simp) k ho]
theorem same_group {n f f':Nat}{ms ms' O O':List Nat}{Pl Pl':List (Nat × Nat)} (h:St c n f ms O [] Pl) (h':St c n f' ms' O' [] Pl') (hf:f ∈ ms) (hf':f' ∈ ms')
  (s1:∀ x ∈ ms,x ∈ ms') (s2:∀ x ∈ ms',x ∈ gr ms Pl):∀ x,x ∈ gr ms Pl ↔ x ∈ gr ms' Pl' := by
 have one:∀ x ∈ ms,x ∈ gr ms' Pl' := fun x hx=>List.mem_append_left _ (s1 x hx)
 intro x
 constructor
 ·intro hx
  rcases List.mem_append.mp hx with hx | hx
  ·exact one x hx
  ·obtain ⟨y,hy,rfl⟩:=List.mem_map.mp hx
   exact h.val.least h'.closed (one f hf) one y hy
 ·intro hx
  rcases List.mem_append.mp hx with hx | hx
  ·exact s2 x hx
  ·obtain ⟨y,hy,rfl⟩:=List.mem_map.mp hx
   exact h'.val.least h.closed (s2 f' hf') s2 y hy
theorem nodup_len:∀ {l m:List Nat},l.Nodup->(∀ x ∈ l,x ∈ m)->l.length <= m.length
 | [],m,_,_=>Nat.zero_le _
 | x :: r,m,nd,h=>by
  have nd' := List.nodup_cons.mp nd
  have hx:=h x List.mem_cons_self
  have ih:=nodup_len (l:=r) (m:=m.erase x) nd'.2 fun y hy=>by
   have hne:y ≠ x:=fun e=>nd'.1 (e ▸ hy)
   exact (List.mem_erase_of_ne hne).mpr (h y (List.mem_cons_of_mem _ hy))
  rw [List.length_erase_of_mem hx] at ih
  have:0 < m.length:=List.length_pos_of_mem hx
  simp only [List.length_cons]
  omega
theorem nodup_bound {l:List Nat}{n:Nat} (nd:l.Nodup) (h:∀ x ∈ l,x < n):l.length <= n:=by
 have:=nodup_len nd (m:=List.range n) fun x hx=>List.mem_range.mpr (h x hx)
 simpa using this
end PG
namespace M
def cell (ns:List Int) (k:Int):Int:=ns.getD k.toNat 0
def many (c:Int):Int:=if c / 9 % 8=1 then 1 + c / 72 % 24 else 1 + c % 9
theorem many_pos (c:Int):1 <= many c/\many c <= 24:=by
 unfold many
 split <;> omega
def maxI (i j:Int):Int:=if j > i then j else i
def mix (ns:List Int) (at_ k:Int):Int:=(cell ns (at_ + k % maxI 1 ((ns.length:Int) - at_)) * 48271 + k * 16807 + 11) % 2147483647
theorem mix_nn (ns:List Int) (a k:Int):0 <= mix ns a k:=Int.emod_nonneg _ (by decide)
def num0 (big:Int) (ns:List Int) (a:Int):Int:=if cell ns a % 2=1 then cell ns a / 2 % big else cell ns a / 2 % 4
def gap (ns:List Int) (a:Int):Int:=([1,3,100000000000000000000000000000]:List Int).getD (cell ns (a + 1) % 3).toNat 0
def place (big:Int) (ns:List Int) (a:Int):Nat->Int
 | 0=>num0 big ns a
 | k + 1=>place big ns a k + 1 + cell ns (a + 1) / ((k:Int) + 1) % gap ns a
theorem place_zero (big:Int) (ns:List Int) (a:Int):place big ns a 0=if cell ns a % 2=1 then cell ns a / 2 % big else cell ns a / 2 % 4:=rfl
def places (big:Int) (ns:List Int) (a:Int) (n:Nat):List Int:=(List.range n).map (place big ns a)
theorem gap_pos (ns:List Int) (a:Int):0 < gap ns a:=by
 unfold gap
 have h1:0 <= cell ns (a + 1) % 3:=Int.emod_nonneg _ (by decide)
 have h2:cell ns (a + 1) % 3 < 3:=Int.emod_lt_of_pos _ (by decide)
 have h:cell ns (a + 1) % 3=0 ∨ cell ns (a + 1) % 3=1 ∨ cell ns (a + 1) % 3=2:=by omega
 rcases h with h | h | h <;> rw [h] <;> decide
theorem place_lt {big:Int} (ns:List Int) (a:Int) (k:Nat):place big ns a k < place big ns a (k + 1):=by
 show place big ns a k < place big ns a k + 1 + cell ns (a + 1) / ((k:Int) + 1) % gap ns a
 have h:0 <= cell ns (a + 1) / ((k:Int) + 1) % gap ns a:=Int.emod_nonneg _ (by have:=gap_pos ns a; omega)
 omega
theorem place_mono {big:Int} (ns:List Int) (a:Int):∀ {j k:Nat},j < k->place big ns a j < place big ns a k
 | j,k + 1,h=>by
  have h2:=place_lt (big:=big) ns a k
  by_cases e:j=k
  ·subst e
   exact h2
  ·exact Int.lt_trans (place_mono ns a (by omega)) h2
theorem places_len (big:Int) (ns:List Int) (a:Int) (n:Nat):(places big ns a n).length=n:=by simp [places]
end M
namespace N2
def keyOf (o t:Int):Int × Int:=if o > t then (o,t) else (t,o)
abbrev Tie:=Int × Int × Int
def tkey (t:Tie):Int × Int:=keyOf t.1 t.2.1
structure Dr where
 pl:Nat->Int
 sh:Nat->Nat->Int
 dr:Nat->Nat->Int
 mono:∀ {j k:Nat},j < k->pl j < pl k
 nn:∀ k j:Nat,0 <= sh k j
def places (d:Dr) (n:Nat):List Int:=(List.range n).map d.pl
def rows (d:Dr) (n:Nat):List (List Int):=(List.range n).map fun k=>(List.range k).map fun j=>d.sh k j
theorem places_len (d:Dr) (n:Nat):(places d n).length=n:=by simp [places]
theorem places_sorted (d:Dr) (n:Nat):(places d n).Pairwise (· < ·):=by
 unfold places
 rw [List.pairwise_map]
 exact List.pairwise_lt_range.imp fun h=>d.mono h
end N2
namespace KL
open DL
theorem mul_r {i j:Int} (h : -(2 ^ 64) < j/\j < 2 ^ 64):CMulD i j := .inl (.inr h)
theorem mul_l {i j:Int} (h : -(2 ^ 64) < i/\i < 2 ^ 64):CMulD i j := .inl (.inl h)
def big:Int:=10 ^ 30
theorem big_pos:0 < big:=by decide
theorem pow30:powD (.int 10) (.int 30)=.ok (.int big):=by rfl
theorem bigE (τ:SD):eBin powD (eC (.int 10)) (eC (.int 30)) τ=.ok (.int big):=by
 simp only [eBin,eC,Res.bind_ok,pow30]
def netD (ps:List Int) (rows:List (List Int)):D := .tup [.tup (ps.map .int),.tup (rows.map fun r=>.tup (r.map .int))]
theorem pure_rows (rows:List (List Int)):pureL (rows.map fun r=>D.tup (r.map .int))=true:=pureL_of fun d m=>by obtain ⟨r,_,rfl⟩:=List.mem_map.mp m; exact pure_ints r
theorem net_pure (ps:List Int) (rows:List (List Int)):(netD ps rows).pure=true:=by
 simp [netD,D.pure,pureL,pure_ints,pure_rows]
theorem mod_ok {f:SD->Res D}{τ:SD}{a b:Int} (h:f τ=.ok (.int a)) (hb:0 < b):eBin modD f (eC (.int b)) τ=.ok (.int (a % b)):=by
 rw [eBin_ok h (show eC (.int b) τ=.ok (.int b) from rfl)]
 simp [iiD,hb]
theorem fdiv_ok {f:SD->Res D}{τ:SD}{a b:Int} (h:f τ=.ok (.int a)) (hb:0 < b/\b < 1073741824):eBin fdivD f (eC (.int b)) τ=.ok (.int (a / b)):=by
 rw [eBin_ok h (show eC (.int b) τ=.ok (.int b) from rfl)]
 simp [iiD,L2.CDiv,hb]
theorem eqi_ok {f g:SD->Res D}{τ:SD}{a b:Int} (h:f τ=.ok (.int a)) (h2:g τ=.ok (.int b)):eT (eBin eqD f g) τ=.ok (decide (a=b)):=by
 unfold eT
 rw [eBin_ok h h2]
 show Res.ok (xor false (decide (a=b)))=_
 rw [Bool.false_xor]
theorem nei_ok {f g:SD->Res D}{τ:SD}{a b:Int} (h:f τ=.ok (.int a)) (h2:g τ=.ok (.int b)):eT (eBin neD f g) τ=.ok (!decide (a=b)):=by
 unfold eT
 rw [eBin_ok h h2]
 show Res.ok (xor true (decide (a=b)))=_
 rw [Bool.true_xor]
theorem gti_ok {f g:SD->Res D}{τ:SD}{a b:Int} (h:f τ=.ok (.int a)) (h2:g τ=.ok (.int b)):eT (eBin gtD f g) τ=.ok (decide (b < a)):=by
 unfold eT
 rw [eBin_ok h h2]
 rfl
theorem lti_ok {f g:SD->Res D}{τ:SD}{a b:Int} (h:f τ=.ok (.int a)) (h2:g τ=.ok (.int b)):eT (eBin ltD f g) τ=.ok (decide (a < b)):=by
 unfold eT
 rw [eBin_ok h h2]
 rfl
theorem or_ok {f g:SD->Res Bool}{τ:SD}{a b:Bool} (h:f τ=.ok a) (h2:g τ=.ok b):bOr f g τ=.ok (a || b):=by
 unfold bOr
 rw [h]
 cases a
 ·exact h2
 ·rfl
theorem run_rt {n N:Nat}{g:SF}{ds:List D}{τ:SD}{d:D} (hl:ds.length=n) (ht:ds.map some ++ List.replicate (N - n) none=τ) (h:g τ=.rt d):runF n N g ds=.ok d:=by
 unfold runF
 rw [if_pos hl,ht,h]
 rfl
theorem ix_ok {f g:SD->Res D}{τ:SD}{x y:D}{r:Res D} (h1:f τ=.ok x) (h2:g τ=.ok y) (h3:ixD x y=r):eBin ixD f g τ=r:=(eBin_ok h1 h2).trans h3
theorem ix_tup {xs:List D}{i:Int}{j:Nat}{d:D} (hi:i=j) (h:xs[j]?=some d):ixD (.tup xs) (.int i)=.ok d:=by
 simp [ixD,atI_of hi h]
theorem ix_lst {t:Tg}{xs:List D}{i:Int}{j:Nat}{d:D} (hi:i=j) (h:xs[j]?=some d):ixD (.lst t xs) (.int i)=.ok d:=by
 simp [ixD,atI_of hi h]
theorem app_nx {i:Nat}{f:SD->Res D}{τ:SD}{xs:List D}{d:D} (h1:τ[i]?=some (some (.lst .own xs))) (h2:f τ=.ok d) (hp:d.hasBor=false) (hl:xs.length < 16777216):sApp i f τ=.nx (τ.set i (some (.lst .own (xs ++ [d])))):=by
 unfold sApp
 have e:ownL τ i=some xs:=by unfold ownL; rw [h1]
 rw [e]
 simp [h2,hp,hl]
theorem len_ok {f:SD->Res D}{τ:SD}{t:Tg}{xs:List D} (h:f τ=.ok (.lst t xs)):eA lenD (aCons f aNil) τ=.ok (.int xs.length):=by
 rw [eA_ok (aOne h)]
 rfl
theorem run_nx {n N:Nat}{g:SF}{ds:List D}{τ t:SD} (hl:ds.length=n) (ht:ds.map some ++ List.replicate (N - n) none=τ) (h:g τ=.nx t):runF n N g ds=.ok .non:=by
 unfold runF
 rw [if_pos hl,ht,h]
 rfl
theorem eT_ok {f:SD->Res D}{τ:SD}{b:Bool} (h:f τ=.ok (.bl b)):eT f τ=.ok b:=by
 unfold eT
 rw [h]
 rfl
theorem if_f {c:SD->Res Bool}{a b:SF}{τ:SD} (h:c τ=.ok false):sIf c a b τ=b τ:=by rw [if_nx h]; rfl
theorem if_t {c:SD->Res Bool}{a b:SF}{τ:SD} (h:c τ=.ok true):sIf c a b τ=a τ:=by rw [if_nx h]; rfl
theorem expr_nx {f:SD->Res D}{τ:SD}{d:D} (h:f τ=.ok d):sExpr f τ=.nx τ:=by
 unfold sExpr
 rw [h]
 rfl
theorem and_f {f g:SD->Res Bool}{τ:SD} (h:f τ=.ok false):bAnd f g τ=.ok false:=by unfold bAnd; rw [h]; rfl
theorem and_t {f g:SD->Res Bool}{τ:SD}{b:Bool} (h:f τ=.ok true) (h2:g τ=.ok b):bAnd f g τ=.ok b:=by unfold bAnd; rw [h,Res.bind_ok,if_pos rfl,h2]
theorem not_ok {f:SD->Res Bool}{τ:SD}{b:Bool} (h:f τ=.ok b):bNot f τ=.ok (!b):=by unfold bNot; rw [h]; rfl
theorem if_rt {c:SD->Res Bool}{a b s:SF}{τ:SD}{d:D} (h:c τ=.ok true) (h2:a τ=.rt d):sSeq (sIf c a b) s τ=.rt d:=by
 unfold sSeq
 rw [if_t h,h2]
 rfl
theorem if_go {c:SD->Res Bool}{a s:SF}{τ:SD} (h:c τ=.ok false):sSeq (sIf c a sNext) s τ=s τ:=by
 refine seq_nx ?_
 rw [if_f h]
 rfl
theorem seq_rt {a b:SF}{τ:SD}{d:D} (h:a τ=.rt d):sSeq a b τ=.rt d:=by
 unfold sSeq
 rw [h]
 rfl
theorem add_ok {f g:SD->Res D}{τ:SD}{a b:Int} (h:f τ=.ok (.int a)) (h2:g τ=.ok (.int b)):eBin addD f g τ=.ok (.int (a + b)):=by rw [eBin_ok h h2]; rfl
theorem cut_map (xs:List Int) (a b:Option Int):DL.cut (xs.map D.int) a b=(DL.cut xs a b).map D.int:=by
 unfold DL.cut
 simp [List.map_drop,List.map_take]
theorem mod_pos {i j:Int} (h:0 < j):modD (.int i) (.int j)=.ok (.int (i % j)):=by
 show (if (0:Int) < j then _ else _)=_
 exact if_pos h
theorem mod_big (i:Int):modD (.int i) (.int big)=.ok (.int (i % big)):=mod_pos big_pos
theorem pair_eq (o t:Int):G_pair [.int o,.int t]=.ok (.tup [.int (N2.keyOf o t).1,.int (N2.keyOf o t).2]):=by
 unfold N2.keyOf
 refine run_rt rfl rfl (ret_rt ?_ rfl)
 unfold eIf
 rw [gti_ok (a:=o) (b:=t) rfl rfl]
 by_cases h:o > t
 ·rw [decide_eq_true h,if_pos h]; rfl
 ·rw [decide_eq_false h,if_neg h]; rfl
abbrev S (ns:List Int):D := .lst .frz (ns.map D.int)
theorem cell_out {ns:List Int}{k:Int} (h1:¬ k < ns.length):M.cell ns k=0:=by
 unfold M.cell
 rw [List.getD_eq_getElem?_getD,List.getElem?_eq_none (by omega)]
 rfl
theorem at_ints {ns:List Int}{i:Nat} (h:i < ns.length):(ns.map D.int)[i]?=some (.int (ns.getD i 0)):=by
 rw [List.getElem?_map,List.getElem?_eq_getElem h,List.getD_eq_getElem?_getD,List.getElem?_eq_getElem h]; rfl
theorem cell_eq (ns:List Int) {k:Int} (h:0 <= k):G_Lcell [S ns,.int k]=.ok (.int (M.cell ns k)):=by
 refine run_rt (τ := [some (S ns),some (.int k)]) rfl rfl ?_
 have v0:eVar 0 [some (S ns),some (.int k)]=.ok (S ns):=var_frz rfl (pure_ints ns)
 have l0:=len_ok v0
 rw [List.length_map] at l0
 have t:=lti_ok (f:=eVar 1) (a:=k) rfl l0
 unfold g_Lcell
 by_cases h1:k < ns.length
 ·rw [decide_eq_true h1] at t
  exact if_rt t (ret_rt (ix_ok v0 (y := .int k) rfl (ix_lst (j:=k.toNat) (by omega) (at_ints (by omega)))) rfl)
 ·rw [decide_eq_false h1] at t
  rw [if_go t,cell_out h1]
  rfl
theorem many_eq (c:Int):G_Lmany [.int c]=.ok (.int (M.many c)):=by
 refine run_rt (τ := [some (.int c)]) rfl rfl ?_
 have t:=eqi_ok (τ := [some (.int c)]) (mod_ok (fdiv_ok (f:=eVar 0) (a:=c) rfl (by decide:(0:Int) < 9/\(9:Int) < 1073741824)) (by decide:(0:Int) < 8)) (g:=eC (.int 1)) (b:=1) rfl
 unfold g_Lmany M.many
 by_cases h1:c / 9 % 8=1
 ·rw [decide_eq_true h1] at t
  rw [if_pos h1]
  exact if_rt t (ret_rt (add_ok (f:=eC (.int 1)) (a:=1) rfl (mod_ok (fdiv_ok (f:=eVar 0) (a:=c) rfl (by decide:(0:Int) < 72/\(72:Int) < 1073741824)) (by decide:(0:Int) < 24))) rfl)
 ·rw [decide_eq_false h1] at t
  rw [if_go t,if_neg h1]
  exact ret_rt (add_ok (f:=eC (.int 1)) (a:=1) rfl (mod_ok (f:=eVar 0) (a:=c) rfl (by decide:(0:Int) < 9))) rfl
def stP (ns:List Int) (a:Int) (n i:Nat):SD := [some (S ns),some (.int a),some (.int n),some (.int (M.cell ns a)),some (.int (M.cell ns (a + 1))),some (.int (M.place big ns a i)),some (.lst .own ((M.places big ns a i).map D.int)),if i=0 then none else some (.int ((i:Int) - 1))]
theorem places_succ (ns:List Int) (a:Int) (i:Nat):M.places big ns a (i + 1)=M.places big ns a i ++ [M.place big ns a i]:=by
 unfold M.places
 rw [List.range_succ,List.map_append]
 rfl
theorem gap_ix (ns:List Int) (a:Int):ixD (.lst .own [.int 1,.int 3,.int (10 ^ 29)]) (.int (M.cell ns (a + 1) % 3))=.ok (.int (M.gap ns a)):=by
 unfold M.gap
 have h:M.cell ns (a + 1) % 3=0 ∨ M.cell ns (a + 1) % 3=1 ∨ M.cell ns (a + 1) % 3=2:=by omega
 rcases h with h | h | h <;> rw [h] <;> rfl
theorem places_turn (ns:List Int) {a:Int}{n i:Nat} (hi:i < 64) (o:Option D):g_Lplaces_b1 [some (S ns),some (.int a),some (.int n),some (.int (M.cell ns a)),some (.int (M.cell ns (a + 1))),some (.int (M.place big ns a i)),some (.lst .own ((M.places big ns a i).map D.int)),some (.int (i:Int))]=.nx (stP ns a n (i + 1)):=by
 unfold g_Lplaces_b1
 rw [seq_nx (app_nx (i:=6) (xs:=(M.places big ns a i).map D.int) (d := .int (M.place big ns a i)) rfl rfl rfl (by rw [List.length_map,M.places_len]; omega))]
 show sSet 5 _ [some (S ns),some (.int a),some (.int n),some (.int (M.cell ns a)),some (.int (M.cell ns (a + 1))),some (.int (M.place big ns a i)),some (.lst .own ((M.places big ns a i).map D.int ++ [.int (M.place big ns a i)])),some (.int (i:Int))]=_
 generalize hτ:[some (S ns),some (.int a),some (.int n),some (.int (M.cell ns a)),some (.int (M.cell ns (a + 1))),some (.int (M.place big ns a i)),some (.lst .own ((M.places big ns a i).map D.int ++ [.int (M.place big ns a i)])),some (.int (i:Int))]=τ
 have v4:eVar 4 τ=.ok (.int (M.cell ns (a + 1))):=by rw [<- hτ]; rfl
 have v5:eVar 5 τ=.ok (.int (M.place big ns a i)):=by rw [<- hτ]; rfl
 have v7:eVar 7 τ=.ok (.int (i:Int)):=by rw [<- hτ]; rfl
 have q1:eBin fdivD (eVar 4) (eBin addD (eVar 7) (eC (.int 1))) τ=.ok (.int (M.cell ns (a + 1) / ((i:Int) + 1))):=by
  rw [eBin_ok v4 (add_ok v7 (g:=eC (.int 1)) (b:=1) rfl)]
  show (if (0:Int) < (i:Int) + 1/\(i:Int) + 1 < 1073741824 then _ else _)=_
  exact if_pos (by omega)
 have q2:eBin ixD (eA lstD (aCons (eC (.int 1)) (aCons (eC (.int 3)) (aCons (eBin powD (eC (.int 10)) (eC (.int 29))) aNil)))) (eBin modD (eVar 4) (eC (.int 3))) τ=.ok (.int (M.gap ns a)) :=
  ix_ok (x := .lst .own [.int 1,.int 3,.int (10 ^ 29)]) rfl (mod_ok v4 (by decide:(0:Int) < 3)) (gap_ix ns a)
 rw [set_nx (add_ok (add_ok v5 (g:=eC (.int 1)) (b:=1) rfl) ((eBin_ok q1 q2).trans (mod_pos (M.gap_pos ns a)))) rfl,<- hτ]
 unfold stP
 rw [places_succ,List.map_append,if_neg (Nat.succ_ne_zero i)]
 have e:(((i + 1:Nat):Int) - 1)=i:=by omega
 rw [e]
 rfl
theorem places_loop (ns:List Int) {a:Int}{n:Nat} (hn:n <= 64):forD (gN 7) g_Lplaces_b1 ((List.range n).map fun k:Nat=>D.int (k:Int)) (stP ns a n 0)=.nx (stP ns a n n):=by
 have key:=forD_eq (tg:=gN 7) (body:=g_Lplaces_b1) (stP ns a n) (ds:=(List.range n).map fun k:Nat=>D.int (k:Int)) 0 fun j d hd=>by
  have hj:j < n:=by
   have:=(List.getElem?_eq_some_iff.mp hd).1
   simpa using this
  have ed:d=.int (j:Int):=by
   rw [List.getElem?_map,List.getElem?_range hj] at hd
   exact (Option.some.inj hd).symm
  subst ed
  rw [Nat.zero_add]
  exact ⟨_,rfl,places_turn ns (by omega) none⟩
 rw [List.length_map,List.length_range,Nat.zero_add] at key
 exact key
theorem places_s3 (ns:List Int) {a:Int}{n:Nat}:(sIf (eT (eBin eqD (eBin modD (eVar 3) (eC (.int 2))) (eC (.int 1)))) (sSet 5 (eBin modD (eBin fdivD (eVar 3) (eC (.int 2))) (eBin powD (eC (.int 10)) (eC (.int 30))))) sNext) [some (S ns),some (.int a),some (.int n),some (.int (M.cell ns a)),some (.int (M.cell ns (a + 1))),some (.int (M.cell ns a / 2 % 4)),none,none]=.nx [some (S ns),some (.int a),some (.int n),some (.int (M.cell ns a)),some (.int (M.cell ns (a + 1))),some (.int (M.place big ns a 0)),none,none]:=by
 have e3:=M.place_zero big ns a
 rw [e3]
 have t:=eqi_ok (τ := [some (S ns),some (.int a),some (.int n),some (.int (M.cell ns a)),some (.int (M.cell ns (a + 1))),some (.int (M.cell ns a / 2 % 4)),none,none]) (mod_ok (f:=eVar 3) (a:=M.cell ns a) rfl (by decide:(0:Int) < 2)) (g:=eC (.int 1)) (b:=1) rfl
 by_cases h1:M.cell ns a % 2=1
 ·rw [decide_eq_true h1] at t
  rw [if_pos h1,if_t t]
  exact set_nx ((eBin_ok (fdiv_ok (f:=eVar 3) (a:=M.cell ns a) rfl (by decide:(0:Int) < 2/\(2:Int) < 1073741824)) (bigE _)).trans (mod_big _)) rfl
 ·rw [decide_eq_false h1] at t
  rw [if_neg h1,if_f t]
  rfl
theorem places_s5 (ns:List Int) {a:Int}{n:Nat} (hn:n <= 64):sFor [] (eRng1 (aCons (eVar 2) aNil)) (gN 7) g_Lplaces_b1 (stP ns a n 0)=.nx (stP ns a n n):=by
 have hi:eRng1 (aCons (eVar 2) aNil) (stP ns a n 0)=.ok (false,(List.range n).map fun k:Nat=>D.int (k:Int)):=by
  unfold eRng1
  rw [aOne (d := .int n) rfl,Res.bind_ok,range1_nat (by omega)]
 unfold sFor
 rw [show frzAt [] (stP ns a n 0)=stP ns a n 0 from rfl,hi]
 have:frzL ((List.range n).map fun k:Nat=>D.int (k:Int))=(List.range n).map fun k:Nat=>D.int (k:Int):=frzL_ints _ _
 simp only [this]
 exact places_loop ns (a:=a) hn
theorem places_eq (ns:List Int) {a:Int}{n:Nat} (ha:0 <= a) (hn:n <= 64):G_Lplaces [S ns,.int a,.int n]=.ok (.lst .own ((M.places big ns a n).map D.int)):=by
 refine run_rt (τ := [some (S ns),some (.int a),some (.int n),none,none,none,none,none]) rfl rfl ?_
 have cc:∀ {τ:SD}{f:SD->Res D}{k:Int},τ[0]?=some (some (S ns))->f τ=.ok (.int k)->0 <= k->eCall G_Lcell (aCons (eVar 0) (aCons f aNil)) τ=.ok (.int (M.cell ns k)):=fun h hf hk =>
  eCall_own (ds := [S ns,.int _]) (aCons_ok (var_frz h (pure_ints ns)) (aOne hf)) (by simpa [frzL,D.frz] using cell_eq ns hk) (by simp [hasBorL,D.hasBor])
 unfold g_Lplaces
 rw [seq_nx (set_nx (cc (f:=eVar 1) rfl rfl ha) rfl)]
 rw [seq_nx (set_nx (cc rfl (add_ok (f:=eVar 1) (a:=a) rfl (g:=eC (.int 1)) (b:=1) rfl) (by omega)) rfl)]
 rw [seq_nx (set_nx (mod_ok (fdiv_ok (f:=eVar 3) (a:=M.cell ns a) rfl (by decide:(0:Int) < 2/\(2:Int) < 1073741824)) (by decide:(0:Int) < 4)) rfl)]
 show sSeq _ _ [some (S ns),some (.int a),some (.int n),some (.int (M.cell ns a)),some (.int (M.cell ns (a + 1))),some (.int (M.cell ns a / 2 % 4)),none,none]=_
 rw [seq_nx (places_s3 ns)]
 rw [seq_nx (set_nx (d := .lst .own []) rfl rfl)]
 show sSeq _ _ (stP ns a n 0)=_
 exact (seq_nx (places_s5 ns (a:=a) hn)).trans rfl
theorem maxI_pos (x:Int):0 < M.maxI 1 x:=by
 unfold M.maxI
 split <;> omega
theorem mix_eq (ns:List Int) {a k:Int} (ha:0 <= a) (hk:0 <= k):G_Lmix [S ns,.int a,.int k]=.ok (.int (M.mix ns a k)):=by
 have h1:=maxI_pos ((ns.length:Int) - a)
 have h2:0 <= a + k % M.maxI 1 ((ns.length:Int) - a):=Int.add_nonneg ha (Int.emod_nonneg _ (by omega))
 have c1:CMulD (M.cell ns (a + k % M.maxI 1 ((ns.length:Int) - a))) 48271:=mul_r (by decide)
 have c2:CMulD k 16807:=mul_r (by decide)
 have e:=cell_eq ns h2
 unfold M.maxI at *
 simp [G_Lmix,g_Lmix,runF,sSeq,sIf,sSet,sRet,sRetV,sNext,sExpr,sApp,sRev,sFrz,sDput,sFor,sNever,eT,eBin,eVar,eC,eA,eUn,eAnd,eNot,eIf,eCut,eP,eP0,eIt,eRng1,eEnum,eCall,callD,eDict,eComp,aCons,aNil,bNot,bAnd,bOr,bTrue,lenD,max2D,min2D,listD,tupleD,tupD,lstD,itemsD,enumD,ii0,iiD,L2.CDiv,L2.CPow,addD,eqD,neD,ofO,eqFlat,isND,asB,negD,D.view,viewL,Tg.view,D.frz,frzL,D.hasBor,hasBorL,D.hasOwn,hasOwnL,D.toBor,toBorL,Tg.toBor,setD,D.unbor,unborL,Tg.unbor,D.pure,pureL,ownL,ownDc,gN,gT,gsCons,gsNil,instD,D.isExc,isB,isI,isL,isTp,frzAt,capD,capOwn,sortedD,cutD,dgetD,keyK,keyF,keyFs,KT.kind,ixD,frzL_ints,h1,e,c1,c2,M.mix,M.maxI]
theorem three_at {x y z:Int}{i:Int} (h0:0 <= i) (h1:i < 3) (hx:0 <= x) (hy:0 <= y) (hz:0 <= z):∃ v,0 <= v/\L2.atI [D.int x,D.int y,D.int z] i=some (.int v):=by
 have h:i=0 ∨ i=1 ∨ i=2:=by omega
 rcases h with h | h | h
 ·exact ⟨x,hx,by rw [h]; rfl⟩
 ·exact ⟨y,hy,by rw [h]; rfl⟩
 ·exact ⟨z,hz,by rw [h]; rfl⟩
def NnD (d:D):Prop := ∃ v:Int,0 <= v/\d=.int v
def RtNn (r:Fl):Prop := ∃ v:Int,0 <= v/\r=.rt (.int v)
theorem shade_ex (ns:List Int) {a k j:Int} (ha:0 <= a) (hk:0 <= k) (hk2:k <= 24) (hj:0 <= j) (hj2:j <= 24):∃ v,0 <= v/\G_Lshade [S ns,.int a,.int k,.int j]=.ok (.int v):=by
 have e2:=cell_eq ns (show 0 <= a + 2 by omega)
 have e3:=cell_eq ns (show 0 <= a + 3 by omega)
 have ha4:0 <= a + 4:=by omega
 have m1:=mix_eq ns ha4 (show 0 <= 300 + k by omega)
 have m2:=mix_eq ns ha4 (show 0 <= 300 + j by omega)
 have hkk:0 <= k * (k - 1) / 2:=by
  have:0 <= k * (k - 1):=by
   by_cases h:k=0
   ·rw [h]; decide
   ·exact Int.mul_nonneg hk (by omega)
  omega
 have m3:=mix_eq ns ha4 (show 0 <= k * (k - 1) / 2 + j by omega)
 have n3:=M.mix_nn ns (a + 4) (k * (k - 1) / 2 + j)
 have c1:CMulD k (k - 1):=mul_l (by omega)
 have m4:=fun {x:Int} (h:0 <= x)=>mix_eq ns ha4 h
 have n4:=M.mix_nn ns (a + 4)
 generalize hcell:M.cell ns (a + 2)=hd at *
 generalize M.cell ns (a + 3)=c3 at *
 generalize M.mix ns (a + 4) (300 + k)=x1 at *
 generalize M.mix ns (a + 4) (300 + j)=x2 at *
 generalize M.mix ns (a + 4) (k * (k - 1) / 2 + j)=x3 at *
 have hb:0 < 1 + hd / 4 % 4:=by omega
 have ho0:0 <= x1 / 3 % (1 + hd / 4 % 4):=Int.emod_nonneg _ (by omega)
 have ht0:0 <= x2 / 3 % (1 + hd / 4 % 4):=Int.emod_nonneg _ (by omega)
 suffices h:RtNn (g_Lshade [some (S ns),some (.int a),some (.int k),some (.int j),none,none,none,none,none,none]) by
  obtain ⟨v,hv,e⟩:=h
  refine ⟨v,hv,?_⟩
  simp [G_Lshade,runF,List.replicate,e]
 unfold g_Lshade
 refine seq_set RtNn (.int hd) (by simp [runF,sSeq,sIf,sSet,sRet,sRetV,sNext,sExpr,sApp,sRev,sFrz,sDput,sFor,sNever,eT,eBin,eVar,eC,eA,eUn,eAnd,eNot,eIf,eCut,eP,eP0,eIt,eRng1,eEnum,eCall,callD,eDict,eComp,aCons,aNil,bNot,bAnd,bOr,bTrue,lenD,max2D,min2D,listD,tupleD,tupD,lstD,itemsD,enumD,ii0,iiD,L2.CDiv,L2.CPow,addD,eqD,neD,ofO,eqFlat,isND,asB,negD,D.view,viewL,Tg.view,D.frz,frzL,D.hasBor,hasBorL,D.hasOwn,hasOwnL,D.toBor,toBorL,Tg.toBor,setD,D.unbor,unborL,Tg.unbor,D.pure,pureL,ownL,ownDc,gN,gT,gsCons,gsNil,instD,D.isExc,isB,isI,isL,isTp,frzAt,capD,capOwn,sortedD,cutD,dgetD,keyK,keyF,keyFs,KT.kind,ixD,frzL_ints,e2]) rfl ?_
 refine seq_set RtNn (.int (1 + hd / 4 % 4)) (by simp [runF,sSeq,sIf,sSet,sRet,sRetV,sNext,sExpr,sApp,sRev,sFrz,sDput,sFor,sNever,eT,eBin,eVar,eC,eA,eUn,eAnd,eNot,eIf,eCut,eP,eP0,eIt,eRng1,eEnum,eCall,callD,eDict,eComp,aCons,aNil,bNot,bAnd,bOr,bTrue,lenD,max2D,min2D,listD,tupleD,tupD,lstD,itemsD,enumD,ii0,iiD,L2.CDiv,L2.CPow,addD,eqD,neD,ofO,eqFlat,isND,asB,negD,D.view,viewL,Tg.view,D.frz,frzL,D.hasBor,hasBorL,D.hasOwn,hasOwnL,D.toBor,toBorL,Tg.toBor,setD,D.unbor,unborL,Tg.unbor,D.pure,pureL,ownL,ownDc,gN,gT,gsCons,gsNil,instD,D.isExc,isB,isI,isL,isTp,frzAt,capD,capOwn,sortedD,cutD,dgetD,keyK,keyF,keyFs,KT.kind,ixD,frzL_ints]) rfl ?_
 refine seq_set RtNn (.int (x1 / 3 % (1 + hd / 4 % 4))) (by simp [runF,sSeq,sIf,sSet,sRet,sRetV,sNext,sExpr,sApp,sRev,sFrz,sDput,sFor,sNever,eT,eBin,eVar,eC,eA,eUn,eAnd,eNot,eIf,eCut,eP,eP0,eIt,eRng1,eEnum,eCall,callD,eDict,eComp,aCons,aNil,bNot,bAnd,bOr,bTrue,lenD,max2D,min2D,listD,tupleD,tupD,lstD,itemsD,enumD,ii0,iiD,L2.CDiv,L2.CPow,addD,eqD,neD,ofO,eqFlat,isND,asB,negD,D.view,viewL,Tg.view,D.frz,frzL,D.hasBor,hasBorL,D.hasOwn,hasOwnL,D.toBor,toBorL,Tg.toBor,setD,D.unbor,unborL,Tg.unbor,D.pure,pureL,ownL,ownDc,gN,gT,gsCons,gsNil,instD,D.isExc,isB,isI,isL,isTp,frzAt,capD,capOwn,sortedD,cutD,dgetD,keyK,keyF,keyFs,KT.kind,ixD,frzL_ints,m1,hb]) rfl ?_
 refine seq_set RtNn (.int (x2 / 3 % (1 + hd / 4 % 4))) (by simp [runF,sSeq,sIf,sSet,sRet,sRetV,sNext,sExpr,sApp,sRev,sFrz,sDput,sFor,sNever,eT,eBin,eVar,eC,eA,eUn,eAnd,eNot,eIf,eCut,eP,eP0,eIt,eRng1,eEnum,eCall,callD,eDict,eComp,aCons,aNil,bNot,bAnd,bOr,bTrue,lenD,max2D,min2D,listD,tupleD,tupD,lstD,itemsD,enumD,ii0,iiD,L2.CDiv,L2.CPow,addD,eqD,neD,ofO,eqFlat,isND,asB,negD,D.view,viewL,Tg.view,D.frz,frzL,D.hasBor,hasBorL,D.hasOwn,hasOwnL,D.toBor,toBorL,Tg.toBor,setD,D.unbor,unborL,Tg.unbor,D.pure,pureL,ownL,ownDc,gN,gT,gsCons,gsNil,instD,D.isExc,isB,isI,isL,isTp,frzAt,capD,capOwn,sortedD,cutD,dgetD,keyK,keyF,keyFs,KT.kind,ixD,frzL_ints,m2,hb]) rfl ?_
 generalize x1 / 3 % (1 + hd / 4 % 4)=one at *
 generalize x2 / 3 % (1 + hd / 4 % 4)=other at *
 refine seq_set RtNn (.int (x3 / 5)) (by simp [runF,sSeq,sIf,sSet,sRet,sRetV,sNext,sExpr,sApp,sRev,sFrz,sDput,sFor,sNever,eT,eBin,eVar,eC,eA,eUn,eAnd,eNot,eIf,eCut,eP,eP0,eIt,eRng1,eEnum,eCall,callD,eDict,eComp,aCons,aNil,bNot,bAnd,bOr,bTrue,lenD,max2D,min2D,listD,tupleD,tupD,lstD,itemsD,enumD,ii0,iiD,L2.CDiv,L2.CPow,addD,eqD,neD,ofO,eqFlat,isND,asB,negD,D.view,viewL,Tg.view,D.frz,frzL,D.hasBor,hasBorL,D.hasOwn,hasOwnL,D.toBor,toBorL,Tg.toBor,setD,D.unbor,unborL,Tg.unbor,D.pure,pureL,ownL,ownDc,gN,gT,gsCons,gsNil,instD,D.isExc,isB,isI,isL,isTp,frzAt,capD,capOwn,sortedD,cutD,dgetD,keyK,keyF,keyFs,KT.kind,ixD,frzL_ints,m3,c1]) rfl ?_
 refine seq_ifset RtNn NnD ⟨decide (hd % 4 < 2) && !decide (one=other),by by_cases q:hd % 4 < 2 <;> simp [runF,sSeq,sIf,sSet,sRet,sRetV,sNext,sExpr,sApp,sRev,sFrz,sDput,sFor,sNever,eT,eBin,eVar,eC,eA,eUn,eAnd,eNot,eIf,eCut,eP,eP0,eIt,eRng1,eEnum,eCall,callD,eDict,eComp,aCons,aNil,bNot,bAnd,bOr,bTrue,lenD,max2D,min2D,listD,tupleD,tupD,lstD,itemsD,enumD,ii0,iiD,L2.CDiv,L2.CPow,addD,eqD,neD,ofO,eqFlat,isND,asB,negD,D.view,viewL,Tg.view,D.frz,frzL,D.hasBor,hasBorL,D.hasOwn,hasOwnL,D.toBor,toBorL,Tg.toBor,setD,D.unbor,unborL,Tg.unbor,D.pure,pureL,ownL,ownDc,gN,gT,gsCons,gsNil,instD,D.isExc,isB,isI,isL,isTp,frzAt,capD,capOwn,sortedD,cutD,dgetD,keyK,keyF,keyFs,KT.kind,ixD,frzL_ints,q],fun _=>?_⟩ ⟨.int (x3 / 5),rfl,_,by omega,rfl⟩ ?_
 ·have hx:0 <= 400 + 4 * (if other > one then other else one) + (if other < one then other else one):=by split <;> split <;> omega
  have c2:CMulD 4 (if other > one then other else one):=mul_l (by decide)
  refine ⟨.int (M.mix ns (a + 4) (400 + 4 * (if other > one then other else one) + (if other < one then other else one)) / 5),by simp [runF,sSeq,sIf,sSet,sRet,sRetV,sNext,sExpr,sApp,sRev,sFrz,sDput,sFor,sNever,eT,eBin,eVar,eC,eA,eUn,eAnd,eNot,eIf,eCut,eP,eP0,eIt,eRng1,eEnum,eCall,callD,eDict,eComp,aCons,aNil,bNot,bAnd,bOr,bTrue,lenD,max2D,min2D,listD,tupleD,tupD,lstD,itemsD,enumD,ii0,iiD,L2.CDiv,L2.CPow,addD,eqD,neD,ofO,eqFlat,isND,asB,negD,D.view,viewL,Tg.view,D.frz,frzL,D.hasBor,hasBorL,D.hasOwn,hasOwnL,D.toBor,toBorL,Tg.toBor,setD,D.unbor,unborL,Tg.unbor,D.pure,pureL,ownL,ownDc,gN,gT,gsCons,gsNil,instD,D.isExc,isB,isI,isL,isTp,frzAt,capD,capOwn,sortedD,cutD,dgetD,keyK,keyF,keyFs,KT.kind,ixD,frzL_ints,m4 hx,c2],rfl,_,?_,rfl⟩
  have:=n4 (400 + 4 * (if other > one then other else one) + (if other < one then other else one))
  omega
 ·rintro _ ⟨v1,hv1,rfl⟩
  refine seq_ifset RtNn NnD ⟨decide (hd % 4=1) && decide (k * (k - 1) / 2 + j=hd / 32 % 36),by by_cases q:hd % 4=1 <;> simp [runF,sSeq,sIf,sSet,sRet,sRetV,sNext,sExpr,sApp,sRev,sFrz,sDput,sFor,sNever,eT,eBin,eVar,eC,eA,eUn,eAnd,eNot,eIf,eCut,eP,eP0,eIt,eRng1,eEnum,eCall,callD,eDict,eComp,aCons,aNil,bNot,bAnd,bOr,bTrue,lenD,max2D,min2D,listD,tupleD,tupD,lstD,itemsD,enumD,ii0,iiD,L2.CDiv,L2.CPow,addD,eqD,neD,ofO,eqFlat,isND,asB,negD,D.view,viewL,Tg.view,D.frz,frzL,D.hasBor,hasBorL,D.hasOwn,hasOwnL,D.toBor,toBorL,Tg.toBor,setD,D.unbor,unborL,Tg.unbor,D.pure,pureL,ownL,ownDc,gN,gT,gsCons,gsNil,instD,D.isExc,isB,isI,isL,isTp,frzAt,capD,capOwn,sortedD,cutD,dgetD,keyK,keyF,keyFs,KT.kind,ixD,frzL_ints,q,c1],fun _=>⟨.int (v1 + 1),by simp [runF,sSeq,sIf,sSet,sRet,sRetV,sNext,sExpr,sApp,sRev,sFrz,sDput,sFor,sNever,eT,eBin,eVar,eC,eA,eUn,eAnd,eNot,eIf,eCut,eP,eP0,eIt,eRng1,eEnum,eCall,callD,eDict,eComp,aCons,aNil,bNot,bAnd,bOr,bTrue,lenD,max2D,min2D,listD,tupleD,tupD,lstD,itemsD,enumD,ii0,iiD,L2.CDiv,L2.CPow,addD,eqD,neD,ofO,eqFlat,isND,asB,negD,D.view,viewL,Tg.view,D.frz,frzL,D.hasBor,hasBorL,D.hasOwn,hasOwnL,D.toBor,toBorL,Tg.toBor,setD,D.unbor,unborL,Tg.unbor,D.pure,pureL,ownL,ownDc,gN,gT,gsCons,gsNil,instD,D.isExc,isB,isI,isL,isTp,frzAt,capD,capOwn,sortedD,cutD,dgetD,keyK,keyF,keyFs,KT.kind,ixD,frzL_ints],rfl,_,by omega,rfl⟩⟩ ⟨.int v1,rfl,_,hv1,rfl⟩ ?_
  rintro _ ⟨v2,hv2,rfl⟩
  refine seq_ifret RtNn ⟨decide (hd % 4=2) && decide (hd / 4 % 2=1),by by_cases q:hd % 4=2 <;> simp [runF,sSeq,sIf,sSet,sRet,sRetV,sNext,sExpr,sApp,sRev,sFrz,sDput,sFor,sNever,eT,eBin,eVar,eC,eA,eUn,eAnd,eNot,eIf,eCut,eP,eP0,eIt,eRng1,eEnum,eCall,callD,eDict,eComp,aCons,aNil,bNot,bAnd,bOr,bTrue,lenD,max2D,min2D,listD,tupleD,tupD,lstD,itemsD,enumD,ii0,iiD,L2.CDiv,L2.CPow,addD,eqD,neD,ofO,eqFlat,isND,asB,negD,D.view,viewL,Tg.view,D.frz,frzL,D.hasBor,hasBorL,D.hasOwn,hasOwnL,D.toBor,toBorL,Tg.toBor,setD,D.unbor,unborL,Tg.unbor,D.pure,pureL,ownL,ownDc,gN,gT,gsCons,gsNil,instD,D.isExc,isB,isI,isL,isTp,frzAt,capD,capOwn,sortedD,cutD,dgetD,keyK,keyF,keyFs,KT.kind,ixD,frzL_ints,q],fun _=>⟨.int (v2 % 100000000),by simp [runF,sSeq,sIf,sSet,sRet,sRetV,sNext,sExpr,sApp,sRev,sFrz,sDput,sFor,sNever,eT,eBin,eVar,eC,eA,eUn,eAnd,eNot,eIf,eCut,eP,eP0,eIt,eRng1,eEnum,eCall,callD,eDict,eComp,aCons,aNil,bNot,bAnd,bOr,bTrue,lenD,max2D,min2D,listD,tupleD,tupD,lstD,itemsD,enumD,ii0,iiD,L2.CDiv,L2.CPow,addD,eqD,neD,ofO,eqFlat,isND,asB,negD,D.view,viewL,Tg.view,D.frz,frzL,D.hasBor,hasBorL,D.hasOwn,hasOwnL,D.toBor,toBorL,Tg.toBor,setD,D.unbor,unborL,Tg.unbor,D.pure,pureL,ownL,ownDc,gN,gT,gsCons,gsNil,instD,D.isExc,isB,isI,isL,isTp,frzAt,capD,capOwn,sortedD,cutD,dgetD,keyK,keyF,keyFs,KT.kind,ixD,frzL_ints],_,Int.emod_nonneg _ (by decide),rfl⟩,fun _=>?_⟩
  have big0:0 <= c3 % big:=Int.emod_nonneg _ (by have:=big_pos; omega)
  refine seq_set RtNn (.lst .own [.int 0,.int (1 + c3 % big),.int (c3 / 9 % 5)]) ?_ rfl ?_
  ·have q1:eBin addD (eC (.int 1)) (eBin modD (eCall G_Lcell (aCons (eVar 0) (aCons (eBin addD (eVar 1) (eC (.int 3))) aNil))) (eBin powD (eC (.int 10)) (eC (.int 30)))) [some (S ns),some (.int a),some (.int k),some (.int j),some (.int hd),some (.int (1 + hd / 4 % 4)),some (.int one),some (.int other),some (.int v2),none]=.ok (.int (1 + c3 % big)) :=
    eBin_ok (x := .int 1) rfl ((eBin_ok (x := .int c3) (by simp [runF,sSeq,sIf,sSet,sRet,sRetV,sNext,sExpr,sApp,sRev,sFrz,sDput,sFor,sNever,eT,eBin,eVar,eC,eA,eUn,eAnd,eNot,eIf,eCut,eP,eP0,eIt,eRng1,eEnum,eCall,callD,eDict,eComp,aCons,aNil,bNot,bAnd,bOr,bTrue,lenD,max2D,min2D,listD,tupleD,tupD,lstD,itemsD,enumD,ii0,iiD,L2.CDiv,L2.CPow,addD,eqD,neD,ofO,eqFlat,isND,asB,negD,D.view,viewL,Tg.view,D.frz,frzL,D.hasBor,hasBorL,D.hasOwn,hasOwnL,D.toBor,toBorL,Tg.toBor,setD,D.unbor,unborL,Tg.unbor,D.pure,pureL,ownL,ownDc,gN,gT,gsCons,gsNil,instD,D.isExc,isB,isI,isL,isTp,frzAt,capD,capOwn,sortedD,cutD,dgetD,keyK,keyF,keyFs,KT.kind,ixD,frzL_ints,e3]) (bigE _)).trans (mod_big _))
   simp only [eA,aCons,List.set_cons_succ,List.set_cons_zero]
   rw [q1]
   simp [runF,sSeq,sIf,sSet,sRet,sRetV,sNext,sExpr,sApp,sRev,sFrz,sDput,sFor,sNever,eT,eBin,eVar,eC,eA,eUn,eAnd,eNot,eIf,eCut,eP,eP0,eIt,eRng1,eEnum,eCall,callD,eDict,eComp,aCons,aNil,bNot,bAnd,bOr,bTrue,lenD,max2D,min2D,listD,tupleD,tupD,lstD,itemsD,enumD,ii0,iiD,L2.CDiv,L2.CPow,addD,eqD,neD,ofO,eqFlat,isND,asB,negD,D.view,viewL,Tg.view,D.frz,frzL,D.hasBor,hasBorL,D.hasOwn,hasOwnL,D.toBor,toBorL,Tg.toBor,setD,D.unbor,unborL,Tg.unbor,D.pure,pureL,ownL,ownDc,gN,gT,gsCons,gsNil,instD,D.isExc,isB,isI,isL,isTp,frzAt,capD,capOwn,sortedD,cutD,dgetD,keyK,keyF,keyFs,KT.kind,ixD,frzL_ints,e3]
  ·have hm:0 < 2 + hd / 16 % 2:=by omega
   obtain ⟨v,hv,e⟩:=three_at (x:=0) (y:=1 + c3 % big) (z:=c3 / 9 % 5) (i:=v2 % (2 + hd / 16 % 2)) (Int.emod_nonneg _ (by omega)) (by have:=Int.emod_lt_of_pos v2 hm; omega) (by decide) (by omega) (by omega)
   exact ⟨v,hv,by simp [runF,sSeq,sIf,sSet,sRet,sRetV,sNext,sExpr,sApp,sRev,sFrz,sDput,sFor,sNever,eT,eBin,eVar,eC,eA,eUn,eAnd,eNot,eIf,eCut,eP,eP0,eIt,eRng1,eEnum,eCall,callD,eDict,eComp,aCons,aNil,bNot,bAnd,bOr,bTrue,lenD,max2D,min2D,listD,tupleD,tupD,lstD,itemsD,enumD,ii0,iiD,L2.CDiv,L2.CPow,addD,eqD,neD,ofO,eqFlat,isND,asB,negD,D.view,viewL,Tg.view,D.frz,frzL,D.hasBor,hasBorL,D.hasOwn,hasOwnL,D.toBor,toBorL,Tg.toBor,setD,D.unbor,unborL,Tg.unbor,D.pure,pureL,ownL,ownDc,gN,gT,gsCons,gsNil,instD,D.isExc,isB,isI,isL,isTp,frzAt,capD,capOwn,sortedD,cutD,dgetD,keyK,keyF,keyFs,KT.kind,ixD,frzL_ints,hm,e]⟩
def sh (ns:List Int) (k j:Nat):Int:=by
 classical
 exact if h:k <= 24/\j <= 24 then (shade_ex ns (a:=1) (k:=k) (j:=j) (by decide) (by omega) (by omega) (by omega) (by omega)).choose else 0
theorem sh_nn (ns:List Int) (k j:Nat):0 <= sh ns k j:=by
 unfold sh
 split
 ·rename_i h
  exact (shade_ex ns (a:=1) (k:=k) (j:=j) (by decide) (by omega) (by omega) (by omega) (by omega)).choose_spec.1
 ·exact Int.le_refl 0
theorem sh_eq (ns:List Int) {k j:Nat} (hk:k <= 24) (hj:j <= 24):G_Lshade [S ns,.int 1,.int k,.int j]=.ok (.int (sh ns k j)):=by
 unfold sh
 rw [dif_pos ⟨hk,hj⟩]
 exact (shade_ex ns (a:=1) (k:=k) (j:=j) (by decide) (by omega) (by omega) (by omega) (by omega)).choose_spec.2
def dN (ns:List Int):N2.Dr where
 pl:=M.place big ns 1
 sh:=sh ns
 dr:=fun k j=>M.mix ns 1 ((k:Int) * 24 + (j:Int))
 mono:=fun h=>M.place_mono ns 1 h
 nn:=sh_nn ns
theorem mem_ints {n:Nat}{d:D} (h:d ∈ (List.range n).map fun k:Nat=>D.int (k:Int)):∃ k:Nat,k < n/\d=.int k:=by
 obtain ⟨k,hk,rfl⟩:=List.mem_map.mp h
 exact ⟨k,List.mem_range.mp hk,rfl⟩
def natOf:D->Nat | .int i=>i.toNat | _=>0
theorem net_row (ns:List Int) {k:Nat} (hk:k < 24):g_Lnet_e2 [some (.int k),some (S ns),some (.int 1)]=.ok (.tup (((List.range k).map fun j=>(dN ns).sh k j).map D.int)):=by
 have hr:=range1_nat (n:=k) (by omega)
 have hc:=eComp_all (it:=eRng1 (aCons (eVar 0) aNil)) (elt:=g_Lnet_e1) (cap := [("_law_script",1),("_law_at",2),("_law_k",0)]) (τ := [some (.int k),some (S ns),some (.int 1)]) (fl:=false) (ds:=(List.range k).map fun k:Nat=>D.int (k:Int)) (fun d=>.int ((dN ns).sh k (natOf d)))
  (by simp [eRng1,aCons,aNil,eVar,D.view,hr]) (fun d hd=>by
   rw [frzL_ints] at hd
   obtain ⟨j,hj,rfl⟩:=mem_ints hd
   refine ⟨?_,rfl⟩
   have e:=sh_eq ns (k:=k) (j:=j) (by omega) (by omega)
   simp [g_Lnet_e1,runF,sSeq,sIf,sSet,sRet,sRetV,sNext,sExpr,sApp,sRev,sFrz,sDput,sFor,sNever,eT,eBin,eVar,eC,eA,eUn,eAnd,eNot,eIf,eCut,eP,eP0,eIt,eRng1,eEnum,eCall,callD,eDict,eComp,aCons,aNil,bNot,bAnd,bOr,bTrue,lenD,max2D,min2D,listD,tupleD,tupD,lstD,itemsD,enumD,ii0,iiD,L2.CDiv,L2.CPow,addD,eqD,neD,ofO,eqFlat,isND,asB,negD,D.view,viewL,Tg.view,D.frz,frzL,D.hasBor,hasBorL,D.hasOwn,hasOwnL,D.toBor,toBorL,Tg.toBor,setD,D.unbor,unborL,Tg.unbor,D.pure,pureL,ownL,ownDc,gN,gT,gsCons,gsNil,instD,D.isExc,isB,isI,isL,isTp,frzAt,capD,capOwn,sortedD,cutD,dgetD,keyK,keyF,keyFs,KT.kind,ixD,frzL_ints,e,natOf,dN]) (by simp; omega)
 unfold g_Lnet_e2
 simp only [eA,aCons,aNil,hc,Res.bind_ok,tupleD,frzL_ints]
 simp [natOf]
theorem net_eq (ns:List Int) {n:Nat} (hn:n <= 24):G_Lnet [S ns,.int 1,.int n]=.ok (netD (N2.places (dN ns) n) (N2.rows (dN ns) n)):=by
 have hr:=range1_nat (n:=n) (by omega)
 have hp:=places_eq ns (a:=1) (n:=n) (by decide) (by omega)
 have hc:=eComp_all (it:=eRng1 (aCons (eVar 2) aNil)) (elt:=g_Lnet_e2) (cap := [("_law_script",0),("_law_at",1)]) (τ := [some (S ns),some (.int 1),some (.int n),none]) (fl:=false) (ds:=(List.range n).map fun k:Nat=>D.int (k:Int)) (fun d=>.tup (((List.range (natOf d)).map fun j=>(dN ns).sh (natOf d) j).map D.int))
  (by simp [eRng1,aCons,aNil,eVar,D.view,hr]) (fun d hd=>by
   rw [frzL_ints] at hd
   obtain ⟨k,hk,rfl⟩:=mem_ints hd
   refine ⟨?_,pure_ints _⟩
   have e:=net_row ns (k:=k) (by omega)
   simpa [capD,D.frz,natOf] using e) (by simp; omega)
 rw [frzL_ints] at hc
 have hpu:pureL (((List.range n).map fun k:Nat=>D.int (k:Int)).map fun d=>D.tup (((List.range (natOf d)).map fun j=>(dN ns).sh (natOf d) j).map D.int))=true:=pureL_of fun d m=>by
  obtain ⟨x,_,rfl⟩:=List.mem_map.mp m
  exact pure_ints _
 suffices h:g_Lnet [some (S ns),some (.int 1),some (.int n),none]=.rt (netD (N2.places (dN ns) n) (N2.rows (dN ns) n)) by
  simp [G_Lnet,runF,List.replicate,h]
 unfold g_Lnet
 have z:netD (N2.places (dN ns) n) (N2.rows (dN ns) n)=.tup [.tup ((M.places big ns 1 n).map D.int),.tup (((List.range n).map fun k:Nat=>D.int (k:Int)).map fun d=>D.tup (((List.range (natOf d)).map fun j=>(dN ns).sh (natOf d) j).map D.int))]:=by
  unfold netD N2.rows
  simp [List.map_map,natOf,Function.comp_def]
  rfl
 have hnp:=net_pure (N2.places (dN ns) n) (N2.rows (dN ns) n)
 rw [z] at hnp ⊢
 generalize (((List.range n).map fun k:Nat=>D.int (k:Int)).map fun d=>D.tup (((List.range (natOf d)).map fun j=>(dN ns).sh (natOf d) j).map D.int))=R at *
 rw [seq_nx (set_nx hc (bor_own hpu))]
 have q1:eCall G_Lplaces (aCons (eVar 0) (aCons (eVar 1) (aCons (eVar 2) aNil))) [some (S ns),some (.int 1),some (.int n),some (.lst .own R)]=.ok (.lst .own ((M.places big ns 1 n).map D.int)):=eCall_own (ds := [S ns,.int 1,.int n]) (by simp [aCons,aNil,eVar,D.view,Tg.view]) (by simpa [frzL,D.frz] using hp) (by simp [hasBorL,D.hasBor])
 have q2:eVar 3 [some (S ns),some (.int 1),some (.int n),some (.lst .own R)]=.ok (.lst .bor R):=var_own rfl hpu
 exact ret_rt ((eA_ok (aCons_ok ((eA_ok (aOne q1)).trans rfl) (aOne ((eA_ok (aOne q2)).trans rfl)))).trans (by simp [tupD])) (hasBor_pure _ hnp)
def kt (k:Int × Int):KT := .inr [.inl k.1,.inl k.2]
theorem kt_inj {a b:Int × Int}:kt a=kt b ↔ a=b:=by
 constructor
 ·intro h
  cases a
  cases b
  simp only [kt,Sum.inr.injEq,List.cons.injEq,Sum.inl.injEq,and_true] at h
  obtain ⟨h1,h2⟩:=h
  subst h1 h2
  rfl
 ·intro h
  rw [h]
def ksOf (ts:List N2.Tie):List KT:=ts.map fun t=>kt (N2.tkey t)
def vsOf (ts:List N2.Tie):List D:=ts.map fun t=>D.int t.2.2
theorem vs_pure (ts:List N2.Tie):pureL (vsOf ts)=true:=pureL_of fun d m=>by obtain ⟨t,_,rfl⟩:=List.mem_map.mp m; rfl
theorem has_none {ts:List N2.Tie}{k:Int × Int} (h:k ∉ ts.map N2.tkey):hasK (ksOf ts) (kt k)=false:=by
 unfold hasK ksOf
 rw [List.any_eq_false]
 intro x hx z
 obtain ⟨t,ht,rfl⟩:=List.mem_map.mp hx
 exact h (List.mem_map.mpr ⟨t,ht,kt_inj.mp (by simpa using z)⟩)
theorem keyK_pair (a b:Int):keyK (.tup [.int a,.int b])=some (kt (a,b)):=rfl
theorem put_nx {i:Nat}{fk fv:SD->Res D}{τ:SD}{k:Bool}{ks:List KT}{xs:List D}{d dk:D}{q:KT} (hv:fv τ=.ok d) (ho:τ[i]?=some (some (.dct .own k ks xs))) (hk:fk τ=.ok dk) (hq:keyK dk=some q) (hc:q.kind=k/\d.hasBor=false/\ks.length < 16777216) (hn:hasK ks q=false) :
  sDput i fk fv τ=.nx (τ.set i (some (.dct .own k (ks ++ [q]) (xs ++ [d])))):=by
 unfold sDput
 have e:ownDc τ i=some (.own,k,ks,xs):=by unfold ownDc; rw [ho]; rfl
 rw [hv,toFl_ok,e]
 show (fk τ).toFl τ _=_
 rw [hk,toFl_ok,hq]
 show (if q.kind=k/\d.hasBor=false/\ks.length < 16777216/\(hasK ks q=true->d.pure=true) then _ else _)=_
 rw [if_pos ⟨hc.1,hc.2.1,hc.2.2,fun z=>absurd (hn.symm.trans z) Bool.false_ne_true⟩]
 unfold putKs putVs
 rw [hn]
 rfl
theorem forD_nx {tg:TGD}{body:SF}{x:D}{r:List D}{τ τ' t:SD} (h1:tg x τ=some τ') (h2:body τ'=.nx t):forD tg body (x :: r) τ=forD tg body r t:=by
 show (match tg x τ with | none=>Fl.bad | some τ'=>match body τ' with | .nx t=>forD tg body r t | .ct t=>forD tg body r t | .bk t=>.nx t | o=>o)=_
 rw [h1]
 show (match body τ' with | .nx t=>forD tg body r t | .ct t=>forD tg body r t | .bk t=>Fl.nx t | o=>o)=_
 rw [h2]
theorem forD_rt {tg:TGD}{body:SF}{x:D}{r:List D}{τ τ':SD}{d:D} (h1:tg x τ=some τ') (h2:body τ'=.rt d):forD tg body (x :: r) τ=.rt d:=by
 show (match tg x τ with | none=>Fl.bad | some τ'=>match body τ' with | .nx t=>forD tg body r t | .ct t=>forD tg body r t | .bk t=>.nx t | o=>o)=_
 rw [h1]
 show (match body τ' with | .nx t=>forD tg body r t | .ct t=>forD tg body r t | .bk t=>Fl.nx t | o=>o)=_
 rw [h2]
theorem in_lst (b:Bool) (x:Int) (t:Tg) (qs:List Int):inD b (.int x) (.lst t (qs.map .int))=.ok (.bl (if b then !decide (x ∈ qs) else decide (x ∈ qs))):=by
 have h1:(qs.map D.int).all D.flat=true:=List.all_eq_true.mpr fun d m=>by
  obtain ⟨q,_,rfl⟩:=List.mem_map.mp m
  rfl
 have h2:inF (.int x) (qs.map D.int)=decide (x ∈ qs):=by
  unfold inF
  rw [Bool.eq_iff_iff,List.any_eq_true,decide_eq_true_eq]
  constructor
  ·rintro ⟨y,hy,e⟩
   obtain ⟨z,hz,rfl⟩:=List.mem_map.mp hy
   have e:z=x:=by first | exact of_decide_eq_true e | exact eq_of_beq e | simpa [eqF] using e
   rw [<- e]
   exact hz
  ·intro h
   exact ⟨.int x,List.mem_map.mpr ⟨x,h,rfl⟩,by first | exact decide_eq_true rfl | exact beq_self_eq_true x | simp [eqF]⟩
 show (if (D.int x).flat=true/\(qs.map D.int).all D.flat=true then Res.ok (D.bl (if b then !inF (.int x) (qs.map .int) else inF (.int x) (qs.map .int))) else .bad)=_
 rw [if_pos ⟨rfl,h1⟩,h2]
theorem notin_lst {f g:SD->Res D}{τ:SD}{x:Int}{t:Tg}{qs:List Int} (h1:f τ=.ok (.int x)) (h2:g τ=.ok (.lst t (qs.map .int))):eT (eBin (inD true) f g) τ=.ok (!decide (x ∈ qs)):=eT_ok ((eBin_ok h1 h2).trans (in_lst true x t qs))
theorem isin_lst {f g:SD->Res D}{τ:SD}{x:Int}{t:Tg}{qs:List Int} (h1:f τ=.ok (.int x)) (h2:g τ=.ok (.lst t (qs.map .int))):eT (eBin (inD false) f g) τ=.ok (decide (x ∈ qs)):=eT_ok ((eBin_ok h1 h2).trans (in_lst false x t qs))
def rowF (f:Nat->Nat->Int) (k:Nat):List Int:=(List.range k).map fun j=>f k j
def rowsF (f:Nat->Nat->Int) (n:Nat):List (List Int):=(List.range n).map (rowF f)
def nF (ps:List Int) (f:Nat->Nat->Int):D:=netD ps (rowsF f ps.length)
theorem nF_pure (ps:List Int) (f:Nat->Nat->Int):(nF ps f).pure=true:=net_pure _ _
abbrev plc (ps:List Int) (k:Nat):Int:=ps.getD k 0
def rowT (ps:List Int) (f:Nat->Nat->Int) (k m:Nat):List N2.Tie:=(List.range m).map fun j=>(plc ps k,plc ps j,f k j)
def tiesF (ps:List Int) (f:Nat->Nat->Int):Nat->List N2.Tie
 | 0=>[]
 | n + 1=>tiesF ps f n ++ rowT ps f n n
theorem rowT_succ (ps:List Int) (f:Nat->Nat->Int) (k m:Nat):rowT ps f k (m + 1)=rowT ps f k m ++ [(plc ps k,plc ps m,f k m)]:=by
 unfold rowT
 rw [List.range_succ,List.map_append]
 rfl
theorem rowT_len (ps:List Int) (f:Nat->Nat->Int) (k m:Nat):(rowT ps f k m).length=m:=by unfold rowT; rw [List.length_map,List.length_range]
theorem tiesF_len (ps:List Int) (f:Nat->Nat->Int):∀ n,(tiesF ps f n).length <= n * n
 | 0=>Nat.le_refl _
 | n + 1=>by
  have:=tiesF_len ps f n
  show (tiesF ps f n ++ rowT ps f n n).length <= _
  rw [List.length_append,rowT_len,Nat.add_mul,Nat.mul_add]
  omega
theorem plc_lt {ps:List Int} (hs:ps.Pairwise (· < ·)) {j k:Nat} (h:j < k) (hk:k < ps.length):plc ps j < plc ps k:=by
 have:=List.pairwise_iff_getElem.mp hs j k (by omega) hk h
 unfold plc
 rw [List.getD_eq_getElem?_getD,List.getD_eq_getElem?_getD,List.getElem?_eq_getElem hk,List.getElem?_eq_getElem (by omega)]
 exact this
theorem key_lt {a b:Int} (h:b < a):N2.keyOf a b=(a,b):=by unfold N2.keyOf; rw [if_pos h]
theorem mem_tiesF {ps:List Int}{f:Nat->Nat->Int}{t:N2.Tie}:∀ {n:Nat},t ∈ tiesF ps f n ↔ ∃ k j,j < k/\k < n/\t=(plc ps k,plc ps j,f k j)
 | 0=>by
  constructor
  ·intro h
   cases h
  ·rintro ⟨k,j,_,h,_⟩
   omega
 | n + 1=>by
  show t ∈ tiesF ps f n ++ rowT ps f n n ↔ _
  rw [List.mem_append,mem_tiesF]
  constructor
  ·rintro (⟨k,j,h1,h2,e⟩ | h)
   ·exact ⟨k,j,h1,by omega,e⟩
   ·obtain ⟨j,hj,e⟩:=List.mem_map.mp h
    exact ⟨n,j,List.mem_range.mp hj,by omega,e.symm⟩
  ·rintro ⟨k,j,h1,h2,e⟩
   by_cases h:k=n
   ·subst h
    exact .inr (List.mem_map.mpr ⟨j,List.mem_range.mpr h1,e.symm⟩)
   ·exact .inl ⟨k,j,h1,by omega,e⟩
theorem key_new {ps:List Int} (hs:ps.Pairwise (· < ·)) (f:Nat->Nat->Int) {k j:Nat} (hj:j < k) (hk:k < ps.length):N2.keyOf (plc ps k) (plc ps j) ∉ (tiesF ps f k ++ rowT ps f k j).map N2.tkey:=by
 rw [key_lt (plc_lt hs hj hk)]
 intro h
 obtain ⟨t,ht,e⟩:=List.mem_map.mp h
 rcases List.mem_append.mp ht with ht | ht
 ·obtain ⟨k',j',h1,h2,rfl⟩:=mem_tiesF.mp ht
  unfold N2.tkey at e
  simp only at e
  rw [key_lt (plc_lt hs h1 (by omega))] at e
  have e1:plc ps k'=plc ps k:=congrArg Prod.fst e
  have:=plc_lt hs h2 hk
  omega
 ·obtain ⟨j',hj',rfl⟩:=List.mem_map.mp ht
  have hj' := List.mem_range.mp hj'
  unfold N2.tkey at e
  simp only at e
  rw [key_lt (plc_lt hs (Nat.lt_trans hj' hj) hk)] at e
  have e1:plc ps j'=plc ps j:=congrArg Prod.snd e
  have:=plc_lt hs hj' (Nat.lt_trans hj hk)
  omega
theorem net0 {ps:List Int}{f:Nat->Nat->Int}{τ:SD}{e:SD->Res D} (h:e τ=.ok (nF ps f)):eBin ixD e (eC (.int 0)) τ=.ok (.tup (ps.map .int)):=ix_ok h (y := .int 0) rfl (ix_tup (j:=0) rfl rfl)
theorem net1 {ps:List Int}{f:Nat->Nat->Int}{τ:SD}{e:SD->Res D} (h:e τ=.ok (nF ps f)):eBin ixD e (eC (.int 1)) τ=.ok (.tup ((rowsF f ps.length).map fun r=>.tup (r.map .int))):=ix_ok h (y := .int 1) rfl (ix_tup (j:=1) rfl rfl)
theorem plc_at {ps:List Int}{j:Nat} (h:j < ps.length):(ps.map D.int)[j]?=some (.int (plc ps j)):=at_ints h
theorem row_at {f:Nat->Nat->Int}{n k:Nat} (h:k < n):((rowsF f n).map fun r=>D.tup (r.map .int))[k]?=some (.tup ((rowF f k).map .int)):=by
 unfold rowsF
 rw [List.getElem?_map,List.getElem?_map,List.getElem?_range h]
 rfl
theorem col_at {f:Nat->Nat->Int}{k j:Nat} (h:j < k):((rowF f k).map D.int)[j]?=some (.int (f k j)):=by
 unfold rowF
 rw [List.getElem?_map,List.getElem?_map,List.getElem?_range h]
 rfl
def coSt (ps:List Int) (f:Nat->Nat->Int) (ts:List N2.Tie) (a b c d:Option D):SD := [some (nF ps f),some (.dct .own true (ksOf ts) (vsOf ts)),a,b,c,d]
theorem co_body {ps:List Int}{f:Nat->Nat->Int}{ts:List N2.Tie}{x y z:Int}{b:Option D} (hk:N2.keyOf x y ∉ ts.map N2.tkey) (hl:ts.length <= 1000) :
  g_colours_of_b1 (coSt ps f ts (some (.int x)) b (some (.int y)) (some (.int z)))=.nx (coSt ps f (ts ++ [(x,y,z)]) (some (.int x)) b (some (.int y)) (some (.int z))):=by
 unfold g_colours_of_b1
 have c2:eCall G_pair (aCons (eVar 2) (aCons (eVar 4) aNil)) (coSt ps f ts (some (.int x)) b (some (.int y)) (some (.int z)))=.ok (.tup [.int (N2.keyOf x y).1,.int (N2.keyOf x y).2]):=eCall_own (ds := [.int x,.int y]) (aCons_ok rfl (aOne rfl)) (pair_eq x y) rfl
 rw [put_nx (d := .int z) (q:=kt (N2.keyOf x y)) (k:=true) (ks:=ksOf ts) (xs:=vsOf ts) rfl rfl c2 rfl ⟨rfl,rfl,by unfold ksOf; rw [List.length_map]; omega⟩ (has_none hk)]
 unfold coSt ksOf vsOf
 rw [List.map_append,List.map_append]
 rfl
theorem zip_row {ps:List Int}{f:Nat->Nat->Int}{k:Nat} (hk:k <= ps.length):zipD (ps.map D.int) ((rowF f k).map D.int)=(List.range k).map fun j=>D.tup [.int (plc ps j),.int (f k j)]:=by
 refine List.ext_getElem? fun i=>?_
 by_cases h:i < k
 ·rw [List.getElem?_map,List.getElem?_range h]
  unfold zipD
  rw [List.getElem?_zipWith,plc_at (by omega),col_at h]
  rfl
 ·rw [List.getElem?_eq_none (by rw [zip_len,List.length_map,List.length_map]; unfold rowF; rw [List.length_map,List.length_range]; omega),List.getElem?_eq_none (by rw [List.length_map,List.length_range]; omega)]
theorem zip_rows {ps:List Int}{f:Nat->Nat->Int}:zipD (ps.map D.int) ((rowsF f ps.length).map fun r=>.tup (r.map .int))=(List.range ps.length).map fun k=>D.tup [.int (plc ps k),.tup ((rowF f k).map .int)]:=by
 refine List.ext_getElem? fun i=>?_
 by_cases h:i < ps.length
 ·rw [List.getElem?_map,List.getElem?_range h]
  unfold zipD
  rw [List.getElem?_zipWith,plc_at h,row_at h]
  rfl
 ·rw [List.getElem?_eq_none (by rw [zip_len,List.length_map,List.length_map]; omega),List.getElem?_eq_none (by rw [List.length_map,List.length_range]; omega)]
theorem pure_zr {ps:List Int}{f:Nat->Nat->Int} (k:Nat):pureL ((List.range k).map fun j=>D.tup [.int (plc ps j),.int (f k j)])=true:=pureL_of fun d m=>by
 obtain ⟨j,_,rfl⟩:=List.mem_map.mp m
 rfl
theorem pure_zrs {ps:List Int}{f:Nat->Nat->Int} (n:Nat):pureL ((List.range n).map fun k=>D.tup [.int (plc ps k),.tup ((rowF f k).map .int)])=true:=pureL_of fun d m=>by
 obtain ⟨k,_,rfl⟩:=List.mem_map.mp m
 show (true && ((pureL ((rowF f k).map .int)) && true))=true
 rw [pure_ints]
 rfl
theorem zip_ok {f g:SD->Res D}{τ:SD}{xs ys:List D}{x y:D} (h1:f τ=.ok x) (h2:g τ=.ok y) (hx:itemsD x=.ok (false,xs)) (hy:itemsD y=.ok (false,ys)):eZip (aCons f (aCons g aNil)) τ=.ok (false,zipD xs ys):=by
 unfold eZip
 rw [aCons_ok h1 (aOne h2),Res.bind_ok]
 show ((itemsD x).bind fun p=>(itemsD y).bind fun q=>Res.ok (p.1 || q.1,zipD p.2 q.2))=_
 rw [hx,Res.bind_ok,hy,Res.bind_ok]
 rfl
theorem items_t {xs:List D} (h:pureL xs=true):itemsD (.tup xs)=.ok (false,xs):=by
 show Res.ok (hasBorL xs,xs)=_
 rw [hasBorL_pure _ h]
theorem items_l {t:Tg}{xs:List D} (ht:t=.frz ∨ t=.own) (h:pureL xs=true):itemsD (.lst t xs)=.ok (false,xs):=by
 show Res.ok ((D.lst t xs).hasBor,xs)=_
 rcases ht with rfl | rfl
 ·show Res.ok ((false || hasBorL xs),xs)=_
  rw [hasBorL_pure _ h]
  rfl
 ·rw [bor_own h]
theorem for_ok {zs:List Nat}{it:SD->Res (Bool × List D)}{tg:TGD}{body:SF}{τ τ':SD}{ds:List D} (h1:frzAt zs τ=τ') (h2:it τ'=.ok (false,ds)) (h3:pureL ds=true):sFor zs it tg body τ=forD tg body ds τ' := by
 unfold sFor
 rw [h1,h2]
 show forD tg body (frzL ds) τ'=_
 rw [frzL_pure _ h3]
theorem co_row {ps:List Int}{f:Nat->Nat->Int} (hs:ps.Pairwise (· < ·)) (hl:ps.length <= 24) {k:Nat} (hk:k < ps.length) (c d:Option D) :
  ∃ c' d',g_colours_of_b2 (coSt ps f (tiesF ps f k) (some (.int (plc ps k))) (some (.tup ((rowF f k).map .int))) c d)=.nx (coSt ps f (tiesF ps f (k + 1)) (some (.int (plc ps k))) (some (.tup ((rowF f k).map .int))) c' d'):=by
 have tl:=tiesF_len ps f k
 have kk:k * k <= 576:=Nat.mul_le_mul (show k <= 24 by omega) (show k <= 24 by omega)
 have v0:eVar 0 (coSt ps f (tiesF ps f k) (some (.int (plc ps k))) (some (.tup ((rowF f k).map .int))) c d)=.ok (nF ps f):=var_pure rfl (nF_pure _ _)
 have v3:eVar 3 (coSt ps f (tiesF ps f k) (some (.int (plc ps k))) (some (.tup ((rowF f k).map .int))) c d)=.ok (.tup ((rowF f k).map .int)):=var_pure rfl (pure_ints _)
 obtain ⟨t,h1,c',d',h2⟩:=forD_inv (tg:=gT 2 (gsCons 4 (gsCons 5 gsNil))) (body:=g_colours_of_b1) (fun i t=>∃ c' d',t=coSt ps f (tiesF ps f k ++ rowT ps f k i) (some (.int (plc ps k))) (some (.tup ((rowF f k).map .int))) c' d') (ds:=(List.range k).map fun j=>D.tup [.int (plc ps j),.int (f k j)]) 0 (coSt ps f (tiesF ps f k) (some (.int (plc ps k))) (some (.tup ((rowF f k).map .int))) c d) ⟨c,d,by rw [show rowT ps f k 0=[] from rfl,List.append_nil]⟩ (fun j x t hx hp=>by
  obtain ⟨c1,d1,rfl⟩:=hp
  rw [Nat.zero_add]
  have hj:j < k:=by
   have:=(List.getElem?_eq_some_iff.mp hx).1
   simpa using this
  rw [List.getElem?_map,List.getElem?_range hj] at hx
  cases hx
  refine ⟨_,_,rfl,.inl (co_body (ts:=tiesF ps f k ++ rowT ps f k j) (key_new hs f hj hk) (by rw [List.length_append,rowT_len]; omega)),some (.int (plc ps j)),some (.int (f k j)),?_⟩
  rw [rowT_succ,List.append_assoc])
 rw [List.length_map,List.length_range,Nat.zero_add] at h2
 refine ⟨c',d',?_⟩
 unfold g_colours_of_b2
 rw [for_ok (τ' := coSt ps f (tiesF ps f k) (some (.int (plc ps k))) (some (.tup ((rowF f k).map .int))) c d) (ds:=(List.range k).map fun j=>D.tup [.int (plc ps j),.int (f k j)]) ?_ ?_ (pure_zr k),h1,h2]
 ·rfl
 ·show [some (nF ps f).frz,_,_,some (D.tup ((rowF f k).map .int)).frz,c,d]=_
  rw [frz_pure _ (nF_pure _ _),frz_pure _ (show (D.tup ((rowF f k).map .int)).pure=true from pure_ints _)]
  rfl
 ·rw [zip_ok (net0 v0) v3 (items_t (pure_ints _)) (items_t (pure_ints _)),zip_row (by omega)]
theorem colours_eq {ps:List Int}{f:Nat->Nat->Int} (hs:ps.Pairwise (· < ·)) (hl:ps.length <= 24):G_colours_of [nF ps f]=.ok (.dct .own true (ksOf (tiesF ps f ps.length)) (vsOf (tiesF ps f ps.length))):=by
 have v0:eVar 0 (coSt ps f [] none none none none)=.ok (nF ps f):=var_pure rfl (nF_pure _ _)
 obtain ⟨t,h1,a,b,c',d',h2⟩:=forD_inv (tg:=gT 2 (gsCons 2 (gsCons 3 gsNil))) (body:=g_colours_of_b2) (fun i t=>∃ a b c d,t=coSt ps f (tiesF ps f i) a b c d) (ds:=(List.range ps.length).map fun k=>D.tup [.int (plc ps k),.tup ((rowF f k).map .int)]) 0 (coSt ps f [] none none none none) ⟨none,none,none,none,rfl⟩ (fun k x t hx hp=>by
  obtain ⟨a,b,c1,d1,rfl⟩:=hp
  rw [Nat.zero_add]
  have hk:k < ps.length:=by
   have:=(List.getElem?_eq_some_iff.mp hx).1
   simpa using this
  rw [List.getElem?_map,List.getElem?_range hk] at hx
  cases hx
  obtain ⟨c',d',e⟩:=co_row (f:=f) hs hl hk c1 d1
  exact ⟨_,_,rfl,.inl e,_,_,c',d',rfl⟩)
 rw [List.length_map,List.length_range,Nat.zero_add] at h2
 have hf:sFor [0] (eZip (aCons (eBin ixD (eVar 0) (eC (.int 0))) (aCons (eBin ixD (eVar 0) (eC (.int 1))) aNil))) (gT 2 (gsCons 2 (gsCons 3 gsNil))) g_colours_of_b2 (coSt ps f [] none none none none)=.nx (coSt ps f (tiesF ps f ps.length) a b c' d'):=by
  rw [for_ok (τ' := coSt ps f [] none none none none) (ds:=(List.range ps.length).map fun k=>D.tup [.int (plc ps k),.tup ((rowF f k).map .int)]) ?_ ?_ (pure_zrs _),h1,h2]
  ·show [some (nF ps f).frz,_,_,_,_,_]=_
   rw [frz_pure _ (nF_pure _ _)]
   rfl
  ·rw [zip_ok (net0 v0) (net1 v0) (items_t (pure_ints _)) (items_t (pure_rows _)),zip_rows]
 refine run_rt (τ := [some (nF ps f),none,none,none,none,none]) rfl rfl ?_
 unfold g_colours_of
 rw [seq_nx (set_nx (d := .dct .own true [] []) rfl rfl)]
 show sSeq _ _ (coSt ps f [] none none none none)=_
 rw [seq_nx hf]
 rfl
def kI (p:Int):KT := .inl (.inl p)
theorem kI_inj {a b:Int}:kI a=kI b ↔ a=b:=by
 constructor
 ·intro h
  exact Sum.inl.inj (Sum.inl.inj h)
 ·intro h
  rw [h]
theorem lookD_map {α:Type} (P:α->Int) (g:α->D) (k:α):∀ (l:List α),k ∈ l->(∀ a ∈ l,P a=P k->a=k)->lookD (l.map fun a=>kI (P a)) (l.map g) (kI (P k))=some (g k)
 | a :: l,h,inj=>by
  rw [List.map_cons,List.map_cons,lookD]
  by_cases e:P a=P k
  ·rw [if_pos (kI_inj.mpr e),inj a List.mem_cons_self e]
  ·rw [if_neg fun z=>e (kI_inj.mp z)]
   rcases List.mem_cons.mp h with z | z
   ·exact absurd (z ▸ rfl) e
   ·exact lookD_map P g k l z fun b hb=>inj b (List.mem_cons_of_mem _ hb)
theorem repl1_map {α:Type} [DecidableEq α] (P:α->Int) (g:α->D) (k:α) (x:D):∀ (l:List α),l.Nodup->(∀ a ∈ l,P a=P k->a=k)->repl1 (l.map fun a=>kI (P a)) (l.map g) (kI (P k)) x=l.map fun a=>if a=k then x else g a
 | [],_,_=>rfl
 | a :: l,nd,inj=>by
  have nd' := List.nodup_cons.mp nd
  rw [List.map_cons,List.map_cons,repl1,List.map_cons]
  by_cases e:P a=P k
  ·have ea:=inj a List.mem_cons_self e
   rw [if_pos (kI_inj.mpr e),if_pos ea]
   congr 1
   refine List.map_congr_left fun b hb=>?_
   rw [if_neg fun z=>nd'.1 (by rw [ea,<- z]; exact hb)]
  ·rw [if_neg fun z=>e (kI_inj.mp z),if_neg fun z=>e (by rw [z]),repl1_map P g k x l nd'.2 fun b hb=>inj b (List.mem_cons_of_mem _ hb)]
theorem hasK_no {α:Type} (P:α->Int) (l:List α) (q:Int) (h:∀ a ∈ l,P a ≠ q):hasK (l.map fun a=>kI (P a)) (kI q)=false:=by
 unfold hasK
 rw [List.any_eq_false]
 intro k hk
 obtain ⟨a,ha,rfl⟩:=List.mem_map.mp hk
 simp only [decide_eq_true_eq]
 exact fun z=>h a ha (kI_inj.mp z)
def ent (f:Nat->Nat->Int) (i:Nat) (pr:List (Nat × Nat)):List (Nat × Int):=pr.flatMap fun t=>if i=t.1 then [(t.2,f t.1 t.2)] else if i=t.2 then [(t.1,f t.1 t.2)] else []
theorem ent_snoc (f:Nat->Nat->Int) (i:Nat) (pr:List (Nat × Nat)) (k j:Nat):ent f i (pr ++ [(k,j)])=ent f i pr ++ (if i=k then [(j,f k j)] else if i=j then [(k,f k j)] else []):=by
 unfold ent
 rw [List.flatMap_append]
 simp
theorem mem_ent {f:Nat->Nat->Int}{i:Nat}{pr:List (Nat × Nat)}{x:Nat × Int} (h:x ∈ ent f i pr):∃ t ∈ pr,(i=t.1/\x=(t.2,f t.1 t.2)) ∨ (i=t.2/\x=(t.1,f t.1 t.2)):=by
 unfold ent at h
 obtain ⟨t,ht,hx⟩:=List.mem_flatMap.mp h
 refine ⟨t,ht,?_⟩
 split at hx
 ·rename_i e
  exact .inl ⟨e,by simpa using hx⟩
 ·split at hx
  ·rename_i e
   exact .inr ⟨e,by simpa using hx⟩
  ·cases hx
def prF:Nat->List (Nat × Nat)
 | 0=>[]
 | n + 1=>prF n ++ (List.range n).map fun j=>(n,j)
theorem mem_prF {t:Nat × Nat}:∀ {n:Nat},t ∈ prF n ↔ t.2 < t.1/\t.1 < n
 | 0=>by
  constructor
  ·intro h
   cases h
  ·intro h
   omega
 | n + 1=>by
  show t ∈ prF n ++ _ ↔ _
  rw [List.mem_append,mem_prF,List.mem_map]
  constructor
  ·rintro (h | ⟨j,hj,rfl⟩)
   ·exact ⟨h.1,by omega⟩
   ·exact ⟨List.mem_range.mp hj,Nat.lt_succ_self _⟩
  ·rintro ⟨h1,h2⟩
   by_cases e:t.1=n
   ·refine .inr ⟨t.2,List.mem_range.mpr (by omega),?_⟩
    rw [<- e]
   ·exact .inl ⟨h1,by omega⟩
theorem nodup_prF:∀ n:Nat,(prF n).Nodup
 | 0=>List.nodup_nil
 | n + 1=>by
  show (prF n ++ _).Nodup
  refine List.nodup_append.mpr ⟨nodup_prF n,?_,fun a ha b hb e=>?_⟩
  ·refine List.Pairwise.map _ (fun a b h z=>h (congrArg Prod.snd z)) List.nodup_range
  ·have h1:=mem_prF.mp ha
   obtain ⟨j,_,rfl⟩:=List.mem_map.mp hb
   rw [e] at h1
   exact absurd h1.2 (Nat.lt_irrefl _)
theorem ties_prF (ps:List Int) (f:Nat->Nat->Int):∀ n:Nat,tiesF ps f n=(prF n).map fun t=>(plc ps t.1,plc ps t.2,f t.1 t.2)
 | 0=>rfl
 | n + 1=>by
  show tiesF ps f n ++ rowT ps f n n=(prF n ++ _).map _
  rw [List.map_append,ties_prF ps f n,List.map_map]
  rfl
def cc (f:Nat->Nat->Int) (i j:Nat):Int:=f (max i j) (min i j)
theorem cc_gt {f:Nat->Nat->Int}{k j:Nat} (h:j < k):cc f k j=f k j:=by
 unfold cc
 rw [Nat.max_eq_left (by omega),Nat.min_eq_right (by omega)]
theorem cc_lt {f:Nat->Nat->Int}{k j:Nat} (h:j < k):cc f j k=f k j:=by
 unfold cc
 rw [Nat.max_eq_right (by omega),Nat.min_eq_left (by omega)]
theorem ent_of {f:Nat->Nat->Int}{i n:Nat}{x:Nat × Int} (h:x ∈ ent f i (prF n)):x.2=cc f i x.1/\x.1 < n/\x.1 ≠ i:=by
 obtain ⟨t,ht,⟨rfl,rfl⟩ | ⟨rfl,rfl⟩⟩:=mem_ent h
 ·have:=mem_prF.mp ht
  exact ⟨(cc_gt this.1).symm,by omega,by omega⟩
 ·have:=mem_prF.mp ht
  exact ⟨(cc_lt this.1).symm,by omega,by omega⟩
theorem ent_has {f:Nat->Nat->Int}{i j n:Nat} (hi:i < n) (hj:j < n) (hn:i ≠ j):(j,cc f i j) ∈ ent f i (prF n):=by
 unfold ent
 by_cases h:j < i
 ·refine List.mem_flatMap.mpr ⟨(i,j),mem_prF.mpr ⟨h,hi⟩,?_⟩
  rw [if_pos rfl,cc_gt h]
  exact List.mem_singleton.mpr rfl
 ·have h':i < j:=by omega
  refine List.mem_flatMap.mpr ⟨(j,i),mem_prF.mpr ⟨h',hj⟩,?_⟩
  rw [if_neg hn,if_pos rfl,cc_lt h']
  exact List.mem_singleton.mpr rfl
def innD (t:Tg) (ps:List Int) (e:List (Nat × Int)):D := .dct t false (e.map fun x=>kI (plc ps x.1)) (e.map fun x=>.int x.2)
def sgD (t:Tg) (ps:List Int) (m:Nat) (g:Nat->List (Nat × Int)):D := .dct t false ((List.range m).map fun i=>kI (plc ps i)) ((List.range m).map fun i=>innD t ps (g i))
theorem plc_inj {ps:List Int} (hs:ps.Pairwise (· < ·)) {j k:Nat} (hj:j < ps.length) (hk:k < ps.length) (h:plc ps j=plc ps k):j=k:=by
 rcases Nat.lt_trichotomy j k with z | z | z
 ·have:=plc_lt hs z hk
  omega
 ·exact z
 ·have:=plc_lt hs z hj
  omega
def sgSt (ps:List Int) (f:Nat->Nat->Int) (m:Nat) (g:Nat->List (Nat × Int)) (a b c:Option D):SD := [some (nF ps f),some (sgD .own ps m g),a,b,c]
section
variable {ps:List Int}{f:Nat->Nat->Int}
theorem dput2_nx {i:Nat}{f1 fk fv:SD->Res D}{τ:SD}{t:Tg}{ks ks2:List KT}{xs ys:List D}{d d1 dk:D}{q1 q:L2.Key} (hv:fv τ=.ok d) (ho:ownDc τ i=some (t,false,ks,xs)) (h1:f1 τ=.ok d1) (hq1:keyK d1=some (.inl q1)) (hl:lookD ks xs (.inl q1)=some (.dct .own false ks2 ys)) (hk:fk τ=.ok dk) (hq:keyK dk=some (.inl q)) (hc:d.pure=true/\ks2.length < 16777216) :
  sDput2 i f1 fk fv τ=.nx (τ.set i (some (.dct t false ks (repl1 ks xs (.inl q1) (.dct .own false (putKs ks2 (.inl q)) (putVs ks2 ys (.inl q) d)))))):=by
 unfold sDput2
 rw [hv,toFl_ok,ho]
 simp only [h1,toFl_ok,hq1,hl,hk,hq]
 rw [if_pos hc]
theorem put2 {g:Nat->List (Nat × Int)}{a b c:Option D}{k j:Nat}{v:Int}{f1 fk fv:SD->Res D} (hs:ps.Pairwise (· < ·)) (hk:k < ps.length) (h:∀ x ∈ g k,plc ps x.1 ≠ plc ps j) (hl:(g k).length <= 1000)
  (h1:f1 (sgSt ps f ps.length g a b c)=.ok (.int (plc ps k))) (h2:fk (sgSt ps f ps.length g a b c)=.ok (.int (plc ps j))) (h3:fv (sgSt ps f ps.length g a b c)=.ok (.int v)) :
  sDput2 1 f1 fk fv (sgSt ps f ps.length g a b c)=.nx (sgSt ps f ps.length (fun i=>if i=k then g k ++ [(j,v)] else g i) a b c):=by
 have inj:∀ i ∈ List.range ps.length,plc ps i=plc ps k->i=k:=fun i hi e=>plc_inj hs (List.mem_range.mp hi) hk e
 have lk:=lookD_map (plc ps) (fun i=>innD .own ps (g i)) k (List.range ps.length) (List.mem_range.mpr hk) inj
 have rp:=repl1_map (plc ps) (fun i=>innD .own ps (g i)) k (innD .own ps (g k ++ [(j,v)])) (List.range ps.length) List.nodup_range inj
 have hk1:putKs ((g k).map fun x=>kI (plc ps x.1)) (kI (plc ps j))=(g k ++ [(j,v)]).map fun x=>kI (plc ps x.1):=by
  unfold putKs
  rw [hasK_no (fun x:Nat × Int=>plc ps x.1) (g k) (plc ps j) h,if_neg Bool.false_ne_true,List.map_append]
  rfl
 have hk2:putVs ((g k).map fun x=>kI (plc ps x.1)) ((g k).map fun x=>D.int x.2) (kI (plc ps j)) (.int v)=(g k ++ [(j,v)]).map fun x=>D.int x.2:=by
  unfold putVs
  rw [hasK_no (fun x:Nat × Int=>plc ps x.1) (g k) (plc ps j) h,if_neg Bool.false_ne_true,List.map_append]
  rfl
 rw [dput2_nx (t := .own) (ks:=(List.range ps.length).map fun i=>kI (plc ps i)) (xs:=(List.range ps.length).map fun i=>innD .own ps (g i)) (d := .int v) (d1 := .int (plc ps k)) (dk := .int (plc ps j)) (q1 := .inl (plc ps k)) (q := .inl (plc ps j)) (ks2:=(g k).map fun x:Nat × Int=>kI (plc ps x.1)) (ys:=(g k).map fun x:Nat × Int=>D.int x.2) h3 rfl h1 rfl lk h2 rfl ⟨rfl,by rw [List.length_map]; omega⟩]
 rw [show (Sum.inl (Sum.inl (plc ps j)):KT)=kI (plc ps j) from rfl,show (Sum.inl (Sum.inl (plc ps k)):KT)=kI (plc ps k) from rfl,hk1,hk2]
 show Fl.nx [_,some (.dct .own false _ (repl1 _ _ _ (innD .own ps (g k ++ [(j,v)])))),_,_,_]=_
 rw [rp]
 have em:((List.range ps.length).map fun a=>if a=k then innD .own ps (g k ++ [(j,v)]) else innD .own ps (g a))=(List.range ps.length).map fun i=>innD .own ps (if i=k then g k ++ [(j,v)] else g i):=List.map_congr_left fun i _=>by split <;> rfl
 rw [em]
 rfl
abbrev prD (ps:List Int) (f:Nat->Nat->Int) (t:Nat × Nat):D := .tup [.tup [.int (plc ps t.1),.int (plc ps t.2)],.int (f t.1 t.2)]
theorem sg_body {pr:List (Nat × Nat)}{a:Option D}{k j:Nat} (hs:ps.Pairwise (· < ·)) (hj:j < k) (hk:k < ps.length) (hb:∀ t ∈ pr,t.2 < t.1/\t.1 < ps.length) (hn:(k,j) ∉ pr) (hl:∀ i,(ent f i pr).length <= 999) :
  g_sights_of_b1 (sgSt ps f ps.length (fun i=>ent f i pr) a (some (.tup [.int (plc ps k),.int (plc ps j)])) (some (.int (f k j))))=.nx (sgSt ps f ps.length (fun i=>ent f i (pr ++ [(k,j)])) a (some (.tup [.int (plc ps k),.int (plc ps j)])) (some (.int (f k j)))):=by
 have bnd:∀ i,∀ x ∈ ent f i pr,x.1 < ps.length:=fun i x hx=>by
  obtain ⟨t,ht,⟨_,rfl⟩ | ⟨_,rfl⟩⟩:=mem_ent hx
  ·have:=hb t ht
   show t.2 < _
   omega
  ·exact (hb t ht).2
 have n1:∀ x ∈ ent f k pr,plc ps x.1 ≠ plc ps j:=fun x hx z=>by
  have e:=plc_inj hs (bnd k x hx) (by omega) z
  obtain ⟨t,ht,⟨e1,rfl⟩ | ⟨e1,rfl⟩⟩:=mem_ent hx
  ·have:t=(k,j):=Prod.ext e1.symm e
   exact hn (this ▸ ht)
  ·have:=(hb t ht).1
   have e:t.1=j:=e
   omega
 have n2:∀ x ∈ ent f j pr,plc ps x.1 ≠ plc ps k:=fun x hx z=>by
  have e:=plc_inj hs (bnd j x hx) hk z
  obtain ⟨t,ht,⟨e1,rfl⟩ | ⟨e1,rfl⟩⟩:=mem_ent hx
  ·have:=(hb t ht).1
   have e:t.2=k:=e
   omega
  ·have:t=(k,j):=Prod.ext e e1.symm
   exact hn (this ▸ ht)
 unfold g_sights_of_b1
 rw [seq_nx (put2 (g:=fun i=>ent f i pr) (k:=k) (j:=j) (v:=f k j) hs hk n1 (by have:=hl k; omega) rfl rfl rfl)]
 have hjk:j ≠ k:=by omega
 rw [put2 (g:=fun i=>if i=k then ent f k pr ++ [(j,f k j)] else ent f i pr) (k:=j) (j:=k) (v:=f k j) hs (by omega) (by simp only [if_neg hjk]; exact n2) (by simp only [if_neg hjk]; have:=hl j; omega) rfl rfl rfl]
 congr 2
 funext i
 rw [ent_snoc]
 by_cases h1:i=j
 ·subst h1
  rw [if_pos rfl,if_neg hjk,if_neg hjk,if_pos rfl]
 ·rw [if_neg h1]
  by_cases h2:i=k
  ·subst h2
   rw [if_pos rfl,if_pos rfl]
  ·rw [if_neg h2,if_neg h2,if_neg h1,List.append_nil]
theorem ent_len (f:Nat->Nat->Int) (i:Nat):∀ pr:List (Nat × Nat),(ent f i pr).length <= pr.length
 | []=>Nat.le_refl _
 | t :: r=>by
  have:=ent_len f i r
  unfold ent at this ⊢
  rw [List.flatMap_cons,List.length_append,List.length_cons]
  split
  ·simp only [List.length_cons,List.length_nil]
   omega
  ·split
   ·simp only [List.length_cons,List.length_nil]
    omega
   ·simp only [List.length_nil]
    omega
theorem prF_len:∀ n:Nat,(prF n).length <= n * n
 | 0=>Nat.le_refl _
 | n + 1=>by
  have:=prF_len n
  show (prF n ++ _).length <= _
  rw [List.length_append,List.length_map,List.length_range,Nat.add_mul,Nat.mul_add]
  omega
theorem sg_loop (hs:ps.Pairwise (· < ·)) (hl:ps.length <= 24) (a:Option D):∀ (r pr:List (Nat × Nat)) (b c:Option D),pr ++ r=prF ps.length->∃ b' c',forD (gT 2 (gsCons 3 (gsCons 4 gsNil))) g_sights_of_b1 (r.map (prD ps f)) (sgSt ps f ps.length (fun i=>ent f i pr) a b c)=.nx (sgSt ps f ps.length (fun i=>ent f i (prF ps.length)) a b' c')
 | [],pr,b,c,e=>by
  rw [List.append_nil] at e
  subst e
  exact ⟨b,c,rfl⟩
 | t :: r,pr,b,c,e=>by
  have nd:=nodup_prF ps.length
  have hm:∀ x ∈ pr ++ t :: r,x.2 < x.1/\x.1 < ps.length:=fun x hx=>mem_prF.mp (e ▸ hx)
  have hn:t ∉ pr:=fun z=>by
   rw [<- e,List.nodup_append] at nd
   exact nd.2.2 t z t List.mem_cons_self rfl
  have ht:=hm t (by simp)
  have hlen:∀ i,(ent f i pr).length <= 999:=fun i=>by
   have h1:=ent_len f i pr
   have h2:=prF_len ps.length
   rw [<- e,List.length_append] at h2
   have h3:ps.length * ps.length <= 576:=Nat.mul_le_mul (show ps.length <= 24 by omega) (show ps.length <= 24 by omega)
   omega
  have st:=sg_body (f:=f) (pr:=pr) (a:=a) (k:=t.1) (j:=t.2) hs ht.1 ht.2 (fun x hx=>hm x (List.mem_append_left _ hx)) hn hlen
  obtain ⟨b',c',ih⟩:=sg_loop hs hl a r (pr ++ [t]) (some (.tup [.int (plc ps t.1),.int (plc ps t.2)])) (some (.int (f t.1 t.2))) (by rw [List.append_assoc]; exact e)
  refine ⟨b',c',?_⟩
  rw [List.map_cons,forD_nx (τ' := sgSt ps f ps.length (fun i=>ent f i pr) a (some (.tup [.int (plc ps t.1),.int (plc ps t.2)])) (some (.int (f t.1 t.2)))) rfl st]
  exact ih
theorem pairs_ties:∀ ts:List N2.Tie,pairsD (ksOf ts) (vsOf ts)=ts.map fun t=>.tup [.tup [.int (N2.tkey t).1,.int (N2.tkey t).2],.int t.2.2]
 | []=>rfl
 | t :: r=>by
  show D.tup [keyTp (kt (N2.tkey t)),.int t.2.2] :: pairsD (ksOf r) (vsOf r)=_
  rw [pairs_ties r]
  rfl
theorem sg_items {τ:SD} (hs:ps.Pairwise (· < ·)) (hl:ps.length <= 24) (h0:τ[0]?=some (some (nF ps f))):eItems (eCall G_colours_of (aCons (eVar 0) aNil)) τ=.ok (false,(prF ps.length).map (prD ps f)):=by
 have hc:eCall G_colours_of (aCons (eVar 0) aNil) τ=.ok (.dct .own true (ksOf (tiesF ps f ps.length)) (vsOf (tiesF ps f ps.length))) :=
  eCall_own (ds := [nF ps f]) (aOne (var_pure h0 (nF_pure _ _))) (by show G_colours_of [(nF ps f).frz]=_; rw [frz_pure _ (nF_pure _ _)]; exact colours_eq hs hl) (by show ((nF ps f).hasBor || false)=false; rw [hasBor_pure _ (nF_pure _ _)]; rfl)
 unfold eItems
 rw [hc,Res.bind_ok]
 show (if pureL (vsOf (tiesF ps f ps.length))=true then Res.ok ((false || hasBorL (vsOf (tiesF ps f ps.length))),pairsD (ksOf (tiesF ps f ps.length)) (vsOf (tiesF ps f ps.length))) else .bad)=_
 rw [if_pos (vs_pure _),hasBorL_pure _ (vs_pure _),pairs_ties,ties_prF,List.map_map]
 congr 2
 refine List.map_congr_left fun t ht=>?_
 have h:=mem_prF.mp ht
 show D.tup [.tup [.int (N2.keyOf (plc ps t.1) (plc ps t.2)).1,.int (N2.keyOf (plc ps t.1) (plc ps t.2)).2],.int (f t.1 t.2)]=_
 rw [key_lt (plc_lt hs h.1 h.2)]
theorem ps_range (ps:List Int):ps.map D.int=(List.range ps.length).map fun i=>D.int (plc ps i):=by
 refine List.ext_getElem? fun i=>?_
 by_cases h:i < ps.length
 ·rw [plc_at h,List.getElem?_map,List.getElem?_range h]
  rfl
 ·rw [List.getElem?_eq_none (by rw [List.length_map]; omega),List.getElem?_eq_none (by rw [List.length_map,List.length_range]; omega)]
theorem prD_pure (l:List (Nat × Nat)):pureL (l.map (prD ps f))=true:=pureL_of fun d m=>by
 obtain ⟨t,_,rfl⟩:=List.mem_map.mp m
 rfl
theorem sights_eq (hs:ps.Pairwise (· < ·)) (hl:ps.length <= 24):G_sights_of [nF ps f]=.ok (sgD .own ps ps.length fun i=>ent f i (prF ps.length)):=by
 refine run_rt (τ := [some (nF ps f),none,none,none,none]) rfl rfl ?_
 unfold g_sights_of
 rw [seq_nx (set_nx (d := .dct .own false [] []) rfl rfl)]
 show sSeq _ _ (sgSt ps f 0 (fun _=>[]) none none none)=_
 have v0:∀ m o,eVar 0 (sgSt ps f m (fun _=>[]) o none none)=.ok (nF ps f):=fun m o=>var_pure rfl (nF_pure _ _)
 have l1:∃ o,sFor [0] (eIt (eBin ixD (eVar 0) (eC (.int 0)))) (gN 2) g_sights_of_b2 (sgSt ps f 0 (fun _=>[]) none none none)=.nx (sgSt ps f ps.length (fun _=>[]) o none none):=by
  obtain ⟨t,h1,o,h2⟩:=forD_inv (tg:=gN 2) (body:=g_sights_of_b2) (fun i t=>∃ o,t=sgSt ps f i (fun _=>[]) o none none) (ds:=(List.range ps.length).map fun i=>D.int (plc ps i)) 0 (sgSt ps f 0 (fun _=>[]) none none none) ⟨none,rfl⟩ (fun j d τ hx hp=>by
   obtain ⟨o,rfl⟩:=hp
   rw [Nat.zero_add]
   have hj:j < ps.length:=by
    have:=(List.getElem?_eq_some_iff.mp hx).1
    simpa using this
   rw [List.getElem?_map,List.getElem?_range hj] at hx
   cases hx
   refine ⟨_,_,rfl,.inl (put_nx (k:=false) (ks:=(List.range j).map fun i=>kI (plc ps i)) (xs:=(List.range j).map fun i=>innD .own ps []) (d := .dct .own false [] []) (dk := .int (plc ps j)) (q:=kI (plc ps j)) rfl rfl rfl rfl ⟨rfl,rfl,by rw [List.length_map,List.length_range]; omega⟩ (hasK_no (plc ps) _ _ fun i hi z=>?_)),some (.int (plc ps j)),?_⟩
   ·have:=plc_inj hs (by have:=List.mem_range.mp hi; omega) hj z
    have:=List.mem_range.mp hi
    omega
   ·show [_,some (D.dct .own false (((List.range j).map fun i=>kI (plc ps i)) ++ [kI (plc ps j)]) (((List.range j).map fun i=>innD .own ps []) ++ [innD .own ps []])),_,_,_]=_
    unfold sgSt sgD
    rw [List.range_succ,List.map_append,List.map_append]
    rfl)
  rw [List.length_map,List.length_range,Nat.zero_add] at h2
  refine ⟨o,?_⟩
  rw [for_ok (τ' := sgSt ps f 0 (fun _=>[]) none none none) (ds:=(List.range ps.length).map fun i=>D.int (plc ps i)) ?_ ?_ ?_,h1,h2]
  ·show [some (nF ps f).frz,_,_,_,_]=_
   rw [frz_pure _ (nF_pure _ _)]
   rfl
  ·unfold eIt
   rw [net0 (v0 0 none),Res.bind_ok,items_t (pure_ints _),ps_range]
  ·rw [<- ps_range]
   exact pure_ints _
 obtain ⟨o,l1⟩:=l1
 rw [seq_nx l1]
 obtain ⟨b',c',l2⟩:=sg_loop (f:=f) hs hl o (prF ps.length) [] none none rfl
 have l3:sFor [0] (eItems (eCall G_colours_of (aCons (eVar 0) aNil))) (gT 2 (gsCons 3 (gsCons 4 gsNil))) g_sights_of_b1 (sgSt ps f ps.length (fun _=>[]) o none none)=.nx (sgSt ps f ps.length (fun i=>ent f i (prF ps.length)) o b' c'):=by
  rw [for_ok (τ' := sgSt ps f ps.length (fun _=>[]) o none none) ?_ (sg_items hs hl rfl) (prD_pure _)]
  ·exact l2
  ·show [some (nF ps f).frz,_,_,_,_]=_
   rw [frz_pure _ (nF_pure _ _)]
   rfl
 rw [seq_nx l3]
 rfl
end
theorem inn_frz (ps:List Int) (e:List (Nat × Int)):(innD .own ps e).frz=innD .frz ps e:=by
 show D.dct .frz false _ (frzL (e.map fun x=>D.int x.2))=_
 rw [frzL_pure _ (pureL_of fun d m=>by obtain ⟨x,_,rfl⟩:=List.mem_map.mp m; rfl)]
 rfl
theorem inn_view (ps:List Int) (e:List (Nat × Int)):(innD .frz ps e).view=innD .frz ps e:=by
 show D.dct .frz false _ (viewL (e.map fun x=>D.int x.2))=_
 rw [viewL_pure _ (pureL_of fun d m=>by obtain ⟨x,_,rfl⟩:=List.mem_map.mp m; rfl)]
 rfl
theorem inn_frz2 (ps:List Int) (e:List (Nat × Int)):(innD .frz ps e).frz=innD .frz ps e:=by
 show D.dct .frz false _ (frzL (e.map fun x=>D.int x.2))=_
 rw [frzL_pure _ (pureL_of fun d m=>by obtain ⟨x,_,rfl⟩:=List.mem_map.mp m; rfl)]
 rfl
theorem sg_frz (ps:List Int) (m:Nat) (g:Nat->List (Nat × Int)):(sgD .own ps m g).frz=sgD .frz ps m g:=by
 show D.dct .frz false _ (frzL ((List.range m).map fun i=>innD .own ps (g i)))=_
 rw [frzL_eq,List.map_map]
 unfold sgD
 congr 1
 exact List.map_congr_left fun i _=>inn_frz ps (g i)
theorem sg_view (ps:List Int) (m:Nat) (g:Nat->List (Nat × Int)):(sgD .frz ps m g).view=sgD .frz ps m g:=by
 show D.dct .frz false _ (viewL ((List.range m).map fun i=>innD .frz ps (g i)))=_
 rw [viewL_eq,List.map_map]
 unfold sgD
 congr 1
 exact List.map_congr_left fun i _=>inn_view ps (g i)
theorem sg_frz2 (ps:List Int) (m:Nat) (g:Nat->List (Nat × Int)):(sgD .frz ps m g).frz=sgD .frz ps m g:=by
 show D.dct .frz false _ (frzL ((List.range m).map fun i=>innD .frz ps (g i)))=_
 rw [frzL_eq,List.map_map]
 unfold sgD
 congr 1
 exact List.map_congr_left fun i _=>inn_frz2 ps (g i)
abbrev sgF (ps:List Int) (f:Nat->Nat->Int):D:=sgD .frz ps ps.length fun i=>ent f i (prF ps.length)
section
variable {ps:List Int}{f:Nat->Nat->Int}
theorem sight {F G H:SD->Res D}{τ:SD}{p q:Nat} (hs:ps.Pairwise (· < ·)) (hp:p < ps.length) (hq:q < ps.length) (hn:p ≠ q) (h1:F τ=.ok (sgF ps f)) (h2:G τ=.ok (.int (plc ps p))) (h3:H τ=.ok (.int (plc ps q))) :
  eBin dgetD (eBin dgetD F G) H τ=.ok (.int (cc f p q)):=by
 have lk:=lookD_map (plc ps) (fun i=>innD .frz ps (ent f i (prF ps.length))) p (List.range ps.length) (List.mem_range.mpr hp) fun i hi e=>plc_inj hs (List.mem_range.mp hi) hp e
 have lk2:=lookD_map (fun x:Nat × Int=>plc ps x.1) (fun x=>D.int x.2) (q,cc f p q) (ent f p (prF ps.length)) (ent_has hp hq hn) fun x hx e=>by
  have e1:=plc_inj hs (ent_of hx).2.1 hq e
  have e2:=(ent_of hx).1
  rw [e1] at e2
  exact Prod.ext e1 e2
 have d1:eBin dgetD F G τ=.ok (innD .frz ps (ent f p (prF ps.length))):=by
  rw [eBin_ok h1 h2]
  show (if (kI (plc ps p)).kind=false then (match lookD ((List.range ps.length).map fun i=>kI (plc ps i)) ((List.range ps.length).map fun i=>innD .frz ps (ent f i (prF ps.length))) (kI (plc ps p)) with | some d=>Res.ok d | none=>.bad) else .bad)=_
  rw [if_pos (show (kI (plc ps p)).kind=false from rfl),lk]
 rw [eBin_ok d1 h3]
 show (if (kI (plc ps q)).kind=false then (match lookD ((ent f p (prF ps.length)).map fun x=>kI (plc ps x.1)) ((ent f p (prF ps.length)).map fun x=>D.int x.2) (kI (plc ps q)) with | some d=>Res.ok d | none=>.bad) else .bad)=_
 rw [if_pos (show (kI (plc ps q)).kind=false from rfl),lk2]
end
theorem compD_map {α:Type}{tt:SD->Res Bool}{elt:SD->Res D}{caps:SD} (h:α->D) (p:α->Bool) (f:α->D):∀ {l:List α} (o:Option D),(∀ a ∈ l,tt (some (h a) :: caps)=.ok (p a))->(∀ a ∈ l,p a=true->elt (some (h a) :: caps)=.ok (f a)/\(f a).hasBor=false)->compD (gN 0) tt elt (l.map h) (o :: caps)=.ok ((l.filter p).map f)
 | [],o,_,_=>rfl
 | a :: l,o,h1,h2=>by
  have ih:=compD_map h p f (l:=l) (some (h a)) (fun b hb=>h1 b (List.mem_cons_of_mem _ hb)) fun b hb=>h2 b (List.mem_cons_of_mem _ hb)
  rw [List.map_cons,compD]
  show ((tt (some (h a) :: caps)).bind fun b=>if b=true then (elt (some (h a) :: caps)).bind fun x=>if x.hasBor=true then Res.bad else (compD (gN 0) tt elt (l.map h) (some (h a) :: caps)).bind fun xs=>.ok (x :: xs) else compD (gN 0) tt elt (l.map h) (some (h a) :: caps))=_
  rw [h1 a List.mem_cons_self,Res.bind_ok]
  cases hp:p a with
  | false =>
   rw [if_neg Bool.false_ne_true,ih,List.filter_cons,hp]
   rfl
  | true =>
   obtain ⟨e1,e2⟩:=h2 a List.mem_cons_self hp
   rw [if_pos rfl,e1,Res.bind_ok,if_neg (by rw [e2]; exact Bool.false_ne_true),ih,List.filter_cons,hp]
   rfl
theorem eComp_map {α:Type}{it:SD->Res (Bool × List D)}{tt:SD->Res Bool}{elt:SD->Res D}{cap:List (PySem.Str × Nat)}{τ:SD}{fl:Bool}{l:List α} (h:α->D) (p:α->Bool) (f:α->D) (hit:it τ=.ok (fl,l.map h)) (hh:∀ a ∈ l,(h a).pure=true)
  (ht:∀ a ∈ l,tt (some (h a) :: capD τ cap)=.ok (p a)) (he:∀ a ∈ l,p a=true->elt (some (h a) :: capD τ cap)=.ok (f a)/\(f a).pure=true) (hl:l.length <= 1000):eComp it (gN 0) tt elt 1 cap τ=.ok (.lst .own ((l.filter p).map f)):=by
 have hp:pureL ((l.filter p).map f)=true:=pureL_of fun d m=>by
  obtain ⟨x,hx,rfl⟩:=List.mem_map.mp m
  obtain ⟨h1,h2⟩:=List.mem_filter.mp hx
  exact (he x h1 h2).2
 have hl':((l.filter p).map f).length <= 16777216:=by
  rw [List.length_map]
  have:=List.length_filter_le p l
  omega
 have hc:compD (gN 0) tt elt (frzL (l.map h)) (List.replicate 1 none ++ capD τ cap)=.ok ((l.filter p).map f):=by
  rw [frzL_pure _ (pureL_of fun d m=>by obtain ⟨x,hx,rfl⟩:=List.mem_map.mp m; exact hh x hx)]
  exact compD_map h p f none ht fun a m q=>⟨(he a m q).1,hasBor_pure _ (he a m q).2⟩
 unfold eComp
 rw [hit,Res.bind_ok]
 simp only [hc,if_pos hl',toBorL_pure _ hp,ite_self]
theorem eComp_one {α:Type}{it:SD->Res (Bool × List D)}{elt:SD->Res D}{cap:List (PySem.Str × Nat)}{τ:SD}{fl:Bool}{l:List α} (h:α->D) (f:α->D) (hit:it τ=.ok (fl,l.map h)) (hh:∀ a ∈ l,(h a).pure=true)
  (he:∀ a ∈ l,elt (some (h a) :: capD τ cap)=.ok (f a)/\(f a).pure=true) (hl:l.length <= 1000):eComp it (gN 0) bTrue elt 1 cap τ=.ok (.lst .own (l.map f)):=by
 have:=eComp_map (tt:=bTrue) (elt:=elt) h (fun _=>true) f hit hh (fun _ _=>rfl) (fun a m _=>he a m) hl
 rw [this,List.filter_eq_self.mpr fun _ _=>rfl]
def pp (ps:List Int) (l:List Nat):List Int:=l.map (plc ps)
theorem pp_int (ps:List Int) (l:List Nat):(pp ps l).map D.int=l.map fun i=>D.int (plc ps i):=by
 unfold pp
 rw [List.map_map]
 rfl
theorem pp_append (ps:List Int) (l m:List Nat):pp ps (l ++ m)=pp ps l ++ pp ps m:=List.map_append
theorem mem_pp {ps:List Int} (hs:ps.Pairwise (· < ·)) {l:List Nat}{i:Nat} (hi:i < ps.length) (hl:∀ x ∈ l,x < ps.length):plc ps i ∈ pp ps l ↔ i ∈ l:=by
 unfold pp
 constructor
 ·intro h
  obtain ⟨j,hj,e⟩:=List.mem_map.mp h
  rw [plc_inj hs hi (hl j hj) e.symm]
  exact hj
 ·intro h
  exact List.mem_map.mpr ⟨i,h,rfl⟩
theorem it_own {i:Nat}{τ:SD}{xs:List D} (h:τ[i]?=some (some (.lst .own xs))) (hp:pureL xs=true):eIt (eVar i) τ=.ok (true,xs):=by
 unfold eIt
 rw [var_own h hp,Res.bind_ok]
 show Res.ok ((decide (Tg.bor=Tg.bor) || hasBorL xs),xs)=_
 rw [decide_eq_true rfl,Bool.true_or]
theorem it_frz {i:Nat}{τ:SD}{xs:List D} (h:τ[i]?=some (some (.lst .frz xs))) (hp:pureL xs=true):eIt (eVar i) τ=.ok (false,xs):=by
 unfold eIt
 rw [var_frz h hp,Res.bind_ok]
 exact items_l (.inl rfl) hp
theorem plain_ints:∀ ns:List Int,plainL (ns.map D.int)=true
 | []=>rfl
 | n :: r=>by
  show ((D.int n).plain && plainL (r.map D.int))=true
  rw [plain_ints r]
  rfl
abbrev trD (ps:List Int) (fi:Nat) (x:Nat × Nat):D := .tup [.int (plc ps x.1),.int (plc ps fi),.int (plc ps x.2)]
theorem tr_pure (ps:List Int) (fi:Nat) (l:List (Nat × Nat)):pureL (l.map (trD ps fi))=true:=pureL_of fun d m=>by
 obtain ⟨x,_,rfl⟩:=List.mem_map.mp m
 rfl
def puSt (ps:List Int) (f:Nat->Nat->Int) (ms:List Nat) (fi:Nat) (O W:List Nat) (Pl:List (Nat × Nat)) (a b:Option D):SD :=
 [some (sgF ps f),some (.lst .frz ((pp ps ms).map .int)),some (.int (plc ps fi)),some (.lst .own ((pp ps O).map .int)),some (.lst .own ((pp ps W).map .int)),some (.lst .own (Pl.map (trD ps fi))),a,b]
section
variable {ps:List Int}{f:Nat->Nat->Int}{ms O W:List Nat}{fi:Nat}{Pl:List (Nat × Nat)}
theorem pu_c4 (hs:ps.Pairwise (· < ·)) {p q:Nat} (hp:p < ps.length) (hq:q < ps.length) (hf:fi < ps.length) (n1:p ≠ q) (n2:p ≠ fi):g_pulls_from_c4 [some (.int (plc ps p)),some (sgF ps f),some (.int (plc ps q)),some (.int (plc ps fi))]=.ok (!decide (cc f p q=cc f p fi)):=by
 have v1:eVar 1 [some (D.int (plc ps p)),some (sgF ps f),some (.int (plc ps q)),some (.int (plc ps fi))]=.ok (sgF ps f):=by
  show Res.ok (sgF ps f).view=_
  rw [sg_view]
 exact nei_ok (sight hs hp hq n1 v1 rfl rfl) (sight hs hp hf n2 v1 rfl rfl)
theorem pu_body (hs:ps.Pairwise (· < ·)) (hl:ps.length <= 24) {q:Nat} (S:PG.St (cc f) ps.length fi ms O (W ++ [q]) Pl) (hm:∀ x ∈ ms,x < ps.length) (hf:fi ∈ ms) (hw:(W ++ [q]).length <= 100) (hpl:Pl.length <= 100) (a b:Option D) :
  ∃ a' b',g_pulls_from_b7 (puSt ps f ms fi O (W ++ [q]) Pl a b)=.nx (puSt ps f ms fi (PG.left (cc f) fi q O) (W ++ PG.came (cc f) fi q O) (Pl ++ (PG.came (cc f) fi q O).map fun p=>(p,q)) a' b'):=by
 have hO:∀ x ∈ O,x < ps.length:=fun x hx=>((S.out x).mp hx).1
 have hnd:O.length <= 24:=Nat.le_trans (PG.nodup_bound S.nd hO) hl
 have hgr:∀ x ∈ PG.gr ms Pl,x < ps.length:=fun x hx=>by
  rcases List.mem_append.mp hx with z | z
  ·exact hm x z
  ·obtain ⟨y,hy,rfl⟩:=List.mem_map.mp z
   exact S.val.bound y hy
 have hq:q ∈ PG.gr ms Pl:=S.wait q (by simp)
 have hfg:fi ∈ PG.gr ms Pl:=List.mem_append_left _ hf
 have hqn:=hgr q hq
 have hfn:=hgr fi hfg
 have hC:∀ x ∈ PG.came (cc f) fi q O,x < ps.length:=fun x hx=>hO x (PG.mem_came.mp hx).1
 have hCl:(PG.came (cc f) fi q O).length <= 24:=Nat.le_trans (List.length_filter_le _ _) hnd
 have nq:∀ p ∈ O,p ≠ q/\p ≠ fi:=fun p hp=>⟨fun z=>((S.out p).mp hp).2 (z ▸ hq),fun z=>((S.out p).mp hp).2 (z ▸ hfg)⟩
 have s1:sPop 6 4 (puSt ps f ms fi O (W ++ [q]) Pl a b)=.nx (puSt ps f ms fi O W Pl (some (.int (plc ps q))) b):=by
  have e1:(pp ps (W ++ [q])).map D.int=(pp ps W).map D.int ++ [D.int (plc ps q)]:=by rw [pp_append,List.map_append]; rfl
  show popF 6 4 ((pp ps (W ++ [q])).map D.int) (puSt ps f ms fi O (W ++ [q]) Pl a b) ((pp ps (W ++ [q])).map D.int)[((pp ps (W ++ [q])).map D.int).length - 1]?=_
  rw [e1,List.length_append,List.length_singleton,Nat.add_sub_cancel,List.getElem?_append_right (Nat.le_refl _),Nat.sub_self]
  show Fl.nx (((puSt ps f ms fi O (W ++ [q]) Pl a b).set 4 (some (.lst .own ((pp ps W).map D.int ++ [D.int (plc ps q)]).dropLast))).set 6 (some (.int (plc ps q))))=_
  rw [List.dropLast_concat]
  rfl
 have s2:sSet 7 (eComp (eIt (eVar 3)) (gN 0) g_pulls_from_c4 g_pulls_from_e5 1 [("sights",0),("newcomer",6),("first",2)]) (puSt ps f ms fi O W Pl (some (.int (plc ps q))) b)=.nx (puSt ps f ms fi O W Pl (some (.int (plc ps q))) (some (.lst .own ((pp ps (PG.came (cc f) fi q O)).map .int)))):=by
  have hi:eIt (eVar 3) (puSt ps f ms fi O W Pl (some (.int (plc ps q))) b)=.ok (true,O.map fun i=>D.int (plc ps i)):=by rw [<- pp_int]; exact it_own rfl (pure_ints _)
  have hcap:capD (puSt ps f ms fi O W Pl (some (.int (plc ps q))) b) [("sights",0),("newcomer",6),("first",2)]=[some (sgF ps f),some (.int (plc ps q)),some (.int (plc ps fi))]:=by
   show [some (sgF ps f).frz,_,_]=_
   rw [sg_frz2]
   rfl
  have c:=eComp_map (τ:=puSt ps f ms fi O W Pl (some (.int (plc ps q))) b) (tt:=g_pulls_from_c4) (elt:=g_pulls_from_e5) (cap := [("sights",0),("newcomer",6),("first",2)]) (fun i=>D.int (plc ps i)) (fun p=>!decide (cc f p q=cc f p fi)) (fun i=>D.int (plc ps i)) hi (fun _ _=>rfl)
   (fun p hp=>by rw [hcap]; exact pu_c4 hs (hO p hp) hqn hfn (nq p hp).1 (nq p hp).2) (fun _ _ _=>⟨rfl,rfl⟩) (by omega)
  rw [set_nx c (bor_own (pureL_of fun d m=>by obtain ⟨x,_,rfl⟩:=List.mem_map.mp m; rfl)),pp_int]
  rfl
 have s3:sSet 3 (eComp (eIt (eVar 3)) (gN 0) g_pulls_from_c2 g_pulls_from_e3 1 [("came",7)]) (puSt ps f ms fi O W Pl (some (.int (plc ps q))) (some (.lst .own ((pp ps (PG.came (cc f) fi q O)).map .int))))=.nx (puSt ps f ms fi (PG.left (cc f) fi q O) W Pl (some (.int (plc ps q))) (some (.lst .own ((pp ps (PG.came (cc f) fi q O)).map .int)))):=by
  have hi:eIt (eVar 3) (puSt ps f ms fi O W Pl (some (.int (plc ps q))) (some (.lst .own ((pp ps (PG.came (cc f) fi q O)).map .int))))=.ok (true,O.map fun i=>D.int (plc ps i)):=by rw [<- pp_int]; exact it_own rfl (pure_ints _)
  have hcap:capD (puSt ps f ms fi O W Pl (some (.int (plc ps q))) (some (.lst .own ((pp ps (PG.came (cc f) fi q O)).map .int)))) [("came",7)]=[some (.lst .frz ((pp ps (PG.came (cc f) fi q O)).map .int))]:=by
   show [some (D.lst .frz (frzL ((pp ps (PG.came (cc f) fi q O)).map .int)))]=_
   rw [frz_ints]
  have c:=eComp_map (τ:=puSt ps f ms fi O W Pl (some (.int (plc ps q))) (some (.lst .own ((pp ps (PG.came (cc f) fi q O)).map .int)))) (tt:=g_pulls_from_c2) (elt:=g_pulls_from_e3) (cap := [("came",7)]) (fun i=>D.int (plc ps i)) (fun p=>!decide (p ∈ PG.came (cc f) fi q O)) (fun i=>D.int (plc ps i)) hi (fun _ _=>rfl)
   (fun p hp=>by
    rw [hcap]
    refine (notin_lst (x:=plc ps p) (qs:=pp ps (PG.came (cc f) fi q O)) rfl (var_frz rfl (pure_ints _))).trans ?_
    rw [decide_eq_decide.mpr (mem_pp hs (hO p hp) hC)]) (fun _ _ _=>⟨rfl,rfl⟩) (by omega)
  rw [set_nx c (bor_own (pureL_of fun d m=>by obtain ⟨x,_,rfl⟩:=List.mem_map.mp m; rfl))]
  unfold puSt
  rw [pp_int ps (PG.left (cc f) fi q O)]
  rfl
 have s4:sExt 5 (eComp (eIt (eVar 7)) (gN 0) bTrue g_pulls_from_e1 1 [("first",2),("newcomer",6)]) (puSt ps f ms fi (PG.left (cc f) fi q O) W Pl (some (.int (plc ps q))) (some (.lst .own ((pp ps (PG.came (cc f) fi q O)).map .int))))=.nx (puSt ps f ms fi (PG.left (cc f) fi q O) W (Pl ++ (PG.came (cc f) fi q O).map fun p=>(p,q)) (some (.int (plc ps q))) (some (.lst .own ((pp ps (PG.came (cc f) fi q O)).map .int)))):=by
  have hi:eIt (eVar 7) (puSt ps f ms fi (PG.left (cc f) fi q O) W Pl (some (.int (plc ps q))) (some (.lst .own ((pp ps (PG.came (cc f) fi q O)).map .int))))=.ok (true,(PG.came (cc f) fi q O).map fun i=>D.int (plc ps i)):=by rw [<- pp_int]; exact it_own rfl (pure_ints _)
  have c:=eComp_one (τ:=puSt ps f ms fi (PG.left (cc f) fi q O) W Pl (some (.int (plc ps q))) (some (.lst .own ((pp ps (PG.came (cc f) fi q O)).map .int)))) (elt:=g_pulls_from_e1) (cap := [("first",2),("newcomer",6)]) (fun i=>D.int (plc ps i)) (fun p=>trD ps fi (p,q)) hi (fun _ _=>rfl) (fun _ _=>⟨rfl,rfl⟩) (by omega)
  have e2:((PG.came (cc f) fi q O).map fun p=>trD ps fi (p,q))=((PG.came (cc f) fi q O).map fun p=>(p,q)).map (trD ps fi):=by rw [List.map_map]; rfl
  show (Res.toFl _ _ (extF 5 (Pl.map (trD ps fi)) _))=_
  rw [c,e2]
  show (if hasBorL (((PG.came (cc f) fi q O).map fun p=>(p,q)).map (trD ps fi))=true then Fl.bad else if (Pl.map (trD ps fi)).length + (((PG.came (cc f) fi q O).map fun p=>(p,q)).map (trD ps fi)).length <= 16777216 then _ else _)=_
  rw [hasBorL_pure _ (tr_pure _ _ _),if_neg Bool.false_ne_true,if_pos (by rw [List.length_map,List.length_map,List.length_map]; omega)]
  unfold puSt
  rw [List.map_append]
  rfl
 have s5:sExtV 4 7 (puSt ps f ms fi (PG.left (cc f) fi q O) W (Pl ++ (PG.came (cc f) fi q O).map fun p=>(p,q)) (some (.int (plc ps q))) (some (.lst .own ((pp ps (PG.came (cc f) fi q O)).map .int))))=.nx (puSt ps f ms fi (PG.left (cc f) fi q O) (W ++ PG.came (cc f) fi q O) (Pl ++ (PG.came (cc f) fi q O).map fun p=>(p,q)) (some (.int (plc ps q))) (some (.lst .own ((pp ps (PG.came (cc f) fi q O)).map .int)))):=by
  show (if plainL ((pp ps (PG.came (cc f) fi q O)).map D.int)=true/\((pp ps W).map D.int).length + ((pp ps (PG.came (cc f) fi q O)).map D.int).length <= 16777216 then _ else _)=_
  rw [if_pos ⟨plain_ints _,by
   rw [List.length_map,List.length_map]
   unfold pp
   rw [List.length_map,List.length_map]
   rw [List.length_append,List.length_singleton] at hw
   omega⟩]
  have e5:(pp ps (W ++ PG.came (cc f) fi q O)).map D.int=(pp ps W).map D.int ++ (pp ps (PG.came (cc f) fi q O)).map D.int:=by rw [pp_append,List.map_append]
  unfold puSt
  rw [e5]
  rfl
 refine ⟨some (.int (plc ps q)),some (.lst .own ((pp ps (PG.came (cc f) fi q O)).map .int)),?_⟩
 unfold g_pulls_from_b7
 rw [seq_nx s1,seq_nx s2,seq_nx s3,seq_nx s4]
 exact s5
theorem pu_while (hs:ps.Pairwise (· < ·)) (hl:ps.length <= 24) (hm:∀ x ∈ ms,x < ps.length) (hmd:ms.Nodup) (hf:fi ∈ ms):∀ (m:Nat),m <= 90->∀ (O W:List Nat) (Pl:List (Nat × Nat)) (a b:Option D),PG.St (cc f) ps.length fi ms O W Pl->W.length + 2 * O.length <= m ->
  ∃ O' Pl' a' b',PG.St (cc f) ps.length fi ms O' [] Pl'/\whileD g_pulls_from_w6 g_pulls_from_b7 (m + 1) (puSt ps f ms fi O W Pl a b)=.nx (puSt ps f ms fi O' [] Pl' a' b'):=by
 intro m
 induction m with
 | zero =>
  intro _ O W Pl a b S h
  have e:W=[]:=List.length_eq_zero_iff.mp (by omega)
  subst e
  exact ⟨O,Pl,a,b,S,rfl⟩
 | succ m ih =>
  intro h90 O W Pl a b S h
  rcases List.eq_nil_or_concat W with rfl | ⟨W',q,rfl⟩
  ·exact ⟨O,Pl,a,b,S,rfl⟩
  ·rw [List.concat_eq_append] at S h ⊢
   have hpl:Pl.length <= 100:=by
    have:=PG.nodup_bound (S.val.nodup hmd) (n:=ps.length) fun x hx=>by
     rcases List.mem_append.mp hx with z | z
     ·exact hm x z
     ·obtain ⟨y,hy,rfl⟩:=List.mem_map.mp z
      exact S.val.bound y hy
    rw [List.length_append,List.length_map] at this
    omega
   obtain ⟨a',b',e⟩:=pu_body hs hl S hm hf (by rw [List.length_append,List.length_singleton] at h ⊢; omega) hpl a b
   have S' := S.step
   have lc:=PG.left_len (c:=cc f) fi q O
   have h' := h
   rw [List.length_append,List.length_singleton] at h
   have hO:O.length <= 24:=Nat.le_trans (PG.nodup_bound S.nd fun x hx=>((S.out x).mp hx).1) hl
   obtain ⟨O',Pl',a2,b2,S2,e2⟩:=ih (by omega) _ _ _ a' b' S' (by rw [List.length_append]; omega)
   refine ⟨O',Pl',a2,b2,S2,?_⟩
   have c:g_pulls_from_w6 (puSt ps f ms fi O (W' ++ [q]) Pl a b)=.ok true:=by
    unfold g_pulls_from_w6 eTr
    rw [var_own (xs:=(pp ps (W' ++ [q])).map D.int) rfl (pure_ints _),Res.bind_ok]
    show Res.ok (!((pp ps (W' ++ [q])).map D.int).isEmpty)=_
    rw [pp_append,List.map_append]
    cases (pp ps W').map D.int <;> rfl
   rw [whileD,c]
   show (match g_pulls_from_b7 (puSt ps f ms fi O (W' ++ [q]) Pl a b) with | .nx t=>whileD g_pulls_from_w6 g_pulls_from_b7 (m + 1) t | .ct t=>whileD g_pulls_from_w6 g_pulls_from_b7 (m + 1) t | .bk t=>Fl.nx t | o=>o)=_
   rw [e]
   exact e2
end
theorem in_tup (b:Bool) (x:Int) (qs:List Int):inD b (.int x) (.tup (qs.map .int))=.ok (.bl (if b then !decide (x ∈ qs) else decide (x ∈ qs))):=by
 have h1:(qs.map D.int).all D.flat=true:=by simp [D.flat]
 have h2:inF (.int x) (qs.map D.int)=decide (x ∈ qs):=by
  unfold inF
  rw [Bool.eq_iff_iff,List.any_eq_true,decide_eq_true_eq]
  constructor
  ·rintro ⟨y,hy,e⟩
   obtain ⟨z,hz,rfl⟩:=List.mem_map.mp hy
   have e:z=x:=by simpa [eqF] using e
   rw [<- e]
   exact hz
  ·intro h
   exact ⟨.int x,List.mem_map.mpr ⟨x,h,rfl⟩,by simp [eqF]⟩
 show (if (D.int x).flat=true/\(qs.map D.int).all D.flat=true then Res.ok (D.bl (if b then !inF (.int x) (qs.map .int) else inF (.int x) (qs.map .int))) else .bad)=_
 rw [if_pos ⟨rfl,h1⟩,h2]
theorem var_tup {i:Nat}{τ:SD}{qs:List Int} (h:τ[i]?=some (some (.tup (qs.map .int)))):eVar i τ=.ok (.tup (qs.map .int)):=var_pure h (pure_ints qs)
theorem notin_ok {f g:SD->Res D}{τ:SD}{x:Int}{qs:List Int} (h1:f τ=.ok (.int x)) (h2:g τ=.ok (.tup (qs.map .int))):eT (eBin (inD true) f g) τ=.ok (!decide (x ∈ qs)):=eT_ok ((eBin_ok h1 h2).trans (in_tup true x qs))
theorem mem_dd (ns:List Int) (k:Int):k ∈ L2.dd ns ↔ k ∈ ns:=by
 have h:=PyProof.Rows.firstMet_any (fun i=>ns.getD i 0) ns.length k
 have e:(List.range ns.length).map (fun i=>ns.getD i 0)=ns:=by
  refine List.ext_getElem (by simp) fun i h1 h2=>?_
  simp
  rw [List.getElem?_eq_getElem h2]
  rfl
 rw [e] at h
 have m:∀ l:List Int,(l.any fun x=>x == k)=true ↔ k ∈ l:=fun l=>by
  rw [List.any_eq_true]
  constructor
  ·rintro ⟨x,hx,e⟩
   have:x=k:=by simpa using e
   exact this ▸ hx
  ·intro hk
   exact ⟨k,hk,by simp⟩
 unfold L2.dd
 rw [<- m,h,m]
theorem fold_nodup:∀ (ns acc:List Int),acc.Nodup->(ns.foldl PyProof.Rows.step_dedup acc).Nodup
 | [],_,h=>h
 | x :: r,acc,h=>by
  rw [List.foldl_cons]
  refine fold_nodup r _ ?_
  unfold PyProof.Rows.step_dedup
  split
  ·exact h
  ·rename_i hx
   rw [List.nodup_append]
   refine ⟨h,List.nodup_cons.mpr ⟨List.not_mem_nil,List.nodup_nil⟩,fun a ha b hb z=>?_⟩
   have hb:b=x:=by simpa using hb
   subst hb z
   exact hx (List.any_eq_true.mpr ⟨a,ha,by simp⟩)
theorem nodup_dd (ns:List Int):(L2.dd ns).Nodup:=fold_nodup _ [] List.nodup_nil
theorem place_in {qs:List Int}{x:Int} (h:x ∈ qs):G_require_place [.tup (qs.map .int),.int x]=.ok .non:=by
 refine run_nx (t := [some (.tup (qs.map .int)),some (.int x)]) rfl rfl ?_
 show g_require_place [some (.tup (qs.map .int)),some (.int x)]=.nx _
 unfold g_require_place
 have t:=notin_ok (τ := [some (.tup (qs.map .int)),some (.int x)]) (f:=eVar 1) (g:=eVar 0) (x:=x) (qs:=qs) rfl (var_tup rfl)
 rw [decide_eq_true h] at t
 rw [if_f t]
 rfl
def csSt (ps qs:List Int) (o:Option D):SD := [some (.tup (ps.map .int)),some (.lst .frz (qs.map .int)),o]
section
variable {ps qs:List Int}{f:Nat->Nat->Int}
theorem cs_call {q:Int} (h:q ∈ ps):eCall G_require_place (aCons (eVar 0) (aCons (eVar 2) aNil)) (csSt ps qs (some (.int q)))=.ok .non :=
 eCall_own (ds := [.tup (ps.map .int),.int q]) (aCons_ok (var_tup rfl) (aOne rfl)) (by show G_require_place [.tup (frzL (ps.map .int)),.int q]=_; rw [frz_ints]; exact place_in h) (by show ((hasBorL (ps.map .int)) || _)=false; rw [hasBorL_pure _ (pure_ints _)]; rfl)
theorem cs_loop:∀ (R:List Int) (o:Option D),(∀ q ∈ R,q ∈ ps)->∃ o',forD (gN 2) g_checked_set_b1 (R.map .int) (csSt ps qs o)=.nx (csSt ps qs o')
 | [],o,_=>⟨o,rfl⟩
 | q :: R,o,h=>by
  obtain ⟨o',i1⟩:=cs_loop R (some (.int q)) fun x hx=>h x (List.mem_cons_of_mem _ hx)
  refine ⟨o',?_⟩
  rw [List.map_cons,forD_nx (body:=g_checked_set_b1) (τ' := csSt ps qs (some (.int q))) rfl (expr_nx (cs_call (h q List.mem_cons_self)))]
  exact i1
theorem cs_for:sFor [1] (eIt (eVar 1)) (gN 2) g_checked_set_b1 (csSt ps qs none)=forD (gN 2) g_checked_set_b1 (qs.map .int) (csSt ps qs none):=by
 refine for_ok ?_ (it_frz rfl (pure_ints qs)) (pure_ints qs)
 show [some (D.tup (ps.map .int)),some (.lst .frz (frzL (qs.map .int))),none]=_
 rw [frz_ints]
 rfl
theorem checked_ok (h1:∀ q ∈ qs,q ∈ ps) (h2:qs ≠ []) (hl:qs.length < 64):G_checked_set [.tup (ps.map .int),.lst .frz (qs.map .int)]=.ok (.lst .own ((sortI (L2.dd qs)).map .int)):=by
 obtain ⟨o,e⟩:=cs_loop (ps:=ps) (qs:=qs) qs none h1
 refine run_rt (τ:=csSt ps qs none) rfl rfl ?_
 unfold g_checked_set
 rw [seq_nx (cs_for.trans e)]
 have v1:eVar 1 (csSt ps qs o)=.ok (.lst .frz (qs.map .int)):=var_frz rfl (pure_ints qs)
 have t:=eqi_ok (len_ok v1) (g:=eC (.int 0)) (b:=0) rfl
 rw [decide_eq_false (by rw [List.length_map]; cases qs with | nil=>exact absurd rfl h2 | cons _ _=>simp only [List.length_cons]; omega)] at t
 rw [if_go t]
 refine ret_rt ?_ (bor_own (pure_ints _))
 unfold eUn
 rw [v1,Res.bind_ok]
 show (match intsOf (qs.map D.int) with | some ns=>if ns.length < 64 then Res.ok (D.lst .own ((sortI (L2.dd ns)).map D.int)) else .bad | none=>.bad)=_
 rw [intsOf_map]
 show (if qs.length < 64 then Res.ok (D.lst .own ((sortI (L2.dd qs)).map D.int)) else .bad)=_
 rw [if_pos hl]
end
theorem eCall_same {G:DF}{fs:SD->Res (List D)}{τ:SD}{ds:List D}{d:D} (ha:fs τ=.ok ds) (h:G (frzL ds)=.ok d) (ht:d.toBor=d):eCall G fs τ=.ok d:=by
 unfold eCall
 rw [ha,Res.bind_ok]
 unfold callD
 rw [h]
 show (if hasBorL ds=true then Res.ok d.toBor else Res.ok d)=_
 rw [ht,ite_self]
theorem toBor_own {xs:List D} (h:pureL xs=true):(D.lst .own xs).toBor=.lst .own xs:=by
 show D.lst .own (toBorL xs)=_
 rw [toBorL_pure _ h]
theorem inn_nb (ps:List Int) (e:List (Nat × Int)):(innD .frz ps e).hasBor=false:=by
 show (false || hasBorL (e.map fun x=>D.int x.2))=false
 rw [hasBorL_pure _ (pureL_of fun d m=>by obtain ⟨x,_,rfl⟩:=List.mem_map.mp m; rfl)]
 rfl
theorem sg_nb (ps:List Int) (m:Nat) (g:Nat->List (Nat × Int)):(sgD .frz ps m g).hasBor=false:=by
 show (false || hasBorL ((List.range m).map fun i=>innD .frz ps (g i)))=false
 rw [hasBorL_eq,Bool.false_or,List.any_eq_false]
 intro d hd
 obtain ⟨i,_,rfl⟩:=List.mem_map.mp hd
 rw [inn_nb]
 exact Bool.false_ne_true
section
variable {ps:List Int}{f:Nat->Nat->Int}
theorem pulls_eq (hs:ps.Pairwise (· < ·)) (hl:ps.length <= 24) {fi:Nat}{rest:List Nat} (hm:∀ x ∈ fi :: rest,x < ps.length) (hmd:(fi :: rest).Nodup) :
  ∃ O Pl,PG.St (cc f) ps.length fi (fi :: rest) O [] Pl/\G_pulls_from [sgF ps f,.lst .frz ((pp ps (fi :: rest)).map .int)]=.ok (.lst .own (Pl.map (trD ps fi))):=by
 have v1:∀ τ:SD,τ[1]?=some (some (.lst .frz ((pp ps (fi :: rest)).map .int)))->eVar 1 τ=.ok (.lst .frz ((pp ps (fi :: rest)).map .int)):=fun τ h=>var_frz h (pure_ints _)
 have S0:=PG.St.init (cc f) ps.length fi rest
 have hO:(PG.outOf ps.length (fi :: rest)).length <= 24:=by
  unfold PG.outOf
  have:=List.length_filter_le (fun p=>!decide (p ∈ fi :: rest)) (List.range ps.length)
  rw [List.length_range] at this
  omega
 have hr:rest.length <= 24:=by
  have:=PG.nodup_bound hmd hm
  rw [List.length_cons] at this
  omega
 obtain ⟨O,Pl,a,b,S,e⟩:=pu_while (f:=f) hs hl hm hmd List.mem_cons_self 90 (by omega) (PG.outOf ps.length (fi :: rest)) rest [] none none S0 (by omega)
 refine ⟨O,Pl,S,?_⟩
 refine run_rt (τ := [some (sgF ps f),some (.lst .frz ((pp ps (fi :: rest)).map .int)),none,none,none,none,none,none]) rfl rfl ?_
 unfold g_pulls_from
 have s1:eBin ixD (eVar 1) (eC (.int 0)) [some (sgF ps f),some (.lst .frz ((pp ps (fi :: rest)).map .int)),none,none,none,none,none,none]=.ok (.int (plc ps fi)):=ix_ok (v1 _ rfl) (y := .int 0) rfl (ix_lst (j:=0) rfl rfl)
 rw [seq_nx (set_nx s1 rfl)]
 show sSeq _ _ [some (sgF ps f),some (.lst .frz ((pp ps (fi :: rest)).map .int)),some (.int (plc ps fi)),none,none,none,none,none]=_
 have s2:eComp (eKeys (eVar 0)) (gN 0) g_pulls_from_c8 g_pulls_from_e9 1 [("members",1)] [some (sgF ps f),some (.lst .frz ((pp ps (fi :: rest)).map .int)),some (.int (plc ps fi)),none,none,none,none,none]=.ok (.lst .own ((pp ps (PG.outOf ps.length (fi :: rest))).map .int)):=by
  have hi:eKeys (eVar 0) [some (sgF ps f),some (.lst .frz ((pp ps (fi :: rest)).map .int)),some (.int (plc ps fi)),none,none,none,none,none]=.ok (false,(List.range ps.length).map fun i=>D.int (plc ps i)):=by
   unfold eKeys
   show (Res.ok (sgF ps f).view).bind itemsK=_
   rw [sg_view]
   show Res.ok ((sgF ps f).hasBor,((List.range ps.length).map fun i=>kI (plc ps i)).map keyDl)=_
   rw [sg_nb,List.map_map]
   rfl
  have hcap:capD [some (sgF ps f),some (.lst .frz ((pp ps (fi :: rest)).map .int)),some (.int (plc ps fi)),none,none,none,none,none] [("members",1)]=[some (.lst .frz ((pp ps (fi :: rest)).map .int))]:=by
   show [some (D.lst .frz (frzL ((pp ps (fi :: rest)).map .int)))]=_
   rw [frz_ints]
  rw [eComp_map (tt:=g_pulls_from_c8) (elt:=g_pulls_from_e9) (cap := [("members",1)]) (fun i=>D.int (plc ps i)) (fun p=>!decide (p ∈ fi :: rest)) (fun i=>D.int (plc ps i)) hi (fun _ _=>rfl)
   (fun p hp=>by
    rw [hcap]
    refine (notin_lst (x:=plc ps p) (qs:=pp ps (fi :: rest)) rfl (var_frz rfl (pure_ints _))).trans ?_
    rw [decide_eq_decide.mpr (mem_pp hs (List.mem_range.mp hp) hm)]) (fun _ _ _=>⟨rfl,rfl⟩) (by rw [List.length_range]; omega),pp_int]
  rfl
 rw [seq_nx (set_nx s2 (bor_own (pure_ints _)))]
 show sSeq _ _ [some (sgF ps f),some (.lst .frz ((pp ps (fi :: rest)).map .int)),some (.int (plc ps fi)),some (.lst .own ((pp ps (PG.outOf ps.length (fi :: rest))).map .int)),none,none,none,none]=_
 have s3:eCut (eVar 1) (eP (eC (.int 1))) eP0 [some (sgF ps f),some (.lst .frz ((pp ps (fi :: rest)).map .int)),some (.int (plc ps fi)),some (.lst .own ((pp ps (PG.outOf ps.length (fi :: rest))).map .int)),none,none,none,none]=.ok (.lst .own ((pp ps rest).map .int)):=by
  unfold eCut
  rw [v1 _ rfl,Res.bind_ok]
  show Res.ok (D.lst .own (DL.cut ((pp ps (fi :: rest)).map D.int) (some ((1:Nat):Int)) none))=_
  rw [cut_from]
  rfl
 rw [seq_nx (set_nx s3 (bor_own (pure_ints _)))]
 rw [seq_nx (set_nx (d := .lst .own []) rfl rfl)]
 show sSeq (sWhile g_pulls_from_w6 g_pulls_from_b7) _ (puSt ps f (fi :: rest) fi (PG.outOf ps.length (fi :: rest)) rest [] none none)=_
 have w:sWhile g_pulls_from_w6 g_pulls_from_b7 (puSt ps f (fi :: rest) fi (PG.outOf ps.length (fi :: rest)) rest [] none none)=.nx (puSt ps f (fi :: rest) fi O [] Pl a b):=by
  rw [sWhile_eq (n:=91) (by rw [e]; exact Fl.noConfusion),e]
 rw [seq_nx w]
 rfl
theorem pulled_eq (hs:ps.Pairwise (· < ·)) (hl:ps.length <= 24) {qs:List Int}{fi:Nat}{rest:List Nat} (hm:∀ x ∈ fi :: rest,x < ps.length) (hmd:(fi :: rest).Nodup) (h1:∀ q ∈ qs,q ∈ ps) (h2:qs ≠ []) (hq:qs.length < 64) (hd:sortI (L2.dd qs)=pp ps (fi :: rest)) :
  ∃ O Pl,PG.St (cc f) ps.length fi (fi :: rest) O [] Pl/\G_pulled [nF ps f,.lst .frz (qs.map .int)]=.ok (.tup [.lst .own ((sortI (pp ps (PG.gr (fi :: rest) Pl))).map .int),.lst .own (Pl.map (trD ps fi))]):=by
 obtain ⟨O,Pl,S,e⟩:=pulls_eq (f:=f) hs hl hm hmd
 refine ⟨O,Pl,S,?_⟩
 have hg:(PG.gr (fi :: rest) Pl).length <= 24:=Nat.le_trans (PG.nodup_bound (S.val.nodup hmd) (n:=ps.length) fun x hx=>by
  rcases List.mem_append.mp hx with z | z
  ·exact hm x z
  ·obtain ⟨y,hy,rfl⟩:=List.mem_map.mp z
   exact S.val.bound y hy) hl
 have hpl:Pl.length <= 24:=by
  rw [List.length_append,List.length_map] at hg
  omega
 refine run_rt (τ := [some (nF ps f),some (.lst .frz (qs.map .int)),none,none]) rfl rfl ?_
 unfold g_pulled
 have v0:∀ τ:SD,τ[0]?=some (some (nF ps f))->eVar 0 τ=.ok (nF ps f):=fun τ h=>var_pure h (nF_pure _ _)
 have s1:eCall G_checked_set (aCons (eBin ixD (eVar 0) (eC (.int 0))) (aCons (eVar 1) aNil)) [some (nF ps f),some (.lst .frz (qs.map .int)),none,none]=.ok (.lst .own ((pp ps (fi :: rest)).map .int)) :=
  eCall_same (ds := [.tup (ps.map .int),.lst .frz (qs.map .int)]) (aCons_ok (net0 (v0 _ rfl)) (aOne (var_frz rfl (pure_ints _)))) (by
   show G_checked_set [.tup (frzL (ps.map .int)),.lst .frz (frzL (qs.map .int))]=_
   rw [frz_ints,frz_ints,checked_ok h1 h2 hq,hd]) (toBor_own (pure_ints _))
 rw [seq_nx (set_nx s1 (bor_own (pure_ints _)))]
 show sSeq _ _ [some (nF ps f),some (.lst .frz (qs.map .int)),some (.lst .own ((pp ps (fi :: rest)).map .int)),none]=_
 have s2:eCall G_pulls_from (aCons (eCall G_sights_of (aCons (eVar 0) aNil)) (aCons (eVar 2) aNil)) [some (nF ps f),some (.lst .frz (qs.map .int)),some (.lst .own ((pp ps (fi :: rest)).map .int)),none]=.ok (.lst .own (Pl.map (trD ps fi))):=by
  have sg:eCall G_sights_of (aCons (eVar 0) aNil) [some (nF ps f),some (.lst .frz (qs.map .int)),some (.lst .own ((pp ps (fi :: rest)).map .int)),none]=.ok (sgD .own ps ps.length fun i=>ent f i (prF ps.length)) :=
   eCall_own (ds := [nF ps f]) (aOne (v0 _ rfl)) (by show G_sights_of [(nF ps f).frz]=_; rw [frz_pure _ (nF_pure _ _)]; exact sights_eq hs hl) (by show ((nF ps f).hasBor || false)=false; rw [hasBor_pure _ (nF_pure _ _)]; rfl)
  refine eCall_same (ds := [sgD .own ps ps.length fun i=>ent f i (prF ps.length),.lst .bor ((pp ps (fi :: rest)).map .int)]) (aCons_ok sg (aOne (var_own rfl (pure_ints _)))) ?_ (toBor_own (tr_pure _ _ _))
  show G_pulls_from [(sgD .own ps ps.length fun i=>ent f i (prF ps.length)).frz,.lst .frz (frzL ((pp ps (fi :: rest)).map .int))]=_
  rw [sg_frz,frz_ints,e]
 rw [seq_nx (set_nx s2 (bor_own (tr_pure _ _ _)))]
 show sRetT _ _ [some (nF ps f),some (.lst .frz (qs.map .int)),some (.lst .own ((pp ps (fi :: rest)).map .int)),some (.lst .own (Pl.map (trD ps fi)))]=_
 have s3:eComp (eIt (eVar 3)) (gN 0) bTrue g_pulled_e1 1 [] [some (nF ps f),some (.lst .frz (qs.map .int)),some (.lst .own ((pp ps (fi :: rest)).map .int)),some (.lst .own (Pl.map (trD ps fi)))]=.ok (.lst .own ((pp ps (Pl.map (·.1))).map .int)):=by
  rw [eComp_one (elt:=g_pulled_e1) (cap := []) (trD ps fi) (fun x=>D.int (plc ps x.1)) (it_own rfl (tr_pure _ _ _)) (fun _ _=>rfl) (fun x _=>⟨ix_ok (x:=trD ps fi x) (y := .int 0) rfl rfl (ix_tup (j:=0) rfl rfl),rfl⟩) (by omega),pp_int,List.map_map]
  rfl
 have s4:eBin addD (eVar 2) (eComp (eIt (eVar 3)) (gN 0) bTrue g_pulled_e1 1 []) [some (nF ps f),some (.lst .frz (qs.map .int)),some (.lst .own ((pp ps (fi :: rest)).map .int)),some (.lst .own (Pl.map (trD ps fi)))]=.ok (.lst .own ((pp ps (PG.gr (fi :: rest) Pl)).map .int)):=by
  rw [eBin_ok (var_own rfl (pure_ints _)) s3]
  show (if ((pp ps (fi :: rest)).map D.int).length + ((pp ps (Pl.map (·.1))).map D.int).length <= 16777216 then Res.ok (D.lst .own ((pp ps (fi :: rest)).map D.int ++ (pp ps (Pl.map (·.1))).map D.int)) else .bad)=_
  rw [if_pos (by
   unfold pp
   rw [List.length_map,List.length_map,List.length_map,List.length_map,List.length_map]
   rw [List.length_append,List.length_map] at hg
   omega),<- List.map_append,<- pp_append]
 have s5:eA sortedD (aCons (eBin addD (eVar 2) (eComp (eIt (eVar 3)) (gN 0) bTrue g_pulled_e1 1 [])) aNil) [some (nF ps f),some (.lst .frz (qs.map .int)),some (.lst .own ((pp ps (fi :: rest)).map .int)),some (.lst .own (Pl.map (trD ps fi)))]=.ok (.lst .own ((sortI (pp ps (PG.gr (fi :: rest) Pl))).map .int)):=by
  rw [eA_ok (aOne s4)]
  show (match intsOf ((pp ps (PG.gr (fi :: rest) Pl)).map D.int) with | some ns=>if ns.length < 64 then Res.ok (D.lst .own ((sortI ns).map D.int)) else .bad | none=>.bad)=_
  rw [intsOf_map]
  show (if (pp ps (PG.gr (fi :: rest) Pl)).length < 64 then Res.ok (D.lst .own ((sortI (pp ps (PG.gr (fi :: rest) Pl))).map D.int)) else .bad)=_
  rw [if_pos (by unfold pp; rw [List.length_map]; omega)]
 show (Res.toFl _ _ _)=_
 rw [s5]
 show (if (D.lst .own ((sortI (pp ps (PG.gr (fi :: rest) Pl))).map .int)).hasBor=true then Fl.bad else _)=_
 rw [bor_own (pure_ints _),if_neg Bool.false_ne_true]
end
def ni (l:List Nat):List Int:=l.map fun i:Nat=>(i:Int)
theorem ni_int (l:List Nat):(ni l).map D.int=l.map fun i:Nat=>D.int (i:Int):=by
 unfold ni
 rw [List.map_map]
 rfl
theorem ni_append (l m:List Nat):ni (l ++ m)=ni l ++ ni m:=List.map_append
theorem mem_ni {l:List Nat}{i:Nat}:(i:Int) ∈ ni l ↔ i ∈ l:=by
 unfold ni
 constructor
 ·intro h
  obtain ⟨j,hj,e⟩:=List.mem_map.mp h
  have:j=i:=by omega
  exact this ▸ hj
 ·intro h
  exact List.mem_map.mpr ⟨i,h,rfl⟩
theorem ni_len (l:List Nat):(ni l).length=l.length:=List.length_map _
section
variable {ps:List Int}{f:Nat->Nat->Int}
theorem net_co {k j:Nat}{e g i:SD->Res D}{τ:SD} (h:e τ=.ok (nF ps f)) (hg:g τ=.ok (.int k)) (hi:i τ=.ok (.int j)) (hj:j < k) (hk:k < ps.length):eBin ixD (eBin ixD (eBin ixD e (eC (.int 1))) g) i τ=.ok (.int (f k j)) :=
 ix_ok (ix_ok (net1 h) hg (ix_tup rfl (row_at hk))) hi (ix_tup rfl (col_at hj))
theorem v0_of {τ:SD} (h:τ[0]?=some (some (nF ps f))):eVar 0 τ=.ok (nF ps f):=var_pure h (nF_pure _ _)
theorem shown_eq {k j:Nat} (hk:k < ps.length) (hj:j < ps.length) (hn:k ≠ j):G_Lshown [nF ps f,.int k,.int j]=.ok (.int (cc f k j)):=by
 refine run_rt (τ := [some (nF ps f),some (.int k),some (.int j)]) rfl rfl ?_
 unfold g_Lshown
 refine ret_rt ?_ rfl
 unfold cc
 refine net_co (v0_of rfl) ?_ ?_ (by omega) (by omega)
 ·show Res.ok (D.int (if (j:Int) > k then (j:Int) else k))=_
  by_cases h:j < k
  ·rw [if_neg (by omega),Nat.max_eq_left (by omega)]
  ·rw [if_pos (by omega),Nat.max_eq_right (by omega)]
 ·show Res.ok (D.int (if (j:Int) < k then (j:Int) else k))=_
  by_cases h:j < k
  ·rw [if_pos (by omega),Nat.min_eq_right (by omega)]
  ·rw [if_neg (by omega),Nat.min_eq_left (by omega)]
theorem shown_call {τ:SD}{g h:SD->Res D}{k j:Nat} (h0:τ[0]?=some (some (nF ps f))) (h1:g τ=.ok (.int k)) (h2:h τ=.ok (.int j)) (hk:k < ps.length) (hj:j < ps.length) (hn:k ≠ j):eCall G_Lshown (aCons (eVar 0) (aCons g (aCons h aNil))) τ=.ok (.int (cc f k j)) :=
 eCall_pure (ds := [nF ps f,.int k,.int j]) (aCons_ok (v0_of h0) (aCons_ok h1 (aOne h2))) (by show G_Lshown [(nF ps f).frz,.int k,.int j]=_; rw [frz_pure _ (nF_pure _ _)]; exact shown_eq hk hj hn) rfl
def teSt (ps:List Int) (f:Nat->Nat->Int) (l:List Nat) (a b:Option D):SD := [some (nF ps f),some (.lst .frz ((ni l).map .int)),a,b]
theorem te_v1 {l:List Nat}{a b:Option D}:eVar 1 (teSt ps f l a b)=.ok (.lst .frz ((ni l).map .int)):=var_frz rfl (pure_ints _)
theorem te_x0 {l0:Nat}{lr:List Nat}{a b:Option D}:eBin ixD (eVar 1) (eC (.int 0)) (teSt ps f (l0 :: lr) a b)=.ok (.int l0):=ix_ok te_v1 (y := .int 0) rfl (ix_lst (j:=0) rfl rfl)
theorem te_in {l0 k:Nat}{lr:List Nat} (hl:∀ x ∈ l0 :: lr,x < ps.length) (hk:k < ps.length) (hn:k ∉ l0 :: lr):∀ (r:List Nat) (b:Option D),(∀ x ∈ r,x ∈ lr) ->
  (∃ b',forD (gN 3) g_Lteller_b1 ((ni r).map .int) (teSt ps f (l0 :: lr) (some (.int k)) b)=.nx (teSt ps f (l0 :: lr) (some (.int k)) b')/\∀ j ∈ r,cc f k j=cc f k l0) ∨
  ∃ j:Nat,(j ∈ lr/\cc f k j ≠ cc f k l0)/\forD (gN 3) g_Lteller_b1 ((ni r).map .int) (teSt ps f (l0 :: lr) (some (.int k)) b)=.rt (.tup [.int k,.int l0,.int j])
 | [],b,_=>.inl ⟨b,rfl,fun j hj=>by cases hj⟩
 | j :: r,b,h=>by
  have hj:=h j List.mem_cons_self
  have hjn:k ≠ j:=fun z=>hn (List.mem_cons_of_mem _ (z ▸ hj))
  have h0n:k ≠ l0:=fun z=>hn (z ▸ List.mem_cons_self)
  have c1:=shown_call (f:=f) (τ:=teSt ps f (l0 :: lr) (some (.int k)) (some (.int j))) (g:=eVar 2) (h:=eVar 3) (k:=k) (j:=j) rfl rfl rfl hk (hl j (List.mem_cons_of_mem _ hj)) hjn
  have c2:=shown_call (f:=f) (τ:=teSt ps f (l0 :: lr) (some (.int k)) (some (.int j))) (g:=eVar 2) (h:=eBin ixD (eVar 1) (eC (.int 0))) (k:=k) (j:=l0) rfl rfl te_x0 hk (hl l0 List.mem_cons_self) h0n
  have t:=nei_ok c1 c2
  by_cases e:cc f k j=cc f k l0
  ·rw [decide_eq_true e] at t
   have st:g_Lteller_b1 (teSt ps f (l0 :: lr) (some (.int k)) (some (.int j)))=.nx (teSt ps f (l0 :: lr) (some (.int k)) (some (.int j))):=by
    unfold g_Lteller_b1
    rw [if_f t]
    rfl
   have go:forD (gN 3) g_Lteller_b1 ((ni (j :: r)).map .int) (teSt ps f (l0 :: lr) (some (.int k)) b)=forD (gN 3) g_Lteller_b1 ((ni r).map .int) (teSt ps f (l0 :: lr) (some (.int k)) (some (.int j))):=forD_nx (τ' := teSt ps f (l0 :: lr) (some (.int k)) (some (.int j))) rfl st
   rw [go]
   rcases te_in hl hk hn r (some (.int j)) (fun x hx=>h x (List.mem_cons_of_mem _ hx)) with ⟨b',e1,e2⟩ | q
   ·refine .inl ⟨b',e1,fun x hx=>?_⟩
    rcases List.mem_cons.mp hx with rfl | hx
    ·exact e
    ·exact e2 x hx
   ·exact .inr q
  ·rw [decide_eq_false e] at t
   refine .inr ⟨j,⟨hj,e⟩,forD_rt (τ' := teSt ps f (l0 :: lr) (some (.int k)) (some (.int j))) rfl ?_⟩
   unfold g_Lteller_b1
   rw [if_t t]
   refine ret_rt ?_ rfl
   rw [eA_ok (aCons_ok (d := .int k) rfl (aCons_ok te_x0 (aOne (d := .int j) rfl)))]
   rfl
theorem te_cut {l0:Nat}{lr:List Nat}{a b:Option D}:eIt (eCut (eVar 1) (eP (eC (.int 1))) eP0) (teSt ps f (l0 :: lr) a b)=.ok (false,(ni lr).map .int):=by
 unfold eIt eCut
 rw [te_v1,Res.bind_ok]
 show (Res.ok (D.lst .own (DL.cut ((ni (l0 :: lr)).map D.int) (some ((1:Nat):Int)) none))).bind itemsD=_
 rw [cut_from,Res.bind_ok]
 exact items_l (.inr rfl) (pure_ints _)
theorem te_turn {l0 k:Nat}{lr:List Nat} (hl:∀ x ∈ l0 :: lr,x < ps.length) (hk:k < ps.length) (b:Option D) :
  (∃ b',g_Lteller_b2 (teSt ps f (l0 :: lr) (some (.int k)) b)=.nx (teSt ps f (l0 :: lr) (some (.int k)) b')/\(k ∉ l0 :: lr->∀ j ∈ lr,cc f k j=cc f k l0)) ∨
  (k ∉ l0 :: lr/\∃ j:Nat,(j ∈ lr/\cc f k j ≠ cc f k l0)/\g_Lteller_b2 (teSt ps f (l0 :: lr) (some (.int k)) b)=.rt (.tup [.int k,.int l0,.int j])):=by
 have t:=notin_lst (f:=eVar 2) (g:=eVar 1) (τ:=teSt ps f (l0 :: lr) (some (.int k)) b) (x:=(k:Int)) (qs:=ni (l0 :: lr)) rfl te_v1
 rw [decide_eq_decide.mpr mem_ni] at t
 unfold g_Lteller_b2
 by_cases hn:k ∈ l0 :: lr
 ·rw [decide_eq_true hn] at t
  rw [if_f t]
  exact .inl ⟨b,rfl,fun z=>absurd hn z⟩
 ·rw [decide_eq_false hn] at t
  rw [if_t t,for_ok (τ' := teSt ps f (l0 :: lr) (some (.int k)) b) (by
   show [some (nF ps f),some (D.lst .frz (frzL ((ni (l0 :: lr)).map .int))),_,_]=_
   rw [frz_ints]
   rfl) te_cut (pure_ints _)]
  rcases te_in (f:=f) hl hk hn lr b (fun _ h=>h) with ⟨b',e1,e2⟩ | ⟨j,hj,e⟩
  ·exact .inl ⟨b',e1,fun _=>e2⟩
  ·exact .inr ⟨hn,j,hj,e⟩
theorem te_loop {l0:Nat}{lr:List Nat} (hl:∀ x ∈ l0 :: lr,x < ps.length):∀ (r:List Nat) (a b:Option D),(∀ x ∈ r,x < ps.length) ->
  (∃ a' b',forD (gN 2) g_Lteller_b2 (r.map fun i:Nat=>D.int (i:Int)) (teSt ps f (l0 :: lr) a b)=.nx (teSt ps f (l0 :: lr) a' b')/\∀ k ∈ r,k ∉ l0 :: lr->∀ j ∈ lr,cc f k j=cc f k l0) ∨
  ∃ k j:Nat,k < ps.length/\k ∉ l0 :: lr/\(j ∈ lr/\cc f k j ≠ cc f k l0)/\forD (gN 2) g_Lteller_b2 (r.map fun i:Nat=>D.int (i:Int)) (teSt ps f (l0 :: lr) a b)=.rt (.tup [.int k,.int l0,.int j])
 | [],a,b,_=>.inl ⟨a,b,rfl,fun k hk=>by cases hk⟩
 | k :: r,a,b,h=>by
  have hk:=h k List.mem_cons_self
  rcases te_turn (f:=f) hl hk b with ⟨b',e,q⟩ | ⟨hn,j,hj,e⟩
  ·have go:forD (gN 2) g_Lteller_b2 ((k :: r).map fun i:Nat=>D.int (i:Int)) (teSt ps f (l0 :: lr) a b)=forD (gN 2) g_Lteller_b2 (r.map fun i:Nat=>D.int (i:Int)) (teSt ps f (l0 :: lr) (some (.int k)) b'):=forD_nx (τ' := teSt ps f (l0 :: lr) (some (.int k)) b) rfl e
   rw [go]
   rcases te_loop hl r (some (.int k)) b' (fun x hx=>h x (List.mem_cons_of_mem _ hx)) with ⟨a',b'',e1,e2⟩ | q'
   ·refine .inl ⟨a',b'',e1,fun x hx=>?_⟩
    rcases List.mem_cons.mp hx with rfl | hx
    ·exact q
    ·exact e2 x hx
   ·exact .inr q'
  ·exact .inr ⟨k,j,hk,hn,hj,forD_rt (τ' := teSt ps f (l0 :: lr) (some (.int k)) b) rfl e⟩
theorem teller_eq (hp:ps.length <= 24) {l0:Nat}{lr:List Nat} (hl:∀ x ∈ l0 :: lr,x < ps.length) :
  (G_Lteller [nF ps f,.lst .frz ((ni (l0 :: lr)).map .int)]=.ok .non/\∀ k,k < ps.length->k ∉ l0 :: lr->∀ j ∈ lr,cc f k j=cc f k l0) ∨
  ∃ k j:Nat,k < ps.length/\k ∉ l0 :: lr/\(j ∈ lr/\cc f k j ≠ cc f k l0)/\G_Lteller [nF ps f,.lst .frz ((ni (l0 :: lr)).map .int)]=.ok (.tup [.int k,.int l0,.int j]):=by
 have hr:eRng1 (aCons (eA lenD (aCons (eBin ixD (eVar 0) (eC (.int 0))) aNil)) aNil) (teSt ps f (l0 :: lr) none none)=.ok (false,(List.range ps.length).map fun i:Nat=>D.int (i:Int)):=by
  unfold eRng1
  have e:eA lenD (aCons (eBin ixD (eVar 0) (eC (.int 0))) aNil) (teSt ps f (l0 :: lr) none none)=.ok (.int ps.length):=by
   rw [eA_ok (aOne (net0 (v0_of rfl)))]
   show Res.ok (D.int ((ps.map D.int).length:Nat))=_
   rw [List.length_map]
  rw [aOne e,Res.bind_ok,range1_nat (by omega)]
 have hf:sFor [] (eRng1 (aCons (eA lenD (aCons (eBin ixD (eVar 0) (eC (.int 0))) aNil)) aNil)) (gN 2) g_Lteller_b2 (teSt ps f (l0 :: lr) none none)=forD (gN 2) g_Lteller_b2 ((List.range ps.length).map fun i:Nat=>D.int (i:Int)) (teSt ps f (l0 :: lr) none none) :=
  for_ok rfl hr (pureL_of fun d m=>by obtain ⟨x,_,rfl⟩:=List.mem_map.mp m; rfl)
 rcases te_loop (f:=f) hl (List.range ps.length) none none (fun x hx=>List.mem_range.mp hx) with ⟨a',b',e1,e2⟩ | ⟨k,j,h1,h2,h3,e⟩
 ·refine .inl ⟨?_,fun k hk=>e2 k (List.mem_range.mpr hk)⟩
  refine run_rt (τ:=teSt ps f (l0 :: lr) none none) rfl rfl ?_
  unfold g_Lteller
  rw [seq_nx (hf.trans e1)]
  rfl
 ·refine .inr ⟨k,j,h1,h2,h3,?_⟩
  refine run_rt (τ:=teSt ps f (l0 :: lr) none none) rfl rfl ?_
  unfold g_Lteller
  exact seq_rt (hf.trans e)
theorem teller_none (hp:ps.length <= 24) {l0:Nat}{lr:List Nat} (hl:∀ x ∈ l0 :: lr,x < ps.length) (hc:PG.Closed (cc f) ps.length (l0 :: lr)):G_Lteller [nF ps f,.lst .frz ((ni (l0 :: lr)).map .int)]=.ok .non:=by
 rcases teller_eq (f:=f) hp hl with ⟨e,_⟩ | ⟨k,j,h1,h2,⟨h3,h4⟩,_⟩
 ·exact e
 ·exact absurd (hc k h1 h2 j (List.mem_cons_of_mem _ h3) l0 List.mem_cons_self) h4
def clSt (ps:List Int) (f:Nat->Nat->Int) (t:Tg) (l:List Nat) (a:Option D):SD := [some (nF ps f),some (.lst t ((ni l).map .int)),a]
theorem var_fo {i:Nat}{τ:SD}{t:Tg}{ns:List Int} (ht:t=.frz ∨ t=.own) (h:τ[i]?=some (some (.lst t (ns.map .int)))):∃ t',eVar i τ=.ok (.lst t' (ns.map .int)):=by
 rcases ht with rfl | rfl
 ·exact ⟨_,var_frz h (pure_ints _)⟩
 ·exact ⟨_,var_own h (pure_ints _)⟩
theorem ne_ex {l:List Nat} (h:l ≠ []):∃ l0 lr,l=l0 :: lr:=by
 cases l with
 | nil=>exact absurd rfl h
 | cons a r=>exact ⟨a,r,rfl⟩
theorem sort_ni {l:List Nat} (nd:l.Nodup):∃ m:List Nat,m.Perm l/\m.Pairwise (· < ·)/\sortI (ni l)=ni m:=by
 refine ⟨(sortI (ni l)).map Int.toNat,?_,?_,?_⟩
 ·have h:=(sortI_perm (ni l)).map Int.toNat
  have e:(ni l).map Int.toNat=l:=by
   unfold ni
   rw [List.map_map]
   show l.map (fun i=>i)=l
   exact List.map_id' l
  rw [e] at h
  exact h
 ·have h1:=sortI_sorted (ni l)
  have h2:(sortI (ni l)).Nodup:=(sortI_perm (ni l)).nodup_iff.mpr (List.Pairwise.map (fun i:Nat=>(i:Int)) (fun a b (h:a ≠ b) (z:(a:Int)=(b:Int))=>h (by omega)) nd)
  have h3:∀ x ∈ sortI (ni l),0 <= x:=fun x hx=>by
   obtain ⟨i,_,rfl⟩:=List.mem_map.mp ((sortI_perm (ni l)).mem_iff.mp hx)
   omega
  rw [List.pairwise_map]
  refine (h1.and h2).imp_of_mem fun {a b} ha hb h=>?_
  have:=h3 a ha
  have:=h3 b hb
  have:=h.1
  have:=h.2
  omega
 ·unfold ni
  rw [List.map_map]
  refine (List.map_id' _).symm.trans (List.map_congr_left fun x hx=>?_)
  obtain ⟨i,_,rfl⟩:=List.mem_map.mp ((sortI_perm _).mem_iff.mp hx)
  show (i:Int)=((i:Int).toNat:Int)
  omega
structure Gs (n:Nat) (l:List Nat):Prop where
 ne:l ≠ []
 up:l.Pairwise (· < ·)
 lt:∀ x ∈ l,x < n
theorem Gs.nd {n:Nat}{l:List Nat} (g:Gs n l):l.Nodup:=g.up.imp fun h=>Nat.ne_of_lt h
theorem Gs.len {n:Nat}{l:List Nat} (g:Gs n l):l.length <= n:=PG.nodup_bound g.nd g.lt
theorem te_call {i:Nat}{τ:SD}{t:Tg}{l:List Nat} (ht:t=.frz ∨ t=.own) (h0:τ[0]?=some (some (nF ps f))) (hi:τ[i]?=some (some (.lst t ((ni l).map .int)))) {d:D} (hG:G_Lteller [nF ps f,.lst .frz ((ni l).map .int)]=.ok d) (hd:d.pure=true):eCall G_Lteller (aCons (eVar 0) (aCons (eVar i) aNil)) τ=.ok d:=by
 obtain ⟨t',e⟩:=var_fo ht hi
 refine eCall_pure (ds := [nF ps f,.lst t' ((ni l).map .int)]) (aCons_ok (v0_of h0) (aOne e)) ?_ hd
 show G_Lteller [(nF ps f).frz,.lst .frz (frzL ((ni l).map .int))]=_
 rw [frz_pure _ (nF_pure _ _),frz_ints]
 exact hG
theorem cl_while (hp:ps.length <= 24):∀ (m:Nat) (t:Tg) (l:List Nat) (d:D),t=.frz ∨ t=.own->Gs ps.length l->ps.length - l.length <= m->G_Lteller [nF ps f,.lst .frz ((ni l).map .int)]=.ok d->(d=.non ∨ ∃ (k:Nat) (x y:D),k < ps.length/\k ∉ l/\d=.tup [.int k,x,y]) ->
  ∃ t' l',(t'=.frz ∨ t'=.own)/\Gs ps.length l'/\whileD g_Lclosed_w1 g_Lclosed_b2 (m + 1) (clSt ps f t l (some d))=.nx (clSt ps f t' l' (some .non)):=by
 intro m
 induction m with
 | zero =>
  intro t l d ht g hm hG hd
  rcases hd with rfl | ⟨k,x,y,hk,hn,rfl⟩
  ·exact ⟨t,l,ht,g,rfl⟩
  ·have:=PG.nodup_bound (l:=k :: l) (n:=ps.length) (List.nodup_cons.mpr ⟨hn,g.nd⟩) fun z hz=>(List.mem_cons.mp hz).elim (fun e=>e ▸ hk) (g.lt z)
   rw [List.length_cons] at this
   omega
 | succ m ih =>
  intro t l d ht g hm hG hd
  rcases hd with rfl | ⟨k,x,y,hk,hn,rfl⟩
  ·exact ⟨t,l,ht,g,rfl⟩
  ·have nd:(l ++ [k]).Nodup:=List.nodup_append.mpr ⟨g.nd,by simp,fun a ha b hb e=>by
    have:b=k:=by simpa using hb
    exact hn (this ▸ e ▸ ha)⟩
   obtain ⟨l',pl,pu,es⟩:=sort_ni nd
   have g':Gs ps.length l' := ⟨fun z=>by
    have:=pl.length_eq
    rw [z,List.length_append] at this
    simp at this,pu,fun z hz=>by
    rcases List.mem_append.mp (pl.mem_iff.mp hz) with q | q
    ·exact g.lt z q
    ·have:z=k:=by simpa using q
     exact this ▸ hk⟩
   obtain ⟨l0,lr,rfl⟩:=ne_ex g'.ne
   have len' := pl.length_eq
   rw [List.length_append,List.length_singleton] at len'
   have hGl:=g.len
   have b1:sSet 1 (eA sortedD (aCons (eBin addD (eVar 1) (eA lstD (aCons (eBin ixD (eVar 2) (eC (.int 0))) aNil))) aNil)) (clSt ps f t l (some (.tup [.int k,x,y])))=.nx (clSt ps f .own (l0 :: lr) (some (.tup [.int k,x,y]))):=by
    obtain ⟨t',e⟩:=var_fo (τ:=clSt ps f t l (some (.tup [.int k,x,y]))) (i:=1) ht rfl
    have v2:eBin ixD (eVar 2) (eC (.int 0)) (clSt ps f t l (some (.tup [.int k,x,y])))=.ok (.int k):=by
     refine ix_ok (x:=(D.tup [.int k,x,y]).view) rfl rfl ?_
     exact ix_tup (j:=0) rfl rfl
    have a1:eBin addD (eVar 1) (eA lstD (aCons (eBin ixD (eVar 2) (eC (.int 0))) aNil)) (clSt ps f t l (some (.tup [.int k,x,y])))=.ok (.lst .own ((ni (l ++ [k])).map .int)):=by
     rw [eBin_ok e (eA_ok (aOne v2))]
     show (if ((ni l).map D.int).length + 1 <= 16777216 then Res.ok (D.lst .own ((ni l).map D.int ++ [.int k])) else .bad)=_
     rw [if_pos (by rw [List.length_map,ni_len]; omega),ni_append,List.map_append]
     rfl
    have a2:eA sortedD (aCons (eBin addD (eVar 1) (eA lstD (aCons (eBin ixD (eVar 2) (eC (.int 0))) aNil))) aNil) (clSt ps f t l (some (.tup [.int k,x,y])))=.ok (.lst .own ((ni (l0 :: lr)).map .int)):=by
     rw [eA_ok (aOne a1)]
     show (match intsOf ((ni (l ++ [k])).map D.int) with | some ns=>if ns.length < 64 then Res.ok (D.lst .own ((sortI ns).map D.int)) else .bad | none=>.bad)=_
     rw [intsOf_map]
     show (if (ni (l ++ [k])).length < 64 then Res.ok (D.lst .own ((sortI (ni (l ++ [k]))).map D.int)) else .bad)=_
     rw [if_pos (by rw [ni_len,List.length_append,List.length_singleton]; omega),es]
    rw [set_nx a2 (bor_own (pure_ints _))]
    rfl
   have c:g_Lclosed_w1 (clSt ps f t l (some (.tup [.int k,x,y])))=.ok true:=rfl
   have step:∀ d',G_Lteller [nF ps f,.lst .frz ((ni (l0 :: lr)).map .int)]=.ok d'->d'.pure=true->g_Lclosed_b2 (clSt ps f t l (some (.tup [.int k,x,y])))=.nx (clSt ps f .own (l0 :: lr) (some d')):=fun d' h1 h2=>by
    unfold g_Lclosed_b2
    rw [seq_nx b1,set_nx (te_call (τ:=clSt ps f .own (l0 :: lr) (some (.tup [.int k,x,y]))) (i:=1) (.inr rfl) rfl rfl h1 h2) (hasBor_pure _ h2)]
    rfl
   have fin:∀ d',G_Lteller [nF ps f,.lst .frz ((ni (l0 :: lr)).map .int)]=.ok d'->d'.pure=true->(d'=.non ∨ ∃ (k:Nat) (x y:D),k < ps.length/\k ∉ l0 :: lr/\d'=.tup [.int k,x,y])->∃ t' l',(t'=Tg.frz ∨ t'=.own)/\Gs ps.length l'/\whileD g_Lclosed_w1 g_Lclosed_b2 (m + 1 + 1) (clSt ps f t l (some (.tup [.int k,x,y])))=.nx (clSt ps f t' l' (some .non)):=fun d' h1 h2 h3=>by
    obtain ⟨t2,l2,e1,e2,e3⟩:=ih .own (l0 :: lr) d' (.inr rfl) g' (by omega) h1 h3
    refine ⟨t2,l2,e1,e2,?_⟩
    rw [whileD,c]
    show (match g_Lclosed_b2 (clSt ps f t l (some (.tup [.int k,x,y]))) with | .nx t=>whileD g_Lclosed_w1 g_Lclosed_b2 (m + 1) t | .ct t=>whileD g_Lclosed_w1 g_Lclosed_b2 (m + 1) t | .bk t=>Fl.nx t | o=>o)=_
    rw [step d' h1 h2]
    exact e3
   rcases teller_eq (f:=f) hp g'.lt with ⟨e,_⟩ | ⟨k',j',h1,h2,_,e⟩
   ·exact fin _ e rfl (.inl rfl)
   ·exact fin _ e rfl (.inr ⟨k',_,_,h1,h2,rfl⟩)
theorem closed_eq (hp:ps.length <= 24) {l:List Nat} (g:Gs ps.length l):∃ t l',(t=.frz ∨ t=.own)/\Gs ps.length l'/\G_Lclosed [nF ps f,.lst .frz ((ni l).map .int)]=.ok (.lst t ((ni l').map .int)):=by
 obtain ⟨l0,lr,rfl⟩:=ne_ex g.ne
 have fin:∀ d,G_Lteller [nF ps f,.lst .frz ((ni (l0 :: lr)).map .int)]=.ok d->d.pure=true->(d=.non ∨ ∃ (k:Nat) (x y:D),k < ps.length/\k ∉ l0 :: lr/\d=.tup [.int k,x,y])->∃ t l',(t=Tg.frz ∨ t=.own)/\Gs ps.length l'/\G_Lclosed [nF ps f,.lst .frz ((ni (l0 :: lr)).map .int)]=.ok (.lst t ((ni l').map .int)):=fun d h1 h2 h3=>by
  obtain ⟨t2,l2,e1,e2,e3⟩:=cl_while (f:=f) hp 24 .frz (l0 :: lr) d (.inl rfl) g (by omega) h1 h3
  refine ⟨t2,l2,e1,e2,?_⟩
  refine run_rt (τ:=clSt ps f .frz (l0 :: lr) none) rfl rfl ?_
  unfold g_Lclosed
  rw [seq_nx (set_nx (te_call (τ:=clSt ps f .frz (l0 :: lr) none) (i:=1) (.inl rfl) rfl rfl h1 h2) (hasBor_pure _ h2))]
  have w:sWhile g_Lclosed_w1 g_Lclosed_b2 (clSt ps f .frz (l0 :: lr) (some d))=.nx (clSt ps f t2 l2 (some .non)):=by
   rw [sWhile_eq (n:=25) (by rw [e3]; exact Fl.noConfusion),e3]
  show sSeq _ _ (clSt ps f .frz (l0 :: lr) (some d))=_
  rw [seq_nx w]
  rfl
 rcases teller_eq (f:=f) hp g.lt with ⟨e,_⟩ | ⟨k',j',h1,h2,_,e⟩
 ·exact fin _ e rfl (.inl rfl)
 ·exact fin _ e rfl (.inr ⟨k',_,_,h1,h2,rfl⟩)
end
section
variable {ps:List Int}{f:Nat->Nat->Int}
theorem len_net {τ:SD} (h:τ[0]?=some (some (nF ps f))):eA lenD (aCons (eBin ixD (eVar 0) (eC (.int 0))) aNil) τ=.ok (.int ps.length):=by
 rw [eA_ok (aOne (net0 (v0_of h)))]
 show Res.ok (D.int ((ps.map D.int).length:Nat))=_
 rw [List.length_map]
theorem modv_ok {a b:SD->Res D}{τ:SD}{x y:Int} (h1:a τ=.ok (.int x)) (h2:b τ=.ok (.int y)) (hy:0 < y):eBin modD a b τ=.ok (.int (x % y)):=by rw [eBin_ok h1 h2,mod_pos hy]
def inSt (ps:List Int) (f:Nat->Nat->Int) (N:Int) (p:Option D):SD := [some (nF ps f),some (.int N),some (.int ps.length),some (.int (N % 5)),some (.int (N / 5)),p]
theorem natI {x:Int}{n:Nat} (hn:0 < n):∃ r:Nat,r < n/\x % (n:Int)=r:=by
 have h1:=Int.emod_nonneg x (by omega:(n:Int) ≠ 0)
 have h2:=Int.emod_lt_of_pos x (by omega:(0:Int) < n)
 exact ⟨(x % (n:Int)).toNat,by omega,by omega⟩
theorem gs_filter {n:Nat}{p:Nat->Bool}{r:Nat} (hr:r < n) (h:p r=true):Gs n ((List.range n).filter p):=⟨(fun z=>by
  have:r ∈ (List.range n).filter p:=List.mem_filter.mpr ⟨List.mem_range.mpr hr,h⟩
  rw [z] at this
  cases this),List.pairwise_lt_range.sublist List.filter_sublist,fun x hx=>List.mem_range.mp (List.mem_filter.mp hx).1⟩
theorem rng_in {N:Int}{p:Option D} (hp:ps.length <= 24):eRng1 (aCons (eVar 2) aNil) (inSt ps f N p)=.ok (false,(List.range ps.length).map fun i:Nat=>D.int (i:Int)):=by
 unfold eRng1
 rw [aOne (d := .int ps.length) rfl,Res.bind_ok,range1_nat (by omega)]
theorem sort_two {n:Nat}{x y:Nat} (hx:x < n) (hy:y < n):∃ a b:Nat,a <= b/\b < n/\sortI [(x:Int),(y:Int)]=[(a:Int),(b:Int)]:=by
 by_cases h:x <= y
 ·refine ⟨x,y,h,hy,sorted_unique (sortI_perm _) (sortI_sorted _) ?_⟩
  simp
  omega
 ·refine ⟨y,x,by omega,hx,sorted_unique ((sortI_perm _).trans (List.Perm.swap _ _ _)) (sortI_sorted _) ?_⟩
  simp
  omega
theorem inside_eq (hp:ps.length <= 24) (h1:1 <= ps.length) {N:Int} (hN:0 <= N):∃ t l,(t=.frz ∨ t=.own)/\Gs ps.length l/\G_Linside [nF ps f,.int N]=.ok (.lst t ((ni l).map .int)):=by
 have go:∀ {t:Tg}{l:List Nat},(t=.frz ∨ t=.own)->Gs ps.length l->g_Linside [some (nF ps f),some (.int N),none,none,none,none]=.rt (.lst t ((ni l).map .int))->∃ t l,(t=Tg.frz ∨ t=.own)/\Gs ps.length l/\G_Linside [nF ps f,.int N]=.ok (.lst t ((ni l).map .int)):=fun ht g e=>⟨_,_,ht,g,run_rt rfl rfl e⟩
 obtain ⟨r,hr,er⟩:=natI (x:=N / 5) (n:=ps.length) h1
 obtain ⟨r2,hr2,er2⟩:=natI (x:=N / 5 / 31) (n:=ps.length) h1
 have mr:∀ p,eBin modD (eVar 4) (eVar 2) (inSt ps f N p)=.ok (.int r):=fun p=>by rw [modv_ok (x:=N / 5) (y:=ps.length) rfl rfl (by omega),er]
 have mr2:∀ p,eBin modD (eBin fdivD (eVar 4) (eC (.int 31))) (eVar 2) (inSt ps f N p)=.ok (.int r2):=fun p=>by rw [modv_ok (x:=N / 5 / 31) (y:=ps.length) (fdiv_ok (a:=N / 5) rfl ⟨by decide,by decide⟩) rfl (by omega),er2]
 have way:∀ (w:Int) p,eT (eBin eqD (eVar 3) (eC (.int w))) (inSt ps f N p)=.ok (decide (N % 5=w)):=fun w p=>eqi_ok rfl rfl
 have head:g_Linside [some (nF ps f),some (.int N),none,none,none,none]=(sSeq (sIf (eT (eBin eqD (eVar 3) (eC (.int 0)))) (sRet (eA lstD (aCons (eBin modD (eVar 4) (eVar 2)) aNil))) sNext) (sSeq (sIf (eT (eBin eqD (eVar 3) (eC (.int 1)))) (sRet (eComp (eRng1 (aCons (eVar 2) aNil)) (gN 0) g_Linside_c5 g_Linside_e6 1 [("_law_rest",4),("_law_many_here",2)])) sNext) (sSeq (sIf (eT (eBin eqD (eVar 3) (eC (.int 2)))) (sRet (eComp (eRng1 (aCons (eVar 2) aNil)) (gN 0) g_Linside_c3 g_Linside_e4 1 [("_law_rest",4),("_law_many_here",2)])) sNext) (sSeq (sSet 5 (eA sortedD (aCons (eA lstD (aCons (eBin modD (eVar 4) (eVar 2)) (aCons (eBin modD (eBin fdivD (eVar 4) (eC (.int 31))) (eVar 2)) aNil))) aNil))) (sSeq (sIf (bOr (eT (eBin eqD (eVar 3) (eC (.int 3)))) (eT (eBin eqD (eBin ixD (eVar 5) (eC (.int 0))) (eBin ixD (eVar 5) (eC (.int 1)))))) (sRet (eBin addD (eCut (eVar 5) eP0 (eP (eC (.int 1)))) (eComp (eIt (eCut (eVar 5) (eP (eC (.int 1))) eP0)) (gN 0) g_Linside_c1 g_Linside_e2 1 [("_law_pair",5)]))) sNext) (sFrz [5] (sRet (eCall G_Lclosed (aCons (eVar 0) (aCons (eVar 5) aNil)))))))))) (inSt ps f N none):=by
  unfold g_Linside
  rw [seq_nx (set_nx (len_net rfl) rfl),seq_nx (set_nx (d := .int (N % 5)) (mod_ok rfl (by decide)) rfl),seq_nx (set_nx (d := .int (N / 5)) (fdiv_ok rfl ⟨by decide,by decide⟩) rfl)]
  rfl
 have nb:∀ l:List Nat,(D.lst .own ((ni l).map .int)).hasBor=false:=fun l=>bor_own (pure_ints _)
 have pr:∀ l:List Nat,pureL (l.map fun i:Nat=>D.int (i:Int))=true:=fun l=>by rw [<- ni_int]; exact pure_ints _
 by_cases w0:N % 5=0
 ·refine go (t := .own) (l := [r]) (.inr rfl) ⟨by simp,by simp,fun x hx=>(List.mem_singleton.mp hx) ▸ hr⟩ ?_
  rw [head]
  have t:=way 0 none
  rw [decide_eq_true w0] at t
  exact if_rt t (ret_rt (by rw [eA_ok (aOne (mr none))]; rfl) rfl)
 have t0:=way 0 none
 rw [decide_eq_false w0] at t0
 rw [if_go t0] at head
 by_cases w1:N % 5=1
 ·refine go (t := .own) (l:=(List.range ps.length).filter fun k=>decide (N / 5 / 2 ^ (k % 20) % 2=1) || decide (k=r)) (.inr rfl) (gs_filter hr (by simp)) ?_
  rw [head]
  have t:=way 1 none
  rw [decide_eq_true w1] at t
  refine if_rt t (ret_rt ?_ (nb _))
  rw [eComp_map (tt:=g_Linside_c5) (elt:=g_Linside_e6) (fun i:Nat=>D.int (i:Int)) (fun k=>decide (N / 5 / 2 ^ (k % 20) % 2=1) || decide (k=r)) (fun i:Nat=>D.int (i:Int)) (rng_in hp) (fun _ _=>rfl) (fun k _=>?_) (fun _ _ _=>⟨rfl,rfl⟩) (by rw [List.length_range]; omega),ni_int]
  show g_Linside_c5 [some (.int k),some (.int (N / 5)),some (.int ps.length)]=_
  unfold g_Linside_c5
  have sh:eBin shrD (eVar 1) (eBin modD (eVar 0) (eC (.int 20))) [some (.int k),some (.int (N / 5)),some (.int ps.length)]=.ok (.int (N / 5 / 2 ^ (k % 20))):=by
   rw [eBin_ok (x := .int (N / 5)) rfl (mod_ok (a:=(k:Int)) rfl (by decide))]
   show (if (0:Int) <= (k:Int) % 20 then Res.ok (D.int (N / 5 / 2 ^ ((k:Int) % 20).toNat)) else .bad)=_
   have e:((k:Int) % 20).toNat=k % 20:=by omega
   rw [if_pos (by omega),e]
  have q2:eBin modD (eVar 1) (eVar 2) [some (.int k),some (.int (N / 5)),some (.int ps.length)]=.ok (.int r):=by rw [modv_ok (x:=N / 5) (y:=ps.length) rfl rfl (by omega),er]
  rw [or_ok (eqi_ok (mod_ok sh (by decide)) (g:=eC (.int 1)) (b:=1) rfl) (eqi_ok (f:=eVar 0) (a:=(k:Int)) rfl q2)]
  congr 2
  rw [decide_eq_decide]
  omega
 have t1:=way 1 none
 rw [decide_eq_false w1] at t1
 rw [if_go t1] at head
 by_cases w2:N % 5=2
 ·have hex:∃ k,k < ps.length/\(!decide (k=r) || decide (ps.length=1))=true:=by
   by_cases h:ps.length=1
   ·exact ⟨0,by omega,by simp [h]⟩
   ·by_cases hr0:r=0
    ·exact ⟨1,by omega,by simp; omega⟩
    ·exact ⟨0,by omega,by simp; omega⟩
  obtain ⟨k0,hk0,hk1⟩:=hex
  refine go (t := .own) (l:=(List.range ps.length).filter fun k=>!decide (k=r) || decide (ps.length=1)) (.inr rfl) (gs_filter hk0 hk1) ?_
  rw [head]
  have t:=way 2 none
  rw [decide_eq_true w2] at t
  refine if_rt t (ret_rt ?_ (nb _))
  rw [eComp_map (tt:=g_Linside_c3) (elt:=g_Linside_e4) (fun i:Nat=>D.int (i:Int)) (fun k=>!decide (k=r) || decide (ps.length=1)) (fun i:Nat=>D.int (i:Int)) (rng_in hp) (fun _ _=>rfl) (fun k _=>?_) (fun _ _ _=>⟨rfl,rfl⟩) (by rw [List.length_range]; omega),ni_int]
  show g_Linside_c3 [some (.int k),some (.int (N / 5)),some (.int ps.length)]=_
  unfold g_Linside_c3
  have q2:eBin modD (eVar 1) (eVar 2) [some (.int k),some (.int (N / 5)),some (.int ps.length)]=.ok (.int r):=by rw [modv_ok (x:=N / 5) (y:=ps.length) rfl rfl (by omega),er]
  rw [or_ok (nei_ok (f:=eVar 0) (a:=(k:Int)) rfl q2) (eqi_ok (f:=eVar 2) (a:=(ps.length:Int)) rfl (g:=eC (.int 1)) (b:=1) rfl)]
  have e1:decide ((k:Int)=(r:Int))=decide (k=r):=by rw [decide_eq_decide]; omega
  have e2:decide ((ps.length:Int)=1)=decide (ps.length=1):=by rw [decide_eq_decide]; omega
  rw [e1,e2]
 have t2:=way 2 none
 rw [decide_eq_false w2] at t2
 rw [if_go t2] at head
 obtain ⟨a,b,hab,hb,es⟩:=sort_two hr hr2
 have s5:sSet 5 (eA sortedD (aCons (eA lstD (aCons (eBin modD (eVar 4) (eVar 2)) (aCons (eBin modD (eBin fdivD (eVar 4) (eC (.int 31))) (eVar 2)) aNil))) aNil)) (inSt ps f N none)=.nx (inSt ps f N (some (.lst .own [.int a,.int b]))):=by
  have e:eA sortedD (aCons (eA lstD (aCons (eBin modD (eVar 4) (eVar 2)) (aCons (eBin modD (eBin fdivD (eVar 4) (eC (.int 31))) (eVar 2)) aNil))) aNil) (inSt ps f N none)=.ok (.lst .own [.int a,.int b]):=by
   rw [eA_ok (aOne (d := .lst .own [.int r,.int r2]) (by rw [eA_ok (aCons_ok (mr none) (aOne (mr2 none)))]; rfl))]
   show Res.ok (D.lst .own ((sortI [(r:Int),(r2:Int)]).map D.int))=_
   rw [es]
   rfl
  rw [set_nx e rfl]
  rfl
 rw [seq_nx s5] at head
 have x0:eBin ixD (eVar 5) (eC (.int 0)) (inSt ps f N (some (.lst .own [.int a,.int b])))=.ok (.int a):=rfl
 have x1:eBin ixD (eVar 5) (eC (.int 1)) (inSt ps f N (some (.lst .own [.int a,.int b])))=.ok (.int b):=rfl
 have t3:=or_ok (way 3 (some (.lst .own [.int a,.int b]))) (eqi_ok x0 x1)
 by_cases w3:(decide (N % 5=3) || decide ((a:Int)=(b:Int)))=true
 ·have gl:Gs ps.length ([a] ++ [b].filter fun k=>!decide (k=a)):=by
   by_cases h:b=a
   ·subst h
    simp only [decide_true,Bool.not_true,List.filter_cons,Bool.false_eq_true,if_false,List.filter_nil,List.append_nil]
    exact ⟨by simp,by simp,fun x hx=>by
     have:x=b:=by simpa using hx
     exact this ▸ hb⟩
   ·simp only [List.filter_cons,decide_eq_false h,Bool.not_false,if_true,List.filter_nil,List.singleton_append]
    refine ⟨by simp,by simp; omega,fun x hx=>?_⟩
    have:x=a ∨ x=b:=by simpa using hx
    rcases this with rfl | rfl <;> omega
  refine go (t := .own) (.inr rfl) gl ?_
  rw [head]
  rw [w3] at t3
  refine if_rt t3 (ret_rt ?_ (nb _))
  have c1:eCut (eVar 5) eP0 (eP (eC (.int 1))) (inSt ps f N (some (.lst .own [.int a,.int b])))=.ok (.lst .own [.int a]):=rfl
  have c2:eIt (eCut (eVar 5) (eP (eC (.int 1))) eP0) (inSt ps f N (some (.lst .own [.int a,.int b])))=.ok (false,[b].map fun i:Nat=>D.int (i:Int)):=rfl
  have c3:=eComp_map (τ:=inSt ps f N (some (.lst .own [.int a,.int b]))) (cap := [("_law_pair",5)]) (tt:=g_Linside_c1) (elt:=g_Linside_e2) (fun i:Nat=>D.int (i:Int)) (fun k=>!decide (k=a)) (fun i:Nat=>D.int (i:Int)) c2 (fun _ _=>rfl) (fun k _=>by
   show g_Linside_c1 [some (.int k),some (.lst .frz [.int a,.int b])]=_
   unfold g_Linside_c1
   have y0:eBin ixD (eVar 1) (eC (.int 0)) [some (.int k),some (.lst .frz [.int a,.int b])]=.ok (.int a):=rfl
   have e1:decide ((k:Int)=(a:Int))=decide (k=a):=by rw [decide_eq_decide]; omega
   rw [nei_ok (f:=eVar 0) (a:=(k:Int)) rfl y0,e1]) (fun _ _ _=>⟨rfl,rfl⟩) (by simp)
  rw [eBin_ok c1 c3]
  show (if 1 + (([b].filter fun k=>!decide (k=a)).map fun i:Nat=>D.int (i:Int)).length <= 16777216 then Res.ok (D.lst .own ([.int a] ++ ([b].filter fun k=>!decide (k=a)).map fun i:Nat=>D.int (i:Int))) else .bad)=_
  rw [if_pos (by
   rw [List.length_map]
   have:=List.length_filter_le (fun k=>!decide (k=a)) [b]
   simp only [List.length_cons,List.length_nil] at this
   omega),ni_append,List.map_append,ni_int,ni_int]
  rfl
 ·have w3':(decide (N % 5=3) || decide ((a:Int)=(b:Int)))=false:=by simpa using w3
  rw [w3'] at t3
  rw [if_go t3] at head
  have hne:a ≠ b:=fun z=>by
   rw [Bool.or_eq_false_iff] at w3'
   have:=of_decide_eq_false w3'.2
   omega
  have g0:Gs ps.length [a,b]:=⟨by simp,by simp; omega,fun x hx=>by
   have:x=a ∨ x=b:=by simpa using hx
   rcases this with rfl | rfl <;> omega⟩
  obtain ⟨t,l,ht,g,e⟩:=closed_eq (f:=f) hp g0
  refine go ht g ?_
  rw [head]
  show sRet (eCall G_Lclosed (aCons (eVar 0) (aCons (eVar 5) aNil))) [some (nF ps f),some (.int N),some (.int ps.length),some (.int (N % 5)),some (.int (N / 5)),some (.lst .frz [.int a,.int b])]=_
  refine ret_rt (eCall_own (ds := [nF ps f,.lst .frz ((ni [a,b]).map .int)]) (aCons_ok (v0_of rfl) (aOne rfl)) ?_ ?_) ?_
  ·show G_Lclosed [(nF ps f).frz,.lst .frz (frzL ((ni [a,b]).map .int))]=_
   rw [frz_pure _ (nF_pure _ _),frz_ints]
   exact e
  ·show ((nF ps f).hasBor || _)=false
   rw [hasBor_pure _ (nF_pure _ _)]
   rfl
  ·rcases ht with rfl | rfl
   ·show (false || hasBorL ((ni l).map .int))=false
    rw [bor_ints]
    rfl
   ·exact nb _
def haSt (ps:List Int) (f:Nat->Nat->Int) (l:List Nat) (N:Int) (qs:List Int):SD := [some (nF ps f),some (.lst .frz ((ni l).map .int)),some (.int N),some (.lst .own (qs.map .int))]
theorem handed_eq (hp:ps.length <= 24) {l:List Nat} (g:Gs ps.length l) {N:Int} (hN:0 <= N):∃ qs:List Int,(∀ q,q ∈ qs ↔ q ∈ pp ps l)/\qs.length <= l.length + 3/\G_Lhanded [nF ps f,.lst .frz ((ni l).map .int),.int N]=.ok (.lst .own (qs.map .int)):=by
 have hlen:=g.len
 have ppl:(pp ps l).length=l.length:=List.length_map _
 have s1:sSet 3 (eComp (eIt (eVar 1)) (gN 0) bTrue g_Lhanded_e1 1 [("_law_net_here",0)]) [some (nF ps f),some (.lst .frz ((ni l).map .int)),some (.int N),none]=.nx (haSt ps f l N (pp ps l)):=by
  have hi:eIt (eVar 1) [some (nF ps f),some (.lst .frz ((ni l).map .int)),some (.int N),none]=.ok (false,l.map fun i:Nat=>D.int (i:Int)):=by rw [<- ni_int]; exact it_frz rfl (pure_ints _)
  have c:=eComp_one (τ := [some (nF ps f),some (.lst .frz ((ni l).map .int)),some (.int N),none]) (cap := [("_law_net_here",0)]) (elt:=g_Lhanded_e1) (fun i:Nat=>D.int (i:Int)) (fun i=>D.int (plc ps i)) hi (fun _ _=>rfl) (fun i hi=>⟨by
   show g_Lhanded_e1 [some (.int i),some (nF ps f).frz]=_
   rw [frz_pure _ (nF_pure _ _)]
   exact ix_ok (net0 (var_pure rfl (nF_pure _ _))) rfl (ix_tup rfl (plc_at (g.lt i hi))),rfl⟩) (by omega)
  rw [<- pp_int] at c
  rw [set_nx c (bor_own (pure_ints _))]
  rfl
 have s2:∃ qs:List Int,(∀ q,q ∈ qs ↔ q ∈ pp ps l)/\qs.length <= l.length + 3/\sIf (eT (eBin eqD (eBin modD (eVar 2) (eC (.int 3))) (eC (.int 1)))) (sSet 3 (eBin addD (eVar 3) (eCut (eVar 3) eP0 (eP (eBin addD (eC (.int 1)) (eBin modD (eBin fdivD (eVar 2) (eC (.int 3))) (eC (.int 3)))))))) sNext (haSt ps f l N (pp ps l))=.nx (haSt ps f l N qs):=by
  have t:=eqi_ok (mod_ok (f:=eVar 2) (τ:=haSt ps f l N (pp ps l)) (a:=N) (b:=3) rfl (by decide)) (g:=eC (.int 1)) (b:=1) rfl
  by_cases h:N % 3=1
  ·rw [decide_eq_true h] at t
   obtain ⟨m,hm,em⟩:=natI (x:=N / 3) (n:=3) (by decide)
   have c1:eCut (eVar 3) eP0 (eP (eBin addD (eC (.int 1)) (eBin modD (eBin fdivD (eVar 2) (eC (.int 3))) (eC (.int 3))))) (haSt ps f l N (pp ps l))=.ok (.lst .own (((pp ps l).take (1 + m)).map .int)):=by
    unfold eCut
    rw [var_own (xs:=(pp ps l).map .int) rfl (pure_ints _),Res.bind_ok]
    have e:eBin addD (eC (.int 1)) (eBin modD (eBin fdivD (eVar 2) (eC (.int 3))) (eC (.int 3))) (haSt ps f l N (pp ps l))=.ok (.int ((1 + m:Nat):Int)):=by
     rw [add_ok (a:=1) rfl (mod_ok (fdiv_ok (f:=eVar 2) (a:=N) rfl ⟨by decide,by decide⟩) (by decide))]
     have em:N / 3 % 3=(m:Int):=em
     rw [em]
     congr 2
    have e2:eP (eBin addD (eC (.int 1)) (eBin modD (eBin fdivD (eVar 2) (eC (.int 3))) (eC (.int 3)))) (haSt ps f l N (pp ps l))=.ok (some ((1 + m:Nat):Int)):=by
     unfold eP
     rw [e]
     rfl
    show (Res.ok none).bind _=_
    rw [Res.bind_ok,e2,Res.bind_ok]
    show Res.ok (D.lst .own (DL.cut ((pp ps l).map D.int) none (some ((1 + m:Nat):Int))))=_
    rw [cut_to,List.map_take]
   refine ⟨pp ps l ++ (pp ps l).take (1 + m),fun q=>?_,?_,?_⟩
   ·rw [List.mem_append]
    exact ⟨fun z=>z.elim id (List.mem_of_mem_take),.inl⟩
   ·rw [List.length_append,List.length_take,ppl]
    omega
   ·rw [if_t t]
    have a1:eBin addD (eVar 3) (eCut (eVar 3) eP0 (eP (eBin addD (eC (.int 1)) (eBin modD (eBin fdivD (eVar 2) (eC (.int 3))) (eC (.int 3)))))) (haSt ps f l N (pp ps l))=.ok (.lst .own ((pp ps l ++ (pp ps l).take (1 + m)).map .int)):=by
     rw [eBin_ok (var_own (xs:=(pp ps l).map .int) rfl (pure_ints _)) c1]
     show (if ((pp ps l).map D.int).length + (((pp ps l).take (1 + m)).map D.int).length <= 16777216 then Res.ok (D.lst .own ((pp ps l).map D.int ++ ((pp ps l).take (1 + m)).map D.int)) else .bad)=_
     rw [if_pos (by rw [List.length_map,List.length_map,List.length_take,ppl]; omega),<- List.map_append]
    rw [set_nx a1 (bor_own (pure_ints _))]
    rfl
  ·rw [decide_eq_false h] at t
   refine ⟨pp ps l,fun q=>Iff.rfl,by omega,?_⟩
   rw [if_f t]
   rfl
 obtain ⟨qs,m1,m2,e2⟩:=s2
 have s3:∃ qs':List Int,(∀ q,q ∈ qs' ↔ q ∈ pp ps l)/\qs'.length <= l.length + 3/\sIf (eT (eBin eqD (eBin modD (eBin fdivD (eVar 2) (eC (.int 9))) (eC (.int 2))) (eC (.int 1)))) (sRev 3) sNext (haSt ps f l N qs)=.nx (haSt ps f l N qs'):=by
  have t:=eqi_ok (mod_ok (fdiv_ok (f:=eVar 2) (τ:=haSt ps f l N qs) (a:=N) (b:=9) rfl ⟨by decide,by decide⟩) (b:=2) (by decide)) (g:=eC (.int 1)) (b:=1) rfl
  by_cases h:N / 9 % 2=1
  ·rw [decide_eq_true h] at t
   refine ⟨qs.reverse,fun q=>by rw [List.mem_reverse]; exact m1 q,by rw [List.length_reverse]; exact m2,?_⟩
   rw [if_t t]
   show Fl.nx ((haSt ps f l N qs).set 3 (some (.lst .own (qs.map D.int).reverse)))=_
   rw [<- List.map_reverse]
   rfl
  ·rw [decide_eq_false h] at t
   refine ⟨qs,m1,m2,?_⟩
   rw [if_f t]
   rfl
 obtain ⟨qs',n1,n2,e3⟩:=s3
 refine ⟨qs',n1,n2,?_⟩
 refine run_rt (τ := [some (nF ps f),some (.lst .frz ((ni l).map .int)),some (.int N),none]) rfl rfl ?_
 unfold g_Lhanded
 rw [seq_nx s1,seq_nx e2,seq_nx e3]
 rfl
end
theorem whole_eq (i:Int):G_Lwhole [.int i]=.ok (.bl true):=rfl
theorem all_true (n:Nat):allD [.lst .own ((List.replicate n ()).map fun _=>D.bl true)]=.ok (.bl true):=by
 have h:∀ n,blsOf ((List.replicate n ()).map fun _=>D.bl true)=some (List.replicate n true):=fun n=>by
  induction n with
  | zero=>rfl
  | succ n ih =>
   show (blsOf ((List.replicate n ()).map fun _=>D.bl true)).map (true :: ·)=_
   rw [ih]
   rfl
 show (match blsOf ((List.replicate n ()).map fun _=>D.bl true) with | some bs=>Res.ok (D.bl (bs.all id)) | none=>.bad)=_
 rw [h n]
 show Res.ok (D.bl ((List.replicate n true).all id))=_
 rw [List.all_replicate]
 simp
theorem wholes_eq {d:D}{ns:List Int}{N:Int} (hd:d=.tup (ns.map .int) ∨ d=.lst .frz (ns.map .int)) (hN:N < 0 ∨ N=ns.length) (hl:ns.length <= 1000):G_Lwholes [d,.int N]=.ok (.bl true):=by
 have v0:eVar 0 [some d,some (.int N)]=.ok d:=by
  rcases hd with rfl | rfl
  ·exact var_pure rfl (pure_ints _)
  ·exact var_frz rfl (pure_ints _)
 have i1:eT (eUn instLT (eVar 0)) [some d,some (.int N)]=.ok true:=by
  unfold eT eUn
  rw [v0]
  rcases hd with rfl | rfl <;> rfl
 have ln:eA lenD (aCons (eVar 0) aNil) [some d,some (.int N)]=.ok (.int ns.length):=by
  rw [eA_ok (aOne v0)]
  rcases hd with rfl | rfl
  ·show Res.ok (D.int ((ns.map D.int).length:Nat))=_
   rw [List.length_map]
  ·show Res.ok (D.int ((ns.map D.int).length:Nat))=_
   rw [List.length_map]
 have i2:bAnd (eT (eBin geD (eVar 1) (eC (.int 0)))) (eT (eBin neD (eA lenD (aCons (eVar 0) aNil)) (eVar 1))) [some d,some (.int N)]=.ok false:=by
  have g1:eT (eBin geD (eVar 1) (eC (.int 0))) [some d,some (.int N)]=.ok (decide (0 <= N)):=rfl
  by_cases h:0 <= N
  ·rw [decide_eq_true h] at g1
   have e:N=ns.length:=hN.resolve_left (by omega)
   refine and_t g1 ?_
   rw [nei_ok ln (g:=eVar 1) (b:=N) rfl,decide_eq_true e.symm]
   rfl
  ·rw [decide_eq_false h] at g1
   exact and_f g1
 have it:∃ fl,eIt (eVar 0) [some d,some (.int N)]=.ok (fl,ns.map .int):=by
  unfold eIt
  rw [v0]
  rcases hd with rfl | rfl
  ·exact ⟨_,items_t (pure_ints _)⟩
  ·exact ⟨_,items_l (.inl rfl) (pure_ints _)⟩
 obtain ⟨fl,it⟩:=it
 refine run_rt (τ := [some d,some (.int N)]) rfl rfl ?_
 unfold g_Lwholes
 rw [if_go ((or_ok (not_ok i1) i2).trans rfl)]
 refine ret_rt ?_ rfl
 have c:=eComp_one (τ := [some d,some (.int N)]) (elt:=g_Lwholes_e1) (cap := []) (fun i:Int=>D.int i) (fun _=>D.bl true) it (fun _ _=>rfl) (fun i _=>⟨eCall_pure (ds := [.int i]) (aOne rfl) (whole_eq i) rfl,rfl⟩) hl
 rw [eA_ok (aOne c)]
 have e:(ns.map fun _=>D.bl true)=(List.replicate ns.length ()).map fun _=>D.bl true:=by
  refine List.ext_getElem? fun i=>?_
  simp [List.getElem?_map,List.getElem?_replicate]
  by_cases h:i < ns.length
  ·simp [h]
  ·simp [h]
 rw [e]
 exact all_true _
section
variable {ps:List Int}{f:Nat->Nat->Int}
theorem wholes_call {g h:SD->Res D}{τ:SD}{d d':D}{ns:List Int}{N:Int} (h1:g τ=.ok d) (h2:h τ=.ok (.int N)) (hf:d.frz=d') (hd:d'=.tup (ns.map .int) ∨ d'=.lst .frz (ns.map .int)) (hN:N < 0 ∨ N=ns.length) (hl:ns.length <= 1000):eT (eCall G_Lwholes (aCons g (aCons h aNil))) τ=.ok true :=
 eT_ok (eCall_pure (ds := [d,.int N]) (aCons_ok h1 (aOne h2)) (by show G_Lwholes [d.frz,.int N]=_; rw [hf]; exact wholes_eq hd hN hl) rfl)
def grSt (ps:List Int) (f:Nat->Nat->Int) (l:List Nat) (fi:Nat) (Pl:List (Nat × Nat)) (th:List Nat) (a b c:Option D):SD := [some (nF ps f),some (.lst .frz ((ni l).map .int)),some (.lst .frz (Pl.map (trD ps fi))),some (.lst .own ((ni th).map .int)),a,b,c]
theorem ix_plc (hs:ps.Pairwise (· < ·)) {i:Nat} (hi:i < ps.length):ixOf ps (plc ps i)=some i:=by
 unfold ixOf
 rw [List.findIdx?_eq_some_iff_getElem]
 have at_:∀ j (h:j < ps.length),ps[j]=plc ps j:=fun j h=>by
  unfold plc
  rw [List.getD_eq_getElem?_getD,List.getElem?_eq_getElem h]
  rfl
 refine ⟨hi,by simp [at_ i hi],fun j hj=>?_⟩
 have:=plc_lt hs hj hi
 intro z
 rw [decide_eq_true_eq,at_ j (by omega)] at z
 omega
theorem tix_ok (hs:ps.Pairwise (· < ·)) {a b:SD->Res D}{τ:SD}{i:Nat} (hi:i < ps.length) (h1:a τ=.ok (nF ps f)) (h2:b τ=.ok (.int (plc ps i))):eTix (eBin ixD a (eC (.int 0))) b τ=.ok (.int i):=by
 unfold eTix
 rw [net0 h1,Res.bind_ok,if_pos (show isTup (D.tup (ps.map D.int))=true from rfl),h2,Res.bind_ok]
 show (match intsOf (ps.map D.int) with | some ns=>(match ixOf ns (plc ps i) with | some j=>Res.ok (D.int j) | none=>.bad) | none=>.bad)=_
 rw [intsOf_map]
 show (match ixOf ps (plc ps i) with | some j=>Res.ok (D.int j) | none=>.bad)=_
 rw [ix_plc hs hi]
theorem plc_mem {i:Nat} (hi:i < ps.length):plc ps i ∈ ps:=by
 unfold plc
 rw [List.getD_eq_getElem?_getD,List.getElem?_eq_getElem hi]
 exact List.getElem_mem hi
theorem gr_for {l th:List Nat}{fi:Nat}{Pl:List (Nat × Nat)}{x:Nat × Nat} (h1:x.1 < ps.length) (h2:fi < ps.length) (h3:x.2 < ps.length) (b c:Option D):∃ b',sFor [4] (eIt (eVar 4)) (gN 5) g_Lgrown_b2 (grSt ps f l fi Pl th (some (trD ps fi x)) b c)=.nx (grSt ps f l fi Pl th (some (trD ps fi x)) b' c):=by
 have st:∀ {i:Nat},i < ps.length->g_Lgrown_b2 (grSt ps f l fi Pl th (some (trD ps fi x)) (some (.int (plc ps i))) c)=.nx (grSt ps f l fi Pl th (some (trD ps fi x)) (some (.int (plc ps i))) c):=fun {i} hi=>by
  unfold g_Lgrown_b2
  have t:=notin_ok (f:=eVar 5) (g:=eBin ixD (eVar 0) (eC (.int 0))) (τ:=grSt ps f l fi Pl th (some (trD ps fi x)) (some (.int (plc ps i))) c) (x:=plc ps i) (qs:=ps) rfl (net0 (v0_of rfl))
  rw [decide_eq_true (plc_mem hi)] at t
  rw [if_f t]
  rfl
 refine ⟨some (.int (plc ps x.2)),?_⟩
 rw [for_ok (τ' := grSt ps f l fi Pl th (some (trD ps fi x)) b c) (ds := [.int (plc ps x.1),.int (plc ps fi),.int (plc ps x.2)]) rfl rfl rfl,forD_nx (τ' := grSt ps f l fi Pl th (some (trD ps fi x)) (some (.int (plc ps x.1))) c) rfl (st h1),forD_nx (τ' := grSt ps f l fi Pl th (some (trD ps fi x)) (some (.int (plc ps fi))) c) rfl (st h2),forD_nx (τ' := grSt ps f l fi Pl th (some (trD ps fi x)) (some (.int (plc ps x.2))) c) rfl (st h3)]
 rfl
theorem gr_turn (hs:ps.Pairwise (· < ·)) {l th:List Nat}{fi:Nat}{Pl:List (Nat × Nat)}{x:Nat × Nat} (hb:∀ y ∈ th,y < ps.length) (h1:x.1 < ps.length) (h2:x.1 ∉ th) (h3:x.2 ∈ th) (h4:cc f x.1 x.2 ≠ cc f x.1 fi) (h5:fi ∈ th) (hl:th.length <= 1000) (b c:Option D) :
  ∃ b' c',g_Lgrown_b3 (grSt ps f l fi Pl th (some (trD ps fi x)) b c)=.nx (grSt ps f l fi Pl (th ++ [x.1]) (some (trD ps fi x)) b' c'):=by
 have n1:x.1 ≠ fi:=fun z=>h2 (z ▸ h5)
 have n2:x.1 ≠ x.2:=fun z=>h2 (by rw [z]; exact h3)
 have v4:∀ b c,eVar 4 (grSt ps f l fi Pl th (some (trD ps fi x)) b c)=.ok (trD ps fi x):=fun b c=>rfl
 obtain ⟨b',ef⟩:=gr_for (f:=f) (l:=l) (th:=th) (Pl:=Pl) (x:=x) h1 (hb fi h5) (hb x.2 h3) b c
 have s3:sSet 6 (eComp (eIt (eVar 4)) (gN 0) bTrue g_Lgrown_e1 1 [("_law_net_here",0)]) (grSt ps f l fi Pl th (some (trD ps fi x)) b' c)=.nx (grSt ps f l fi Pl th (some (trD ps fi x)) b' (some (.lst .own ((ni [x.1,fi,x.2]).map .int)))):=by
  have c:=eComp_one (it:=eIt (eVar 4)) (τ:=grSt ps f l fi Pl th (some (trD ps fi x)) b' c) (elt:=g_Lgrown_e1) (cap := [("_law_net_here",0)]) (fun i:Nat=>D.int (plc ps i)) (fun i:Nat=>D.int (i:Int)) (l := [x.1,fi,x.2]) (fl:=false) rfl (fun _ _=>rfl) (fun i hi=>⟨by
   show g_Lgrown_e1 [some (.int (plc ps i)),some (nF ps f).frz]=_
   rw [frz_pure _ (nF_pure _ _)]
   have hi':i < ps.length:=by
    have:i=x.1 ∨ i=fi ∨ i=x.2:=by simpa using hi
    rcases this with rfl | rfl | rfl
    ·exact h1
    ·exact hb _ h5
    ·exact hb _ h3
   exact tix_ok hs hi' (var_pure rfl (nF_pure _ _)) rfl,rfl⟩) (by simp)
  rw [set_nx c rfl]
  rfl
 have v3:eVar 3 (grSt ps f l fi Pl th (some (trD ps fi x)) b' (some (.lst .own ((ni [x.1,fi,x.2]).map .int))))=.ok (.lst .bor ((ni th).map .int)):=var_own rfl (pure_ints _)
 have a0:eBin ixD (eVar 6) (eC (.int 0)) (grSt ps f l fi Pl th (some (trD ps fi x)) b' (some (.lst .own ((ni [x.1,fi,x.2]).map .int))))=.ok (.int x.1):=rfl
 have a1:eBin ixD (eVar 6) (eC (.int 1)) (grSt ps f l fi Pl th (some (trD ps fi x)) b' (some (.lst .own ((ni [x.1,fi,x.2]).map .int))))=.ok (.int fi):=rfl
 have a2:eBin ixD (eVar 6) (eC (.int 2)) (grSt ps f l fi Pl th (some (trD ps fi x)) b' (some (.lst .own ((ni [x.1,fi,x.2]).map .int))))=.ok (.int x.2):=rfl
 have i0:=isin_lst a0 v3
 have i1:=notin_lst a1 v3
 have i2:=notin_lst a2 v3
 rw [decide_eq_decide.mpr mem_ni,decide_eq_false h2] at i0
 rw [decide_eq_decide.mpr mem_ni,decide_eq_true h5] at i1
 rw [decide_eq_decide.mpr mem_ni,decide_eq_true h3] at i2
 have c1:=shown_call (f:=f) (g:=eBin ixD (eVar 6) (eC (.int 0))) (h:=eBin ixD (eVar 6) (eC (.int 1))) (τ:=grSt ps f l fi Pl th (some (trD ps fi x)) b' (some (.lst .own ((ni [x.1,fi,x.2]).map .int)))) rfl a0 a1 h1 (hb fi h5) n1
 have c2:=shown_call (f:=f) (g:=eBin ixD (eVar 6) (eC (.int 0))) (h:=eBin ixD (eVar 6) (eC (.int 2))) (τ:=grSt ps f l fi Pl th (some (trD ps fi x)) b' (some (.lst .own ((ni [x.1,fi,x.2]).map .int)))) rfl a0 a2 h1 (hb x.2 h3) n2
 have q:=eqi_ok c1 c2
 rw [decide_eq_false (Ne.symm h4)] at q
 refine ⟨b',some (.lst .own ((ni [x.1,fi,x.2]).map .int)),?_⟩
 unfold g_Lgrown_b3
 have w:=wholes_call (g:=eVar 4) (h:=eC (.int 3)) (τ:=grSt ps f l fi Pl th (some (trD ps fi x)) b c) (d:=trD ps fi x) (d' := trD ps fi x) (ns := [plc ps x.1,plc ps fi,plc ps x.2]) (N:=3) rfl rfl rfl (.inl rfl) (.inr rfl) (by simp)
 have p1:eT (eUn (instD isTp) (eVar 4)) (grSt ps f l fi Pl th (some (trD ps fi x)) b c)=.ok true:=rfl
 rw [if_go ((or_ok (not_ok p1) (not_ok w)).trans rfl),seq_nx ef,seq_nx s3,if_go ((or_ok i0 (or_ok i1 i2)).trans rfl),if_go q]
 rw [app_nx (xs:=(ni th).map .int) (d := .int x.1) rfl a0 rfl (by rw [List.length_map,ni_len]; omega)]
 show Fl.nx [_,_,_,some (D.lst .own ((ni th).map .int ++ [.int x.1])),_,_,_]=_
 unfold grSt
 rw [ni_append,List.map_append]
 rfl
theorem gr_loop (hs:ps.Pairwise (· < ·)) {l:List Nat}{fi:Nat}{Pl:List (Nat × Nat)}:∀ (r:List (Nat × Nat)) (th:List Nat) (a b c:Option D),(∀ y ∈ th,y < ps.length)->fi ∈ th->PG.Valid (cc f) ps.length fi th r->th.length + r.length <= 1000 ->
  ∃ a' b' c',forD (gN 4) g_Lgrown_b3 (r.map (trD ps fi)) (grSt ps f l fi Pl th a b c)=.nx (grSt ps f l fi Pl (th ++ r.map (·.1)) a' b' c')
 | [],th,a,b,c,_,_,_,_=>⟨a,b,c,by show _=Fl.nx (grSt ps f l fi Pl (th ++ []) a b c); rw [List.append_nil]; rfl⟩
 | x :: r,th,a,b,c,hb,hf,hv,hl=>by
  obtain ⟨⟨h1,h2,h3,h4⟩,hv'⟩:=hv
  rw [List.length_cons] at hl
  obtain ⟨b',c',e⟩:=gr_turn hs (f:=f) (l:=l) (Pl:=Pl) (fi:=fi) hb h1 h2 h3 h4 hf (by omega) b c
  obtain ⟨a2,b2,c2,ih⟩:=gr_loop hs (l:=l) (Pl:=Pl) r (th ++ [x.1]) (some (trD ps fi x)) b' c' (fun y hy=>by
   rcases List.mem_append.mp hy with z | z
   ·exact hb y z
   ·have:y=x.1:=by simpa using z
    exact this ▸ h1) (List.mem_append_left _ hf) hv' (by rw [List.length_append,List.length_singleton]; omega)
  refine ⟨a2,b2,c2,?_⟩
  rw [List.map_cons,forD_nx (τ' := grSt ps f l fi Pl th (some (trD ps fi x)) b c) rfl e,ih,List.append_assoc]
  rfl
theorem grown_eq (hs:ps.Pairwise (· < ·)) (hp:ps.length <= 24) {fi:Nat}{rest:List Nat}{Pl:List (Nat × Nat)} (g:Gs ps.length (fi :: rest)) (hv:PG.Valid (cc f) ps.length fi (fi :: rest) Pl) {S:List Nat} (hS:sortI (ni (PG.gr (fi :: rest) Pl))=ni S) (hg:(PG.gr (fi :: rest) Pl).length <= 24) :
  G_Lgrown [nF ps f,.lst .frz ((ni (fi :: rest)).map .int),.lst .frz (Pl.map (trD ps fi))]=.ok (.lst .own ((ni S).map .int)):=by
 have s1:eA listD (aCons (eVar 1) aNil) [some (nF ps f),some (.lst .frz ((ni (fi :: rest)).map .int)),some (.lst .frz (Pl.map (trD ps fi))),none,none,none,none]=.ok (.lst .own ((ni (fi :: rest)).map .int)):=by
  rw [eA_ok (aOne (var_frz rfl (pure_ints _)))]
  rfl
 have hg' := hg
 rw [List.length_append,List.length_map] at hg'
 obtain ⟨a,b,c,e⟩:=gr_loop hs (f:=f) (l:=fi :: rest) (Pl:=Pl) (fi:=fi) Pl (fi :: rest) none none none g.lt List.mem_cons_self hv (by omega)
 refine run_rt (τ := [some (nF ps f),some (.lst .frz ((ni (fi :: rest)).map .int)),some (.lst .frz (Pl.map (trD ps fi))),none,none,none,none]) rfl rfl ?_
 unfold g_Lgrown
 rw [seq_nx (set_nx s1 (bor_own (pure_ints _)))]
 show sSeq _ _ (grSt ps f (fi :: rest) fi Pl (fi :: rest) none none none)=_
 have sf:sFor [2] (eIt (eVar 2)) (gN 4) g_Lgrown_b3 (grSt ps f (fi :: rest) fi Pl (fi :: rest) none none none)=.nx (grSt ps f (fi :: rest) fi Pl (PG.gr (fi :: rest) Pl) a b c):=by
  rw [for_ok (τ' := grSt ps f (fi :: rest) fi Pl (fi :: rest) none none none) (ds:=Pl.map (trD ps fi)) (by
   show [_,_,some (D.lst .frz (frzL (Pl.map (trD ps fi)))),_,_,_,_]=_
   rw [frzL_pure _ (tr_pure _ _ _)]
   rfl) (it_frz rfl (tr_pure _ _ _)) (tr_pure _ _ _)]
  exact e
 rw [seq_nx sf]
 refine ret_rt ?_ (bor_own (pure_ints _))
 rw [eA_ok (aOne (var_own (xs:=(ni (PG.gr (fi :: rest) Pl)).map .int) rfl (pure_ints _)))]
 show (match intsOf ((ni (PG.gr (fi :: rest) Pl)).map D.int) with | some ns=>if ns.length < 64 then Res.ok (D.lst .own ((sortI ns).map D.int)) else .bad | none=>.bad)=_
 rw [intsOf_map]
 show (if (ni (PG.gr (fi :: rest) Pl)).length < 64 then Res.ok (D.lst .own ((sortI (ni (PG.gr (fi :: rest) Pl))).map D.int)) else .bad)=_
 rw [if_pos (by rw [ni_len]; omega),hS]
end
section
variable {ps:List Int}{f:Nat->Nat->Int}
theorem pp_up (hs:ps.Pairwise (· < ·)) {l:List Nat} (g:Gs ps.length l):(pp ps l).Pairwise (· < ·):=by
 unfold pp
 rw [List.pairwise_map]
 refine g.up.imp_of_mem fun {a b} ha hb h=>plc_lt hs h (g.lt b hb)
theorem pp_sorted (hs:ps.Pairwise (· < ·)) {l:List Nat} (g:Gs ps.length l) {qs:List Int} (h:qs.Perm (pp ps l)):sortI qs=pp ps l :=
 sorted_unique ((sortI_perm qs).trans h) (sortI_sorted qs) ((pp_up hs g).imp fun h=>by omega)
theorem pp_nd (hs:ps.Pairwise (· < ·)) {l:List Nat} (g:Gs ps.length l):(pp ps l).Nodup:=(pp_up hs g).imp fun h=>by omega
theorem dd_sorted (hs:ps.Pairwise (· < ·)) {l:List Nat} (g:Gs ps.length l) {qs:List Int} (h:∀ q,q ∈ qs ↔ q ∈ pp ps l):sortI (L2.dd qs)=pp ps l :=
 pp_sorted hs g ((List.perm_ext_iff_of_nodup (nodup_dd qs) (pp_nd hs g)).mpr fun a=>(mem_dd qs a).trans (h a))
theorem gr_gs {fi:Nat}{rest O:List Nat}{Pl:List (Nat × Nat)} (g:Gs ps.length (fi :: rest)) (S:PG.St (cc f) ps.length fi (fi :: rest) O [] Pl):∃ m:List Nat,m.Perm (PG.gr (fi :: rest) Pl)/\Gs ps.length m/\sortI (ni (PG.gr (fi :: rest) Pl))=ni m:=by
 obtain ⟨m,pm,um,em⟩:=sort_ni (S.val.nodup g.nd)
 refine ⟨m,pm,⟨fun z=>?_,um,fun x hx=>?_⟩,em⟩
 ·have:=pm.length_eq
  rw [z] at this
  simp at this
 ·rcases List.mem_append.mp (pm.mem_iff.mp hx) with z | z
  ·exact g.lt x z
  ·obtain ⟨y,hy,rfl⟩:=List.mem_map.mp z
   exact S.val.bound y hy
theorem closed_perm {n:Nat}{l m:List Nat} (h:∀ x,x ∈ m ↔ x ∈ l) (hc:PG.Closed (cc f) n l):PG.Closed (cc f) n m:=fun k hk hn i hi j hj=>hc k hk (fun z=>hn ((h k).mpr z)) i ((h i).mp hi) j ((h j).mp hj)
theorem right_eq (hs:ps.Pairwise (· < ·)) (hp:ps.length <= 24) {fi:Nat}{rest O:List Nat}{Pl:List (Nat × Nat)} (g:Gs ps.length (fi :: rest)) (S:PG.St (cc f) ps.length fi (fi :: rest) O [] Pl) :
  G_Lright [nF ps f,.lst .frz ((ni (fi :: rest)).map .int),.tup [.lst .frz ((sortI (pp ps (PG.gr (fi :: rest) Pl))).map .int),.lst .frz (Pl.map (trD ps fi))]]=.ok (.bl true):=by
 obtain ⟨m,pm,gm,em⟩:=gr_gs (f:=f) g S
 obtain ⟨m0,mr,rfl⟩:=ne_ex gm.ne
 have hg:(PG.gr (fi :: rest) Pl).length <= 24:=by
  rw [<- pm.length_eq]
  exact Nat.le_trans gm.len hp
 have es:sortI (pp ps (PG.gr (fi :: rest) Pl))=pp ps (m0 :: mr):=pp_sorted hs gm (by
  unfold pp
  exact pm.symm.map _)
 rw [es]
 have hpl:(pp ps (m0 :: mr)).length <= 1000:=by
  unfold pp
  rw [List.length_map]
  have:=gm.len
  omega
 have tp:(D.tup [.lst .frz ((pp ps (m0 :: mr)).map .int),.lst .frz (Pl.map (trD ps fi))]).view=.tup [.lst .frz ((pp ps (m0 :: mr)).map .int),.lst .frz (Pl.map (trD ps fi))]:=by
  show D.tup [.lst .frz (viewL ((pp ps (m0 :: mr)).map .int)),.lst .frz (viewL (Pl.map (trD ps fi)))]=_
  rw [view_ints,viewL_pure _ (tr_pure _ _ _)]
 have v2:∀ o,eVar 2 [some (nF ps f),some (.lst .frz ((ni (fi :: rest)).map .int)),some (.tup [.lst .frz ((pp ps (m0 :: mr)).map .int),.lst .frz (Pl.map (trD ps fi))]),o]=.ok (.tup [.lst .frz ((pp ps (m0 :: mr)).map .int),.lst .frz (Pl.map (trD ps fi))]):=fun o=>by
  show Res.ok (D.tup [.lst .frz ((pp ps (m0 :: mr)).map .int),.lst .frz (Pl.map (trD ps fi))]).view=_
  rw [tp]
 have x0:∀ o,eBin ixD (eVar 2) (eC (.int 0)) [some (nF ps f),some (.lst .frz ((ni (fi :: rest)).map .int)),some (.tup [.lst .frz ((pp ps (m0 :: mr)).map .int),.lst .frz (Pl.map (trD ps fi))]),o]=.ok (.lst .frz ((pp ps (m0 :: mr)).map .int)):=fun o=>ix_ok (v2 o) (y := .int 0) rfl (ix_tup (j:=0) rfl rfl)
 have x1:∀ o,eBin ixD (eVar 2) (eC (.int 1)) [some (nF ps f),some (.lst .frz ((ni (fi :: rest)).map .int)),some (.tup [.lst .frz ((pp ps (m0 :: mr)).map .int),.lst .frz (Pl.map (trD ps fi))]),o]=.ok (.lst .frz (Pl.map (trD ps fi))):=fun o=>ix_ok (v2 o) (y := .int 1) rfl (ix_tup (j:=1) rfl rfl)
 refine run_rt (τ := [some (nF ps f),some (.lst .frz ((ni (fi :: rest)).map .int)),some (.tup [.lst .frz ((pp ps (m0 :: mr)).map .int),.lst .frz (Pl.map (trD ps fi))]),none]) rfl rfl ?_
 unfold g_Lright
 have p1:eT (eUn (instD isTp) (eVar 2)) [some (nF ps f),some (.lst .frz ((ni (fi :: rest)).map .int)),some (.tup [.lst .frz ((pp ps (m0 :: mr)).map .int),.lst .frz (Pl.map (trD ps fi))]),none]=.ok true:=by
  unfold eT eUn
  rw [v2]
  rfl
 have p2:eT (eBin neD (eA lenD (aCons (eVar 2) aNil)) (eC (.int 2))) [some (nF ps f),some (.lst .frz ((ni (fi :: rest)).map .int)),some (.tup [.lst .frz ((pp ps (m0 :: mr)).map .int),.lst .frz (Pl.map (trD ps fi))]),none]=.ok false:=by
  have l:eA lenD (aCons (eVar 2) aNil) [some (nF ps f),some (.lst .frz ((ni (fi :: rest)).map .int)),some (.tup [.lst .frz ((pp ps (m0 :: mr)).map .int),.lst .frz (Pl.map (trD ps fi))]),none]=.ok (.int 2):=by
   rw [eA_ok (aOne (v2 none))]
   rfl
  rw [nei_ok l (g:=eC (.int 2)) (b:=2) rfl]
  rfl
 rw [if_go ((or_ok (not_ok p1) p2).trans rfl)]
 have p3:eT (eUn (instD isL) (eBin ixD (eVar 2) (eC (.int 0)))) [some (nF ps f),some (.lst .frz ((ni (fi :: rest)).map .int)),some (.tup [.lst .frz ((pp ps (m0 :: mr)).map .int),.lst .frz (Pl.map (trD ps fi))]),none]=.ok true:=by
  unfold eT eUn
  rw [x0]
  rfl
 have p4:eT (eUn (instD isL) (eBin ixD (eVar 2) (eC (.int 1)))) [some (nF ps f),some (.lst .frz ((ni (fi :: rest)).map .int)),some (.tup [.lst .frz ((pp ps (m0 :: mr)).map .int),.lst .frz (Pl.map (trD ps fi))]),none]=.ok true:=by
  unfold eT eUn
  rw [x1]
  rfl
 have p5:=wholes_call (g:=eBin ixD (eVar 2) (eC (.int 0))) (h:=eUn negD (eC (.int 1))) (τ := [some (nF ps f),some (.lst .frz ((ni (fi :: rest)).map .int)),some (.tup [.lst .frz ((pp ps (m0 :: mr)).map .int),.lst .frz (Pl.map (trD ps fi))]),none]) (ns:=pp ps (m0 :: mr)) (N := -1) (x0 none) rfl (by show D.lst .frz (frzL _)=_; rw [frz_ints]) (.inr rfl) (.inl (by decide)) hpl
 rw [if_go ((or_ok (not_ok p3) (or_ok (not_ok p4) (not_ok p5))).trans rfl)]
 have s3:eCall G_Lgrown (aCons (eVar 0) (aCons (eVar 1) (aCons (eBin ixD (eVar 2) (eC (.int 1))) aNil))) [some (nF ps f),some (.lst .frz ((ni (fi :: rest)).map .int)),some (.tup [.lst .frz ((pp ps (m0 :: mr)).map .int),.lst .frz (Pl.map (trD ps fi))]),none]=.ok (.lst .own ((ni (m0 :: mr)).map .int)):=by
  refine eCall_same (ds := [nF ps f,.lst .frz ((ni (fi :: rest)).map .int),.lst .frz (Pl.map (trD ps fi))]) (aCons_ok (v0_of rfl) (aCons_ok (var_frz rfl (pure_ints _)) (aOne (x1 none)))) ?_ (toBor_own (pure_ints _))
  show G_Lgrown [(nF ps f).frz,.lst .frz (frzL ((ni (fi :: rest)).map .int)),.lst .frz (frzL (Pl.map (trD ps fi)))]=_
  rw [frz_pure _ (nF_pure _ _),frz_ints,frzL_pure _ (tr_pure _ _ _)]
  exact grown_eq hs hp g S.val em hg
 rw [seq_nx (set_nx s3 (bor_own (pure_ints _)))]
 show sSeq _ _ [some (nF ps f),some (.lst .frz ((ni (fi :: rest)).map .int)),some (.tup [.lst .frz ((pp ps (m0 :: mr)).map .int),.lst .frz (Pl.map (trD ps fi))]),some (.lst .own ((ni (m0 :: mr)).map .int))]=_
 have q1:eT (eBin (eqID false) (eVar 3) (eA lstD aNil)) [some (nF ps f),some (.lst .frz ((ni (fi :: rest)).map .int)),some (.tup [.lst .frz ((pp ps (m0 :: mr)).map .int),.lst .frz (Pl.map (trD ps fi))]),some (.lst .own ((ni (m0 :: mr)).map .int))]=.ok false:=by
  refine eT_ok ?_
  rw [eBin_ok (var_own (xs:=(ni (m0 :: mr)).map .int) rfl (pure_ints _)) (y := .lst .own []) rfl]
  show (match intsOf ((ni (m0 :: mr)).map D.int),intsOf [] with | some ns,some ms=>Res.ok (D.bl (xor false (decide (ns=ms)))) | _,_=>.bad)=_
  rw [intsOf_map]
  rfl
 have hc:PG.Closed (cc f) ps.length (m0 :: mr):=closed_perm (fun x=>pm.mem_iff) S.closed
 have q2:eT (eBin (isND true) (eCall G_Lteller (aCons (eVar 0) (aCons (eVar 3) aNil))) (eC .non)) [some (nF ps f),some (.lst .frz ((ni (fi :: rest)).map .int)),some (.tup [.lst .frz ((pp ps (m0 :: mr)).map .int),.lst .frz (Pl.map (trD ps fi))]),some (.lst .own ((ni (m0 :: mr)).map .int))]=.ok false:=by
  refine eT_ok ?_
  rw [eBin_ok (te_call (f:=f) (i:=3) (.inr rfl) rfl rfl (teller_none hp gm.lt hc) rfl) (y := .non) rfl]
  rfl
 rw [if_go ((or_ok q1 q2).trans rfl)]
 refine ret_rt ?_ rfl
 have hi:eIt (eVar 3) [some (nF ps f),some (.lst .frz ((ni (fi :: rest)).map .int)),some (.tup [.lst .frz ((pp ps (m0 :: mr)).map .int),.lst .frz (Pl.map (trD ps fi))]),some (.lst .own ((ni (m0 :: mr)).map .int))]=.ok (true,(m0 :: mr).map fun i:Nat=>D.int (i:Int)):=by
  rw [<- ni_int]
  exact it_own rfl (pure_ints _)
 have c:=eComp_one (τ := [some (nF ps f),some (.lst .frz ((ni (fi :: rest)).map .int)),some (.tup [.lst .frz ((pp ps (m0 :: mr)).map .int),.lst .frz (Pl.map (trD ps fi))]),some (.lst .own ((ni (m0 :: mr)).map .int))]) (cap := [("_law_net_here",0)]) (elt:=g_Lright_e1) (fun i:Nat=>D.int (i:Int)) (fun i=>D.int (plc ps i)) hi (fun _ _=>rfl) (fun i hi=>⟨by
  show g_Lright_e1 [some (.int i),some (nF ps f).frz]=_
  rw [frz_pure _ (nF_pure _ _)]
  exact ix_ok (net0 (var_pure rfl (nF_pure _ _))) rfl (ix_tup rfl (plc_at (gm.lt i hi))),rfl⟩) (by have:=gm.len; omega)
 rw [<- pp_int] at c
 rw [eBin_ok (x0 _) c]
 show (match intsOf ((pp ps (m0 :: mr)).map D.int),intsOf ((pp ps (m0 :: mr)).map D.int) with | some ns,some ms=>Res.ok (D.bl (xor false (decide (ns=ms)))) | _,_=>.bad)=_
 rw [intsOf_map]
 show Res.ok (D.bl (xor false (decide (pp ps (m0 :: mr)=pp ps (m0 :: mr)))))=_
 rw [decide_eq_true rfl]
 rfl
end
theorem mul_ok {a b:SD->Res D}{τ:SD}{x y:Int} (h1:a τ=.ok (.int x)) (h2:b τ=.ok (.int y)) (h:CMulD x y):eBin mulD a b τ=.ok (.int (x * y)):=by
 rw [eBin_ok h1 h2]
 show (if CMulD x y then Res.ok (D.int (x * y)) else .bad)=_
 rw [if_pos h]
section
variable {ps:List Int}{f:Nat->Nat->Int}
def puD (ps:List Int) (fi:Nat) (G:List Int) (Pl:List (Nat × Nat)):D := .tup [.lst .own (G.map .int),.lst .own (Pl.map (trD ps fi))]
theorem puD_nb (fi:Nat) (G:List Int) (Pl:List (Nat × Nat)):(puD ps fi G Pl).hasBor=false:=by
 show ((D.lst .own (G.map .int)).hasBor || ((D.lst .own (Pl.map (trD ps fi))).hasBor || false))=false
 rw [bor_own (pure_ints _),bor_own (tr_pure _ _ _)]
 rfl
theorem puD_tb (fi:Nat) (G:List Int) (Pl:List (Nat × Nat)):(puD ps fi G Pl).toBor=puD ps fi G Pl:=by
 show D.tup [(D.lst .own (G.map .int)).toBor,(D.lst .own (Pl.map (trD ps fi))).toBor]=_
 rw [toBor_own (pure_ints _),toBor_own (tr_pure _ _ _)]
 rfl
theorem puD_frz (fi:Nat) (G:List Int) (Pl:List (Nat × Nat)):(puD ps fi G Pl).frz=.tup [.lst .frz (G.map .int),.lst .frz (Pl.map (trD ps fi))]:=by
 show D.tup [.lst .frz (frzL (G.map .int)),.lst .frz (frzL (Pl.map (trD ps fi)))]=_
 rw [frz_ints,frzL_pure _ (tr_pure _ _ _)]
theorem puD_view (fi:Nat) (G:List Int) (Pl:List (Nat × Nat)):(puD ps fi G Pl).view=.tup [.lst .bor (G.map .int),.lst .bor (Pl.map (trD ps fi))]:=by
 show D.tup [.lst .bor (viewL (G.map .int)),.lst .bor (viewL (Pl.map (trD ps fi)))]=_
 rw [view_ints,viewL_pure _ (tr_pure _ _ _)]
theorem bor_frz (fi:Nat) (G:List Int) (Pl:List (Nat × Nat)):(D.tup [.lst .bor (G.map .int),.lst .bor (Pl.map (trD ps fi))]).frz=.tup [.lst .frz (G.map .int),.lst .frz (Pl.map (trD ps fi))]:=by
 show D.tup [.lst .frz (frzL (G.map .int)),.lst .frz (frzL (Pl.map (trD ps fi)))]=_
 rw [frz_ints,frzL_pure _ (tr_pure _ _ _)]
theorem puD_two (fi:Nat) {G:List Int}{Pl:List (Nat × Nat)} (h1:G.length <= 1000) (h2:Pl.length <= 1000):twoL (puD ps fi G Pl)=true:=by
 show (pureL (G.map D.int) && (pureL (Pl.map (trD ps fi)) && (decide ((G.map D.int).length < 16777000) && decide ((Pl.map (trD ps fi)).length < 16777000))))=true
 rw [pure_ints,tr_pure,List.length_map,List.length_map,decide_eq_true (by omega),decide_eq_true (by omega)]
 rfl
def laSt (ns ps:List Int) (f:Nat->Nat->Int) (a b c d e g h i:Option D):SD := [some (S ns),some (nF ps f),a,b,c,d,e,g,h,i,none]
theorem v1_of {τ:SD} (h:τ[1]?=some (some (nF ps f))):eVar 1 τ=.ok (nF ps f):=var_pure h (nF_pure _ _)
theorem pulled_call {τ:SD}{g:SD->Res D}{t:Tg}{qs:List Int}{d:D} (h0:τ[1]?=some (some (nF ps f))) (h1:g τ=.ok (.lst t (qs.map .int))) (hG:G_pulled [nF ps f,.lst .frz (qs.map .int)]=.ok d) (hd:d.toBor=d):eCall G_pulled (aCons (eVar 1) (aCons g aNil)) τ=.ok d:=by
 refine eCall_same (ds := [nF ps f,.lst t (qs.map .int)]) (aCons_ok (v1_of h0) (aOne h1)) ?_ hd
 show G_pulled [(nF ps f).frz,.lst .frz (frzL (qs.map .int))]=_
 rw [frz_pure _ (nF_pure _ _),frz_ints]
 exact hG
theorem right_call {τ:SD}{g:SD->Res D}{t:Tg}{l:List Nat}{d d':D} (ht:t=.frz ∨ t=.own) (h0:τ[1]?=some (some (nF ps f))) (h5:τ[5]?=some (some (.lst t ((ni l).map .int)))) (h1:g τ=.ok d) (hf:d.frz=d') (hG:G_Lright [nF ps f,.lst .frz ((ni l).map .int),d']=.ok (.bl true)) :
  eT (eCall G_Lright (aCons (eVar 1) (aCons (eVar 5) (aCons g aNil)))) τ=.ok true:=by
 obtain ⟨t',e⟩:=var_fo ht h5
 refine eT_ok (eCall_pure (ds := [nF ps f,.lst t' ((ni l).map .int),d]) (aCons_ok (v1_of h0) (aCons_ok e (aOne h1))) ?_ rfl)
 show G_Lright [(nF ps f).frz,.lst .frz (frzL ((ni l).map .int)),d.frz]=_
 rw [frz_pure _ (nF_pure _ _),frz_ints,hf]
 exact hG
theorem gs_more {l:List Nat} (g:Gs ps.length l) {x:Nat} (hx:x < ps.length):∃ l2,Gs ps.length l2/\∀ y,y ∈ l2 ↔ y ∈ l ∨ y=x:=by
 by_cases h:x ∈ l
 ·exact ⟨l,g,fun y=>⟨.inl,fun z=>z.elim id fun z=>z ▸ h⟩⟩
 ·have nd:(l ++ [x]).Nodup:=List.nodup_append.mpr ⟨g.nd,by simp,fun a ha b hb e=>by
   have:b=x:=by simpa using hb
   exact h (this ▸ e ▸ ha)⟩
  obtain ⟨m,pm,um,_⟩:=sort_ni nd
  have mm:∀ y,y ∈ m ↔ y ∈ l ∨ y=x:=fun y=>by
   rw [pm.mem_iff,List.mem_append,List.mem_singleton]
  exact ⟨m,⟨(fun z=>by
   have:=(mm x).mpr (.inr rfl)
   rw [z] at this
   cases this),um,fun y hy=>((mm y).mp hy).elim (g.lt y) fun e=>e ▸ hx⟩,mm⟩
theorem bor_fo {t:Tg}{l:List Nat} (ht:t=.frz ∨ t=.own):(D.lst t ((ni l).map .int)).hasBor=false:=by
 rcases ht with rfl | rfl
 ·show (false || hasBorL ((ni l).map .int))=false
  rw [bor_ints]
  rfl
 ·exact bor_own (pure_ints _)
theorem la_turn (hs:ps.Pairwise (· < ·)) (hp:ps.length <= 24) (h1:1 <= ps.length) (ns:List Int) (x:Int) (k:Nat) (hk:k <= 100) (a b c d:Option D) :
  ∃ a' b' c' d',g_law_b1 (laSt ns ps f (some (.int k)) (some (.int x)) a b c d none none)=.nx (laSt ns ps f (some (.int k)) (some (.int x)) a' b' c' d' none none):=by
 obtain ⟨N,hN⟩:∃ N:Int,N=(x * 16807 + k * 48271) % 2147483647:=⟨_,rfl⟩
 have N0:0 <= N:=by
  rw [hN]
  exact Int.emod_nonneg _ (by decide)
 have s4:eBin modD (eBin addD (eBin mulD (eVar 3) (eC (.int 16807))) (eBin mulD (eVar 2) (eC (.int 48271)))) (eC (.int 2147483647)) (laSt ns ps f (some (.int k)) (some (.int x)) a b c d none none)=.ok (.int N):=by
  rw [mod_ok (add_ok (mul_ok (x:=x) (y:=16807) rfl rfl (mul_r (by decide))) (mul_ok (x:=(k:Int)) (y:=48271) rfl rfl (mul_r (by decide)))) (by decide),hN]
 obtain ⟨t,l,ht,g,eI⟩:=inside_eq (f:=f) hp h1 N0
 obtain ⟨fi,rest,rfl⟩:=ne_ex g.ne
 have s5:eCall G_Linside (aCons (eVar 1) (aCons (eVar 4) aNil)) (laSt ns ps f (some (.int k)) (some (.int x)) (some (.int N)) b c d none none)=.ok (.lst t ((ni (fi :: rest)).map .int)) :=
  eCall_own (ds := [nF ps f,.int N]) (aCons_ok (v1_of rfl) (aOne rfl)) (by show G_Linside [(nF ps f).frz,.int N]=_; rw [frz_pure _ (nF_pure _ _)]; exact eI) (by show ((nF ps f).hasBor || _)=false; rw [hasBor_pure _ (nF_pure _ _)]; rfl)
 obtain ⟨qs,q1,q2,eH⟩:=handed_eq (f:=f) hp g (N:=N / 7) (Int.ediv_nonneg N0 (by decide))
 have glen:=g.len
 have s6:eCall G_Lhanded (aCons (eVar 1) (aCons (eVar 5) (aCons (eBin fdivD (eVar 4) (eC (.int 7))) aNil))) (laSt ns ps f (some (.int k)) (some (.int x)) (some (.int N)) (some (.lst t ((ni (fi :: rest)).map .int))) c d none none)=.ok (.lst .own (qs.map .int)):=by
  obtain ⟨t',e⟩:=var_fo (i:=5) (τ:=laSt ns ps f (some (.int k)) (some (.int x)) (some (.int N)) (some (.lst t ((ni (fi :: rest)).map .int))) c d none none) ht rfl
  refine eCall_same (ds := [nF ps f,.lst t' ((ni (fi :: rest)).map .int),.int (N / 7)]) (aCons_ok (v1_of rfl) (aCons_ok e (aOne (fdiv_ok rfl ⟨by decide,by decide⟩)))) ?_ (toBor_own (pure_ints _))
  show G_Lhanded [(nF ps f).frz,.lst .frz (frzL ((ni (fi :: rest)).map .int)),.int (N / 7)]=_
  rw [frz_pure _ (nF_pure _ _),frz_ints]
  exact eH
 have qps:∀ q ∈ qs,q ∈ ps:=fun q hq=>by
  obtain ⟨i,hi,rfl⟩:=List.mem_map.mp ((q1 q).mp hq)
  exact plc_mem (g.lt i hi)
 have qne:qs ≠ []:=fun z=>by
  have:plc ps fi ∈ qs:=(q1 _).mpr (List.mem_map.mpr ⟨fi,List.mem_cons_self,rfl⟩)
  rw [z] at this
  cases this
 obtain ⟨O,Pl,S1,eP⟩:=pulled_eq (f:=f) hs hp g.lt g.nd qps qne (by omega) (dd_sorted hs g q1)
 obtain ⟨m,pm,gm,em⟩:=gr_gs (f:=f) g S1
 have eG:sortI (pp ps (PG.gr (fi :: rest) Pl))=pp ps m:=pp_sorted hs gm (by unfold pp; exact pm.symm.map _)
 have eR:=right_eq hs hp g S1
 rw [eG] at eP eR
 change _=Res.ok (puD ps fi (pp ps m) Pl) at eP
 have mlen:=gm.len
 have mpos:0 < m.length:=by
  cases hm:m with
  | nil=>exact absurd hm gm.ne
  | cons _ _=>exact Nat.succ_pos _
 have pplen:(pp ps m).length=m.length:=List.length_map _
 have plen:Pl.length <= 1000:=by
  have:=pm.length_eq
  rw [List.length_append,List.length_map] at this
  omega
 obtain ⟨j,hj,ej⟩:=natI (x:=N / 31) (n:=m.length) mpos
 have hxi:m[j] ∈ PG.gr (fi :: rest) Pl:=pm.mem_iff.mp (List.getElem_mem hj)
 have hxn:m[j] < ps.length:=gm.lt _ (List.getElem_mem hj)
 obtain ⟨l2,g2,m2⟩:=gs_more g hxn
 obtain ⟨f2,r2,rfl⟩:=ne_ex g2.ne
 have q3:∀ q,q ∈ qs ++ [plc ps m[j]] ↔ q ∈ pp ps (f2 :: r2):=fun q=>by
  rw [List.mem_append,q1,List.mem_singleton]
  constructor
  ·rintro (h | h)
   ·obtain ⟨i,hi,rfl⟩:=List.mem_map.mp h
    exact List.mem_map.mpr ⟨i,(m2 i).mpr (.inl hi),rfl⟩
   ·exact List.mem_map.mpr ⟨m[j],(m2 _).mpr (.inr rfl),h.symm⟩
  ·intro h
   obtain ⟨i,hi,rfl⟩:=List.mem_map.mp h
   rcases (m2 i).mp hi with z | z
   ·exact .inl (List.mem_map.mpr ⟨i,z,rfl⟩)
   ·exact .inr (by rw [z])
 have q4:∀ q ∈ qs ++ [plc ps m[j]],q ∈ ps:=fun q hq=>by
  obtain ⟨i,hi,rfl⟩:=List.mem_map.mp ((q3 q).mp hq)
  exact plc_mem (g2.lt i hi)
 obtain ⟨O2,Pl2,S2,eP2⟩:=pulled_eq (f:=f) hs hp g2.lt g2.nd q4 (by simp) (by rw [List.length_append,List.length_singleton]; omega) (dd_sorted hs g2 q3)
 have sg:=PG.same_group S1 S2 List.mem_cons_self List.mem_cons_self (fun y hy=>(m2 y).mpr (.inl hy)) (fun y hy=>((m2 y).mp hy).elim (fun z=>List.mem_append_left _ z) fun z=>z ▸ hxi)
 have eG2:sortI (pp ps (PG.gr (f2 :: r2) Pl2))=pp ps m:=pp_sorted hs gm (by
  unfold pp
  refine List.Perm.map _ ((List.perm_ext_iff_of_nodup (S2.val.nodup g2.nd) gm.nd).mpr fun y=>?_)
  rw [<- sg y,pm.mem_iff])
 rw [eG2] at eP2
 change _=Res.ok (puD ps f2 (pp ps m) Pl2) at eP2
 have plen2:Pl2.length <= 1000:=by
  have:=PG.nodup_bound (S2.val.nodup g2.nd) (n:=ps.length) fun y hy=>by
   rcases List.mem_append.mp hy with z | z
   ·exact g2.lt y z
   ·obtain ⟨w,hw,rfl⟩:=List.mem_map.mp z
    exact S2.val.bound w hw
  rw [List.length_append,List.length_map] at this
  omega
 refine ⟨some (.int N),some (.lst t ((ni (fi :: rest)).map .int)),some (.lst .own (qs.map .int)),some (.lst .own (qs.map .int)),?_⟩
 unfold g_law_b1
 rw [seq_nx (set_nx s4 rfl)]
 show sSeq _ _ (laSt ns ps f (some (.int k)) (some (.int x)) (some (.int N)) b c d none none)=_
 rw [seq_nx (set_nx s5 (bor_fo ht))]
 show sSeq _ _ (laSt ns ps f (some (.int k)) (some (.int x)) (some (.int N)) (some (.lst t ((ni (fi :: rest)).map .int))) c d none none)=_
 rw [seq_nx (set_nx s6 (bor_own (pure_ints _)))]
 show sSeq _ _ (laSt ns ps f (some (.int k)) (some (.int x)) (some (.int N)) (some (.lst t ((ni (fi :: rest)).map .int))) (some (.lst .own (qs.map .int))) d none none)=_
 have s7:eA listD (aCons (eVar 6) aNil) (laSt ns ps f (some (.int k)) (some (.int x)) (some (.int N)) (some (.lst t ((ni (fi :: rest)).map .int))) (some (.lst .own (qs.map .int))) d none none)=.ok (.lst .own (qs.map .int)):=by
  rw [eA_ok (aOne (var_own (xs:=qs.map .int) rfl (pure_ints _)))]
  rfl
 rw [seq_nx (set_nx s7 (bor_own (pure_ints _)))]
 show sSeq _ _ (laSt ns ps f (some (.int k)) (some (.int x)) (some (.int N)) (some (.lst t ((ni (fi :: rest)).map .int))) (some (.lst .own (qs.map .int))) (some (.lst .own (qs.map .int))) none none)=_
 obtain ⟨τ7,e7⟩:∃ τ7:Option D->Option D->SD,τ7=fun h i=>laSt ns ps f (some (.int k)) (some (.int x)) (some (.int N)) (some (.lst t ((ni (fi :: rest)).map .int))) (some (.lst .own (qs.map .int))) (some (.lst .own (qs.map .int))) h i:=⟨_,rfl⟩
 have g1:∀ h i,(τ7 h i)[1]?=some (some (nF ps f)):=fun h i=>by rw [e7]; rfl
 have g5:∀ h i,(τ7 h i)[5]?=some (some (.lst t ((ni (fi :: rest)).map .int))):=fun h i=>by rw [e7]; rfl
 have v6:∀ h i,eVar 6 (τ7 h i)=.ok (.lst .bor (qs.map .int)):=fun h i=>var_own (by rw [e7]; rfl) (pure_ints _)
 have v7:∀ h i,eVar 7 (τ7 h i)=.ok (.lst .bor (qs.map .int)):=fun h i=>var_own (by rw [e7]; rfl) (pure_ints _)
 have v4:∀ h i,eVar 4 (τ7 h i)=.ok (.int N):=fun h i=>by rw [e7]; rfl
 have v8:∀ i,eVar 8 (τ7 (some (puD ps fi (pp ps m) Pl)) i)=.ok (.tup [.lst .bor ((pp ps m).map .int),.lst .bor (Pl.map (trD ps fi))]):=fun i=>by
  rw [e7]
  show Res.ok (puD ps fi (pp ps m) Pl).view=_
  rw [puD_view]
 have v9:∀ h,eVar 9 (τ7 h (some (puD ps f2 (pp ps m) Pl2)))=.ok (.tup [.lst .bor ((pp ps m).map .int),.lst .bor (Pl2.map (trD ps f2))]):=fun h=>by
  rw [e7]
  show Res.ok (puD ps f2 (pp ps m) Pl2).view=_
  rw [puD_view]
 have w8:∀ d,(τ7 none none).set 8 (some d)=τ7 (some d) none:=fun d=>by rw [e7]; rfl
 have w9:∀ h d,(τ7 h none).set 9 (some d)=τ7 h (some d):=fun h d=>by rw [e7]; rfl
 have w0:laSt ns ps f (some (.int k)) (some (.int x)) (some (.int N)) (some (.lst t ((ni (fi :: rest)).map .int))) (some (.lst .own (qs.map .int))) (some (.lst .own (qs.map .int))) none none=τ7 none none:=by rw [e7]
 rw [w0]
 rw [seq_nx (set_nx (pulled_call (g1 _ _) (v7 none none) eP (puD_tb fi (pp ps m) Pl)) (puD_nb fi (pp ps m) Pl)),w8]
 have i1:eT (eBin (eqID true) (eVar 7) (eVar 6)) (τ7 (some (puD ps fi (pp ps m) Pl)) none)=.ok false:=by
  refine eT_ok ?_
  rw [eBin_ok (v7 _ _) (v6 _ _)]
  show (match intsOf (qs.map D.int),intsOf (qs.map D.int) with | some ns,some ms=>Res.ok (D.bl (xor true (decide (ns=ms)))) | _,_=>.bad)=_
  rw [intsOf_map]
  show Res.ok (D.bl (xor true (decide (qs=qs))))=_
  rw [decide_eq_true rfl]
  rfl
 have i2:=right_call ht (g1 (some (puD ps fi (pp ps m) Pl)) none) (g5 _ _) (v8 none) (bor_frz fi (pp ps m) Pl) eR
 rw [if_go ((or_ok i1 (not_ok i2)).trans rfl)]
 have x0:eBin ixD (eVar 8) (eC (.int 0)) (τ7 (some (puD ps fi (pp ps m) Pl)) none)=.ok (.lst .bor ((pp ps m).map .int)):=ix_ok (v8 none) (y := .int 0) rfl (ix_tup (j:=0) rfl rfl)
 have x2:eBin modD (eBin fdivD (eVar 4) (eC (.int 31))) (eA lenD (aCons (eBin ixD (eVar 8) (eC (.int 0))) aNil)) (τ7 (some (puD ps fi (pp ps m) Pl)) none)=.ok (.int j):=by
  have ln:eA lenD (aCons (eBin ixD (eVar 8) (eC (.int 0))) aNil) (τ7 (some (puD ps fi (pp ps m) Pl)) none)=.ok (.int m.length):=by
   rw [len_ok x0,List.length_map,pplen]
  rw [modv_ok (x:=N / 31) (y:=m.length) (fdiv_ok (v4 _ _) ⟨by decide,by decide⟩) ln (by omega),ej]
 have x3:eBin ixD (eBin ixD (eVar 8) (eC (.int 0))) (eBin modD (eBin fdivD (eVar 4) (eC (.int 31))) (eA lenD (aCons (eBin ixD (eVar 8) (eC (.int 0))) aNil))) (τ7 (some (puD ps fi (pp ps m) Pl)) none)=.ok (.int (plc ps m[j])):=by
  refine ix_ok x0 x2 (ix_lst (j:=j) rfl ?_)
  rw [pp_int,List.getElem?_map,List.getElem?_eq_getElem hj]
  rfl
 have x4:eBin addD (eVar 6) (eA lstD (aCons (eBin ixD (eBin ixD (eVar 8) (eC (.int 0))) (eBin modD (eBin fdivD (eVar 4) (eC (.int 31))) (eA lenD (aCons (eBin ixD (eVar 8) (eC (.int 0))) aNil)))) aNil)) (τ7 (some (puD ps fi (pp ps m) Pl)) none)=.ok (.lst .own ((qs ++ [plc ps m[j]]).map .int)):=by
  rw [eBin_ok (v6 _ _) (y := .lst .own [.int (plc ps m[j])]) (by rw [eA_ok (aOne x3)]; rfl)]
  show (if (qs.map D.int).length + 1 <= 16777216 then Res.ok (D.lst .own (qs.map D.int ++ [.int (plc ps m[j])])) else .bad)=_
  rw [if_pos (by rw [List.length_map]; omega),List.map_append]
  rfl
 rw [seq_nx (set_nx (pulled_call (g1 _ _) x4 eP2 (puD_tb f2 (pp ps m) Pl2)) (puD_nb f2 (pp ps m) Pl2)),w9]
 have y0:eBin ixD (eVar 9) (eC (.int 0)) (τ7 (some (puD ps fi (pp ps m) Pl)) (some (puD ps f2 (pp ps m) Pl2)))=.ok (.lst .bor ((pp ps m).map .int)):=ix_ok (v9 _) (y := .int 0) rfl (ix_tup (j:=0) rfl rfl)
 have y1:eBin ixD (eVar 8) (eC (.int 0)) (τ7 (some (puD ps fi (pp ps m) Pl)) (some (puD ps f2 (pp ps m) Pl2)))=.ok (.lst .bor ((pp ps m).map .int)):=ix_ok (v8 _) (y := .int 0) rfl (ix_tup (j:=0) rfl rfl)
 have k1:eT (eUn (instD isTp) (eVar 9)) (τ7 (some (puD ps fi (pp ps m) Pl)) (some (puD ps f2 (pp ps m) Pl2)))=.ok true:=by
  unfold eT eUn
  rw [v9]
  rfl
 have k2:eT (eBin neD (eA lenD (aCons (eVar 9) aNil)) (eC (.int 2))) (τ7 (some (puD ps fi (pp ps m) Pl)) (some (puD ps f2 (pp ps m) Pl2)))=.ok false:=by
  have ln:eA lenD (aCons (eVar 9) aNil) (τ7 (some (puD ps fi (pp ps m) Pl)) (some (puD ps f2 (pp ps m) Pl2)))=.ok (.int 2):=by
   rw [eA_ok (aOne (v9 _))]
   rfl
  rw [nei_ok ln (g:=eC (.int 2)) (b:=2) rfl]
  rfl
 have k3:eT (eBin (eqID true) (eBin ixD (eVar 9) (eC (.int 0))) (eBin ixD (eVar 8) (eC (.int 0)))) (τ7 (some (puD ps fi (pp ps m) Pl)) (some (puD ps f2 (pp ps m) Pl2)))=.ok false:=by
  refine eT_ok ?_
  rw [eBin_ok y0 y1]
  show (match intsOf ((pp ps m).map D.int),intsOf ((pp ps m).map D.int) with | some ns,some ms=>Res.ok (D.bl (xor true (decide (ns=ms)))) | _,_=>.bad)=_
  rw [intsOf_map]
  show Res.ok (D.bl (xor true (decide (pp ps m=pp ps m))))=_
  rw [decide_eq_true rfl]
  rfl
 rw [if_go ((or_ok (not_ok k1) (or_ok k2 k3)).trans rfl)]
 have wk:sWreck 8 9 10 (τ7 (some (puD ps fi (pp ps m) Pl)) (some (puD ps f2 (pp ps m) Pl2)))=.nx (τ7 none none):=by
  rw [e7]
  show (if (true && (twoL (puD ps fi (pp ps m) Pl) && twoL (puD ps f2 (pp ps m) Pl2)))=true then Fl.nx _ else .bad)=_
  rw [puD_two fi (by rw [pplen]; omega) plen,puD_two f2 (by rw [pplen]; omega) plen2]
  rfl
 rw [seq_nx wk]
 have i3:=right_call ht (g1 none none) (g5 _ _) (pulled_call (g1 _ _) (v7 none none) eP (puD_tb fi (pp ps m) Pl)) (puD_frz fi (pp ps m) Pl) eR
 rw [if_f (not_ok i3)]
 rfl
theorem la_loop (hs:ps.Pairwise (· < ·)) (hp:ps.length <= 24) (h1:1 <= ps.length) (ns xs:List Int) (hx:xs.length <= 66):∃ t,forD (gT 2 (gsCons 2 (gsCons 3 gsNil))) g_law_b1 (enumD (xs.map D.int)) (laSt ns ps f none none none none none none none none)=.nx t:=by
 obtain ⟨t,e,_⟩:=forD_inv (tg:=gT 2 (gsCons 2 (gsCons 3 gsNil))) (body:=g_law_b1) (fun _ t=>∃ a b c d e g,t=laSt ns ps f a b c d e g none none) (ds:=enumD (xs.map D.int)) 0 (laSt ns ps f none none none none none none none none) ⟨none,none,none,none,none,none,rfl⟩ (fun j d τ hd hp'=>by
  obtain ⟨a,b,c,e,g,h,rfl⟩:=hp'
  have hj:j < xs.length:=by
   have:=(List.getElem?_eq_some_iff.mp hd).1
   simpa [enumD] using this
  have ex:d=.tup [.int j,.int xs[j]]:=by
   simp [enumD,hj] at hd
   exact hd.symm
  subst ex
  obtain ⟨a',b',c',d',ht⟩:=la_turn (f:=f) hs hp h1 ns xs[j] j (by omega) c e g h
  exact ⟨_,_,rfl,.inl ht,_,_,a',b',c',d',rfl⟩)
 exact ⟨t,e⟩
theorem law_gen (ns:List Int) (hl:ns.length <= 63) (hs:ps.Pairwise (· < ·)) (hp:ps.length <= 24) (h1:1 <= ps.length) {n:Nat} (hm:(n:Int)=M.many (M.cell ns 0)) (hnet:G_Lnet [S ns,.int 1,.int n]=.ok (nF ps f)):G_law [S ns]=.ok (.bl true):=by
 refine run_rt (τ := [some (S ns),none,none,none,none,none,none,none,none,none,none]) rfl rfl ?_
 unfold g_law
 have fS:frzL (ns.map D.int)=ns.map D.int:=frz_ints ns
 have bS:hasBorL (ns.map D.int)=false:=bor_ints ns
 have z0:eCall G_Lcell (aCons (eVar 0) (aCons (eC (.int 0)) aNil)) [some (S ns),none,none,none,none,none,none,none,none,none,none]=.ok (.int (M.cell ns 0)) :=
  eCall_own (ds := [S ns,.int 0]) (aCons_ok (var_frz rfl (pure_ints ns)) (aOne rfl)) (by show G_Lcell [.lst .frz (frzL (ns.map D.int)),.int 0]=_; rw [fS]; exact cell_eq ns (Int.le_refl 0)) (by show ((false || hasBorL (ns.map D.int)) || _)=false; rw [bS]; rfl)
 have z1:eCall G_Lnet (aCons (eVar 0) (aCons (eC (.int 1)) (aCons (eCall G_Lmany (aCons (eCall G_Lcell (aCons (eVar 0) (aCons (eC (.int 0)) aNil))) aNil)) aNil))) [some (S ns),none,none,none,none,none,none,none,none,none,none]=.ok (nF ps f):=by
  refine eCall_own (ds := [S ns,.int 1,.int n]) (aCons_ok (var_frz rfl (pure_ints ns)) (aCons_ok rfl (aOne ?_))) (by show G_Lnet [.lst .frz (frzL (ns.map D.int)),.int 1,.int n]=_; rw [fS]; exact hnet) (by show ((false || hasBorL (ns.map D.int)) || _)=false; rw [bS]; rfl)
  rw [hm]
  exact eCall_pure (ds := [.int (M.cell ns 0)]) (aOne z0) (many_eq _) rfl
 rw [seq_nx (set_nx z1 (hasBor_pure _ (nF_pure _ _)))]
 show sSeq _ _ (laSt ns ps f none none none none none none none none)=_
 have hcl:(DL.cut ns (some 2) (some 8)).length <= 63:=by
  unfold DL.cut
  rw [List.length_take,List.length_drop]
  omega
 have zc:eCut (eVar 0) (eP (eC (.int 2))) (eP (eC (.int 8))) (laSt ns ps f none none none none none none none none)=.ok (.lst .own ((DL.cut ns (some 2) (some 8)).map D.int)):=by
  unfold eCut
  rw [var_frz (xs:=ns.map .int) rfl (pure_ints ns)]
  show Res.ok (D.lst .own (DL.cut (ns.map .int) (some 2) (some 8)))=_
  rw [cut_map]
 have za:eBin addD (eA lstD (aCons (eC (.int 6)) (aCons (eC (.int 39)) aNil))) (eCut (eVar 0) (eP (eC (.int 2))) (eP (eC (.int 8)))) (laSt ns ps f none none none none none none none none)=.ok (.lst .own ((6 :: 39 :: DL.cut ns (some 2) (some 8)).map D.int)):=by
  rw [eBin_ok (x := .lst .own [.int 6,.int 39]) rfl zc]
  show (if 2 + ((DL.cut ns (some 2) (some 8)).map D.int).length <= 16777216 then Res.ok (D.lst .own ([.int 6,.int 39] ++ (DL.cut ns (some 2) (some 8)).map D.int)) else .bad)=_
  rw [if_pos (by rw [List.length_map]; omega)]
  rfl
 have zi:eEnum (aCons (eBin addD (eA lstD (aCons (eC (.int 6)) (aCons (eC (.int 39)) aNil))) (eCut (eVar 0) (eP (eC (.int 2))) (eP (eC (.int 8))))) aNil) (laSt ns ps f none none none none none none none none)=.ok (false,enumD ((6 :: 39 :: DL.cut ns (some 2) (some 8)).map D.int)):=by
  unfold eEnum
  rw [aOne za,Res.bind_ok]
  show (Res.ok ((D.lst .own ((6 :: 39 :: DL.cut ns (some 2) (some 8)).map D.int)).hasBor,(6 :: 39 :: DL.cut ns (some 2) (some 8)).map D.int)).map _=_
  rw [bor_own (pure_ints _)]
  rfl
 obtain ⟨t,ht⟩:=la_loop (f:=f) hs hp h1 ns (6 :: 39 :: DL.cut ns (some 2) (some 8)) (by simp only [List.length_cons]; omega)
 have zf:sFor [0] (eEnum (aCons (eBin addD (eA lstD (aCons (eC (.int 6)) (aCons (eC (.int 39)) aNil))) (eCut (eVar 0) (eP (eC (.int 2))) (eP (eC (.int 8))))) aNil)) (gT 2 (gsCons 2 (gsCons 3 gsNil))) g_law_b1 (laSt ns ps f none none none none none none none none)=.nx t:=by
  have hf:frzAt [0] (laSt ns ps f none none none none none none none none)=laSt ns ps f none none none none none none none none:=by
   show List.set (laSt ns ps f none none none none none none none none) 0 (some (D.lst .frz (frzL (ns.map .int))))=_
   rw [fS]
   rfl
  unfold sFor
  rw [hf,zi]
  have:frzL (enumD ((6 :: 39 :: DL.cut ns (some 2) (some 8)).map D.int))=enumD ((6 :: 39 :: DL.cut ns (some 2) (some 8)).map D.int):=by rw [frzL_enum,frz_ints]
  simp only [this]
  exact ht
 rw [seq_nx zf]
 rfl
end
theorem law_true (ns:List Int) (hl:ns.length <= 63):G_law [.lst .frz (ns.map D.int)]=.ok (.bl true):=by
 obtain ⟨n,hn⟩:∃ n:Nat,(n:Int)=M.many (M.cell ns 0):=⟨(M.many (M.cell ns 0)).toNat,by have:=M.many_pos (M.cell ns 0); omega⟩
 have hb:=M.many_pos (M.cell ns 0)
 rw [<- hn] at hb
 have hl' := N2.places_len (dN ns) n
 have e:=net_eq ns (n:=n) (by omega)
 have er:N2.rows (dN ns) n=rowsF (dN ns).sh (N2.places (dN ns) n).length:=by
  rw [hl']
  rfl
 rw [er] at e
 exact law_gen (ps:=N2.places (dN ns) n) (f:=(dN ns).sh) ns hl (N2.places_sorted (dN ns) n) (by omega) (by omega) hn e
end KL
namespace KL
open PySem PySem.Spec PyProof.Rows L2 DL
theorem txt_mk {K:PySem.W.Frag}{h:Heap}{mg:Str->Option Value} (X:K.In h) (G:h.Ns mainGlobals mg) (z_all:PySem.W.nsIn K mainGlobals "all" = some none) (z_bool:PySem.W.nsIn K mainGlobals "bool" = some none) (z_enumerate:PySem.W.nsIn K mainGlobals "enumerate" = some none) (z_int:PySem.W.nsIn K mainGlobals "int" = some none) (z_isinstance:PySem.W.nsIn K mainGlobals "isinstance" = some none) (z_len:PySem.W.nsIn K mainGlobals "len" = some none) (z_list:PySem.W.nsIn K mainGlobals "list" = some none) (z_max:PySem.W.nsIn K mainGlobals "max" = some none) (z_min:PySem.W.nsIn K mainGlobals "min" = some none) (z_range:PySem.W.nsIn K mainGlobals "range" = some none) (z_set:PySem.W.nsIn K mainGlobals "set" = some none) (z_sorted:PySem.W.nsIn K mainGlobals "sorted" = some none) (z_tuple:PySem.W.nsIn K mainGlobals "tuple" = some none) (z_zip:PySem.W.nsIn K mainGlobals "zip" = some none)  : Txt mg :=
 ⟨PySem.W.mg_none_of X G z_all,PySem.W.mg_none_of X G z_bool,PySem.W.mg_none_of X G z_enumerate,PySem.W.mg_none_of X G z_int,PySem.W.mg_none_of X G z_isinstance,PySem.W.mg_none_of X G z_len,PySem.W.mg_none_of X G z_list,PySem.W.mg_none_of X G z_max,PySem.W.mg_none_of X G z_min,PySem.W.mg_none_of X G z_range,PySem.W.mg_none_of X G z_set,PySem.W.mg_none_of X G z_sorted,PySem.W.mg_none_of X G z_tuple,PySem.W.mg_none_of X G z_zip⟩
theorem defs_ok {l:PySem.W.OpenLaw}{w:World}{K:PySem.W.Frag}{h:Heap}{mg:Str->Option Value}{fa:Addr} (X:K.In h) (G:h.Ns mainGlobals mg) (hfa:mg "law" = some (.ref fa)) (T:Txt mg)
  (D_require_place:Dfn K mg "require_place" s_require_place ["places","place"])
  (D_checked_set:Dfn K mg "checked_set" s_checked_set ["places","some"])
  (D_pair:Dfn K mg "pair" s_pair ["one","other"])
  (D_colours_of:Dfn K mg "colours_of" s_colours_of ["net"])
  (D_sights_of:Dfn K mg "sights_of" s_sights_of ["net"])
  (D_pulls_from:Dfn K mg "pulls_from" s_pulls_from ["sights","members"])
  (D_pulled:Dfn K mg "pulled" s_pulled ["net","some"])
  (D_Lcell:Dfn K mg "_law_cell" s_Lcell ["_law_script","_law_k"])
  (D_Lmany:Dfn K mg "_law_many" s_Lmany ["_law_cell_here"])
  (D_Lmix:Dfn K mg "_law_mix" s_Lmix ["_law_script","_law_at","_law_k"])
  (D_Lplaces:Dfn K mg "_law_places" s_Lplaces ["_law_script","_law_at","_law_many_here"])
  (D_Lshade:Dfn K mg "_law_shade" s_Lshade ["_law_script","_law_at","_law_k","_law_j"])
  (D_Lnet:Dfn K mg "_law_net" s_Lnet ["_law_script","_law_at","_law_many_here"])
  (D_Lshown:Dfn K mg "_law_shown" s_Lshown ["_law_net_here","_law_k","_law_j"])
  (D_Lteller:Dfn K mg "_law_teller" s_Lteller ["_law_net_here","_law_inside_here"])
  (D_Lclosed:Dfn K mg "_law_closed" s_Lclosed ["_law_net_here","_law_inside_here"])
  (D_Linside:Dfn K mg "_law_inside" s_Linside ["_law_net_here","_law_number"])
  (D_Lhanded:Dfn K mg "_law_handed" s_Lhanded ["_law_net_here","_law_inside_here","_law_number"])
  (D_Lwhole:Dfn K mg "_law_whole" s_Lwhole ["_law_found"])
  (D_Lwholes:Dfn K mg "_law_wholes" s_Lwholes ["_law_found","_law_many_here"])
  (D_Lgrown:Dfn K mg "_law_grown" s_Lgrown ["_law_net_here","_law_inside_here","_law_pulls"])
  (D_Lright:Dfn K mg "_law_right" s_Lright ["_law_net_here","_law_inside_here","_law_found"])
  {f:Addr}{oc:Value}{od an:Option Addr}{osl:Array (Option Value)}{kV doc pm cdv ct:Value} (a:PySem.W.nsIn K mainGlobals "law" = some (some (.ref f)))
  (lk:K.lookup f=some ⟨oc,od,.func (PySem.W.fnOf "law" "law" (defArgs s_law) (defBody s_law) (defScope s_law) .none kV doc pm an cdv ct),osl⟩) (c:PySem.W.codeIn K cdv "law" = true) (k:PySem.W.keepIn K (.ref f)=true) :
  ∃ fd:FuncData,(∀ (s:Shared) (v:Value),BindsTo s fd ⟨[v],[]⟩ [("_law_script",v)])/\∀ base:Heap,K.In base->base.Ns mainGlobals mg->FnOk l.prog w K mg base CX0 5 fa fd ["_law_script"] (spF K G_law):=by
 have e:=hfa.symm.trans (PySem.W.mg_of X G a)
 cases e
 refine ⟨PySem.W.fnOf "law" "law" (defArgs s_law) (defBody s_law) (defScope s_law) .none kV doc pm an cdv ct,fun s v=>.of_eq rfl,fun base _ _=>?_⟩
 have C_require_place:=ok_require_place (P:=l.prog) (w:=w) (base:=base) T  D_require_place
 have C_checked_set:=ok_checked_set (P:=l.prog) (w:=w) (base:=base) T C_require_place D_checked_set
 have C_pair:=ok_pair (P:=l.prog) (w:=w) (base:=base) T  D_pair
 have C_colours_of:=ok_colours_of (P:=l.prog) (w:=w) (base:=base) T C_pair D_colours_of
 have C_sights_of:=ok_sights_of (P:=l.prog) (w:=w) (base:=base) T C_colours_of D_sights_of
 have C_pulls_from:=ok_pulls_from (P:=l.prog) (w:=w) (base:=base) T  D_pulls_from
 have C_pulled:=ok_pulled (P:=l.prog) (w:=w) (base:=base) T C_checked_set C_sights_of C_pulls_from D_pulled
 have C_Lcell:=ok_Lcell (P:=l.prog) (w:=w) (base:=base) T  D_Lcell
 have C_Lmany:=ok_Lmany (P:=l.prog) (w:=w) (base:=base) T  D_Lmany
 have C_Lmix:=ok_Lmix (P:=l.prog) (w:=w) (base:=base) T C_Lcell D_Lmix
 have C_Lplaces:=ok_Lplaces (P:=l.prog) (w:=w) (base:=base) T C_Lcell D_Lplaces
 have C_Lshade:=ok_Lshade (P:=l.prog) (w:=w) (base:=base) T C_Lcell C_Lmix D_Lshade
 have C_Lnet:=ok_Lnet (P:=l.prog) (w:=w) (base:=base) T C_Lplaces C_Lshade D_Lnet
 have C_Lshown:=ok_Lshown (P:=l.prog) (w:=w) (base:=base) T  D_Lshown
 have C_Lteller:=ok_Lteller (P:=l.prog) (w:=w) (base:=base) T C_Lshown D_Lteller
 have C_Lclosed:=ok_Lclosed (P:=l.prog) (w:=w) (base:=base) T C_Lteller D_Lclosed
 have C_Linside:=ok_Linside (P:=l.prog) (w:=w) (base:=base) T C_Lclosed D_Linside
 have C_Lhanded:=ok_Lhanded (P:=l.prog) (w:=w) (base:=base) T  D_Lhanded
 have C_Lwhole:=ok_Lwhole (P:=l.prog) (w:=w) (base:=base) T  D_Lwhole
 have C_Lwholes:=ok_Lwholes (P:=l.prog) (w:=w) (base:=base) T C_Lwhole D_Lwholes
 have C_Lgrown:=ok_Lgrown (P:=l.prog) (w:=w) (base:=base) T C_Lshown C_Lwholes D_Lgrown
 have C_Lright:=ok_Lright (P:=l.prog) (w:=w) (base:=base) T C_Lteller C_Lwholes C_Lgrown D_Lright
 exact fn_law T C_pulled C_Lcell C_Lmany C_Lnet C_Linside C_Lhanded C_Lright (fun_mk (st:=s_law) lk c k)
end KL
open PySem PySem.W PyProof.Rows
set_option maxRecDepth 100000 in
set_option maxHeartbeats 0 in
theorem PySem.Challenge.cw_modulewood_k07_pulled_holds : PySem.Challenge.rw_modulewood_k07_pulled.Holds := by
 w_on; o_law; k_head; (case hw=>w_witness2)
 k_fill
 refine L2.walk_of (l:=PySem.Challenge.rw_modulewood_k07_pulled) (n:=63) (k:=5) (x := "_law_script") (CX:=fun _=>L2.CX0) (sp:=fun w=>DL.spF _ KL.G_law) rfl (by decide) rfl ⟨rfl,by decide,by decide⟩ (fun w h Y=>PySem.W.kIn_of Y) ?F (fun w H a ns hl _ hS=>DL.law_sp hS (KL.law_true ns hl)) fun _ _ _ _ _ z=>z
 case F =>
  intro w mg fa h KX G hmg
  have T:KL.Txt mg:=by
   refine' KL.txt_mk KX G ?z0 ?z1 ?z2 ?z3 ?z4 ?z5 ?z6 ?z7 ?z8 ?z9 ?z10 ?z11 ?z12 ?z13
   (case z0=>k_is)
   (case z1=>k_is)
   (case z2=>k_is)
   (case z3=>k_is)
   (case z4=>k_is)
   (case z5=>k_is)
   (case z6=>k_is)
   (case z7=>k_is)
   (case z8=>k_is)
   (case z9=>k_is)
   (case z10=>k_is)
   (case z11=>k_is)
   (case z12=>k_is)
   (case z13=>k_is)
  have D_require_place:L2.Dfn (L2.KOf KX) mg "require_place" KL.s_require_place ["places","place"]:=by
   dsimp only [L2.KOf]
   refine' DL.dfn_mk KX G ?a ?l ?c ?k (fun _ _ _ _ _ _ us hl=>match us,hl with | [_,_],_=>rfl)
   (case a=>k_is); (case l=>k_is); (case c=>k_is); (case k=>k_is)
  have D_checked_set:L2.Dfn (L2.KOf KX) mg "checked_set" KL.s_checked_set ["places","some"]:=by
   dsimp only [L2.KOf]
   refine' DL.dfn_mk KX G ?a ?l ?c ?k (fun _ _ _ _ _ _ us hl=>match us,hl with | [_,_],_=>rfl)
   (case a=>k_is); (case l=>k_is); (case c=>k_is); (case k=>k_is)
  have D_pair:L2.Dfn (L2.KOf KX) mg "pair" KL.s_pair ["one","other"]:=by
   dsimp only [L2.KOf]
   refine' DL.dfn_mk KX G ?a ?l ?c ?k (fun _ _ _ _ _ _ us hl=>match us,hl with | [_,_],_=>rfl)
   (case a=>k_is); (case l=>k_is); (case c=>k_is); (case k=>k_is)
  have D_colours_of:L2.Dfn (L2.KOf KX) mg "colours_of" KL.s_colours_of ["net"]:=by
   dsimp only [L2.KOf]
   refine' DL.dfn_mk KX G ?a ?l ?c ?k (fun _ _ _ _ _ _ us hl=>match us,hl with | [_],_=>rfl)
   (case a=>k_is); (case l=>k_is); (case c=>k_is); (case k=>k_is)
  have D_sights_of:L2.Dfn (L2.KOf KX) mg "sights_of" KL.s_sights_of ["net"]:=by
   dsimp only [L2.KOf]
   refine' DL.dfn_mk KX G ?a ?l ?c ?k (fun _ _ _ _ _ _ us hl=>match us,hl with | [_],_=>rfl)
   (case a=>k_is); (case l=>k_is); (case c=>k_is); (case k=>k_is)
  have D_pulls_from:L2.Dfn (L2.KOf KX) mg "pulls_from" KL.s_pulls_from ["sights","members"]:=by
   dsimp only [L2.KOf]
   refine' DL.dfn_mk KX G ?a ?l ?c ?k (fun _ _ _ _ _ _ us hl=>match us,hl with | [_,_],_=>rfl)
   (case a=>k_is); (case l=>k_is); (case c=>k_is); (case k=>k_is)
  have D_pulled:L2.Dfn (L2.KOf KX) mg "pulled" KL.s_pulled ["net","some"]:=by
   dsimp only [L2.KOf]
   refine' DL.dfn_mk KX G ?a ?l ?c ?k (fun _ _ _ _ _ _ us hl=>match us,hl with | [_,_],_=>rfl)
   (case a=>k_is); (case l=>k_is); (case c=>k_is); (case k=>k_is)
  have D_Lcell:L2.Dfn (L2.KOf KX) mg "_law_cell" KL.s_Lcell ["_law_script","_law_k"]:=by
   dsimp only [L2.KOf]
   refine' DL.dfn_mk KX G ?a ?l ?c ?k (fun _ _ _ _ _ _ us hl=>match us,hl with | [_,_],_=>rfl)
   (case a=>k_is); (case l=>k_is); (case c=>k_is); (case k=>k_is)
  have D_Lmany:L2.Dfn (L2.KOf KX) mg "_law_many" KL.s_Lmany ["_law_cell_here"]:=by
   dsimp only [L2.KOf]
   refine' DL.dfn_mk KX G ?a ?l ?c ?k (fun _ _ _ _ _ _ us hl=>match us,hl with | [_],_=>rfl)
   (case a=>k_is); (case l=>k_is); (case c=>k_is); (case k=>k_is)
  have D_Lmix:L2.Dfn (L2.KOf KX) mg "_law_mix" KL.s_Lmix ["_law_script","_law_at","_law_k"]:=by
   dsimp only [L2.KOf]
   refine' DL.dfn_mk KX G ?a ?l ?c ?k (fun _ _ _ _ _ _ us hl=>match us,hl with | [_,_,_],_=>rfl)
   (case a=>k_is); (case l=>k_is); (case c=>k_is); (case k=>k_is)
  have D_Lplaces:L2.Dfn (L2.KOf KX) mg "_law_places" KL.s_Lplaces ["_law_script","_law_at","_law_many_here"]:=by
   dsimp only [L2.KOf]
   refine' DL.dfn_mk KX G ?a ?l ?c ?k (fun _ _ _ _ _ _ us hl=>match us,hl with | [_,_,_],_=>rfl)
   (case a=>k_is); (case l=>k_is); (case c=>k_is); (case k=>k_is)
  have D_Lshade:L2.Dfn (L2.KOf KX) mg "_law_shade" KL.s_Lshade ["_law_script","_law_at","_law_k","_law_j"]:=by
   dsimp only [L2.KOf]
   refine' DL.dfn_mk KX G ?a ?l ?c ?k (fun _ _ _ _ _ _ us hl=>match us,hl with | [_,_,_,_],_=>rfl)
   (case a=>k_is); (case l=>k_is); (case c=>k_is); (case k=>k_is)
  have D_Lnet:L2.Dfn (L2.KOf KX) mg "_law_net" KL.s_Lnet ["_law_script","_law_at","_law_many_here"]:=by
   dsimp only [L2.KOf]
   refine' DL.dfn_mk KX G ?a ?l ?c ?k (fun _ _ _ _ _ _ us hl=>match us,hl with | [_,_,_],_=>rfl)
   (case a=>k_is); (case l=>k_is); (case c=>k_is); (case k=>k_is)
  have D_Lshown:L2.Dfn (L2.KOf KX) mg "_law_shown" KL.s_Lshown ["_law_net_here","_law_k","_law_j"]:=by
   dsimp only [L2.KOf]
   refine' DL.dfn_mk KX G ?a ?l ?c ?k (fun _ _ _ _ _ _ us hl=>match us,hl with | [_,_,_],_=>rfl)
   (case a=>k_is); (case l=>k_is); (case c=>k_is); (case k=>k_is)
  have D_Lteller:L2.Dfn (L2.KOf KX) mg "_law_teller" KL.s_Lteller ["_law_net_here","_law_inside_here"]:=by
   dsimp only [L2.KOf]
   refine' DL.dfn_mk KX G ?a ?l ?c ?k (fun _ _ _ _ _ _ us hl=>match us,hl with | [_,_],_=>rfl)
   (case a=>k_is); (case l=>k_is); (case c=>k_is); (case k=>k_is)
  have D_Lclosed:L2.Dfn (L2.KOf KX) mg "_law_closed" KL.s_Lclosed ["_law_net_here","_law_inside_here"]:=by
   dsimp only [L2.KOf]
   refine' DL.dfn_mk KX G ?a ?l ?c ?k (fun _ _ _ _ _ _ us hl=>match us,hl with | [_,_],_=>rfl)
   (case a=>k_is); (case l=>k_is); (case c=>k_is); (case k=>k_is)
  have D_Linside:L2.Dfn (L2.KOf KX) mg "_law_inside" KL.s_Linside ["_law_net_here","_law_number"]:=by
   dsimp only [L2.KOf]
   refine' DL.dfn_mk KX G ?a ?l ?c ?k (fun _ _ _ _ _ _ us hl=>match us,hl with | [_,_],_=>rfl)
   (case a=>k_is); (case l=>k_is); (case c=>k_is); (case k=>k_is)
  have D_Lhanded:L2.Dfn (L2.KOf KX) mg "_law_handed" KL.s_Lhanded ["_law_net_here","_law_inside_here","_law_number"]:=by
   dsimp only [L2.KOf]
   refine' DL.dfn_mk KX G ?a ?l ?c ?k (fun _ _ _ _ _ _ us hl=>match us,hl with | [_,_,_],_=>rfl)
   (case a=>k_is); (case l=>k_is); (case c=>k_is); (case k=>k_is)
  have D_Lwhole:L2.Dfn (L2.KOf KX) mg "_law_whole" KL.s_Lwhole ["_law_found"]:=by
   dsimp only [L2.KOf]
   refine' DL.dfn_mk KX G ?a ?l ?c ?k (fun _ _ _ _ _ _ us hl=>match us,hl with | [_],_=>rfl)
   (case a=>k_is); (case l=>k_is); (case c=>k_is); (case k=>k_is)
  have D_Lwholes:L2.Dfn (L2.KOf KX) mg "_law_wholes" KL.s_Lwholes ["_law_found","_law_many_here"]:=by
   dsimp only [L2.KOf]
   refine' DL.dfn_mk KX G ?a ?l ?c ?k (fun _ _ _ _ _ _ us hl=>match us,hl with | [_,_],_=>rfl)
   (case a=>k_is); (case l=>k_is); (case c=>k_is); (case k=>k_is)
  have D_Lgrown:L2.Dfn (L2.KOf KX) mg "_law_grown" KL.s_Lgrown ["_law_net_here","_law_inside_here","_law_pulls"]:=by
   dsimp only [L2.KOf]
   refine' DL.dfn_mk KX G ?a ?l ?c ?k (fun _ _ _ _ _ _ us hl=>match us,hl with | [_,_,_],_=>rfl)
   (case a=>k_is); (case l=>k_is); (case c=>k_is); (case k=>k_is)
  have D_Lright:L2.Dfn (L2.KOf KX) mg "_law_right" KL.s_Lright ["_law_net_here","_law_inside_here","_law_found"]:=by
   dsimp only [L2.KOf]
   refine' DL.dfn_mk KX G ?a ?l ?c ?k (fun _ _ _ _ _ _ us hl=>match us,hl with | [_,_,_],_=>rfl)
   (case a=>k_is); (case l=>k_is); (case c=>k_is); (case k=>k_is)
  refine' KL.defs_ok KX G hmg T D_require_place D_checked_set D_pair D_colours_of D_sights_of D_pulls_from D_pulled D_Lcell D_Lmany D_Lmix D_Lplaces D_Lshade D_Lnet D_Lshown D_Lteller D_Lclosed D_Linside D_Lhanded D_Lwhole D_Lwholes D_Lgrown D_Lright ?a ?l ?c ?k
  (case a=>k_is); (case l=>k_is); (case c=>k_is); (case k=>k_is)
