import PyProof.Rows.All
import Wide.All
import OpenK.AllK
import Wide.FinOn
import PySem.Challenge.RW_modulewood_k03_nets_changed
import Lean
import PyProof.EqAt
import PyProof.EqKinds
import PyProof.TupleCall
import PyProof.StationsW
import PyProof.RangeIter
import PyProof.FactsTree
import PyProof.ExcClass2
import PyProof.ExcArgsOwn
import KE.KIsAll
import PyProof.SetScanFacts
import PyProof.Rows.SetFrom
import PyProof.FactsAll.set
import PyProof.Comp
import PyProof.Walks
import PyProof.TupleIter
import PyProof.CollectWalk
import PyProof.Rows.SortWalk
import PyProof.Rows.SortShell
noncomputable section
set_option Elab.async false
set_option linter.all false
set_option maxRecDepth 100000
set_option maxHeartbeats 0
namespace L2
theorem ex5 {α β:Sort _}{p q r:α->β->Prop}{C:Prop} (h:∃ a b,p a b/\q a b/\r a b) (k:∀ a b,p a b->q a b->r a b->C):C:=h.elim fun a h=>h.elim fun b h=>k a b h.1 h.2.1 h.2.2
open PySem PySem.Spec PyProof.Rows
def um (h:Heap) (a:Addr) (items:Array Value):Prop := ∃ n,h.get? a=some { cls := .type "tuple",data := .seq items n }
theorem um.is {h:Heap}{a:Addr}{items:Array Value} (x:um h a items):IsTup h a items:=let ⟨n,e⟩:=x; ⟨_,e,rfl,n,rfl⟩
theorem um.new (h:Heap) (items:Array Value):um (h.push { cls := .type "tuple",data := .seq items }) h.objs.size items:=⟨_,Heap.get?_push_size _ rfl⟩
abbrev Key:=Sum Int Str
def rB:Key->Value->Bool
 | .inl k,v=>Value.isInt k v
 | .inr x,v=>Value.isStrOf x v
def IY (w:World):Key->Int
 | .inl k=>hashInt k
 | .inr x=>hashStr w x
theorem dE:∀ {k:Key}{v:Value},rB k v=true->(∃ i t,k=Sum.inl i/\v=Value.int i t) ∨ (∃ x t,k=Sum.inr x/\v=Value.str x t)
 | .inl i,v,h=>by
  obtain ⟨t,e⟩:=Value.isInt_shape (k:=i) (v:=v) h
  exact .inl ⟨i,t,rfl,e⟩
 | .inr x,v,h=>by
  obtain ⟨t,e⟩:=Value.isStrOf_shape (x:=x) (v:=v) h
  exact .inr ⟨x,t,rfl,e⟩
theorem yN (i:Int) (t:Tok):rB (.inl i) (.int i t)=true:=by simp [rB,Value.isInt]
theorem yP (x:Str) (t:Tok):rB (.inr x) (.str x t)=true:=by simp [rB,Value.isStrOf]
theorem E7 (a b:Int):decide ((Sum.inl a:Key)=Sum.inl b)=(a == b):=by
 by_cases e:a=b
 ·subst e; simp
 ·have h:¬ (Sum.inl a:Key)=Sum.inl b:=fun q=>e (Sum.inl.inj q)
  rw [decide_eq_false h]
  exact (beq_eq_false_iff_ne.mpr e).symm
theorem EV (a b:Str):decide ((Sum.inr a:Key)=Sum.inr b)=decide (a=b):=by
 by_cases e:a=b
 ·subst e; simp
 ·have h:¬ (Sum.inr a:Key)=Sum.inr b:=fun q=>e (Sum.inr.inj q)
  rw [decide_eq_false h,decide_eq_false e]
theorem EW (a:Int) (b:Str):decide ((Sum.inl a:Key)=Sum.inr b)=false:=decide_eq_false (fun q=>nomatch q)
theorem E5 (a:Str) (b:Int):decide ((Sum.inr a:Key)=Sum.inl b)=false:=decide_eq_false (fun q=>nomatch q)
def dX (prog:Program) (w:World):PySem.KeyKind prog w Key where
 is:=rB
 hash:=IY w
 inj:=fun v a b ha hb=>by
  rcases dE ha with ⟨i,t,rfl,rfl⟩ | ⟨x,t,rfl,rfl⟩
  ·rcases dE hb with ⟨j,u,rfl,e⟩ | ⟨y,u,rfl,e⟩
   ·injection e with e1 _; rw [e1]
   ·exact nomatch e
  ·rcases dE hb with ⟨j,u,rfl,e⟩ | ⟨y,u,rfl,e⟩
   ·exact nomatch e
   ·injection e with e1 _; rw [e1]
 byValue:=fun k v h=>by
  rcases dE h with ⟨i,t,rfl,rfl⟩ | ⟨x,t,rfl,rfl⟩ <;> rfl
 pyHash:=fun hv h=>by
  rcases dE hv with ⟨i,t,rfl,rfl⟩ | ⟨x,t,rfl,rfl⟩
  ·exact wpAny_pyHash_int h
  ·exact wpAny_pyHash_str h
 eqBool:=fun hu hv h=>by
  rcases dE hu with ⟨i,t,rfl,rfl⟩ | ⟨x,t,rfl,rfl⟩
  ·rcases dE hv with ⟨j,u,rfl,rfl⟩ | ⟨y,u,rfl,rfl⟩
   ·rw [E7] at h; exact wpAny_eqBool_int h
   ·rw [EW] at h; exact SeqAt.EqAt.int_str i t y u _ _ _ _ h
  ·rcases dE hv with ⟨j,u,rfl,rfl⟩ | ⟨y,u,rfl,rfl⟩
   ·rw [E5] at h; exact SeqAt.EqAt.str_int x t j u _ _ _ _ h
   ·rw [EV] at h; exact wpAny_eqBool_str h
 «strs» := fun k x t v h=>by
  rcases dE h with ⟨i,u,rfl,e⟩ | ⟨y,u,rfl,e⟩
  ·exact nomatch e
  ·injection e with e1 _
   subst e1
   cases v <;> rfl
theorem ur (prog:Program) (w:World) (i:Int) (t:Tok):(dX prog w).is (.inl i) (.int i t)=true:=yN i t
theorem uo (prog:Program) (w:World) (x:Str) (t:Tok):(dX prog w).is (.inr x) (.str x t)=true:=yP x t
inductive V where
 | cY | bl (b:Bool) | int (i:Int) | str (x:Str) | zT (b:Array UInt8) | GV (b:UInt64) | ref (a:Addr) | ty (n:String)
 deriving DecidableEq
def RelV:V->Value->Prop
 | .cY,u=>u=Value.none
 | .bl b,u=>u=Value.bool b
 | .int i,u=>∃ t,u=Value.int i t
 | .str x,u=>∃ t,u=Value.str x t
 | .zT b,u=>∃ t,u=Value.bytes b t
 | .GV b,u=>∃ t,u=Value.float b t
 | .ref a,u=>u=Value.ref a
 | .ty n,u=>u=Value.type n
abbrev Vals:List V->List Value->Prop:=Paired RelV
theorem Vals.length {xs:List V}{us:List Value} (r:Vals xs us):xs.length=us.length:=Paired.length r
theorem Vals.get:∀ {xs:List V}{us:List Value}{i:Nat}{x:V},Vals xs us->xs[i]?=some x->∃ u,us[i]?=some u/\RelV x u
 | _,_,_,_,.nil,e=>by simp at e
 | _,_,0,_,.cons r _,e=>by simp at e; subst e; exact ⟨_,rfl,r⟩
 | _,_,i + 1,x,.cons _ t,e=>by
  obtain ⟨u,h1,h2⟩:=Vals.get (i:=i) (x:=x) t (by simpa using e)
  exact ⟨u,by simpa using h1,h2⟩
theorem Vals.append:∀ {xs ys:List V}{us ws:List Value},Vals xs us->Vals ys ws->Vals (xs ++ ys) (us ++ ws)
 | _,_,_,_,.nil,s=>s
 | _,_,_,_,.cons r t,s=>.cons r (Vals.append t s)
theorem Vals.take:∀ {xs:List V}{us:List Value} (n:Nat),Vals xs us->Vals (xs.take n) (us.take n)
 | _,_,0,_=>.nil
 | _,_,_ + 1,.nil=>.nil
 | _,_,n + 1,.cons r t=>.cons r (Vals.take n t)
theorem Vals.drop:∀ {xs:List V}{us:List Value} (n:Nat),Vals xs us->Vals (xs.drop n) (us.drop n)
 | _,_,0,r=>r
 | _,_,_ + 1,.nil=>.nil
 | _,_,n + 1,.cons _ t=>Vals.drop n t
def nH:Option V->Option Value->Prop
 | some v,some u=>RelV v u
 | none,none=>True
 | _,_=>False
def KV {κ:Type}:List (κ × V)->List (κ × Value)->Prop:=Paired fun (p:κ × V) (q:κ × Value)=>p.1=q.1/\RelV p.2 q.2
def kV:Key->V
 | .inl i=>.int i
 | .inr x=>.str x
inductive HO where
 | lst (xs:List V)
 | tup (xs:List V)
 | dK (kvs:List (Key × V)) | dT (kvs:List (List Key × V))
 | set (S:Int->Bool) (n:Nat)
 | ins (C dx:Addr) (fs:List (Str × V))
 | own (x:Addr)
 | xd (fs:List (Str × V))
 | met (f x:Addr)
 | Ip (lo hi:Int)
 | aG (o:Obj) (u:HO)
 | Eh (ps:Array Value)
 | ext (φ:Heap->Prop)
abbrev Hp:=Addr->Option HO
def upd (H:Hp) (a:Addr) (o:HO):Hp:=fun b=>if b=a then some o else H b
theorem bX {H:Hp}{a:Addr}{o:HO}:upd H a o a=some o:=by unfold upd; rw [if_pos rfl]
theorem aZ {H:Hp}{a b:Addr}{o:HO} (h:b ≠ a):upd H a o b=H b:=by unfold upd; rw [if_neg h]
theorem Hf {H:Hp}{a b:Addr}{o u:HO} (h:H a=some o) (h':H b=some u) (d:o ≠ u):a ≠ b:=by
 intro e; subst e; rw [h] at h'; exact d (Option.some.inj h')
theorem cy {H:Hp}{a b:Addr}{o:HO} (h:H a=some o) (h':H b=none):a ≠ b:=by
 intro e; subst e; rw [h] at h'; cases h'
section
variable (P:Program) (w:World)
def di (H:Hp) (h:Heap) (a:Addr):HO->Prop
 | .lst xs=>xs.length <= sizeLine/\∃ (its:List Value) (n:Nat),Vals xs its/\h.get? a=some { cls := .type "list",data := .seq its.toArray n }
 | .tup xs=>xs.length <= sizeLine/\∃ its:List Value,Vals xs its/\um h a its.toArray
 | .dK kvs=>kvs.length <= sizeLine/\(a == sysModules)=false/\∃ vs,KV kvs vs/\h.DictOf (dX P w) a vs
 | .dT kvs=>kvs.length <= sizeLine/\(a == sysModules)=false/\∃ xs:List (List Key × Addr × Value),
   Paired (fun (p:List Key × V) (q:List Key × Addr × Value)=>p.1=q.1/\H q.2.1=some (.tup (p.1.map kV))/\RelV p.2 q.2.2) kvs xs /\
   ∃ o es ep,h.get? a=some o/\o.ExactDict/\o.data=.dict es ep/\es.toList=xs.map (entryOfKey (tupleKind (dX P w)))/\(xs.map (·.1)).Nodup
 | .set S n=>h.SetOf (intKind P w) a S n
 | .ins C dx fs=>H dx=some (.own a)/\fs.length <= 1000/\dx ≠ a/\h.get? a=some (PySem.W.instObj C dx) /\
   ∃ mA,h.Ns1 dx mA/\(∀ f,nH (fs.lookup f) (mA f))/\PySem.Within mA (fs.map (·.1))
 | .own _=>∃ o,h.get? a=some o
 | .xd fs=>∃ mA,h.Ns1 a mA/\∀ f,nH (fs.lookup f) (mA f)
 | .Ip lo hi=>∃ t u v,h.get? a=some { cls := .type "range",data := .fields #[.int lo t,.int hi u,.int 1 v] }
 | .aG o u=>h.get? a=some o/\di H h a u
 | .Eh ps=>h.get? a=some { cls := .none,data := .fields ps }
 | .met f x=>h.get? a=some (PySem.W.methodObj (.ref f) (.ref x))
 | .ext φ=>φ h/\(∃ o,h.get? a=some o)/\∀ h1 h2:Heap,φ h1->(∀ o,h1.get? a=some o->h2.get? a=some o)->φ h2
def jx (H:Hp) (h:Heap):Prop := ∀ a o,H a=some o->di P w H h a o
end
section
variable {P:Program}{w:World}{H H':Hp}{h h':Heap}{a:Addr}{o:HO}
theorem di.lt (x:di P w H h a o):a < h.objs.size:=by
 cases o with
 | lst xs=>obtain ⟨_,_,_,_,e⟩:=x; exact Heap.lt_size e
 | tup xs=>obtain ⟨_,_,_,p⟩:=x; exact p.is.lt
 | dK kvs=>obtain ⟨_,_,_,_,o,_,_,e,_⟩:=x; exact Heap.lt_size e
 | dT kvs=>obtain ⟨_,_,_,_,o,_,_,e,_⟩:=x; exact Heap.lt_size e
 | set S n=>obtain ⟨o,_,_,_,e,_⟩:=x; exact Heap.lt_size e
 | ins C dx fs=>obtain ⟨_,_,_,e,_⟩:=x; exact Heap.lt_size e
 | own y=>obtain ⟨_,e⟩:=x; exact Heap.lt_size e
 | xd fs=>obtain ⟨_,⟨_,_,_,e,_⟩,_⟩:=x; exact Heap.lt_size e
 | Ip lo hi=>obtain ⟨_,_,_,e⟩:=x; exact Heap.lt_size e
 | aG ob u=>obtain ⟨e,_⟩:=x; exact Heap.lt_size e
 | Eh ps=>exact Heap.lt_size (show h.get? a=some _ from x)
 | met f y=>exact Heap.lt_size (show h.get? a=some _ from x)
 | ext φ=>obtain ⟨_,⟨_,e⟩,_⟩:=x; exact Heap.lt_size e
theorem Paired.EN {α β:Type}{F G:α->β->Prop}:∀ {l₁:List α}{l₂:List β},Paired F l₁ l₂->(∀ a b,F a b->G a b)->Paired G l₁ l₂
 | _,_,.nil,_=>.nil
 | _,_,.cons r t,f=>.cons (f _ _ r) (Paired.EN t f)
theorem di.stay (x:di P w H h a o) (k:∀ b u,(b=a ∨ H b=some (.own a))->h.get? b=some u->h'.get? b=some u)
  (ho:∀ b,H b=some (.own a)->H' b=some (.own a)) (ht:∀ b xs,H b=some (.tup xs)->H' b=some (.tup xs)):di P w H' h' a o:=by
 induction o with
 | lst xs=>obtain ⟨z,its,n,r,e⟩:=x; exact ⟨z,its,n,r,k _ _ (.inl rfl) e⟩
 | tup xs=>obtain ⟨z,its,r,n,e⟩:=x; exact ⟨z,its,r,n,k _ _ (.inl rfl) e⟩
 | dK kvs=>obtain ⟨z,y,vs,r,ob,es,ep,e,c⟩:=x; exact ⟨z,y,vs,r,ob,es,ep,k _ _ (.inl rfl) e,c⟩
 | dT kvs =>
  obtain ⟨z,y,xs,r,ob,es,ep,e,c⟩:=x
  exact ⟨z,y,xs,Paired.EN r fun p q z=>⟨z.1,ht _ _ z.2.1,z.2.2⟩,ob,es,ep,k _ _ (.inl rfl) e,c⟩
 | set S n=>obtain ⟨ob,es,ep,t,e,c⟩:=x; exact ⟨ob,es,ep,t,k _ _ (.inl rfl) e,c⟩
 | ins C dx fs =>
  obtain ⟨d,z,ne,e,mA,⟨od,es,ep,e2,c⟩,r⟩:=x
  exact ⟨ho _ d,z,ne,k _ _ (.inl rfl) e,mA,⟨od,es,ep,k _ _ (.inr d) e2,c⟩,r⟩
 | own y=>obtain ⟨ob,e⟩:=x; exact ⟨ob,k _ _ (.inl rfl) e⟩
 | xd fs=>obtain ⟨mA,⟨od,es,ep,e,c⟩,r⟩:=x; exact ⟨mA,⟨od,es,ep,k _ _ (.inl rfl) e,c⟩,r⟩
 | Ip lo hi=>obtain ⟨t,u,v,e⟩:=x; exact ⟨t,u,v,k _ _ (.inl rfl) e⟩
 | aG ob u ih=>obtain ⟨e,q⟩:=x; exact ⟨k _ _ (.inl rfl) e,ih q⟩
 | Eh ps =>
  have e:h.get? a=some { cls := .none,data := .fields ps }:=x
  show h'.get? a=some { cls := .none,data := .fields ps }
  exact k a _ (.inl rfl) e
 | met f y =>
  have e:h.get? a=some (PySem.W.methodObj (.ref f) (.ref y)):=x
  show h'.get? a=some (PySem.W.methodObj (.ref f) (.ref y))
  exact k a _ (.inl rfl) e
 | ext φ=>obtain ⟨p,⟨o,e⟩,st⟩:=x; exact ⟨st _ _ p fun o q=>k _ _ (.inl rfl) q,⟨o,k _ _ (.inl rfl) e⟩,st⟩
theorem jx.lt (x:jx P w H h) (e:H a=some o):a < h.objs.size:=(x a o e).lt
theorem jx.fresh (x:jx P w H h) (e:h.objs.size <= a):H a=none:=by
 cases q:H a with
 | none=>rfl
 | some u=>exact absurd (Nat.lt_of_lt_of_le (x.lt q) e) (Nat.lt_irrefl _)
theorem jx.kept (x:jx P w H h) (k:∀ b u,h.get? b=some u->h'.get? b=some u):jx P w H h' := fun a o e =>
 (x a o e).stay (fun b u _ q=>k b u q) (fun _ q=>q) fun _ _ q=>q
theorem jx.laid (x:jx P w H h) (k:∀ b u,h.get? b=some u->h'.get? b=some u) (hp:h.objs.size <= a) (new:di P w (upd H a o) h' a o):jx P w (upd H a o) h' := fun b u e=>by
 have hn:=x.fresh hp
 by_cases hb:b=a
 ·subst hb; rw [bX] at e; cases e; exact new
 ·rw [aZ hb] at e
  exact (x b u e).stay (fun c v _ q=>k c v q) (fun c q=>by rw [aZ (cy q hn)]; exact q) fun c xs q=>by rw [aZ (cy q hn)]; exact q
end
def Rd (H:Hp) (a:Addr) (u:HO):Prop:=H a=some u ∨ ∃ o,H a=some (.aG o u)
theorem Rd.ok {P:Program}{w:World}{H:Hp}{h:Heap}{a:Addr}{u:HO} (r:Rd H a u) (x:jx P w H h):di P w H h a u:=by
 rcases r with r | ⟨o,r⟩
 ·exact x a u r
 ·obtain ⟨_,q⟩:=x a _ r
  exact q
def Hc:Option HO->Prop
 | some (.lst _)=>True
 | some (.dK _)=>True
 | some (.dT _)=>True
 | some (.set _ _)=>True
 | some (.ins _ _ _)=>True
 | some (.ext _)=>True
 | _=>False
section
variable {P:Program}{w:World}{H:Hp}{h h':Heap}{x e:Addr}{o':HO}
theorem jx.write (ok:jx P w H h) (mu:Hc (H x)) (he:e=x ∨ H e=some (.own x)) (k:∀ b u,b ≠ e->h.get? b=some u->h'.get? b=some u) (heo:∃ u,h'.get? e=some u)
  (new:di P w (upd H x o') h' x o'):jx P w (upd H x o') h' := fun b u q=>by
 have nown:∀ c y,H c=some (.own y)->c ≠ x:=fun c y r z=>by subst z; rw [r] at mu; exact mu
 have ntup:∀ c xs,H c=some (.tup xs)->c ≠ x:=fun c xs r z=>by subst z; rw [r] at mu; exact mu
 by_cases hb:b=x
 ·subst hb; rw [bX] at q; cases q; exact new
 ·rw [aZ hb] at q
  by_cases hbe:b=e
  ·have q':H b=some (.own x):=by
    rcases he with z | z
    ·exact absurd (hbe.trans z) hb
    ·rw [hbe]; exact z
   rw [q] at q'; cases q'
   obtain ⟨v,hv⟩:=heo
   exact ⟨v,by rw [hbe]; exact hv⟩
  ·refine (ok b u q).stay (fun c v hc r=>k c v ?_ r) (fun c r=>by rw [aZ (nown c b r)]; exact r) fun c xs r=>by rw [aZ (ntup c xs r)]; exact r
   rcases hc with rfl | hc
   ·exact hbe
   ·rintro rfl
    rcases he with z | z
    ·exact nown c b hc z
    ·rw [hc] at z; cases z; exact hb rfl
end
structure Un (fs ex:List Addr) (H H':Hp) (h h':Heap):Prop where
 keep:∀ b o,h.get? b=some o->H b=none->b ∉ fs->b ∉ ex->h'.get? b=some o
 slot:∀ b o,h.get? b=some o->H b=none->b ∈ fs->b ∉ ex->∃ sl,h'.get? b=some { o with slots:=sl }
 free:∀ b o,h.get? b=some o->H b=none->b ∉ ex->H' b=none
 there:∀ b o,h.get? b=some o->b ∉ ex->∃ o',h'.get? b=some o'
 tups:∀ b xs,H b=some (.tup xs)->H' b=some (.tup xs)
 lU:∀ b o u,H b=some (.aG o u)->H' b=some (.aG o u)
 nJ:∀ b ps,H b=some (.Eh ps)->∃ more,H' b=some (.Eh (ps ++ more))
section
variable {fs fs' ex ex':List Addr}{H H1 H2:Hp}{h h1 h2 h':Heap}{a x e:Addr}{o:HO}
theorem Un.any (u:Un fs ex H H1 h h1) {b:Addr}{ob:Obj} (q:h.get? b=some ob) (n:H b=none) (hx:b ∉ ex):∃ sl,h1.get? b=some { ob with slots:=sl }:=by
 by_cases hb:b ∈ fs
 ·exact u.slot b ob q n hb hx
 ·exact ⟨ob.slots,u.keep b ob q n hb hx⟩
theorem Un.kept (k:∀ b u,h.get? b=some u->h'.get? b=some u):Un fs ex H H h h' :=
 ⟨fun b ob q _ _ _=>k b ob q,fun b ob q _ _ _=>⟨ob.slots,k b ob q⟩,fun _ _ _ n _=>n,fun b ob q _=>⟨ob,k b ob q⟩,fun _ _ q=>q,fun _ _ _ q=>q,fun _ ps q=>⟨#[],by rw [q]; simp⟩⟩
theorem Un.refl:Un fs ex H H h h:=Un.kept fun _ _ q=>q
theorem Un.laid (k:∀ b u,h.get? b=some u->h'.get? b=some u) (hp:h.objs.size <= a) (hn:H a=none):Un fs ex H (upd H a o) h h' where
 keep:=fun b u q _ _ _=>k b u q
 slot:=fun b u q _ _ _=>⟨u.slots,k b u q⟩
 free:=fun b u q n _=>by rw [aZ (Nat.ne_of_lt (Nat.lt_of_lt_of_le (Heap.lt_size q) hp))]; exact n
 there:=fun b u q _=>⟨u,k b u q⟩
 tups:=fun b xs q=>by rw [aZ (cy q hn)]; exact q
 lU:=fun b u xs q=>by rw [aZ (cy q hn)]; exact q
 nJ:=fun b ps q=>⟨#[],by rw [aZ (cy q hn),q]; simp⟩
theorem Un.write (mu:Hc (H x)) (he:e=x ∨ H e=some (.own x)) (k:∀ b u,b ≠ e->h.get? b=some u->h'.get? b=some u) (heo:∃ u,h'.get? e=some u):Un fs ex H (upd H x o) h h' := by
 have hx:∀ b,H b=none->b ≠ x:=fun b n z=>by subst z; rw [n] at mu; exact mu
 have hb:∀ b,H b=none->b ≠ e:=fun b n z=>by
  subst z
  rcases he with r | r
  ·exact hx b n r
  ·rw [n] at r; cases r
 have hm:∀ b u,H b=some u->¬ Hc (some u)->b ≠ x:=fun b u q nm z=>by subst z; rw [q] at mu; exact nm mu
 refine ⟨fun b u q n _ _=>k b u (hb b n) q,fun b u q n _ _=>⟨u.slots,k b u (hb b n) q⟩,fun b u q n _=>by rw [aZ (hx b n)]; exact n,fun b u q _=>?_,
  fun b xs q=>by rw [aZ (hm b _ q fun z=>z)]; exact q,fun b u xs q=>by rw [aZ (hm b _ q fun z=>z)]; exact q,fun b ps q=>⟨#[],by rw [aZ (hm b _ q fun z=>z),q]; simp⟩⟩
 by_cases hbe:b=e
 ·subst hbe; exact heo
 ·exact ⟨u,k b u hbe q⟩
end
def Im (h:Heap) (H:Hp):List Addr:=(List.range h.objs.size).filter fun a=>(H a).isSome
def sM (h:Heap) (H:Hp):Heap:=PySem.W.hideAll h (Im h H)
theorem yF (h:Heap) (H:Hp):(sM h H).objs.size=h.objs.size:=PySem.W.hideAll_size _ _
theorem Ab {h:Heap}{H:Hp}{b:Addr}{o:Obj} (e:h.get? b=some o) (n:H b=none):(sM h H).get? b=some o :=
 PySem.W.hideAll_get _ e fun hm=>by
  have q:(H b).isSome=true:=(List.mem_filter.mp hm).2
  rw [n] at q; simp at q
theorem CP {h:Heap}{H:Hp}{b:Addr}{o:Obj} (e:(sM h H).get? b=some o):h.get? b=some o/\H b=none:=by
 have e':h.get? b=some o:=PySem.W.of_hideAll (Im h H) e
 refine ⟨e',?_⟩
 cases q:H b with
 | none=>rfl
 | some x =>
  have hm:b ∈ Im h H:=List.mem_filter.mpr ⟨List.mem_range.mpr (Heap.lt_size e'),by simp [q]⟩
  have z:(sM h H).get? b=none:=PySem.W.hideAll_none (Im h H) hm
  rw [z] at e; cases e
structure Mod (K:PySem.W.Frag) (mg:Str->Option Value) (base:Heap):Prop where
 ES:K.In base
 glob:base.Ns mainGlobals mg
 blt:∃ mb,base.Ns builtinsNs mb/\∀ x:Str,x ≠ "__name__" -> mb x=bootBuiltins x
 nolimit:base.NoLimit
structure Cx where
 prog:Program
 w:World
 K:PySem.W.Frag
 mg:Str->Option Value
 base:Heap
 A:Around
 N:List Str
 s₀:Shared
 H₀:Hp
 env:Env
 outer:List Env
 stack:List Env
 ex:List Addr
 fn:Str->Bool
 calm:Bool
 pn:List (Addr × Obj)
 xe:Value->Shared->Prop
def frs (l:List Env):List Addr:=l.filterMap (·.frame)
abbrev Cx.fs (X:Cx):List Addr:=frs X.outer
def Eg (sc:Scope) (x:Str):Prop:=sc.names.lookup x=some .local ∨ sc.names.lookup x=some .cell ∨ sc.names.lookup x=some .free
def Loc (sc:Scope) (x:Str):Prop:=sc.names.lookup x=some .local ∨ sc.names.lookup x=some .cell
def Look (env:Env) (h:Heap) (m:Str->Option Value) (x:Str) (u:Value):Prop :=
 (env.kindOf x=some .local/\m x=some u) ∨ ((env.kindOf x=some .cell ∨ env.kindOf x=some .free)/\∃ c,env.cells.lookup x=some c/\h.IsCell c (some u))
structure Cx.Ok (X:Cx):Prop where
 mod:Mod X.K X.mg X.base
 kind:X.env.scope.kind=.function
 glob:X.env.globals=mainGlobals
 blt:X.env.builtins=builtinsNs
 above:X.s₀.heap.objs.size <= X.env.locals
 inj:∀ x y c,X.env.cells.lookup x=some c->X.env.cells.lookup y=some c->x=y
 has:∀ x,(X.env.kindOf x=some .cell ∨ X.env.kindOf x=some .free)->∃ c,X.env.cells.lookup x=some c
 Cz:∀ x c,X.fn x=true->X.env.cells.lookup x=some c->X.s₀.heap.objs.size <= c
 hd:X.calm=true->X.A.handled=none
 frames:X.A.frames=some X.stack
 CG:X.stack=X.outer ∨ (X.stack=X.env :: X.outer/\X.env.frame=some X.env.locals)
 Em:∀ b ∈ X.ex,b ≠ X.env.locals/\∀ x c,X.env.cells.lookup x=some c->c ≠ b
 bs:∀ b o,X.base.get? b=some o->X.s₀.heap.get? b=some o/\X.H₀ b=none
 xE:X.base.objs.size <= X.s₀.heap.objs.size
 qJ:∀ b o,X.base.get? b=some o->b ∉ X.ex
 qK:∀ b ∈ X.ex,b ∉ X.fs
 jS:X.s₀.heap.FunFrames X.base X.outer
 zQ:∀ b ∈ X.fs,X.H₀ b=none
structure Inv (X:Cx) (pins:List (Addr × Obj)) (σ:List (Option V)) (H:Hp) (s:Shared):Prop where
 ok:X.Ok
 os:s.os=X.s₀.os
 bare:AllBare s.gens
 base:Un X.fs X.ex X.H₀ H X.s₀.heap s.heap
 loc:∃ m,s.heap.Ns X.env.locals m/\∀ (i:Nat) (x:Str) (v:V),X.N[i]?=some x->σ[i]?=some (some v)->Eg X.env.scope x->∃ u,RelV v u/\Look X.env s.heap m x u
 cell:∀ x c,X.env.cells.lookup x=some c->∃ v,s.heap.IsCell c v
 free:H X.env.locals=none
 gi:∀ x c,X.env.cells.lookup x=some c->H c=none
 pin:∀ p ∈ X.pn ++ pins,s.heap.get? p.1=some p.2/\H p.1=none/\p.1 ≠ X.env.locals/\p.1 ∉ X.fs/\∀ v,p.2.data ≠ .cell v
 hok:jx X.prog X.w H s.heap
 len:σ.length=X.N.length
section
variable {X:Cx}{pins:List (Addr × Obj)}{σ:List (Option V)}{H H':Hp}{s:Shared}{h':Heap}
theorem Cx.Ok.IM (ok:X.Ok) {b:Addr}{o:Obj} (e:X.base.get? b=some o):b ∉ X.fs:=fun hb=>by
 have:=(ok.jS.mem hb).1
 rw [e] at this; cases this
theorem Inv.bs (I:Inv X pins σ H s):∀ b o,X.base.get? b=some o->s.heap.get? b=some o/\H b=none:=fun b o e =>
 ⟨I.base.keep b o (I.ok.bs b o e).1 (I.ok.bs b o e).2 (I.ok.IM e) (I.ok.qJ b o e),I.base.free b o (I.ok.bs b o e).1 (I.ok.bs b o e).2 (I.ok.qJ b o e)⟩
theorem Inv.bk (I:Inv X pins σ H s):∀ b o,X.base.get? b=some o->s.heap.get? b=some o:=fun b o e=>(I.bs b o e).1
theorem Inv.mod (I:Inv X pins σ H s):Mod X.K X.mg X.base:=I.ok.mod
theorem Inv.nD (I:Inv X pins σ H s):X.K.In s.heap:=I.ok.mod.ES.keeps I.bk
theorem Inv.lt (I:Inv X pins σ H s):X.env.locals < s.heap.objs.size:=let ⟨_,hn,_⟩:=I.loc; hn.lt
theorem Inv.sz (I:Inv X pins σ H s):X.s₀.heap.objs.size <= s.heap.objs.size:=Nat.le_trans I.ok.above (Nat.le_of_lt I.lt)
theorem Inv.IV (I:Inv X pins σ H s) {a:Addr} (h:s.heap.objs.size <= a):a ∉ X.fs:=fun hb=>by
 obtain ⟨_,o,ho,_⟩:=I.ok.jS.mem hb
 exact absurd (Nat.lt_of_lt_of_le (Heap.lt_size ho) (Nat.le_trans I.sz h)) (Nat.lt_irrefl _)
theorem Inv.Ei (I:Inv X pins σ H s):∀ x c,X.env.cells.lookup x=some c->c ≠ X.env.locals:=fun x c e z=>by
 obtain ⟨v,o,ho,hd⟩:=I.cell x c e
 obtain ⟨m,⟨o',es,ep,ho',hd',_⟩,_⟩:=I.loc
 rw [z,ho'] at ho; cases ho; rw [hd'] at hd; cases hd
theorem Inv.jS (I:Inv X pins σ H s):s.heap.FunFrames X.base X.outer:=by
 have all:∀ (l:List Env),(∀ b ∈ frs l,b ∈ X.fs)->X.s₀.heap.FunFrames X.base l->s.heap.FunFrames X.base l:=by
  intro l
  induction l with
  | nil=>intro _ _; trivial
  | cons env r ih =>
   intro hs hl
   obtain ⟨hk,⟨L,o,hf,hn,ho,hd⟩,hr⟩:=hl
   have hL:L ∈ X.fs:=hs L (by unfold frs; rw [List.filterMap_cons,hf]; exact List.mem_cons_self)
   obtain ⟨sl,e⟩:=I.base.slot L o ho (I.ok.zQ L hL) hL fun z=>I.ok.qK L z hL
   exact ⟨hk,⟨L,_,hf,hn,e,hd⟩,ih (fun b hb=>hs b (by unfold frs; rw [List.filterMap_cons,hf]; exact List.mem_cons_of_mem _ hb)) hr⟩
 exact all X.outer (fun _ hb=>hb) I.ok.jS
theorem Inv.stack (I:Inv X pins σ H s):s.heap.FunFrames X.base X.stack:=by
 rcases I.ok.CG with e | ⟨e,hf⟩
 ·rw [e]; exact I.jS
 ·rw [e]
  obtain ⟨m,hn,_⟩:=I.loc
  refine .cons (by rw [I.ok.kind]; decide) hf hn ?_ I.jS
  exact Heap.get?_none_of_le (Nat.le_trans I.ok.xE I.ok.above)
theorem Inv.nI (I:Inv X pins σ H s):∀ b ∈ frs X.stack,b ∈ X.env.locals :: X.fs:=fun b hb=>by
 rcases I.ok.CG with e | ⟨e,hf⟩
 ·rw [e] at hb; exact List.mem_cons_of_mem _ hb
 ·rw [e] at hb
  unfold frs at hb
  rw [List.filterMap_cons,hf] at hb
  exact hb
theorem Inv.sL (I:Inv X pins σ H s):∀ b ∈ frs X.stack,H b=none:=fun b hb=>by
 rcases List.mem_cons.mp (I.nI b hb) with e | hb
 ·rw [e]; exact I.free
 ·obtain ⟨_,o,ho,_⟩:=I.ok.jS.mem hb
  exact I.base.free b o ho (I.ok.zQ b hb) fun z=>I.ok.qK b z hb
theorem Inv.step {g':Array GenState}{t':Nat}{d':Drawn}{ch:List Addr} (I:Inv X pins σ H s)
  (hch:∀ b ∈ ch,(b ∈ X.ex ∨ X.s₀.heap.objs.size <= b)/\b ≠ X.env.locals/\(∀ x c,X.env.cells.lookup x=some c->c ≠ b)/\∀ p ∈ X.pn ++ pins,p.1 ≠ b)
  (keep:∀ b o,b ≠ X.env.locals->b ∉ X.fs->b ∉ ch->s.heap.get? b=some o->H b=none->h'.get? b=some o)
  (slot:∀ b o,b ≠ X.env.locals->b ∈ X.fs->b ∉ ch->s.heap.get? b=some o->H b=none->∃ sl,h'.get? b=some { o with slots:=sl }) (free:∀ b o,b ∉ ch->s.heap.get? b=some o->H b=none->H' b=none)
  (there:∀ b o,b ∉ ch->s.heap.get? b=some o->∃ o',h'.get? b=some o')
  (tups:∀ b xs,H b=some (.tup xs)->H' b=some (.tup xs)) (lU:∀ b o u,H b=some (.aG o u)->H' b=some (.aG o u)) (nJ:∀ b ps,H b=some (.Eh ps)->∃ more,H' b=some (.Eh (ps ++ more)))
  (ns:∀ m,s.heap.Ns X.env.locals m->h'.Ns X.env.locals m) (hok:jx X.prog X.w H' h') (hg:AllBare g') :
  Inv X pins σ H' { s with heap:=h',gens:=g',drawn:=d',toks:=t' }:=by
 have neL:∀ b o,X.s₀.heap.get? b=some o->b ≠ X.env.locals:=fun b o e=>Nat.ne_of_lt (Nat.lt_of_lt_of_le (Heap.lt_size e) I.ok.above)
 have neC:∀ b o,X.s₀.heap.get? b=some o->b ∉ X.ex->b ∉ ch:=fun b o e hx hb=>by
  rcases (hch b hb).1 with z | z
  ·exact hx z
  ·exact absurd (Nat.lt_of_lt_of_le (Heap.lt_size e) z) (Nat.lt_irrefl _)
 have cellK:∀ x c,X.env.cells.lookup x=some c->∀ v,s.heap.IsCell c v->h'.IsCell c v:=fun x c e v ⟨o,ho,hd⟩=>by
  have nch:c ∉ ch:=fun z=>(hch c z).2.2.1 x c e rfl
  by_cases hc:c ∈ X.fs
  ·obtain ⟨sl,q⟩:=slot c o (I.Ei x c e) hc nch ho (I.gi x c e)
   exact ⟨_,q,hd⟩
  ·exact ⟨o,keep c o (I.Ei x c e) hc nch ho (I.gi x c e),hd⟩
 refine ⟨I.ok,I.os,hg,⟨fun b o e n hb hx=>?_,fun b o e n hb hx=>?_,fun b o e n hx=>?_,fun b o e hx=>?_,fun b xs e=>tups b xs (I.base.tups b xs e),fun b o xs e=>lU b o xs (I.base.lU b o xs e),fun b ps e=>?_⟩,?_,fun x c e=>?_,?_,fun x c e=>?_,fun p hp=>?_,hok,I.len⟩
 ·exact keep b o (neL b o e) hb (neC b o e hx) (I.base.keep b o e n hb hx) (I.base.free b o e n hx)
 ·obtain ⟨sl,e1⟩:=I.base.slot b o e n hb hx
  obtain ⟨sl',e2⟩:=slot b _ (neL b o e) hb (neC b o e hx) e1 (I.base.free b o e n hx)
  exact ⟨sl',e2⟩
 ·obtain ⟨o',e1⟩:=I.base.there b o e hx
  exact free b o' (neC b o e hx) e1 (I.base.free b o e n hx)
 ·obtain ⟨o',e1⟩:=I.base.there b o e hx
  exact there b o' (neC b o e hx) e1
 ·obtain ⟨m1,e1⟩:=I.base.nJ b ps e
  obtain ⟨m2,e2⟩:=nJ b _ e1
  exact ⟨m1 ++ m2,by rw [e2,Array.append_assoc]⟩
 ·obtain ⟨m,hn,hl⟩:=I.loc
  refine ⟨m,ns m hn,fun i x v e1 e2 e3=>?_⟩
  obtain ⟨u,r,l⟩:=hl i x v e1 e2 e3
  refine ⟨u,r,?_⟩
  rcases l with l | ⟨k,c,e,z⟩
  ·exact .inl l
  ·exact .inr ⟨k,c,e,cellK x c e _ z⟩
 ·obtain ⟨v,z⟩:=I.cell x c e
  exact ⟨v,cellK x c e v z⟩
 ·obtain ⟨m,⟨o,_,_,ho,_⟩,_⟩:=I.loc
  exact free _ o (fun z=>(hch _ z).2.1 rfl) ho I.free
 ·obtain ⟨v,o,ho,hd⟩:=I.cell x c e
  exact free c o (fun z=>(hch c z).2.2.1 x c e rfl) ho (I.gi x c e)
 ·obtain ⟨e,n,ne,nf,d⟩:=I.pin p hp
  have nch:p.1 ∉ ch:=fun z=>(hch p.1 z).2.2.2 p hp rfl
  exact ⟨keep p.1 p.2 ne nf nch e n,free p.1 p.2 nch e n,ne,nf,d⟩
theorem Inv.un {t':Nat} (I:Inv X pins σ H s) (u:Un X.fs [] H H' s.heap h') (hok:jx X.prog X.w H' h'):Inv X pins σ H' { s with heap:=h',toks:=t' }:=by
 obtain ⟨m,⟨o,es,ep,ho,r⟩,_⟩:=id I.loc
 obtain ⟨sl,hL⟩:=u.any ho I.free (by simp)
 exact I.step (g' := s.gens) (d' := s.drawn) (ch := []) (fun _ z=>nomatch z) (fun b o _ hb _ e n=>u.keep b o e n hb (by simp)) (fun b o _ hb _ e n=>u.slot b o e n hb (by simp)) (fun b o _ e n=>u.free b o e n (by simp)) (fun b o _ e=>u.there b o e (by simp)) u.tups u.lU u.nJ (fun m' hm=>by
  obtain ⟨o',es',ep',ho',r'⟩:=hm
  rw [ho] at ho'; cases ho'
  exact ⟨_,es',ep',hL,r'⟩) hok I.bare
theorem Inv.call {g':Array GenState}{t':Nat}{d':Drawn}{ch:List Addr} (I:Inv X pins σ H s) (u:Un (frs X.stack) ch H H' s.heap h') (hok:jx X.prog X.w H' h') (hg:AllBare g')
  (hch:∀ b ∈ ch,(b ∈ X.ex ∨ X.s₀.heap.objs.size <= b)/\b ≠ X.env.locals/\(∀ x c,X.env.cells.lookup x=some c->c ≠ b)/\∀ p ∈ X.pn ++ pins,p.1 ≠ b) :
  Inv X pins σ H' { s with heap:=h',gens:=g',drawn:=d',toks:=t' }:=by
 obtain ⟨m,⟨o,es,ep,ho,r⟩,_⟩:=id I.loc
 obtain ⟨sl,hL⟩:=u.any ho I.free fun z=>(hch _ z).2.1 rfl
 exact I.step (ch:=ch) hch (fun b o hL hb hc e n=>u.keep b o e n (fun z=>(List.mem_cons.mp (I.nI b z)).elim hL hb) hc) (fun b o _ _ hc e n=>u.any e n hc) (fun b o hc e n=>u.free b o e n hc) (fun b o hc e=>u.there b o e hc) u.tups u.lU u.nJ (fun m' hm=>by
  obtain ⟨o',es',ep',ho',r'⟩:=hm
  rw [ho] at ho'; cases ho'
  exact ⟨_,es',ep',hL,r'⟩) hok hg
theorem Inv.turned {t':Nat}{it:Addr} (I:Inv X pins σ H s) (k:∀ b o,b ≠ it->s.heap.get? b=some o->h'.get? b=some o) (hn:H it=none) (hL:it ≠ X.env.locals)
  (h1:it ∈ X.ex ∨ X.s₀.heap.objs.size <= it) (h2:∀ x c,X.env.cells.lookup x=some c->c ≠ it) (h3:∀ p ∈ X.pn ++ pins,p.1 ≠ it):Inv X pins σ H { s with heap:=h',toks:=t' }:=by
 have nit:∀ b u,H b=some u->b ≠ it:=fun b u e z=>by rw [z,hn] at e; cases e
 refine I.step (g' := s.gens) (d' := s.drawn) (ch := [it]) (fun b hb=>?_) (fun b o _ _ hc e _=>k b o (fun z=>hc (by simp [z])) e) (fun b o _ _ hc e _=>⟨o.slots,k b o (fun z=>hc (by simp [z])) e⟩) (fun _ _ _ _ n=>n)
  (fun b o hc e=>⟨o,k b o (fun z=>hc (by simp [z])) e⟩) (fun _ _ e=>e) (fun _ _ _ e=>e) (fun b ps e=>⟨#[],by rw [e]; simp⟩) (fun m hm=>?_) (fun b u e=>?_) I.bare
 ·have e:b=it:=by simpa using hb
  subst e
  exact ⟨h1,hL,h2,h3⟩
 ·obtain ⟨o,es,ep,ho,r⟩:=hm
  exact ⟨o,es,ep,k _ o (Ne.symm hL) ho,r⟩
 ·refine (I.hok b u e).stay (fun c v hc q=>k c v ?_ q) (fun _ q=>q) fun _ _ q=>q
  rcases hc with z | z
  ·rw [z]; exact nit b u e
  ·exact nit c _ z
theorem Inv.tok (I:Inv X pins σ H s) (t:Nat):Inv X pins σ H { s with toks:=t }:=I.un (h' := s.heap) (t' := t) Un.refl I.hok
theorem Inv.kept {t':Nat} (I:Inv X pins σ H s) (k:∀ b u,s.heap.get? b=some u->h'.get? b=some u):Inv X pins σ H { s with heap:=h',toks:=t' }:=I.un (Un.kept k) (I.hok.kept k)
theorem Inv.laid {a:Addr}{o:HO}{t':Nat} (I:Inv X pins σ H s) (k:∀ b u,s.heap.get? b=some u->h'.get? b=some u) (hp:s.heap.objs.size <= a) (new:di X.prog X.w (upd H a o) h' a o) :
  Inv X pins σ (upd H a o) { s with heap:=h',toks:=t' }:=I.un (Un.laid k hp (I.hok.fresh hp)) (I.hok.laid k hp new)
theorem Inv.write {x e:Addr}{o:HO}{t':Nat} (I:Inv X pins σ H s) (mu:Hc (H x)) (he:e=x ∨ H e=some (.own x)) (k:∀ b u,b ≠ e->s.heap.get? b=some u->h'.get? b=some u) (heo:∃ u,h'.get? e=some u)
  (new:di X.prog X.w (upd H x o) h' x o):Inv X pins σ (upd H x o) { s with heap:=h',toks:=t' }:=I.un (Un.write mu he k heo) (I.hok.write mu he k heo new)
theorem Inv.xB {pins':List (Addr × Obj)} (I:Inv X pins σ H s) (h:∀ p ∈ pins',s.heap.get? p.1=some p.2/\H p.1=none/\p.1 ≠ X.env.locals/\p.1 ∉ X.fs/\∀ v,p.2.data ≠ .cell v):Inv X pins' σ H s :=
 ⟨I.ok,I.os,I.bare,I.base,I.loc,I.cell,I.free,I.gi,fun p hp=>(List.mem_append.mp hp).elim (fun z=>I.pin p (List.mem_append_left _ z)) (h p),I.hok,I.len⟩
theorem uu {N:List Str} (hN:N.Nodup) {i j:Nat}{x:Str} (a:N[i]?=some x) (b:N[j]?=some x):i=j:=by
 obtain ⟨h1,e1⟩:=List.getElem?_eq_some_iff.mp a
 obtain ⟨h2,e2⟩:=List.getElem?_eq_some_iff.mp b
 exact (List.getElem_inj hN).mp (e1.trans e2.symm)
theorem rC {M:Model}{A:Around}{E:Value->Shared->Prop}{i:Nat}{x:Str}{v:V}{u:Value}{Q:Unit->Shared->Prop} (I:Inv X pins σ H s) (hN:X.N.Nodup) (hi:X.N[i]?=some x) (hx:Loc X.env.scope x) (r:RelV v u)
  (h:∀ s',Inv X pins (σ.set i (some v)) H s'->(∃ a,Heap.SameBut a s.heap s'.heap/\(a=X.env.locals ∨ X.env.cells.lookup x=some a))->Q () s') (hf:X.fn x=true ∨ X.env.scope.names.lookup x=some .local:=by first | exact .inl rfl | exact .inr rfl | assumption):wpAny M A (storeName X.env x u) Q E s:=by
 obtain ⟨m,hn,hl⟩:=id I.loc
 have hcls:(X.env.scope.kind == .class || (X.env.scope.kind == .module && X.env.locals != X.env.globals))=false:=by rw [I.ok.kind]; rfl
 have hiσ:i < σ.length:=by rw [I.len]; exact (List.getElem?_eq_some_iff.mp hi).1
 have Ei:=I.Ei
 have tracked:∀ {a:Addr}{h':Heap},(∃ o,s.heap.get? a=some o/\H a=none)->Heap.SameBut a s.heap h'->jx X.prog X.w H h' := fun {a h'} ha hs b ob e=>by
  obtain ⟨_,_,hfree⟩:=ha
  refine (I.hok b ob e).stay (fun c w' hc q=>(hs.2 c ?_).trans q) (fun _ q=>q) fun _ _ q=>q
  rintro rfl
  rcases hc with rfl | hc
  ·rw [hfree] at e; cases e
  ·rw [hfree] at hc; cases hc
 rcases hx with hk | hk
 ·refine wpAny_storeName_local hk hn (fun h' hn' hs=>?_) hcls
  obtain ⟨oL,_,_,hoL,_⟩:=id hn
  refine h _ ⟨I.ok,I.os,I.bare,⟨fun b o e n hb hx=>?_,fun b o e n hb hx=>?_,I.base.free,fun b o e hx=>?_,I.base.tups,I.base.lU,I.base.nJ⟩,⟨_,hn',fun j y v' e1 e2 e3=>?_⟩,fun y c e=>?_,I.free,I.gi,fun p hp=>?_,tracked ⟨oL,hoL,I.free⟩ hs,by simpa using I.len⟩ ⟨_,hs,.inl rfl⟩
  ·exact (hs.2 b (Nat.ne_of_lt (Nat.lt_of_lt_of_le (Heap.lt_size e) I.ok.above))).trans (I.base.keep b o e n hb hx)
  ·obtain ⟨sl,e1⟩:=I.base.slot b o e n hb hx
   exact ⟨sl,(hs.2 b (Nat.ne_of_lt (Nat.lt_of_lt_of_le (Heap.lt_size e) I.ok.above))).trans e1⟩
  ·obtain ⟨o',e1⟩:=I.base.there b o e hx
   exact ⟨o',(hs.2 b (Nat.ne_of_lt (Nat.lt_of_lt_of_le (Heap.lt_size e) I.ok.above))).trans e1⟩
  ·by_cases hj:j=i
   ·subst hj
    rw [hi] at e1; cases e1
    rw [List.getElem?_set_self hiσ] at e2
    cases e2
    exact ⟨u,r,.inl ⟨hk,by simp⟩⟩
   ·rw [List.getElem?_set_ne (Ne.symm hj)] at e2
    obtain ⟨u',r',q⟩:=hl j y v' e1 e2 e3
    refine ⟨u',r',?_⟩
    rcases q with ⟨k,e⟩ | ⟨k,c,e,z⟩
    ·refine .inl ⟨k,?_⟩
     have:y ≠ x:=fun e=>hj (uu hN e1 (e ▸ hi))
     simp [this,e]
    ·exact .inr ⟨k,c,e,z.sameBut hs (Ei y c e)⟩
  ·obtain ⟨w',z⟩:=I.cell y c e
   exact ⟨w',z.sameBut hs (Ei y c e)⟩
  ·obtain ⟨e,n,ne,nf,d⟩:=I.pin p hp
   exact ⟨(hs.2 p.1 ne).trans e,n,ne,nf,d⟩
 ·have hfn:X.fn x=true:=by
   rcases hf with z | z
   ·exact z
   ·rw [z] at hk; cases hk
  obtain ⟨c,hc⟩:=I.ok.has x (.inl hk)
  obtain ⟨w',z⟩:=I.cell x c hc
  refine wpAny_storeName_cell I.ok.kind hk hc z (fun h' hc' hs=>?_)
  obtain ⟨oc,hoc,hocd⟩:=id z
  refine h { s with heap:=h' } ⟨I.ok,I.os,I.bare,⟨fun b o e n hb hx=>?_,fun b o e n hb hx=>?_,I.base.free,fun b o e hx=>?_,I.base.tups,I.base.lU,I.base.nJ⟩,⟨m,hn.sameBut hs (Ne.symm (Ei x c hc)),fun j y v' e1 e2 e3=>?_⟩,fun y c' e=>?_,I.free,I.gi,fun p hp=>?_,tracked ⟨oc,hoc,I.gi x c hc⟩ hs,by simpa using I.len⟩ ⟨c,hs,.inr hc⟩
  ·exact (hs.2 b (Nat.ne_of_lt (Nat.lt_of_lt_of_le (Heap.lt_size e) (I.ok.Cz x c hfn hc)))).trans (I.base.keep b o e n hb hx)
  ·obtain ⟨sl,e1⟩:=I.base.slot b o e n hb hx
   exact ⟨sl,(hs.2 b (Nat.ne_of_lt (Nat.lt_of_lt_of_le (Heap.lt_size e) (I.ok.Cz x c hfn hc)))).trans e1⟩
  ·obtain ⟨o',e1⟩:=I.base.there b o e hx
   exact ⟨o',(hs.2 b (Nat.ne_of_lt (Nat.lt_of_lt_of_le (Heap.lt_size e) (I.ok.Cz x c hfn hc)))).trans e1⟩
  ·by_cases hj:j=i
   ·subst hj
    rw [hi] at e1; cases e1
    rw [List.getElem?_set_self hiσ] at e2
    cases e2
    exact ⟨u,r,.inr ⟨.inl hk,c,hc,hc'⟩⟩
   ·rw [List.getElem?_set_ne (Ne.symm hj)] at e2
    obtain ⟨u',r',q⟩:=hl j y v' e1 e2 e3
    refine ⟨u',r',?_⟩
    rcases q with q | ⟨k,c',e,z'⟩
    ·exact .inl q
    ·refine .inr ⟨k,c',e,z'.sameBut hs ?_⟩
     rintro rfl
     exact hj (uu hN e1 (I.ok.inj _ _ _ e hc ▸ hi))
  ·by_cases hcc:c'=c
   ·subst hcc; exact ⟨_,hc'⟩
   ·obtain ⟨w2,z2⟩:=I.cell y c' e
    exact ⟨w2,z2.sameBut hs hcc⟩
  ·obtain ⟨e,n,ne,nf,d⟩:=I.pin p hp
   refine ⟨(hs.2 p.1 ?_).trans e,n,ne,nf,d⟩
   intro q
   rw [q,hoc] at e
   have q':oc=p.2:=Option.some.inj e
   exact d w' (by rw [<- q']; exact hocd)
theorem pM {M:Model}{A:Around}{E:Value->Shared->Prop}{i:Nat}{x:Str}{v:V}{u:Value}{Q:Unit->Shared->Prop} (I:Inv X pins σ H s) (hN:X.N.Nodup) (hi:X.N[i]?=some x) (hx:Loc X.env.scope x) (r:RelV v u)
  (h:∀ s',Inv X pins (σ.set i (some v)) H s'->Q () s') (hf:X.fn x=true ∨ X.env.scope.names.lookup x=some .local:=by first | exact .inl rfl | exact .inr rfl | assumption):wpAny M A (storeName X.env x u) Q E s :=
 rC I hN hi hx r (fun s' I' _=>h s' I') hf
theorem Inv.Eo {s':Shared}{ch:List Addr} (I:Inv X pins σ H s) (ho:s'.os=s.os) (u:Un (frs X.stack) ch H H' s.heap s'.heap) (hok:jx X.prog X.w H' s'.heap) (hg:AllBare s'.gens)
  (hch:∀ b ∈ ch,(b ∈ X.ex ∨ X.s₀.heap.objs.size <= b)/\b ≠ X.env.locals/\(∀ x c,X.env.cells.lookup x=some c->c ≠ b)/\∀ p ∈ X.pn ++ pins,p.1 ≠ b):Inv X pins σ H' s' := by
 obtain ⟨h',g',d',t',o'⟩:=s'
 have e:o'=s.os:=ho
 subst e
 exact I.call (g' := g') (t' := t') (d' := d') u hok hg hch
end
abbrev XK:=Value->Option Addr->Hp->Prop
abbrev St:=List (Option V)
abbrev VK:=V->Hp->Prop
abbrev TE:=St->Hp->VK->Prop
abbrev TT:=St->Hp->(Bool->Hp->Prop)->Prop
abbrev TA:=St->Hp->(List V->Hp->Prop)->Prop
structure Ends where
 nx:St->Hp->Prop
 rt:VK
 bk:St->Hp->Prop:=fun _ _=>False
 ct:St->Hp->Prop:=fun _ _=>False
abbrev TS:=Ends->St->Hp->Prop
def EP (X:Cx) (pins:List (Addr × Obj)) (σ:St) (Q:VK) (u:Value) (s':Shared):Prop := ∃ v H',Inv X pins σ H' s'/\RelV v u/\Q v H'
def TP (X:Cx) (pins:List (Addr × Obj)) (σ:St) (Q:Bool->Hp->Prop) (b:Bool) (s':Shared):Prop := ∃ H',Inv X pins σ H' s'/\Q b H'
def AP (X:Cx) (pins:List (Addr × Obj)) (σ:St) (Q:List V->Hp->Prop) (us:List Value) (s':Shared):Prop := ∃ vs H',Inv X pins σ H' s'/\Vals vs us/\Q vs H'
def SP (X:Cx) (pins:List (Addr × Obj)) (D:Ends) (f:Flow) (s':Shared):Prop :=
 match f with
 | .next=>∃ σ' H',Inv X pins σ' H' s'/\D.nx σ' H'
 | .brk=>∃ σ' H',Inv X pins σ' H' s'/\D.bk σ' H'
 | .cont=>∃ σ' H',Inv X pins σ' H' s'/\D.ct σ' H'
 | .ret u=>∃ v σ' H',Inv X pins σ' H' s'/\RelV v u/\D.rt v H'
def PE (X:Cx) (e:Expr) (t:TE):Prop :=
 ∀ (pins:List (Addr × Obj)) (s:Shared) (σ:St) (H:Hp) (Q:VK),Inv X pins σ H s->t σ H Q->wpAny (model X.prog X.w) X.A (eval e X.env) (EP X pins σ Q) X.xe s
def PT (X:Cx) (e:Expr) (t:TT):Prop :=
 ∀ (pins:List (Addr × Obj)) (s:Shared) (σ:St) (H:Hp) (Q:Bool->Hp->Prop),Inv X pins σ H s->t σ H Q->wpAny (model X.prog X.w) X.A (isTrue e X.env (eval e X.env)) (TP X pins σ Q) X.xe s
def PW (X:Cx) (e:Expr) (t:TT):Prop :=
 ∀ (whole:Sem Value) (pins:List (Addr × Obj)) (s:Shared) (σ:St) (H:Hp) (Q:Bool->Hp->Prop),Inv X pins σ H s->t σ H Q->wpAny (model X.prog X.w) X.A (isTrue e X.env whole) (TP X pins σ Q) X.xe s
theorem PW.pt {X:Cx}{e:Expr}{t:TT} (h:PW X e t):PT X e t:=h _
def PA (X:Cx) (es:List Expr) (t:TA):Prop :=
 ∀ (pos:Pos) (pins:List (Addr × Obj)) (s:Shared) (σ:St) (H:Hp) (Q:List V->Hp->Prop),Inv X pins σ H s->t σ H Q->wpAny (model X.prog X.w) X.A (spliced (backTo pos (starEach es X.env))) (AP X pins σ Q) X.xe s
def PS (X:Cx) (st:Stmt) (t:TS):Prop :=
 ∀ (pins:List (Addr × Obj)) (s:Shared) (σ:St) (H:Hp) (D:Ends),Inv X pins σ H s->t D σ H->wpAny (model X.prog X.w) X.A (exec st X.env) (SP X pins D) X.xe s
def lY (X:Cx) (st:List Stmt) (t:TS):Prop :=
 ∀ (pins:List (Addr × Obj)) (s:Shared) (σ:St) (H:Hp) (D:Ends),Inv X pins σ H s->t D σ H->wpAny (model X.prog X.w) X.A (execs st X.env) (SP X pins D) X.xe s
theorem fz {α:Type}{t:Sem α}{Q Q':α->Shared->Prop}{M:Model}{A:Around}{E:Value->Shared->Prop}{s:Shared} (h:wpAny M A t Q E s) (hQ:∀ a s,Q a s->Q' a s):wpAny M A t Q' E s:=wpAny_mono h hQ fun _ _ x=>x
section
variable {X:Cx}
def IZ (i:Nat):TE:=fun σ H Q=>∃ v,σ[i]?=some (some v)/\Q v H
def tC (v:V):TE:=fun _ H Q=>Q v H
theorem pJ {i:Nat}{x:Str}{pos:Pos} (hN:X.N[i]?=some x) (hv:Eg X.env.scope x) (hd:(x == ("__debug__" : Str))=false:=by decide) (hcd:(x == ("__classdict__" : Str))=false:=by decide):PE X (.Name x pos) (IZ i):=by
 intro pins s σ H Q I h
 obtain ⟨v,e,h⟩:=h
 obtain ⟨m,hn,hl⟩:=I.loc
 obtain ⟨u,r,l⟩:=hl i x v hN e hv
 have fin:EP X pins σ Q u s:=⟨v,H,I,r,h⟩
 rcases l with ⟨hk,hm⟩ | ⟨hk,c,hc,hcell⟩
 ·exact wpAny_Name (wpAny_loadName_local I.ok.kind hk hn hm fin) hd
 ·rcases hk with hk | hk
  ·exact wpAny_Name (wpAny_loadName_cell I.ok.kind hk hc hcell fin) hd
  ·exact wpAny_Name (wpAny_loadName_free I.ok.kind hk hc hcell fin hcd) hd
theorem E6 {i j pos}:PE X (.Constant (.int i) j pos) (tC (.int i)):=fun _ _ _ H _ I h=>wpAny_Constant_int ⟨.int i,H,I.tok _,⟨_,rfl⟩,h⟩
theorem Hg {b j pos}:PE X (.Constant (.bool b) j pos) (tC (.bl b)):=fun _ _ _ H _ I h=>Constant_bool ⟨.bl b,H,I,rfl,h⟩
theorem Fg {j pos}:PE X (.Constant .none j pos) (tC .cY):=fun _ _ _ H _ I h=>Constant_none ⟨.cY,H,I,rfl,h⟩
theorem E8 {x j pos}:PE X (.Constant (.str x) j pos) (tC (.str x)):=fun _ _ _ H _ I h=>Calls.Constant_str ⟨.str x,H,I.tok _,⟨_,rfl⟩,h⟩
def Gl (X:Cx) (x:Str):Prop:=X.env.kindOf x=some .globalImplicit
theorem ly {E:Value->Shared->Prop}{pins:List (Addr × Obj)}{s:Shared}{σ:St}{H:Hp}{x:Str}{u:Value}{pos:Pos}{Q:Value->Shared->Prop} (I:Inv X pins σ H s) (hg:Gl X x) (hm:X.mg x=some u) (h:Q u s)
  (hd:(x == ("__debug__" : Str))=false:=by decide):wpAny (model X.prog X.w) X.A (eval (.Name x pos) X.env) Q E s :=
 Calls.Name_function_global I.ok.kind hg (Calls.loadGlobal_global (by rw [I.ok.glob]; exact I.mod.glob.keeps I.bk) hm h) hd
theorem jT {E:Value->Shared->Prop}{pins:List (Addr × Obj)}{s:Shared}{σ:St}{H:Hp}{x:Str}{u:Value}{pos:Pos}{Q:Value->Shared->Prop} (I:Inv X pins σ H s) (hg:Gl X x) (hm:X.mg x=none) (hv:bootBuiltins x=some u) (h:Q u s)
  (hn:x ≠ "__name__" := by decide) (hd:(x == ("__debug__" : Str))=false:=by decide):wpAny (model X.prog X.w) X.A (eval (.Name x pos) X.env) Q E s:=by
 obtain ⟨mb,h1,h2⟩:=I.mod.blt
 exact Calls.Name_function_global I.ok.kind hg (Calls.loadGlobal_builtin (by rw [I.ok.glob]; exact I.mod.glob.keeps I.bk) hm (by rw [I.ok.blt]; exact h1.keeps I.bk) ((h2 x hn).trans hv) h) hd
theorem sI {x:Str}{v:V}{u:Value}{pos:Pos} (hg:Gl X x) (hm:X.mg x=some u) (r:RelV v u) (hd:(x == ("__debug__" : Str))=false:=by decide):PE X (.Name x pos) (tC v) :=
 fun _ _ _ H _ I h=>ly I hg hm ⟨v,H,I,r,h⟩ hd
theorem xC {x:Str}{v:V}{u:Value}{pos:Pos} (hg:Gl X x) (hm:X.mg x=none) (hv:bootBuiltins x=some u) (r:RelV v u) (hn:x ≠ "__name__" := by decide) (hd:(x == ("__debug__" : Str))=false:=by decide):PE X (.Name x pos) (tC v) :=
 fun _ _ _ H _ I h=>jT I hg hm hv ⟨v,H,I,r,h⟩ hn hd
variable {a b:Expr}{ta tb:TE}{pos:Pos}
def tB (t:TE):TT:=fun σ H Q=>t σ H fun x H1=>∃ c,x=.bl c/\Q c H1
theorem EL {e:Expr}{t:TE} (h:PE X e t) (he:∀ whole,isTrue e X.env whole=(do let v <- whole; standAt e.pos; holding [v] (truthy v)):=by intro _; rfl):PT X e (tB t):=by
 intro pins s σ H Q I hw
 refine isTrue_plain (fz (h pins s σ H _ I hw) fun v s1 hq5=>L2.ex5 hq5 fun x H1 I1 r1 q1=>?_) (he _)
 obtain ⟨d,rfl,q⟩:=q1
 cases r1
 exact wpAny_truthy_bool ⟨H1,I1,q⟩
variable {tA tB':TT}{rest:List Expr}
def Ja (t u:TT):TT:=fun σ H Q=>t σ H fun c H1=>if c=true then u σ H1 Q else Q false H1
def JR (t u:TT):TT:=fun σ H Q=>t σ H fun c H1=>if c=true then Q true H1 else u σ H1 Q
def Jb (t:TT):TT:=fun σ H Q=>t σ H fun c H1=>Q (!c) H1
theorem CI (ha:PT X a tA):PW X (.BoolOp .And [a] pos) tA:=by
 intro wh pins s σ H Q I h
 refine isTrue_and (fz (ha pins s σ H Q I h) fun c s1 e=>?_)
 cases c with
 | true=>exact isTrue_and_nil e
 | false=>exact e
theorem E1 (ha:PT X a tA):PW X (.BoolOp .Or [a] pos) tA:=by
 intro wh pins s σ H Q I h
 refine isTrue_or (fz (ha pins s σ H Q I h) fun c s1 e=>?_)
 cases c with
 | false=>exact isTrue_or_nil e
 | true=>exact e
theorem E4 (ha:PT X a tA) (hb:PW X (.BoolOp .And (b :: rest) pos) tB'):PW X (.BoolOp .And (a :: b :: rest) pos) (Ja tA tB'):=by
 intro wh pins s σ H Q I h
 refine isTrue_and (fz (ha pins s σ H _ I h) fun c s1 ⟨H1,I1,q1⟩=>?_)
 cases c with
 | true=>exact hb wh pins s1 σ H1 Q I1 q1
 | false=>exact ⟨H1,I1,q1⟩
theorem Hj (ha:PT X a tA) (hb:PW X (.BoolOp .Or (b :: rest) pos) tB'):PW X (.BoolOp .Or (a :: b :: rest) pos) (JR tA tB'):=by
 intro wh pins s σ H Q I h
 refine isTrue_or (fz (ha pins s σ H _ I h) fun c s1 ⟨H1,I1,q1⟩=>?_)
 cases c with
 | true=>exact ⟨H1,I1,q1⟩
 | false=>exact hb wh pins s1 σ H1 Q I1 q1
theorem Fd (ha:PT X a tA):PT X (.UnaryOp .Not a pos) (Jb tA):=by
 intro pins s σ H Q I h
 exact isTrue_not (ha pins s σ H (fun c H1=>Q (!c) H1) I h)
def Hh (ta tb:TE):TE:=fun σ H Q=>ta σ H fun x H1=>∃ c,x=.bl c/\if c=true then tb σ H1 Q else Q (.bl false) H1
def Hi (ta:TE):TE:=fun σ H Q=>ta σ H fun x H1=>∃ c,x=.bl c/\Q (.bl (!c)) H1
theorem E2 {op}{t:TE} (h:PE X a t):PE X (.BoolOp op [a] pos) t:=fun pins s σ H Q I hw=>BoolOp_one (h pins s σ H Q I hw)
theorem EO (ha:PE X a ta) (hb:PE X (.BoolOp .And (b :: rest) pos) tb):PE X (.BoolOp .And (a :: b :: rest) pos) (Hh ta tb):=by
 intro pins s σ H Q I h
 refine BoolOp_and (fz (ha pins s σ H _ I h) fun v s1 hq5=>L2.ex5 hq5 fun x H1 I1 r1 q1=>?_)
 obtain ⟨c,rfl,q1⟩:=q1
 cases r1
 refine wpAny_truthy_bool ?_
 cases c with
 | true=>exact hb pins s1 σ H1 Q I1 q1
 | false=>exact ⟨.bl false,H1,I1,rfl,q1⟩
theorem Fe (ha:PE X a ta):PE X (.UnaryOp .Not a pos) (Hi ta):=by
 intro pins s σ H Q I h
 refine UnaryOp_ (fz (ha pins s σ H _ I h) fun v s1 hq5=>L2.ex5 hq5 fun x H1 I1 r1 q1=>?_)
 obtain ⟨c,rfl,q1⟩:=q1
 cases r1
 exact not_of (wpAny_truthy_bool ⟨.bl (!c),H1,I1,rfl,q1⟩)
def JQ (t:TT) (ta tb:TE):TE:=fun σ H Q=>t σ H fun c H1=>if c=true then ta σ H1 Q else tb σ H1 Q
theorem zV {c:Expr} (hc:PT X c tA) (ha:PE X a ta) (hb:PE X b tb):PE X (.IfExp c a b pos) (JQ tA ta tb):=by
 intro pins s σ H Q I h
 refine wpAny_IfExp (fz (hc pins s σ H _ I h) fun d s1 ⟨H1,I1,q1⟩=>?_)
 cases d with
 | true=>exact ha pins s1 σ H1 Q I1 q1
 | false=>exact hb pins s1 σ H1 Q I1 q1
end
def gI (K:PySem.W.Frag) (H:Hp) (a:Addr) (xs:List V):Prop :=
 Rd H a (.lst xs) ∨
  ∃ (o:Obj) (its:Array Value) (n:Nat),K.lookup a=some o/\o.cls=.type "list" /\ o.dict=none/\o.data=.seq its n/\its.size <= sizeLine/\Vals xs its.toList
def jR (K:PySem.W.Frag) (H:Hp) (a:Addr) (xs:List V):Prop :=
 Rd H a (.tup xs) ∨
  ∃ (o:Obj) (its:Array Value) (n:Nat),K.lookup a=some o/\o.cls=.type "tuple" /\ o.data=.seq its n/\its.size <= sizeLine/\Vals xs its.toList
def IW:Value->Option V
 | .none=>some .cY
 | .bool b=>some (.bl b)
 | .int i _=>some (.int i)
 | .str x _=>some (.str x)
 | .bytes b _=>some (.zT b)
 | .float b _=>some (.GV b)
 | .ref a=>some (.ref a)
 | .type n=>some (.ty n)
 | _=>none
theorem RelV.abs {x:V}{u:Value} (r:RelV x u):IW u=some x:=by
 cases x with
 | cY=>cases r; rfl
 | bl _=>cases r; rfl
 | int _=>obtain ⟨t,rfl⟩:=r; rfl
 | str _=>obtain ⟨t,rfl⟩:=r; rfl
 | zT _=>obtain ⟨t,rfl⟩:=r; rfl
 | GV _=>obtain ⟨t,rfl⟩:=r; rfl
 | ref _=>cases r; rfl
 | ty _=>cases r; rfl
theorem RelV.inj {x y:V}{u:Value} (r:RelV x u) (q:RelV y u):x=y:=Option.some.inj (r.abs.symm.trans q.abs)
theorem Vals.inj:∀ {xs ys:List V}{us:List Value},Vals xs us->Vals ys us->xs=ys
 | _,_,_,.nil,.nil=>rfl
 | _,_,_,.cons r t,.cons r' t'=>by rw [r.inj r',Vals.inj t t']
section
variable {X:Cx}{pins:List (Addr × Obj)}{σ:St}{H:Hp}{s:Shared}{a:Addr}{xs ys:List V}
theorem gI.of {K:PySem.W.Frag} (h:H a=some (.lst xs)):gI K H a xs := .inl (.inl h)
theorem jR.of {K:PySem.W.Frag} (h:H a=some (.tup xs)):jR K H a xs := .inl (.inl h)
theorem Inv.list (I:Inv X pins σ H s) (h:gI X.K H a xs):∃ its:List Value,Vals xs its/\PlainL s.heap a its.toArray/\xs.length <= sizeLine:=by
 rcases h with h | ⟨o,its,n,hk,hc,hd,hs,hz,r⟩
 ·obtain ⟨z,its,n,r,e⟩:=h.ok I.hok
  exact ⟨its,r,⟨_,n,e,rfl,rfl,rfl⟩,z⟩
 ·refine ⟨its.toList,r,⟨o,n,I.nD a o hk,hc,hd,by simpa using hs⟩,?_⟩
  have e:=r.length
  simp only [Array.length_toList] at e
  omega
theorem Inv.tuple (I:Inv X pins σ H s) (h:jR X.K H a xs):∃ its:List Value,Vals xs its/\IsTup s.heap a its.toArray/\xs.length <= sizeLine:=by
 rcases h with h | ⟨o,its,n,hk,hc,hs,hz,r⟩
 ·obtain ⟨z,its,r,p⟩:=h.ok I.hok
  exact ⟨its,r,p.is,z⟩
 ·refine ⟨its.toList,r,⟨o,I.nD a o hk,hc,n,by simpa using hs⟩,?_⟩
  have e:=r.length
  simp only [Array.length_toList] at e
  omega
theorem Inv.pK (I:Inv X pins σ H s) (h:gI X.K H a xs) (h':gI X.K H a ys):xs=ys:=by
 obtain ⟨its,r,⟨o,n,e,_,_,d⟩,_⟩:=I.list h
 obtain ⟨its',r',⟨o',n',e',_,_,d'⟩,_⟩:=I.list h'
 rw [e] at e'; cases e'
 rw [d] at d'
 injection d' with d1 _
 have:its=its' := by simpa using congrArg Array.toList d1
 subst this
 exact r.inj r'
theorem Inv.nE (I:Inv X pins σ H s) (h:jR X.K H a xs) (h':jR X.K H a ys):xs=ys:=by
 obtain ⟨its,r,⟨o,e,_,n,d⟩,_⟩:=I.tuple h
 obtain ⟨its',r',⟨o',e',_,n',d'⟩,_⟩:=I.tuple h'
 rw [e] at e'; cases e'
 rw [d] at d'
 injection d' with d1 _
 have:its=its' := by simpa using congrArg Array.toList d1
 subst this
 exact r.inj r'
end
abbrev Cx.qI (X:Cx) (E:Value->Shared->Prop):Cx := { X with xe:=E }
abbrev Cx.El (X:Cx):Cx:=X.qI fun _ _=>False
theorem Cx.Ok.qI {X:Cx} (ok:X.Ok) (E:Value->Shared->Prop):(X.qI E).Ok :=
 ⟨ok.mod,ok.kind,ok.glob,ok.blt,ok.above,ok.inj,ok.has,ok.Cz,ok.hd,ok.frames,ok.CG,ok.Em,ok.bs,ok.xE,ok.qJ,ok.qK,ok.jS,ok.zQ⟩
theorem Cx.Ok.kT {X:Cx}{E:Value->Shared->Prop} (ok:(X.qI E).Ok):X.Ok :=
 ⟨ok.mod,ok.kind,ok.glob,ok.blt,ok.above,ok.inj,ok.has,ok.Cz,ok.hd,ok.frames,ok.CG,ok.Em,ok.bs,ok.xE,ok.qJ,ok.qK,ok.jS,ok.zQ⟩
section
variable {X:Cx}{pins:List (Addr × Obj)}{σ:St}{H:Hp}{s:Shared}{E:Value->Shared->Prop}
theorem Inv.qI (I:Inv X pins σ H s) (E:Value->Shared->Prop):Inv (X.qI E) pins σ H s:=⟨I.ok.qI E,I.os,I.bare,I.base,I.loc,I.cell,I.free,I.gi,I.pin,I.hok,I.len⟩
theorem Inv.kT (I:Inv (X.qI E) pins σ H s):Inv X pins σ H s:=⟨I.ok.kT,I.os,I.bare,I.base,I.loc,I.cell,I.free,I.gi,I.pin,I.hok,I.len⟩
theorem SP.kT {D:Ends}{f:Flow}{s':Shared} (h:SP (X.qI E) pins D f s'):SP X pins D f s' := by
 cases f with
 | next=>obtain ⟨σ',H',I,q⟩:=h; exact ⟨σ',H',I.kT,q⟩
 | brk=>obtain ⟨σ',H',I,q⟩:=h; exact ⟨σ',H',I.kT,q⟩
 | cont=>obtain ⟨σ',H',I,q⟩:=h; exact ⟨σ',H',I.kT,q⟩
 | ret u=>obtain ⟨v,σ',H',I,r,q⟩:=h; exact ⟨v,σ',H',I.kT,r,q⟩
theorem lY.El {st:List Stmt}{t:TS} (h:lY X.El st t):lY X st t:=fun pins s σ H D I hw =>
 wpAny_mono (h pins s σ H D (I.qI _) hw) (fun _ _ q=>q.kT) fun _ _ z=>False.elim z
end
section
variable {X:Cx}{st:Stmt}{rest:List Stmt}{t u:TS}{e:Expr}{te:TE}{pos:Pos}
def G8:TS:=fun D σ H=>D.nx σ H
def IJ (t u:TS):TS:=fun D σ H=>t { D with nx:=u D } σ H
theorem CO:lY X [] G8:=fun _ _ σ H _ I h=>wpAny_execs_nil ⟨σ,H,I,h⟩
theorem zU (h1:PS X st t) (h2:lY X rest u):lY X (st :: rest) (IJ t u):=by
 intro pins s σ H D I h
 refine wpAny_execs_cons (fz (h1 pins s σ H { D with nx:=u D } I h) fun f s1 q=>?_)
 cases f with
 | next =>
  obtain ⟨σ',H',I',q⟩:=q
  exact h2 pins s1 σ' H' D I' q
 | ret v=>exact q
 | brk=>exact q
 | cont=>exact q
theorem xA (h1:PS X st t):lY X [st] t:=by
 intro pins s σ H D I h
 refine wpAny_execs_cons (fz (h1 pins s σ H D I h) fun f s1 q=>?_)
 cases f with
 | next=>exact wpAny_execs_nil q
 | ret v=>exact q
 | brk=>exact q
 | cont=>exact q
theorem Inv.quiet {pins:List (Addr × Obj)}{σ:St}{H:Hp}{s:Shared} (I:Inv X pins σ H s):interactive X.env=false:=by simp [interactive,I.ok.kind]
def Hd (te:TE):TS:=fun D σ H=>te σ H fun _ H1=>D.nx σ H1
theorem xH (he:PE X e te) (hs:swapsWith e none pos.line X.env=pure false:=by rfl):PS X (.Expr e pos) (Hd te):=by
 intro pins s σ H D I h
 exact wpAny_Expr_any (fz (he pins s σ H _ I h) fun v s1 hq5=>L2.ex5 hq5 fun x H1 I1 r1 q1=>⟨σ,H1,I1,q1⟩) I.quiet hs
def I0 (te:TE):TS:=fun D σ H=>te σ H D.rt
theorem vV (he:PE X e te):PS X (.Return (some e) pos) (I0 te):=by
 intro pins s σ H D I h
 exact wpAny_Return_some (fz (he pins s σ H _ I h) fun v s1 hq5=>L2.ex5 hq5 fun x H1 I1 r1 q1=>⟨x,σ,H1,I1,r1,q1⟩)
def IT (c:TT) (t u:TS):TS:=fun D σ H=>c σ H fun b H1=>if b=true then t D σ H1 else u D σ H1
theorem G2 {c:Expr}{a b:List Stmt}{tc:TT} (hc:PT X c tc) (ha:lY X a t) (hb:lY X b u):PS X (.If c a b pos) (IT tc t u):=by
 intro pins s σ H D I h
 refine wpAny_If (fz (hc pins s σ H _ I h) fun d s1 ⟨H1,I1,q1⟩=>?_)
 cases d with
 | true=>exact ha pins s1 σ H1 D I1 q1
 | false=>exact hb pins s1 σ H1 D I1 q1
end
abbrev TG:=V->St->Hp->(St->Hp->Prop)->Prop
abbrev CH:=List V->St->Hp->(St->Hp->Prop)->Prop
def PG (X:Cx) (target:Expr) (t:TG):Prop :=
 ∀ (pins:List (Addr × Obj)) (s:Shared) (σ:St) (H:Hp) (v:V) (u:Value) (Q:St->Hp->Prop),Inv X pins σ H s->RelV v u->t v σ H Q ->
  wpAny (model X.prog X.w) X.A (assign target X.env u) (fun _ s'=>∃ σ' H',Inv X pins σ' H' s'/\Q σ' H') X.xe s
def yR (X:Cx) (ts:List Expr) (t:CH):Prop :=
 ∀ (pins:List (Addr × Obj)) (s:Shared) (σ:St) (H:Hp) (vs:List V) (us:List Value) (Q:St->Hp->Prop),Inv X pins σ H s->Vals vs us->t vs σ H Q ->
  wpAny (model X.prog X.w) X.A (assignInOrder ((assignEach ts X.env).map (·.2)) us) (fun _ s'=>∃ σ' H',Inv X pins σ' H' s'/\Q σ' H') X.xe s
section
variable {X:Cx}{pos:Pos}
def pL (i:Nat):TG:=fun v σ H Q=>Q (σ.set i (some v)) H
theorem xD {i:Nat}{x:Str} (hN:X.N.Nodup) (hi:X.N[i]?=some x) (hx:Loc X.env.scope x) (hf:X.fn x=true ∨ X.env.scope.names.lookup x=some .local:=by first | exact .inl rfl | exact .inr rfl | assumption):PG X (.Name x pos) (pL i):=by
 intro pins s σ H v u Q I r h
 exact wpAny_assign_Name (pM I hN hi hx r (fun s' I'=>⟨_,H,I',h⟩) hf)
def Jc:CH:=fun vs σ H Q=>vs=[]/\Q σ H
def Hb (t:TG) (u:CH):CH:=fun vs σ H Q=>∃ v r,vs=v :: r/\t v σ H fun σ' H'=>u r σ' H' Q
theorem CJ:yR X [] Jc:=by
 intro pins s σ H vs us Q I r h
 obtain ⟨e,h⟩:=h
 subst e
 cases r
 exact assignInOrder_nil ⟨σ,H,I,h⟩
theorem zW {e:Expr}{es:List Expr}{t:TG}{u:CH} (h1:PG X e t) (h2:yR X es u)
  (hs:(assignEach (e :: es) X.env).map (·.2)=assign e X.env :: (assignEach es X.env).map (·.2):=by rfl):yR X (e :: es) (Hb t u):=by
 intro pins s σ H vs us Q I r h
 obtain ⟨v,vr,e1,h⟩:=h
 subst e1
 cases r with
 | cons r rr =>
  rw [hs]
  refine assignInOrder_cons (fz (h1 pins s σ H _ _ _ I r h) fun _ s1 ⟨σ1,H1,I1,q1⟩=>?_)
  exact h2 pins s1 σ1 H1 _ _ Q I1 rr q1
def IK (K:PySem.W.Frag) (n:Nat) (t:CH):TG:=fun v σ H Q=>∃ a xs,v=.ref a/\jR K H a xs/\xs.length=n/\t xs σ H Q
theorem ER {es:List Expr}{k:Nat}{t:CH}{n:Nat} (hc:X.calm=true) (h:yR X es t)
  (hn:(assignEach es X.env).length=n:=by rfl) (hst:(assignEach es X.env).findIdx? (·.1)=none:=by rfl):PG X (.Tuple es k pos) (IK X.K n t):=by
 intro pins s σ H v u Q I r hw
 obtain ⟨a,xs,e1,hq,hl,hw⟩:=hw
 subst e1
 cases r
 obtain ⟨its,rv,ht,hz⟩:=I.tuple hq
 refine assign_Tuple_tuple (I.ok.hd hc) ht (by simp [hn,<- hl,rv.length]) hst fun h' hx=>?_
 have I1:Inv X pins σ H { s with heap:=h' }:=I.kept (t' := s.toks) fun b o e=>hx b o (Nat.ne_of_lt (Heap.lt_size e)) e
 exact h pins _ σ H xs _ Q I1 (by simpa using rv) hw
def EX (te:TE) (g:TG):TS:=fun D σ H=>te σ H fun x H1=>g x σ H1 D.nx
theorem E9 {i:Nat}{x:Str}{e:Expr}{te:TE}{pos':Pos} (hN:X.N.Nodup) (hi:X.N[i]?=some x) (hx:Loc X.env.scope x) (he:PE X e te) (hs:swapsWith e (some (.Name x pos')) pos.line X.env=pure false:=by rfl) (hf:X.fn x=true ∨ X.env.scope.names.lookup x=some .local:=by first | exact .inl rfl | exact .inr rfl | assumption) :
  PS X (.Assign [.Name x pos'] e pos) (EX te (pL i)):=by
 intro pins s σ H D I h
 refine wpAny_Assign_Name (fz (he pins s σ H _ I h) fun v s1 hq5=>L2.ex5 hq5 fun y H1 I1 r1 q1=>?_) hs
 exact pM I1 hN hi hx r1 (fun s2 I2=>⟨_,H1,I2,q1⟩) hf
end
section
variable {X:Cx}{pos:Pos}
end
structure It where
 go:Nat->Hp->Prop
 yI:Nat->Hp->V->Hp->Prop
 stop:Nat->Hp->Prop
def oX (X:Cx) (pins:List (Addr × Obj)) (H:Hp) (b:Addr):Prop :=
 H b=none/\b ≠ X.env.locals/\b ∉ X.fs/\(b ∈ X.ex ∨ X.s₀.heap.objs.size <= b)/\(∀ x c,X.env.cells.lookup x=some c->c ≠ b)/\∀ p ∈ X.pn ++ pins,p.1 ≠ b
theorem Inv.sJ {X:Cx}{pins:List (Addr × Obj)}{σ:St}{H H':Hp}{s:Shared}{b:Addr} (I:Inv X pins σ H s) (hb:s.heap.objs.size <= b) (hn:H' b=none):oX X pins H' b:=by
 refine ⟨hn,Nat.ne_of_gt (Nat.lt_of_lt_of_le I.lt hb),I.IV hb,.inr (Nat.le_trans I.sz hb),fun x c e z=>?_,fun p hp z=>?_⟩
 ·obtain ⟨v,q⟩:=I.cell x c e
  exact absurd (Nat.lt_of_lt_of_le q.lt (by rw [z]; exact hb)) (Nat.lt_irrefl _)
 ·exact absurd (Nat.lt_of_lt_of_le (Heap.lt_size (I.pin p hp).1) (by rw [z]; exact hb)) (Nat.lt_irrefl _)
structure xx (cm:Cx->Prop) (P:Program) (w:World) (K:PySem.W.Frag) (tg:Expr) (J:It) (fp:List Addr) (it:Addr) (tn:Nat->Heap->Prop):Prop where
 mem:it ∈ fp
 obj:∀ i h,tn i h->∀ b ∈ fp,∃ o,h.get? b=some o/\∀ v,o.data ≠ .cell v
 keep:∀ i h h',tn i h->(∀ b ∈ fp,∀ o,h.get? b=some o->h'.get? b=some o)->tn i h'
 item:∀ (X:Cx),X.prog=P->X.w=w->X.K=K->cm X->∀ (i:Nat) (pins:List (Addr × Obj)) (s:Shared) (σ:St) (H:Hp) (E:Value->Shared->Prop),Inv X pins σ H s->(∀ b ∈ fp,oX X pins H b)->tn i s.heap->J.go i H ->
  wpAny (model P w) X.A (pyNext (.ref it)) (fun r s1=>∃ u,r=some u /\
   wpAny (model P w) X.A (letOwnedTupleGo tg (.ref it) u) (fun _ s2=>∃ x H',Inv X pins σ H' s2/\RelV x u/\J.yI i H x H'/\tn (i + 1) s2.heap/\∀ b ∈ fp,H' b=none) E s1) E s
 done:∀ (X:Cx),X.prog=P->X.w=w->X.K=K->cm X->∀ (i:Nat) (pins:List (Addr × Obj)) (s:Shared) (σ:St) (H:Hp) (E:Value->Shared->Prop),Inv X pins σ H s->(∀ b ∈ fp,oX X pins H b)->tn i s.heap->J.stop i H ->
  wpAny (model P w) X.A (pyNext (.ref it)) (fun r s1=>r=none/\Inv X pins σ H s1) E s
 self:∀ (A:Around) (i:Nat) (s:Shared) (Q:Value->Shared->Prop) (E:Value->Shared->Prop),tn i s.heap->Q (.ref it) s->wpAny (model P w) A (pyIter (.ref it)) Q E s
abbrev Turn:=xx fun X=>X.calm=true
abbrev TI:=St->Hp->(It->Hp->Prop)->Prop
def JH (X:Cx) (pins:List (Addr × Obj)) (σ:St) (tg:Expr) (R:It->Hp->Prop) (itv:Value) (s2:Shared):Prop :=
 ∃ (it:Addr) (fp:List Addr) (tn:Nat->Heap->Prop) (J:It) (H':Hp),itv=.ref it/\Inv X pins σ H' s2/\Turn X.prog X.w X.K tg J fp it tn/\tn 0 s2.heap/\(∀ b ∈ fp,oX X pins H' b)/\R J H'
def PI (X:Cx) (tg iter:Expr) (wi:TI):Prop :=
 ∀ (pins:List (Addr × Obj)) (s:Shared) (σ:St) (H:Hp) (R:It->Hp->Prop),Inv X pins σ H s->wi σ H R ->
  wpAny (model X.prog X.w) X.A (eval iter X.env) (fun v s1=>wpAny (model X.prog X.w) X.A (pyIter v) (JH X pins σ tg R) X.xe s1) X.xe s
theorem xF {M : Model} {A : Around} {E : Value -> Shared -> Prop} {s : Shared} {tg : Expr} {it : Addr} {u : Value} {o : Obj} {n : String} {vs : Array Value} {Q : Unit -> Shared -> Prop} (ho : s.heap.get? it = some o) (hc : o.cls = .type n) (hd : o.data = .fields vs)
    (hn : ["enumerate", "zip", "dict_itemiterator", "dict_reverseitemiterator", "odict_iterator", "itertools.zip_longest", "itertools.pairwise"].contains n = false) (hQ : Q () s) : wpAny M A (letOwnedTupleGo tg (.ref it) u) Q E s:=by
  unfold letOwnedTupleGo
  cases tg <;> first
    | exact wpAny_pure hQ
    | (cases u <;> first
        | exact wpAny_pure hQ
        | (refine wpAny_bind (wpAny_load ho ?_)
           rw [hc, hd]
           show wpAny M A (if (["enumerate", "zip", "dict_itemiterator", "dict_reverseitemiterator", "odict_iterator", "itertools.zip_longest", "itertools.pairwise"].contains n && vs[0]? == some (rawInt _)) = true then _ else _) Q E s
           rw [if_neg (by intro h; rw [hn, Bool.false_and] at h; cases h)]
           exact wpAny_pure hQ))
def IQ (K:PySem.W.Frag) (a:Addr):It :=
 ⟨fun i H=>∃ xs x,gI K H a xs/\xs[i]?=some x,fun i H x H'=>H'=H/\∀ xs,gI K H a xs->xs[i]?=some x,fun i H=>∃ xs,gI K H a xs/\xs.length <= i⟩
def IS (K:PySem.W.Frag) (a:Addr):It :=
 ⟨fun i H=>∃ xs x,jR K H a xs/\xs[i]?=some x,fun i H x H'=>H'=H/\∀ xs,jR K H a xs->xs[i]?=some x,fun i H=>∃ xs,jR K H a xs/\xs.length <= i⟩
def GW (lo:Int) (n:Nat):It:=⟨fun i _=>i < n,fun i H x H'=>H'=H/\x=.int (lo + i),fun i _=>n <= i⟩
theorem yO {P:Program}{w:World}{K:PySem.W.Frag}{tg:Expr} (a it:Addr):Turn P w K tg (IQ K a) [it] it (fun i h=>h.IsListIter it a i) where
 mem:=by simp
 obj:=fun i h st b hb=>by
  have e:b=it:=by simpa using hb
  subst e
  obtain ⟨o,e,c,d⟩:=st
  exact ⟨o,e,fun v z=>by rw [d] at z; cases z⟩
 keep:=fun i h h' st k=>st.at fun o e=>k it (by simp) o e
 item:=by
  intro X hP hw hK hc i pins s σ H E I hf st hg
  subst hP hw hK
  obtain ⟨xs,x,hq,hx⟩:=hg
  obtain ⟨its,rv,p,hz⟩:=I.list hq
  obtain ⟨u,hu,ru⟩:=rv.get hx
  obtain ⟨f0,f1,f2,f3,f4,f5⟩:=hf it (by simp)
  refine wpAny_pyNext_list_item st p.isList (x:=u) (by simpa using hu) fun h' st' sb=>?_
  have I1:Inv X pins σ H { s with heap:=h' }:=I.turned (t' := s.toks) (fun b o hb e=>(sb.2 b hb).trans e) f0 f1 f3 f4 f5
  obtain ⟨o,e,c,d⟩:=id st'
  exact ⟨u,rfl,xF (s := { s with heap:=h' }) e c d (by decide) ⟨x,H,I1,ru,⟨rfl,fun ys hy=>by rw [I.pK hy hq]; exact hx⟩,st',fun b hb=>(hf b hb).1⟩⟩
 done:=by
  intro X hP hw hK hc i pins s σ H E I hf st hg
  subst hP hw hK
  obtain ⟨xs,hq,hx⟩:=hg
  obtain ⟨its,rv,p,hz⟩:=I.list hq
  obtain ⟨f0,f1,f2,f3,f4,f5⟩:=hf it (by simp)
  have hl:=rv.length
  exact wpAny_pyNext_list_end (I.ok.hd hc) st p.isList (by simp; omega) fun h' eb=>⟨rfl,I.turned (t' := s.toks) (fun b o hb e=>eb b o hb e) f0 f1 f3 f4 f5⟩
 self:=fun _ _ _ _ _ st h=>wpAny_pyIter_listiter st h
theorem vX {P:Program}{w:World}{K:PySem.W.Frag}{tg:Expr} (a it:Addr):Turn P w K tg (IS K a) [it] it (fun i h=>h.IsTupleIter it a i) where
 mem:=by simp
 obj:=fun i h st b hb=>by
  have e:b=it:=by simpa using hb
  subst e
  obtain ⟨o,e,c,d⟩:=st
  exact ⟨o,e,fun v z=>by rw [d] at z; cases z⟩
 keep:=fun i h h' st k=>st.at fun o e=>k it (by simp) o e
 item:=by
  intro X hP hw hK hc i pins s σ H E I hf st hg
  subst hP hw hK
  obtain ⟨xs,x,hq,hx⟩:=hg
  obtain ⟨its,rv,p,hz⟩:=I.tuple hq
  obtain ⟨u,hu,ru⟩:=rv.get hx
  obtain ⟨f0,f1,f2,f3,f4,f5⟩:=hf it (by simp)
  refine wpAny_pyNext_tuple_item st (show s.heap.IsTuple a its.toArray from p) (x:=u) (by simpa using hu) fun h' st' sb=>?_
  have I1:Inv X pins σ H { s with heap:=h' }:=I.turned (t' := s.toks) (fun b o hb e=>(sb.2 b hb).trans e) f0 f1 f3 f4 f5
  obtain ⟨o,e,c,d⟩:=id st'
  exact ⟨u,rfl,xF (s := { s with heap:=h' }) e c d (by decide) ⟨x,H,I1,ru,⟨rfl,fun ys hy=>by rw [I.nE hy hq]; exact hx⟩,st',fun b hb=>(hf b hb).1⟩⟩
 done:=by
  intro X hP hw hK hc i pins s σ H E I hf st hg
  subst hP hw hK
  obtain ⟨xs,hq,hx⟩:=hg
  obtain ⟨its,rv,p,hz⟩:=I.tuple hq
  obtain ⟨f0,f1,f2,f3,f4,f5⟩:=hf it (by simp)
  have hl:=rv.length
  exact wpAny_pyNext_tuple_end (I.ok.hd hc) st (show s.heap.IsTuple a its.toArray from p) (by simp; omega) fun h' eb=>⟨rfl,I.turned (t' := s.toks) (fun b o hb e=>eb b o hb e) f0 f1 f3 f4 f5⟩
 self:=fun _ _ _ _ _ st h=>wpAny_pyIter_tupleiter st h
theorem jU {P:Program}{w:World}{K:PySem.W.Frag}{tg:Expr} (it:Addr) (lo:Int) (n:Nat):Turn P w K tg (GW lo n) [it] it (fun i h=>IsRangeIter h it (lo + (i:Nat) * 1) ((n:Int) - (i:Nat)) 1) where
 mem:=by simp
 obj:=fun i h st b hb=>by
  have e:b=it:=by simpa using hb
  subst e
  exact ⟨_,st,fun v z=>by
   have z':Data.fields _=Data.cell v:=z
   cases z'⟩
 keep:=fun i h h' st k=>k it (by simp) _ st
 item:=by
  intro X hP hw hK hc i pins s σ H E I hf st hg
  subst hP hw hK
  obtain ⟨f0,f1,f2,f3,f4,f5⟩:=hf it (by simp)
  have W:=Walks.range (prog:=X.prog) (w:=X.w) (I.ok.hd hc) it lo 1 n
  refine W.item i s _ _ hg st fun v h' tk hv st' kk=>?_
  obtain ⟨t,rfl⟩:=hv
  have I1:Inv X pins σ H { s with heap:=h',toks:=tk }:=I.turned (fun b o hb e=>kk b o (by simpa using hb) e) f0 f1 f3 f4 f5
  refine ⟨_,rfl,xF (s := { s with heap:=h',toks:=tk }) (n := "range_iterator") st' rfl rfl (by decide) ⟨.int (lo + i),H,I1,⟨t,?_⟩,⟨rfl,rfl⟩,st',fun b hb=>(hf b hb).1⟩⟩
  rw [Int.mul_one]
 done:=by
  intro X hP hw hK hc i pins s σ H E I hf st hg
  subst hP hw hK
  obtain ⟨f0,f1,f2,f3,f4,f5⟩:=hf it (by simp)
  exact wpAny_pyNext_range_end (I.ok.hd hc) st (by have:n <= i:=hg; omega) fun h' eb=>⟨rfl,I.turned (t' := s.toks) (fun b o hb e=>eb b o hb e) f0 f1 f3 f4 f5⟩
 self:=fun _ _ _ _ _ st h=>wpAny_pyIter_rangeiter st h
section
variable {X:Cx}{tg:Expr}
theorem Aa {pins:List (Addr × Obj)}{σ:St}{H:Hp}{s:Shared}{R:It->Hp->Prop}{E:Value->Shared->Prop}{lo hi:Int}{t u v:Tok}{tk:Nat} (I:Inv X pins σ H s) (h1 : -(2 ^ 62) <= lo) (h2:lo < 2 ^ 62) (h3 : -(2 ^ 62) <= hi) (h4:hi < 2 ^ 62)
  (q:R (GW lo (hi - lo).toNat) H):wpAny (model X.prog X.w) X.A (pyIter (.ref s.heap.objs.size)) (JH X pins σ tg R) E { s with heap:=s.heap.push { cls := .type "range",data := .fields #[.int lo t,.int hi u,.int 1 v] },toks:=tk }:=by
 refine wpAny_pyIter_range (IsRange.new ..) (small_one h1 h2 h3 h4) ?_
 have I1:Inv X pins σ H { s with heap:=s.heap.push { cls := .type "range",data := .fields #[.int lo t,.int hi u,.int 1 v] },toks:=tk }:=I.kept fun b o e=>Heap.get?_push_of_some _ e
 refine ⟨(s.heap.push { cls := .type "range",data := .fields #[.int lo t,.int hi u,.int 1 v] }).objs.size,[(s.heap.push { cls := .type "range",data := .fields #[.int lo t,.int hi u,.int 1 v] }).objs.size],_,_,H,rfl,
  I1.kept (t' := tk) fun b o e=>Heap.get?_push_of_some _ e,jU _ lo (hi - lo).toNat,?_,fun b hb=>?_,q⟩
 ·have e1:lo + ((0:Nat):Int) * 1=lo:=by simp
  have e2:(((hi - lo).toNat:Nat):Int) - ((0:Nat):Int)=Builtin.Range.rangeSize lo hi 1:=by rw [rangeSize_one]; split <;> omega
  show IsRangeIter _ _ (lo + ((0:Nat):Int) * 1) ((((hi - lo).toNat:Nat):Int) - ((0:Nat):Int)) 1
  rw [e1,e2]
  exact Heap.get?_push_size _ rfl
 ·have e:b=(s.heap.push { cls := .type "range",data := .fields #[.int lo t,.int hi u,.int 1 v] }).objs.size:=by simpa using hb
  subst e
  exact I1.sJ (Nat.le_refl _) (I1.hok.fresh (Nat.le_refl _))
def zS (ta:TA):TI:=fun σ H R=>ta σ H fun vs H1=>∃ j:Int,vs=[.int j] /\ -(2 ^ 62) <= j/\j < 2 ^ 62/\R (GW 0 j.toNat) H1
theorem yL {a:Expr}{ta:TA}{p pos:Pos} (hg:Gl X "range") (hm:X.mg "range" = none) (ha:PA X [a] ta) (hs:starEach [a] X.env=[(false,eval a X.env)]:=by rfl):PI X tg (.Call (.Name "range" p) [a] [] pos) (zS ta):=by
 intro pins s σ H R I h
 refine Call_ (jT I hg hm boot_range (PyProof.Rows.callWith_type1 (fz (ha pos pins s σ H _ I h) fun us s1 hq5=>L2.ex5 hq5 fun vs H1 I1 r1 q1=>?_) hs rfl))
 obtain ⟨j,e,q1,q2,q⟩:=q1
 subst e
 cases r1 with
 | cons r rr =>
  cases rr
  obtain ⟨t,rfl⟩:=r
  exact call_range_1 (Aa I1 (by omega) (by omega) q1 q2 (by simpa using q))
def IL (wi:TI) (g:TG) (tb:TS):TS:=fun D σ H=>wi σ H fun J H1=>∃ W:Nat->Nat->St->Hp->Prop,(∃ m,W 0 m σ H1)/\∀ i m σ H,W i m σ H ->
 (J.stop i H/\D.nx σ H) ∨ (J.go i H/\∃ N:St->Hp->Prop,(∀ σ' H',N σ' H'->∃ m',m' < m/\W (i + 1) m' σ' H')/\∀ x H',J.yI i H x H'->g x σ H' fun σ2 H2=>tb { D with nx:=N,ct:=N,bk:=D.nx } σ2 H2)
def pO (fp:List Addr) (h:Heap):List (Addr × Obj):=fp.filterMap fun b=>(h.get? b).map fun o=>(b,o)
theorem jV {fp:List Addr}{h:Heap}{b:Addr}{o:Obj} (hb:b ∈ fp) (e:h.get? b=some o):(b,o) ∈ pO fp h:=List.mem_filterMap.mpr ⟨b,hb,by rw [e]; rfl⟩
theorem yJ {fp:List Addr}{h:Heap}{p:Addr × Obj} (hp:p ∈ pO fp h):p.1 ∈ fp/\h.get? p.1=some p.2:=by
 obtain ⟨b,hb,e⟩:=List.mem_filterMap.mp hp
 cases q:h.get? b with
 | none=>rw [q] at e; cases e
 | some o =>
  rw [q] at e
  have e':(b,o)=p:=Option.some.inj e
  subst e'
  exact ⟨hb,q⟩
theorem Inv.pinned {pins:List (Addr × Obj)}{σ:St}{H:Hp}{s:Shared}{fp:List Addr} (I:Inv X pins σ H s) (hf:∀ b ∈ fp,oX X pins H b) (ho:∀ b ∈ fp,∃ o,s.heap.get? b=some o/\∀ v,o.data ≠ .cell v):Inv X (pins ++ pO fp s.heap) σ H s :=
 I.xB fun p hp=>(List.mem_append.mp hp).elim (fun z=>I.pin p (List.mem_append_right _ z)) fun z=>by
  obtain ⟨hb,e⟩:=yJ z
  obtain ⟨f0,f1,f2,_⟩:=hf p.1 hb
  obtain ⟨o,e',d⟩:=ho p.1 hb
  rw [e] at e'; cases e'
  exact ⟨e,f0,f1,f2,d⟩
theorem Inv.mz {pins pl:List (Addr × Obj)}{σ:St}{H:Hp}{s:Shared} (I:Inv X (pins ++ pl) σ H s):Inv X pins σ H s:=I.xB fun p hp=>I.pin p (List.mem_append_right _ (List.mem_append_left _ hp))
theorem EY {iter:Expr}{body:List Stmt}{wi:TI}{g:TG}{tb:TS}{pos:Pos} (hp:PassesOwn (model X.prog X.w) X.A X.env X.xe) (hc:X.calm=true) (hi:PI X tg iter wi) (hg:PG X tg g) (hb:lY X body tb)
  (hs:∀ x,foldedSetIterable iter X.env x=pure x:=by intro _; rfl):PS X (.For tg iter body [] pos) (IL wi g tb):=by
 intro pins s σ H D I h
 refine wpAny_For (fz (hi pins s σ H _ I h) fun v s1 h1=>fz h1 fun itv s2 h2=>?_) hs
 obtain ⟨it,fp,tn,J,H2,e,I2,T,st2,f2,W,⟨m0,w0⟩,turn⟩:=h2
 subst e
 have stat:∀ {H':Hp},(∀ b ∈ fp,H' b=none)->∀ b ∈ fp,oX X pins H' b:=fun hn b hb=>⟨hn b hb,(f2 b hb).2⟩
 refine codeAny_forLoop_any (fun n s'=>∃ i σ' H',Inv X pins σ' H' s'/\tn i s'.heap/\(∀ b ∈ fp,H' b=none)/\W i n σ' H') ?_ m0 ⟨0,σ,H2,I2,st2,fun b hb=>(f2 b hb).1,w0⟩
 rintro n s3 ⟨i,σ3,H3,I3,st3,fr3,w3⟩
 rcases turn i n σ3 H3 w3 with ⟨stop,qn⟩ | ⟨go,N,hN,step⟩
 ·refine wpAny_passesOwn hp (fz (T.done X rfl rfl rfl hc i pins s3 σ3 H3 X.xe I3 (stat fr3) st3 stop) fun r s4 ⟨hr,I4⟩=>?_)
  subst hr
  exact wpAny_execs_nil ⟨σ3,H3,I4,qn⟩
 ·refine wpAny_passesOwn hp (fz (T.item X rfl rfl rfl hc i pins s3 σ3 H3 X.xe I3 (stat fr3) st3 go) fun r s4 ⟨u,hr,h4⟩=>?_)
  subst hr
  refine wpAny_passesOwn hp (fz h4 fun _ s5 ⟨x,H5,I5,r5,y5,st5,fr5⟩=>?_)
  have I5' := I5.pinned (stat fr5) (T.obj _ _ st5)
  refine wpAny_passesOwn hp (fz (hg _ s5 σ3 H5 x u _ I5' r5 (step x H5 y5)) fun _ s6 ⟨σ6,H6,I6,q6⟩=>?_)
  refine wpAny_passesOwn hp (fz (hb _ s6 σ6 H6 _ I6 q6) fun f s7 q7=>?_)
  have again:∀ {σ7:St}{H7:Hp},Inv X (pins ++ pO fp s5.heap) σ7 H7 s7->N σ7 H7->∃ m,m < n/\∃ i σ' H',Inv X pins σ' H' s7/\tn i s7.heap/\(∀ b ∈ fp,H' b=none)/\W i m σ' H' := fun {σ7 H7} I7 n7=>by
   obtain ⟨m',hm,w7⟩:=hN σ7 H7 n7
   refine ⟨m',hm,i + 1,σ7,H7,I7.mz,T.keep _ _ _ st5 fun b hb o e=>(I7.pin (b,o) (List.mem_append_right _ (List.mem_append_right _ (jV hb e)))).1,fun b hb=>?_,w7⟩
   obtain ⟨o,e,d⟩:=T.obj _ _ st5 b hb
   exact (I7.pin (b,o) (List.mem_append_right _ (List.mem_append_right _ (jV hb e)))).2.1
  cases f with
  | next=>obtain ⟨σ7,H7,I7,n7⟩:=q7; exact again I7 n7
  | cont=>obtain ⟨σ7,H7,I7,n7⟩:=q7; exact again I7 n7
  | brk=>obtain ⟨σ7,H7,I7,q7⟩:=q7; exact ⟨σ7,H7,I7.mz,q7⟩
  | ret v=>obtain ⟨x7,σ7,H7,I7,r7,q7⟩:=q7; exact ⟨x7,σ7,H7,I7.mz,r7,q7⟩
end
abbrev R2:=V->V->Hp->VK->Prop
def lu (X:Cx) (f:Value->Value->Sem Value) (r:R2):Prop :=
 ∀ (pins:List (Addr × Obj)) (s:Shared) (σ:St) (H:Hp) (x y:V) (v u:Value) (Q:VK),Inv X pins σ H s->RelV x v->RelV y u->r x y H Q ->
  wpAny (model X.prog X.w) X.A (f v u) (EP X pins σ Q) X.xe s
def IP (X:Cx) (f:Value->Sem Value) (r:V->Hp->VK->Prop):Prop :=
 ∀ (pins:List (Addr × Obj)) (s:Shared) (σ:St) (H:Hp) (x:V) (v:Value) (Q:VK),Inv X pins σ H s->RelV x v->r x H Q ->
  wpAny (model X.prog X.w) X.A (f v) (EP X pins σ Q) X.xe s
def fJ (X:Cx) (f:Value) (r:List V->Hp->VK->Prop):Prop :=
 ∀ (pins:List (Addr × Obj)) (s:Shared) (σ:St) (H:Hp) (xs:List V) (us:List Value) (Q:VK),Inv X pins σ H s->Vals xs us->r xs H Q ->
  wpAny (model X.prog X.w) X.A (call f us) (EP X pins σ Q) X.xe s
def Iq (r:R2) (ta tb:TE):TE:=fun σ H Q=>ta σ H fun x H1=>tb σ H1 fun y H2=>r x y H2 Q
def JT (r:V->Hp->VK->Prop) (ta:TE):TE:=fun σ H Q=>ta σ H fun x H1=>r x H1 Q
def rI (C:Int->Int->Prop) (g:Int->Int->V):R2:=fun x y H Q=>∃ i j,x=.int i/\y=.int j/\C i j/\Q (g i j) H
def yG (g:Int->Int->V):R2:=fun x y H Q=>∃ i j,x=.int i/\y=.int j/\Q (g i j) H
def rU (g:Int->V):V->Hp->VK->Prop:=fun x H Q=>∃ i,x=.int i/\Q (g i) H
section
variable {X:Cx}{a b c:Expr}{ta tb tc:TE}{pos:Pos}
theorem E3 (ha:PE X a ta) (hb:PE X b tb) {pins:List (Addr × Obj)}{s:Shared}{σ:St}{H:Hp}{R:V->V->Hp->Prop} (I:Inv X pins σ H s)
  (h:ta σ H fun x H1=>tb σ H1 fun y H2=>R x y H2) {Q:Value->Shared->Prop}{f:Value->Value->Sem Value}
  (hf:∀ v u s2 x y H2,Inv X pins σ H2 s2->RelV x v->RelV y u->R x y H2->wpAny (model X.prog X.w) X.A (f v u) Q X.xe s2) :
  wpAny (model X.prog X.w) X.A (eval a X.env) (fun v s₁=>wpAny (model X.prog X.w) X.A (eval b X.env) (fun u s₂=>wpAny (model X.prog X.w) X.A (f v u) Q X.xe s₂) X.xe s₁) X.xe s:=by
 refine fz (ha pins s σ H _ I h) fun v s1 hq5=>L2.ex5 hq5 fun x H1 I1 r1 q1=>?_
 refine fz (hb pins s1 σ H1 _ I1 q1) fun u s2 hq5=>L2.ex5 hq5 fun y H2 I2 r2 q2=>?_
 exact hf v u s2 x y H2 I2 r1 r2 q2
theorem G5 {op:Operator}{r:R2} (ho:lu X (binaryOp op) r) (ha:PE X a ta) (hb:PE X b tb):PE X (.BinOp a op b pos) (Iq r ta tb):=by
 intro pins s σ H Q I h
 exact wpAny_BinOp (E3 ha hb I h fun v u s2 x y H2 I2 rx ry q=>ho pins s2 σ H2 x y v u Q I2 rx ry q)
theorem G3 {op:UnaryOp}{r:V->Hp->VK->Prop} (ho:IP X (unaryOp op) r) (ha:PE X a ta):PE X (.UnaryOp op a pos) (JT r ta):=by
 intro pins s σ H Q I h
 exact UnaryOp_ (fz (ha pins s σ H _ I h) fun v s1 hq5=>L2.ex5 hq5 fun x H1 I1 r1 q1=>ho pins s1 σ H1 x v Q I1 r1 q1)
theorem Io {f:Value->Value->Sem Value}{C:Int->Int->Prop}{g:Int->Int->Int}
  (rule:∀ (i j:Int) (t u:Tok) (s:Shared) (Q:Value->Shared->Prop) (E:Value->Shared->Prop),C i j->Q (.int (g i j) s.toks) { s with toks:=s.toks + 1 }->wpAny (model X.prog X.w) X.A (f (.int i t) (.int j u)) Q E s) :
  lu X f (rI C fun i j=>.int (g i j)):=by
 intro pins s σ H x y v u Q I rx ry h
 obtain ⟨i,j,rfl,rfl,hc,q⟩:=h
 obtain ⟨t,rfl⟩:=rx
 obtain ⟨t',rfl⟩:=ry
 exact rule i j t t' s _ _ hc ⟨.int (g i j),H,I.tok _,⟨_,rfl⟩,q⟩
theorem G4 {f:Value->Value->Sem Value}{g:Int->Int->Int}
  (rule:∀ (i j:Int) (t u:Tok) (s:Shared) (Q:Value->Shared->Prop) (E:Value->Shared->Prop),Q (.int (g i j) s.toks) { s with toks:=s.toks + 1 }->wpAny (model X.prog X.w) X.A (f (.int i t) (.int j u)) Q E s) :
  lu X f (yG fun i j=>.int (g i j)):=by
 intro pins s σ H x y v u Q I rx ry h
 obtain ⟨i,j,rfl,rfl,q⟩:=h
 obtain ⟨t,rfl⟩:=rx
 obtain ⟨t',rfl⟩:=ry
 exact rule i j t t' s _ _ ⟨.int (g i j),H,I.tok _,⟨_,rfl⟩,q⟩
theorem Fj {f:Value->Value->Sem Value}{g:Int->Int->Bool}
  (rule:∀ (i j:Int) (t u:Tok) (s:Shared) (Q:Value->Shared->Prop) (E:Value->Shared->Prop),Q (.bool (g i j)) s->wpAny (model X.prog X.w) X.A (f (.int i t) (.int j u)) Q E s) :
  lu X f (yG fun i j=>.bl (g i j)):=by
 intro pins s σ H x y v u Q I rx ry h
 obtain ⟨i,j,rfl,rfl,q⟩:=h
 obtain ⟨t,rfl⟩:=rx
 obtain ⟨t',rfl⟩:=ry
 exact rule i j t t' s _ _ ⟨.bl (g i j),H,I,rfl,q⟩
def jb (i j:Int):Prop:=0 < j/\j < 1073741824
def jy (i j:Int):Prop:=0 <= j/\j <= 1000000/\i.natAbs < 2 ^ 64
def zX (i j:Int):Prop:=(-(2 ^ 64) < i/\i < 2 ^ 64) ∨ (-(2 ^ 64) < j/\j < 2 ^ 64)
theorem zX.ok {i j:Int} (h:zX i j):IntMulOk i j:=by
 rcases h with ⟨h1,h2⟩ | ⟨h1,h2⟩
 ·exact .of_left (intBits_le_64 h1 h2)
 ·exact .of_right (intBits_le_64 h1 h2)
theorem Fc:lu X (binaryOp .Add) (yG fun i j=>.int (i + j)):=G4 fun _ _ _ _ _ _ _ q=>add_int q
theorem vU:lu X (binaryOp .Sub) (yG fun i j=>.int (i - j)):=G4 fun _ _ _ _ _ _ _ q=>sub_int q
theorem bS:lu X (binaryOp .FloorDiv) (rI jb fun i j=>.int (i / j)):=Io fun i j _ _ _ _ _ hc q=>by
 have h1:(0:Int) < j:=hc.1
 have h2:j < 1073741824:=hc.2
 exact floordiv_int (by omega) (by rw [Int.fdiv_eq_ediv_of_nonneg i (by omega)]; exact q) (.inl (PyProof.noPylong_small (by omega)))
theorem bx:lu X (binaryOp .Mod) (rI (fun _ j=>0 < j) fun i j=>.int (i % j)):=Io fun i j _ _ _ _ _ hc q=>by
 have h1:(0:Int) < j:=hc
 exact mod_int' (by omega) (by rw [Int.fmod_eq_emod_of_nonneg i (by omega)]; exact q)
theorem l8:lu X (binaryOp .Pow) (rI jy fun i j=>.int (i ^ j.toNat)):=Io fun _ _ _ _ _ _ _ hc q=>pow_int_small hc.1 hc.2.1 hc.2.2 q
theorem JS {f:Value->Sem Value}{g:Int->Int}
  (rule:∀ (i:Int) (t:Tok) (s:Shared) (Q:Value->Shared->Prop) (E:Value->Shared->Prop),Q (.int (g i) s.toks) { s with toks:=s.toks + 1 }->wpAny (model X.prog X.w) X.A (f (.int i t)) Q E s) :
  IP X f (rU fun i=>.int (g i)):=by
 intro pins s σ H x v Q I rx h
 obtain ⟨i,rfl,q⟩:=h
 obtain ⟨t,rfl⟩:=rx
 exact rule i t s _ _ ⟨.int (g i),H,I.tok _,⟨_,rfl⟩,q⟩
theorem EU:IP X (unaryOp .USub) (rU fun i=>.int (-i)):=JS fun _ _ _ _ _ q=>neg_int q
end
def Ff:V->V->Bool
 | .cY,.cY=>true | .cY,.int _=>true | .int _,.cY=>true | .cY,.bl _=>true | .bl _,.cY=>true | .cY,.str _=>true | .str _,.cY=>true
 | .int _,.int _=>true | .bl _,.bl _=>true | .str _,.str _=>true | .zT _,.zT _=>true
 | .int _,.str _=>true | .str _,.int _=>true | .bl _,.str _=>true | .str _,.bl _=>true
 | _,_=>false
def JI:R2:=fun x y H Q=>Ff x y=true/\Q (.bl (decide (x=y))) H
def JG:R2:=fun x y H Q=>Ff x y=true/\Q (.bl (!decide (x=y))) H
theorem xw {i j:Int}:decide (V.int i=V.int j)=(i == j):=by
 rw [Bool.eq_iff_iff]
 simp
theorem zY {i j:Bool}:decide (V.bl i=V.bl j)=(i == j):=by
 rw [Bool.eq_iff_iff]
 simp
theorem xy {i j:Str}:decide (V.str i=V.str j)=(i == j):=by
 rw [Bool.eq_iff_iff]
 simp
theorem xG {i j:Array UInt8}:decide (V.zT i=V.zT j)=(i.toList == j.toList):=by
 rw [Bool.eq_iff_iff]
 cases i
 cases j
 simp
section
variable {X:Cx}{a b c:Expr}{ta tb tc:TE}{pos:Pos}
theorem bW {pins:List (Addr × Obj)}{σ:St}{H:Hp}{s:Shared}{Q:VK}{k k':Bool} (I:Inv X pins σ H s) (q:Q (.bl k) H) (e:k=k'):EP X pins σ Q (.bool k') s:=by
 subst e
 exact ⟨.bl k,H,I,rfl,q⟩
theorem dD:lu X (compareOp .Eq) JI:=by
 intro pins s σ H x y v u Q I rx ry h
 obtain ⟨hs,q⟩:=h
 cases x with
 | cY =>
  cases rx
  cases y with
  | cY=>cases ry; exact PySem.EqNone.eq_none_none (bW I q (by simp))
  | bl j=>cases ry; exact PySem.EqNone.eq_none_bool (bW I q (by simp))
  | int j=>obtain ⟨t',rfl⟩:=ry; exact PySem.EqNone.eq_none_int (bW I q (by simp))
  | str j=>obtain ⟨t',rfl⟩:=ry; exact PySem.EqNone.eq_none_str (bW I q (by simp))
  | _=>exact absurd (show false=true from hs) Bool.false_ne_true
 | bl i =>
  cases rx
  cases y with
  | cY=>cases ry; exact PySem.EqNone.eq_bool_none (bW I q (by simp))
  | bl j=>cases ry; exact eq_bool (bW I q zY)
  | str j=>obtain ⟨t',rfl⟩:=ry; exact PySem.EqMixed.eq_bool_str (bW I q (by simp))
  | _=>exact absurd (show false=true from hs) Bool.false_ne_true
 | int i =>
  obtain ⟨t,rfl⟩:=rx
  cases y with
  | cY=>cases ry; exact PySem.EqNone.eq_int_none (bW I q (by simp))
  | int j=>obtain ⟨t',rfl⟩:=ry; exact eq_int (bW I q xw)
  | str j=>obtain ⟨t',rfl⟩:=ry; exact PySem.EqMixed.eq_int_str (bW I q (by simp))
  | _=>exact absurd (show false=true from hs) Bool.false_ne_true
 | str i =>
  obtain ⟨t,rfl⟩:=rx
  cases y with
  | cY=>cases ry; exact PySem.EqNone.eq_str_none (bW I q (by simp))
  | bl j=>cases ry; exact PySem.EqMixed.eq_str_bool (bW I q (by simp))
  | int j=>obtain ⟨t',rfl⟩:=ry; exact PySem.EqMixed.eq_str_int (bW I q (by simp))
  | str j=>obtain ⟨t',rfl⟩:=ry; exact eq_str (bW I q xy)
  | _=>exact absurd (show false=true from hs) Bool.false_ne_true
 | zT i =>
  obtain ⟨t,rfl⟩:=rx
  cases y with
  | zT j=>obtain ⟨t',rfl⟩:=ry; exact PySem.W.eq_bytes (bW I q xG)
  | _=>exact absurd (show false=true from hs) Bool.false_ne_true
 | _=>cases y <;> exact absurd (show false=true from hs) Bool.false_ne_true
theorem pI:lu X (compareOp .NotEq) JG:=by
 intro pins s σ H x y v u Q I rx ry h
 obtain ⟨hs,q⟩:=h
 cases x with
 | cY =>
  cases rx
  cases y with
  | cY=>cases ry; exact PySem.EqNone.ne_none_none (bW I q (by simp))
  | bl j=>cases ry; exact PySem.EqNone.ne_none_bool (bW I q (by simp))
  | int j=>obtain ⟨t',rfl⟩:=ry; exact PySem.EqNone.ne_none_int (bW I q (by simp))
  | str j=>obtain ⟨t',rfl⟩:=ry; exact PySem.EqNone.ne_none_str (bW I q (by simp))
  | _=>exact absurd (show false=true from hs) Bool.false_ne_true
 | bl i =>
  cases rx
  cases y with
  | cY=>cases ry; exact PySem.EqNone.ne_bool_none (bW I q (by simp))
  | bl j=>cases ry; exact ne_bool (bW I q (congrArg not zY))
  | str j=>obtain ⟨t',rfl⟩:=ry; exact PySem.EqMixed.ne_bool_str (bW I q (by simp))
  | _=>exact absurd (show false=true from hs) Bool.false_ne_true
 | int i =>
  obtain ⟨t,rfl⟩:=rx
  cases y with
  | cY=>cases ry; exact PySem.EqNone.ne_int_none (bW I q (by simp))
  | int j=>obtain ⟨t',rfl⟩:=ry; exact ne_int (bW I q (congrArg not xw))
  | str j=>obtain ⟨t',rfl⟩:=ry; exact PySem.EqMixed.ne_int_str (bW I q (by simp))
  | _=>exact absurd (show false=true from hs) Bool.false_ne_true
 | str i =>
  obtain ⟨t,rfl⟩:=rx
  cases y with
  | cY=>cases ry; exact PySem.EqNone.ne_str_none (bW I q (by simp))
  | bl j=>cases ry; exact PySem.EqMixed.ne_str_bool (bW I q (by simp))
  | int j=>obtain ⟨t',rfl⟩:=ry; exact PySem.EqMixed.ne_str_int (bW I q (by simp))
  | str j=>obtain ⟨t',rfl⟩:=ry; exact ne_str (bW I q (congrArg not xy))
  | _=>exact absurd (show false=true from hs) Bool.false_ne_true
 | zT i =>
  obtain ⟨t,rfl⟩:=rx
  cases y with
  | zT j=>obtain ⟨t',rfl⟩:=ry; exact PySem.W.ne_bytes (bW I q (congrArg not xG))
  | _=>exact absurd (show false=true from hs) Bool.false_ne_true
 | _=>cases y <;> exact absurd (show false=true from hs) Bool.false_ne_true
theorem uh:lu X (compareOp .Lt) (yG fun i j=>.bl (decide (i < j))):=Fj fun _ _ _ _ _ _ _ q=>lt_int q
theorem Ek:lu X (compareOp .Gt) (yG fun i j=>.bl (decide (j < i))):=Fj fun _ _ _ _ _ _ _ q=>gt_int q
theorem G9:lu X (compareOp .GtE) (yG fun i j=>.bl (decide (j <= i))):=Fj fun _ _ _ _ _ _ _ q=>ge_int q
theorem Ac:lu X (compareOp .Is) (fun x y H Q=>y=.cY/\Q (.bl (decide (x=.cY))) H):=by
 intro pins s σ H x y v u Q I rx ry h
 obtain ⟨rfl,q⟩:=h
 cases ry
 refine is_none_gen (bW I q ?_)
 cases x <;> first
  | (cases rx; rfl)
  | (obtain ⟨t,rfl⟩:=rx; rfl)
theorem bb (b:Expr) {op:CmpOp} (h:op ≠ .In:=by decide) (h2:op ≠ .NotIn:=by decide):behindInMarks op b=false:=by
 have e1:(op == CmpOp.In)=false:=by cases op <;> first | rfl | exact absurd rfl h
 have e2:(op == CmpOp.NotIn)=false:=by cases op <;> first | rfl | exact absurd rfl h2
 cases b <;> simp [behindInMarks,e1,e2]
theorem CN {op:CmpOp}{r:R2} (ho:lu X (compareOp op) r) (ha:PE X a ta) (hb:PE X b tb) (hm:behindInMarks op b=false):PE X (.Compare a [op] [b] pos) (Iq r ta tb):=by
 intro pins s σ H Q I h
 exact wpAny_Compare1 (E3 ha hb I h fun v u s2 x y H2 I2 rx ry q=>ho pins s2 σ H2 x y v u Q I2 rx ry q) hm
def Ha (t:TE):TT:=fun σ H Q=>t σ H fun x H'=>∃ k,x=.bl k/\Q k H'
theorem CL {op:CmpOp}{r:R2} (ho:lu X (compareOp op) r) (ha:PE X a ta) (hb:PE X b tb) (hm:behindInMarks op b=false):PT X (.Compare a [op] [b] pos) (Ha (Iq r ta tb)):=by
 intro pins s σ H Q I h
 refine wpAny_isTrue_Compare1 (fz (ha pins s σ H _ I h) fun v s1 hq5=>L2.ex5 hq5 fun x H1 I1 r1 q1=>fz (hb pins s1 σ H1 _ I1 q1) fun u s2 hq5=>L2.ex5 hq5 fun y H2 I2 r2 q2 =>
  fz (ho pins s2 σ H2 x y v u _ I2 r1 r2 q2) fun c s3 ⟨z,H3,I3,r3,k,e,q3⟩=>?_) hm
 subst e
 cases r3
 exact wpAny_truthy_bool ⟨H3,I3,q3⟩
theorem pN:(sizeLine:Nat) < 2 ^ 63:=by rw [sizeLine_eq]; decide
theorem vW:lu X (binaryOp .Add) (fun x y H Q=>∃ i j,x=.str i/\y=.str j/\i.length + j.length <= sizeLine/\Q (.str (i ++ j)) H):=by
 intro pins s σ H x y v u Q I rx ry h
 obtain ⟨i,j,rfl,rfl,hz,q⟩:=h
 obtain ⟨t,rfl⟩:=rx
 obtain ⟨t',rfl⟩:=ry
 exact add_str (fun t' tk=>⟨.str (i ++ j),H,I.tok _,⟨_,rfl⟩,q⟩) hz
theorem vals1 {x:V}{us:List Value} (r:Vals [x] us):∃ u,us=[u]/\RelV x u:=by
 cases r with
 | cons r1 r2=>cases r2; exact ⟨_,rfl,r1⟩
theorem vals2 {x y:V}{us:List Value} (r:Vals [x,y] us):∃ u w',us=[u,w']/\RelV x u/\RelV y w' := by
 cases r with
 | cons r1 r2 =>
  cases r2 with
  | cons r3 r4=>cases r4; exact ⟨_,_,rfl,r1,r3⟩
theorem rD (hc:X.calm=true):fJ X (.builtin "max") (fun xs H Q=>∃ i j,xs=[.int i,.int j]/\Q (.int (if j > i then j else i)) H):=by
 intro pins s σ H xs us Q I r h
 obtain ⟨i,j,rfl,q⟩:=h
 obtain ⟨u,w',rfl,⟨t,rfl⟩,⟨t',rfl⟩⟩:=vals2 r
 refine max_two_ints (I.ok.hd hc) fun h' tk k=>⟨_,H,I.kept k,?_,q⟩
 by_cases hj:j > i
 ·rw [if_pos hj,if_pos hj]; exact ⟨_,rfl⟩
 ·rw [if_neg hj,if_neg hj]; exact ⟨_,rfl⟩
theorem yQ (hc:X.calm=true):fJ X (.builtin "min") (fun xs H Q=>∃ i j,xs=[.int i,.int j]/\Q (.int (if j < i then j else i)) H):=by
 intro pins s σ H xs us Q I r h
 obtain ⟨i,j,rfl,q⟩:=h
 obtain ⟨u,w',rfl,⟨t,rfl⟩,⟨t',rfl⟩⟩:=vals2 r
 refine min_two_ints (I.ok.hd hc) fun h' tk k=>⟨_,H,I.kept k,?_,q⟩
 by_cases hj:j < i
 ·rw [if_pos hj,if_pos hj]; exact ⟨_,rfl⟩
 ·rw [if_neg hj,if_neg hj]; exact ⟨_,rfl⟩
end
structure EM (h:Heap) (x dx C:Addr) (mA:Str->Option Value):Prop where
 obj:h.get? x=some (PySem.W.instObj C dx)
 ns:h.Ns1 dx mA
 ne:dx ≠ x
theorem yK {h:Heap}{dx:Addr}{mA:Str->Option Value} (n:h.Ns1 dx mA):∃ od,h.get? dx=some od/\∀ name,PySem.W.lookIn name od=some (mA name):=by
 obtain ⟨o,es,ep,ho,hd,hk,_,hm⟩:=n
 refine ⟨o,ho,fun name=>?_⟩
 have e:=hm name
 unfold nsFind findBy at e
 rw [<- Array.find?_toList] at e
 unfold PySem.W.lookIn
 rw [hd]
 dsimp only
 split
 ·rename_i y q
  rw [q] at e
  exact congrArg some e
 ·rename_i q
  rw [q] at e
  have a:es.toList.any (·.refKey)=false:=by
   rw [List.any_eq_false]
   intro y hy
   obtain ⟨z,t,hkey⟩:=hk y (Array.mem_toList_iff.mp hy)
   simp [DictEntry.refKey,hkey]
  have a':¬ es.toList.any (·.refKey)=true:=by rw [a]; exact Bool.false_ne_true
  rw [if_neg a']
  exact congrArg some e
theorem EM.look {h:Heap}{x dx C:Addr}{mA:Str->Option Value} (I:EM h x dx C mA):∃ od,PySem.W.InstAt h x (PySem.W.instObj C dx) C (some od)/\∀ name,PySem.W.lookIn name od=some (mA name) :=
 let ⟨od,ho,hl⟩:=yK I.ns
 ⟨od,⟨I.obj,rfl,rfl,ho⟩,hl⟩
section
variable {prog:Program}{w:World}{A:Around}{E:Value->Shared->Prop}{s:Shared}{K:PySem.W.Frag}{x dx C f:Addr}{mA:Str->Option Value}{name:Str}{v:Value}
end
theorem nH.some_of {v:V}{o:Option Value} (r:nH (some v) o):∃ u,o=some u/\RelV v u:=by
 cases o with
 | none=>exact (show False from r).elim
 | some u=>exact ⟨u,rfl,r⟩
section
variable {P:Program}{w:World}{H H':Hp}{h h':Heap}{a C dx:Addr}{fs fs':List (Str × V)}
theorem CK (hok:jx P w H h) (e:H a=some (.ins C dx fs)):∃ mA,EM h a dx C mA/\(∀ f,nH (fs.lookup f) (mA f))/\PySem.Within mA (fs.map (·.1))/\fs.length <= 1000/\H dx=some (.own a):=by
 obtain ⟨d,z,ne,ob,mA,n,r,q⟩:=(show di P w H h a (.ins C dx fs) from hok a _ e)
 exact ⟨mA,⟨ob,n,ne⟩,r,q,z,d⟩
end
structure II (K:PySem.W.Frag) (C:Addr):Prop where
 pg:PySem.W.plainGet K C Str.empty=true
 hd:PySem.W.hasDictIn K C=true
 po:PySem.W.plainOver K C=true
 sa:PySem.W.findIn K (.ref C) "__setattr__" = some (some (.builtin "object.__setattr__"))
theorem II.get {K:PySem.W.Frag}{C:Addr} (c:II K C) (f:Str):PySem.W.plainGet K C f=true:=c.pg
section
variable {X:Cx}{pins:List (Addr × Obj)}{σ:St}{H:Hp}{s:Shared}{a C dx:Addr}{fs:List (Str × V)}{f:Str}{v:V}{A:Around}{E:Value->Shared->Prop}
end
section
variable {X:Cx}{o e value:Expr}{f:Str}{pos pos' tpos:Pos}{ta tv:TE}
end
section
variable {X:Cx}{pins:List (Addr × Obj)}{σ:St}{H:Hp}{s:Shared}{A:Around}{E:Value->Shared->Prop}{Q:Value->Shared->Prop}{c:Value}{b:Bool}
inductive my (K:PySem.W.Frag) (H:Hp):V->Value->Prop where
 | cY:my K H .cY (.type "NoneType")
 | bl (x:Bool):my K H (.bl x) (.type "bool")
 | int (i:Int):my K H (.int i) (.type "int")
 | str (x:Str):my K H (.str x) (.type "str")
 | GV (x:UInt64):my K H (.GV x) (.type "float")
 | lst {a:Addr}{xs:List V} (e:H a=some (.lst xs)):my K H (.ref a) (.type "list")
 | aG {a:Addr}{o:Obj}{xs:List V} (e:H a=some (.aG o (.lst xs))):my K H (.ref a) (.type "list")
 | tup {a:Addr}{xs:List V} (e:H a=some (.tup xs)):my K H (.ref a) (.type "tuple")
 | dK {a:Addr}{kvs:List (Key × V)} (e:H a=some (.dK kvs)):my K H (.ref a) (.type "dict")
 | dT {a:Addr}{kvs:List (List Key × V)} (e:H a=some (.dT kvs)):my K H (.ref a) (.type "dict")
 | ins {a C dx:Addr}{fs:List (Str × V)} (e:H a=some (.ins C dx fs)) (cl:II K C) (ha:PySem.W.findIn K (.ref C) "__class__" = some (some (.builtin "object.__class__")))
   (hn:PySem.W.specialIn K (.builtin "object.__class__") "__get__" = some (some (.builtin "getset_descriptor.__get__"))) (htk:PySem.W.takesIn K (.builtin "object.__class__")=some true)
   (hm:PySem.W.mroIn K C (.type "object")=some true):my K H (.ref a) (.ref C)
theorem yM {x:V}{u t:Value} (I:Inv X pins σ H s) (rx:RelV x u) (ty:my X.K H x t) (e:PySem.W.kitOne X.K t c=some b) (h:∀ tk,Q (.bool b) { s with toks:=tk }) :
  wpAny (model X.prog X.w) A (call (.builtin "isinstance") [u,c]) Q E s:=by
 cases ty with
 | cY=>cases (show u=Value.none from rx); exact PySem.W.kia_one PySem.W.kitx_none I.nD True.intro e (fun z=>nomatch z) h
 | bl y=>cases (show u=Value.bool y from rx); exact PySem.W.kia_one PySem.W.kitx_bool I.nD True.intro e (fun z=>nomatch z) h
 | int i=>obtain ⟨t,q⟩:=(show ∃ t,u=Value.int i t from rx); cases q; exact PySem.W.kia_one PySem.W.kitx_int I.nD True.intro e (fun z=>nomatch z) h
 | str y=>obtain ⟨t,q⟩:=(show ∃ t,u=Value.str y t from rx); cases q; exact PySem.W.kia_one PySem.W.kitx_str I.nD True.intro e (fun z=>nomatch z) h
 | GV y=>obtain ⟨t,q⟩:=(show ∃ t,u=Value.float y t from rx); cases q; exact PySem.W.kia_one PySem.W.kitx_float I.nD True.intro e (fun z=>nomatch z) h
 | @lst a xs ea =>
  cases (show u=Value.ref a from rx)
  obtain ⟨_,_,n,_,h1⟩:=(show di X.prog X.w H s.heap a (.lst xs) from I.hok a _ ea)
  exact PySem.W.kia_one PySem.W.kitx_list I.nD ⟨_,h1,rfl⟩ e (fun z=>nomatch z) h
 | @aG a ob xs ea =>
  cases (show u=Value.ref a from rx)
  obtain ⟨_,_,_,n,_,h1⟩:=(show di X.prog X.w H s.heap a (.aG ob (.lst xs)) from I.hok a _ ea)
  exact PySem.W.kia_one PySem.W.kitx_list I.nD ⟨_,h1,rfl⟩ e (fun z=>nomatch z) h
 | @tup a xs ea =>
  cases (show u=Value.ref a from rx)
  obtain ⟨_,_,_,p⟩:=(show di X.prog X.w H s.heap a (.tup xs) from I.hok a _ ea)
  obtain ⟨o,h1,h2,_⟩:=p.is
  exact PySem.W.kia_one PySem.W.kitx_tuple I.nD ⟨o,h1,h2⟩ e (fun z=>nomatch z) h
 | @dK a kvs ea =>
  cases (show u=Value.ref a from rx)
  obtain ⟨_,_,vs,_,p⟩:=(show di X.prog X.w H s.heap a (.dK kvs) from I.hok a _ ea)
  obtain ⟨o,es,ep,h1,h2,_⟩:=p
  exact PySem.W.kia_one PySem.W.kitx_dict I.nD ⟨o,h1,h2.1⟩ e (fun z=>nomatch z) h
 | @dT a kvs ea =>
  cases (show u=Value.ref a from rx)
  obtain ⟨_,_,xs,_,o,es,ep,h1,h2,_⟩:=(show di X.prog X.w H s.heap a (.dT kvs) from I.hok a _ ea)
  exact PySem.W.kia_one PySem.W.kitx_dict I.nD ⟨o,h1,h2.1⟩ e (fun z=>nomatch z) h
 | @ins a C dx fs ea cl ha hn htk hm =>
  cases (show u=Value.ref a from rx)
  obtain ⟨mA,O,_⟩:=CK I.hok ea
  obtain ⟨od,J,_⟩:=O.look
  exact PySem.W.kia_one (PySem.W.kitx_own (cl.get _) cl.hd ha hn htk hm) I.nD J e (fun z=>nomatch z) h
end
structure gh (k:Nat) (A:Around):Prop where
 hd:A.handled=none
 dp:A.depth + 3 * k + 5 < recursionLimit
 un:A.units + 16 * k + 200 < cLine
theorem gh.mono {j k:Nat}{A:Around} (r:gh k A) (h:j <= k):gh j A:=⟨r.hd,by have:=r.dp; omega,by have:=r.un; omega⟩
theorem gh.deeper {k:Nat}{A:Around} (r:gh (k + 1) A) (env:Env):gh k (A.deeper env) :=
 ⟨r.hd,by have:=r.dp; show A.depth + 1 + 3 * k + 5 < _; omega,by have:=r.un; show A.units + 3 + 16 * k + 200 < _; omega⟩
theorem gh.depth {k:Nat}{A:Around} (r:gh k A):A.depth < recursionLimit:=by have:=r.dp; omega
theorem gh.units {k:Nat}{A:Around} (r:gh k A):A.units + 64 < cLine:=by have:=r.un; omega
def G7:TA:=fun _ H Q=>Q [] H
def Ej (ta:TE) (tr:TA):TA:=fun σ H Q=>ta σ H fun x H1=>tr σ H1 fun xs H2=>Q (x :: xs) H2
section
variable {X:Cx}{e:Expr}{es:List Expr}{te:TE}{t:TA}{pos:Pos}
theorem jW:PA X [] G7:=fun _ _ _ _ H Q I h=>Calls.spliced_nil ⟨[],H,I,.nil,h⟩
theorem eZ (ha:PE X e te) (hr:PA X es t) (hs:starEach (e :: es) X.env=(false,eval e X.env) :: starEach es X.env:=by rfl):PA X (e :: es) (Ej te t):=by
 intro pos pins s σ H Q I h
 rw [hs]
 show wpAny _ _ (spliced ((false,eval e X.env) :: backTo pos (starEach es X.env))) _ _ s
 refine Calls.spliced_cons (fz (ha pins s σ H _ I h) fun u s1 hq5=>L2.ex5 hq5 fun x H1 I1 r1 q1=>?_)
 exact fz (hr pos pins s1 σ H1 _ I1 q1) fun us s2 hq5=>L2.ex5 hq5 fun xs H2 I2 r2 q2=>⟨x :: xs,H2,I2,.cons r1 r2,q2⟩
def IX (t:TA):TE:=fun σ H Q=>t σ H fun xs H1=>xs.length <= sizeLine/\∀ p,H1 p=none->Q (.ref p) (upd H1 p (.tup xs))
def IU (t:TA):TE:=fun σ H Q=>t σ H fun xs H1=>xs.length <= sizeLine/\∀ p,H1 p=none->Q (.ref p) (upd H1 p (.lst xs))
theorem zZ {x1} (h:PA X es t):PE X (.Tuple es x1 pos) (IX t):=by
 intro pins s σ H Q I hq
 refine wpAny_Tuple_spliced (fz (h pos pins s σ H _ I hq) fun us s1 ⟨xs,H1,I1,r,z,q⟩=>⟨by rw [<- r.length]; exact z,?_⟩)
 have hf:H1 s1.heap.objs.size=none:=I1.hok.fresh (Nat.le_refl _)
 refine ⟨.ref s1.heap.objs.size,upd H1 s1.heap.objs.size (.tup xs),I1.laid (t' := s1.toks) (fun b u e=>Heap.get?_push_of_some _ e) (Nat.le_refl _) ?_,rfl,q _ hf⟩
 exact ⟨z,us,r,⟨_,Heap.get?_push_size _ rfl⟩⟩
theorem Fi (h:PA X es t):PE X (.List es pos) (IU t):=by
 intro pins s σ H Q I hq
 refine wpAny_List_spliced (fz (h pos pins s σ H _ I hq) fun us s1 ⟨xs,H1,I1,r,z,q⟩=>⟨by rw [<- r.length]; exact z,?_⟩)
 have hf:H1 s1.heap.objs.size=none:=I1.hok.fresh (Nat.le_refl _)
 refine ⟨.ref s1.heap.objs.size,upd H1 s1.heap.objs.size (.lst xs),I1.laid (t' := s1.toks) (fun b u e=>Heap.get?_push_of_some _ e) (Nat.le_refl _) ?_,rfl,q _ hf⟩
 exact ⟨z,us,0,r,Heap.get?_push_size _ rfl⟩
end
abbrev Sp:=List V->Hp->VK->XK->Prop
abbrev zR:=List Env->Hp->Shared->XK->Value->Shared->Prop
structure vS (P:Program) (w:World) (K:PySem.W.Frag) (mg:Str->Option Value) (base:Heap) (A:Around) (outer:List Env) (s:Shared) (H:Hp):Prop where
 frames:A.frames=some outer
 mod:Mod K mg base
 bs:∀ b o,base.get? b=some o->s.heap.get? b=some o/\H b=none
 xE:base.objs.size <= s.heap.objs.size
 jS:s.heap.FunFrames base outer
 zQ:∀ b ∈ frs outer,H b=none
 hok:jx P w H s.heap
 bare:AllBare s.gens
def CE (outer:List Env) (P:Program) (w:World) (H:Hp) (s:Shared) (Q:VK) (u:Value) (s':Shared):Prop :=
 ∃ v H',s'.os=s.os/\AllBare s'.gens/\Un (frs outer) [] H H' s.heap s'.heap/\jx P w H' s'.heap/\RelV v u/\Q v H'
def CR (CX:zR) (outer:List Env) (P:Program) (w:World) (H:Hp) (s:Shared) (Q:VK) (E:XK) (r:Result) (s':Shared):Prop :=
 match r with
 | .ok (.ret u)=>CE outer P w H s Q u s'
 | .ok _=>False
 | .error e=>CX outer H s E e s'
structure nG (P:Program) (w:World) (K:PySem.W.Frag) (mg:Str->Option Value) (base:Heap) (CX:zR) (k:Nat) (f:Addr) (fd:FuncData) (ps:List Str) (sp:Sp):Prop where
 len:∀ vs H Q E,sp vs H Q E->vs.length=ps.length
 run:∀ (A:Around) (outer:List Env) (s:Shared) (H:Hp) (args:Args) (us:List Value) (vs:List V) (Q:VK) (E:XK),gh k A->vS P w K mg base A outer s H->BindsTo s fd args (ps.zip us)->Vals vs us->sp vs H Q E ->
  codeAny (model P w) A (.call (.ref f) args) (CR CX outer P w H s Q E) s
section
variable {X:Cx}{pins:List (Addr × Obj)}{σ:St}{H:Hp}{s s':Shared}
theorem Inv.Fb (I:Inv X pins σ H s):vS X.prog X.w X.K X.mg X.base X.A X.stack s H :=
 ⟨I.ok.frames,I.ok.mod,I.bs,Nat.le_trans I.ok.xE I.sz,I.stack,I.sL,I.hok,I.bare⟩
theorem Inv.after {Q:VK}{u:Value} (I:Inv X pins σ H s) (h:CE X.stack X.prog X.w H s Q u s'):EP X pins σ Q u s' := by
 obtain ⟨v,H',os,bare,un,hok,r,q⟩:=h
 obtain ⟨hh,g,d,t,os'⟩:=s'
 obtain rfl:os'=s.os:=os
 exact ⟨v,H',I.call (h' := hh) (g' := g) (d' := d) (t' := t) (ch := []) un hok bare (fun b z=>absurd z (by simp)),r,q⟩
end
def En (sp:Sp) (dvs:List V) (E:XK) (t:TA):TE:=fun σ H Q=>t σ H fun vs H1=>sp (vs ++ dvs) H1 Q E
def Binds (K:PySem.W.Frag) (fd:FuncData) (ps:List Str) (ds:List Value):Prop :=
 ∀ (s:Shared) (us:List Value),K.In s.heap->(us ++ ds).length=ps.length->BindsTo s fd ⟨us,[]⟩ (ps.zip (us ++ ds))
theorem Binds.all {K:PySem.W.Frag}{fd:FuncData}{ps:List Str} (h:∀ us:List Value,us.length=ps.length->bindArgs fd ⟨us,[]⟩=pure (ps.zip us)):Binds K fd ps []:=fun s us _ hl=>by
 rw [List.append_nil] at hl ⊢
 exact .of_eq (h us hl)
def Passes (CX:zR) (X:Cx) (E:XK):Prop := ∀ (pins:List (Addr × Obj)) (σ:St) (H:Hp) (s:Shared) (e:Value) (s':Shared),Inv X pins σ H s->CX X.stack H s E e s'->X.xe e s'
section
variable {X:Cx}{CX:zR}{k:Nat}{f C:Addr}{fd:FuncData}{ps:List Str}{sp:Sp}{dvs:List V}{ds:List Value}{E:XK}{x m:Str}{p pos apos:Pos}{e o:Expr}{es:List Expr}{ta:TE}{t:TA}
theorem EZ {pins:List (Addr × Obj)}{σ:St}{H:Hp}{s:Shared}{Q:VK}{us:List Value}{vs:List V} (F:nG X.prog X.w X.K X.mg X.base CX k f fd ps sp) (hr:gh k X.A) (hb:Binds X.K fd ps ds) (hd:Vals dvs ds) (hx:Passes CX X E)
  (I:Inv X pins σ H s) (r:Vals vs us) (h:sp (vs ++ dvs) H Q E):wpAny (model X.prog X.w) X.A (call (.ref f) us) (EP X pins σ Q) X.xe s:=by
 have r2:Vals (vs ++ dvs) (us ++ ds):=r.append hd
 have hl:(us ++ ds).length=ps.length:=by rw [<- r2.length]; exact F.len _ _ _ _ h
 refine wpAny_call (codeAny_mono (F.run X.A X.stack s H ⟨us,[]⟩ (us ++ ds) (vs ++ dvs) Q E hr I.Fb (hb s us I.nD hl) r2 h) fun r s' hq=>?_)
 cases r with
 | error e=>exact hx pins σ H s e s' I hq
 | ok fl =>
  cases fl with
  | ret u=>exact I.after hq
  | next=>exact False.elim hq
  | brk=>exact False.elim hq
  | cont=>exact False.elim hq
theorem CM (F:nG X.prog X.w X.K X.mg X.base CX k f fd ps sp) (hr:gh k X.A) (hg:Gl X x) (hm:X.mg x=some (.ref f)) (hk:PySem.W.keepIn X.K (.ref f)=true) (hb:Binds X.K fd ps ds) (hd:Vals dvs ds) (hx:Passes CX X E)
  (ha:PA X (e :: es) t) (hdb:(x == ("__debug__" : Str))=false:=by decide) (he:starEach (e :: es) X.env=(false,eval e X.env) :: starEach es X.env:=by rfl) (hpl:(backTo pos (starEach es X.env)).any (·.1)=false:=by rfl) :
  PE X (.Call (.Name x p) (e :: es) [] pos) (En sp dvs E t):=by
 intro pins s σ H Q I h
 refine wpAny_Call_Name_kw (ly I hg hm ?_ hdb)
 refine PySem.W.callWith_K (h₀:=X.base) I.ok.mod.ES hk (fz (ha pos pins s σ H _ I h) fun us s1 hq5=>L2.ex5 hq5 fun vs H1 I1 r q=>⟨I1.nD,?_⟩) he hpl
 exact EZ F hr hb hd hx I1 r q
end
section
variable {X:Cx}{CX:zR}{k:Nat}{f C:Addr}{fd:FuncData}{ps ks:List Str}{sp:Sp}{E:XK}{x m:Str}{p pos apos kpos:Pos}{e o:Expr}{es:List Expr}{kws:List Keyword}{te ta:TE}{t tk:TA}{nm:Option Str}
variable {g:List Value->List Value->List Value}{gV:List V->List V->List V}
end
structure a9 (N P:List Str) (sc:Scope):Prop where
 kind:sc.kind=.function
 co:sc.isCoroutine=false
 gen:sc.isGenerator=false
 nd:N.Nodup
 pre:N.take P.length=P
 par:∀ x ∈ P,sc.names.lookup x=some .local ∨ sc.names.lookup x=some .cell
 ET:∀ y ∈ sc.names,y.2 ≠ .free
theorem rj {kindOf:Str->Option NameKind}{x:Str}:∀ {binds:List (Str × Value)}{m:Str->Option Value},(∀ v,(x,v) ∉ binds)->bindL kindOf binds m x=m x
 | [],_,_=>rfl
 | (n,v) :: r,m,h=>by
  unfold bindL
  rw [rj fun w hw=>h w (List.mem_cons_of_mem _ hw)]
  split
  ·have:x ≠ n:=by rintro rfl; exact h v List.mem_cons_self
   simp [this]
  ·rfl
theorem rA {kindOf:Str->Option NameKind}{x:Str}:∀ {binds:List (Str × Value)}{m:Str->Option Value},(∀ v,(x,v) ∉ binds)->bindC kindOf binds m x=m x
 | [],_,_=>rfl
 | (n,v) :: r,m,h=>by
  unfold bindC
  rw [rA fun w hw=>h w (List.mem_cons_of_mem _ hw)]
  split
  ·rfl
  ·have:x ≠ n:=by rintro rfl; exact h v List.mem_cons_self
   simp [this]
theorem rq {kindOf:Str->Option NameKind}{x:Str}{v:Value}:∀ {P:List Str}{vs:List Value}{i:Nat}{m:Str->Option Value},P.Nodup->P[i]?=some x->vs[i]?=some v->kindOf x=some .local ->
  bindL kindOf (P.zip vs) m x=some v
 | [],_,_,_,_,h,_,_=>by simp at h
 | _ :: _,[],_,_,_,_,h,_=>by simp at h
 | p :: P,w :: vs,0,m,nd,h1,h2,hk=>by
  simp at h1 h2; subst h1; subst h2
  show bindL kindOf ((p,w) :: P.zip vs) m p=_
  unfold bindL
  rw [rj fun v hv=>(List.nodup_cons.mp nd).1 (List.of_mem_zip hv).1,if_pos hk]
  simp
 | p :: P,w :: vs,i + 1,m,nd,h1,h2,hk=>by
  show bindL kindOf ((p,w) :: P.zip vs) m x=_
  unfold bindL
  exact rq (i:=i) (List.nodup_cons.mp nd).2 (by simpa using h1) (by simpa using h2) hk
theorem rn {kindOf:Str->Option NameKind}{x:Str}{v:Value}:∀ {P:List Str}{vs:List Value}{i:Nat}{m:Str->Option Value},P.Nodup->P[i]?=some x->vs[i]?=some v->kindOf x ≠ some .local ->
  bindC kindOf (P.zip vs) m x=some v
 | [],_,_,_,_,h,_,_=>by simp at h
 | _ :: _,[],_,_,_,_,h,_=>by simp at h
 | p :: P,w :: vs,0,m,nd,h1,h2,hk=>by
  simp at h1 h2; subst h1; subst h2
  show bindC kindOf ((p,w) :: P.zip vs) m p=_
  unfold bindC
  rw [rA fun v hv=>(List.nodup_cons.mp nd).1 (List.of_mem_zip hv).1,if_neg hk]
  simp
 | p :: P,w :: vs,i + 1,m,nd,h1,h2,hk=>by
  show bindC kindOf ((p,w) :: P.zip vs) m x=_
  unfold bindC
  exact rn (i:=i) (List.nodup_cons.mp nd).2 (by simpa using h1) (by simpa using h2) hk
def start (N:List Str) (vs:List V):St:=vs.map some ++ List.replicate (N.length - vs.length) none
def lV (CX:zR) (P:Program) (w:World) (K:PySem.W.Frag) (mg:Str->Option Value) (base:Heap) (N:List Str) (qual:Str) (scope:Scope) (f:Addr) (cd:Value) (A:Around) (outer:List Env) (s:Shared) (H:Hp) (E:XK):Cx where
 prog:=P
 w:=w
 K:=K
 mg:=mg
 base:=base
 A:=A.deeper (envOfC qual scope s.heap.objs.size f cd)
 N:=N
 s₀:=s
 H₀:=H
 env:=envOfC qual scope s.heap.objs.size f cd
 outer:=outer
 stack:=envOfC qual scope s.heap.objs.size f cd :: outer
 ex := []
 calm:=true
 fn:=fun _=>true
 pn := []
 xe:=fun e s'=>wpAny (model P w) (A.deeper (envOfC qual scope s.heap.objs.size f cd)) (leaving (envOfC qual scope s.heap.objs.size f cd) e) (fun _ s''=>CX outer H s E e s'') (fun e' s''=>CX outer H s E e' s'') s'
theorem uq {sc:Scope}{n:Nat}{x:Str} (h:sc.names.lookup x=some .cell):∃ c,(cellsFrom n sc.names []).lookup x=some c:=by
 have q:=PySem.W.cellsFrom_some sc.names n [] (.inl h)
 exact Option.isSome_iff_exists.mp q
theorem rm {CX:zR}{P:Program}{w:World}{K:PySem.W.Frag}{mg:Str->Option Value}{base:Heap}{N ps:List Str}{qual:Str}{scope:Scope}{f:Addr}{cd:Value}{A:Around}{outer:List Env}{s s1:Shared}{H:Hp}{E:XK}{us:List Value}{vs:List V}
  (S:a9 N ps scope) (hd:A.handled=none) (e0:vS P w K mg base A outer s H) (hl:vs.length=ps.length) (r:Vals vs us)
  (x:InCallC s s.heap.objs.size (bindL (envOfC qual scope s.heap.objs.size f cd).kindOf (ps.zip us) fun _=>none) (cellsFrom (s.heap.objs.size + 1) scope.names []) (bindC (envOfC qual scope s.heap.objs.size f cd).kindOf (ps.zip us) fun _=>none) s1) :
  Inv (lV CX P w K mg base N qual scope f cd A outer s H E) [] (start N vs) H s1:=by
 have hpl:ps.length <= N.length:=by have:=congrArg List.length S.pre; rw [List.length_take] at this; omega
 obtain ⟨h1,tk,rfl,hk⟩:=x.done
 have noA:∀ b:Addr,b ∉ (lV CX P w K mg base N qual scope f cd A outer s H E).ex:=fun b z=>absurd (show b ∈ ([]:List Addr) from z) (by simp)
 refine ⟨⟨e0.mod,S.kind,rfl,rfl,Nat.le_refl _,fun y z c h1 h2=>?_,fun y hy=>?_,fun y c _ h=>?_,fun _=>hd,Around.frames_deeper e0.frames,.inr ⟨rfl,rfl⟩,fun b z=>absurd z (noA b),e0.bs,e0.xE,fun b _ _=>noA b,fun b z=>absurd z (noA b),e0.jS,e0.zQ⟩,
  rfl,e0.bare,Un.kept hk,⟨_,x.toInCall.ns,fun i y v h1 h2 h3=>?_⟩,fun y c h=>⟨_,x.cell y c h⟩,e0.hok.fresh (Nat.le_refl _),fun y c h=>?_,fun p hp=>absurd (show p ∈ ([]:List (Addr × Obj)) from hp) (by simp),e0.hok.kept hk,?_⟩
 ·exact name_of_addr x.apart (PySem.mem_of_lookup h1) (PySem.mem_of_lookup h2)
 ·have hy:scope.names.lookup y=some .cell ∨ scope.names.lookup y=some .free:=hy
  rcases hy with hy | hy
  ·exact uq hy
  ·exact absurd rfl (S.ET _ (PySem.mem_of_lookup hy))
 ·exact Nat.le_of_lt (x.above y c (PySem.mem_of_lookup h))
 ·have hi:i < vs.length:=by
   unfold start at h2
   by_cases hi:i < vs.length
   ·exact hi
   ·rw [List.getElem?_append_right (by simpa using hi)] at h2
    rw [List.getElem?_replicate] at h2
    split at h2 <;> cases h2
  have ha:vs[i]?=some v:=by
   unfold start at h2
   rw [List.getElem?_append_left (by simpa using hi),List.getElem?_map] at h2
   cases e:vs[i]? with
   | none=>rw [e] at h2; cases h2
   | some a=>rw [e] at h2; cases h2; rfl
  obtain ⟨u,hu,rv⟩:=r.get ha
  have hp:ps[i]?=some y:=by
   rw [<- S.pre,List.getElem?_take_of_lt (by omega)]; exact h1
  have ndP:ps.Nodup:=by rw [<- S.pre]; exact S.nd.sublist (List.take_sublist _ _)
  refine ⟨u,rv,?_⟩
  rcases S.par y (List.mem_of_getElem? hp) with k | k
  ·exact .inl ⟨k,rq ndP hp hu k⟩
  ·obtain ⟨c,e⟩:=uq (n:=s.heap.objs.size + 1) k
   refine .inr ⟨.inl k,c,e,?_⟩
   have q:=x.cell y c e
   rw [rn ndP hp hu (by show scope.names.lookup y ≠ _; rw [k]; decide)] at q
   exact q
 ·exact e0.hok.fresh (Nat.le_of_lt (x.above y c (PySem.mem_of_lookup h)))
 ·unfold start
  show _=N.length
  rw [List.length_append,List.length_map,List.length_replicate]
  omega
theorem Ef {CX:zR}{P:Program}{w:World}{K:PySem.W.Frag}{mg:Str->Option Value}{base:Heap}{k:Nat}{f:Addr}{name qual:Str}{params:Arguments}{body:List Stmt}{scope:Scope}{dV kV doc pm cdv ct oc:Value}{an od:Option Addr}
  {osl:Array (Option Value)}{N ps:List Str}{sp:Sp} (lk:K.lookup f=some ⟨oc,od,.func (PySem.W.fnOf name qual params body scope dV kV doc pm an cdv ct),osl⟩) (hcd:PySem.W.codeIn K cdv qual=true) (S:a9 N ps scope)
  (len:∀ vs H Q E,sp vs H Q E->vs.length=ps.length)
  (hbody:∀ (A:Around) (outer:List Env) (s:Shared) (H:Hp) (vs:List V) (Q:VK) (E:XK),gh k (A.deeper (envOfC qual scope s.heap.objs.size f cdv))->sp vs H Q E ->
   ∃ t,lY (lV CX P w K mg base N qual scope f cdv A outer s H E) body t/\t { nx:=fun _ H'=>Q .cY H',rt:=Q } (start N vs) H) :
  nG P w K mg base CX (k + 1) f (PySem.W.fnOf name qual params body scope dV kV doc pm an cdv ct) ps sp:=by
 refine ⟨len,fun A outer s H args us vs Q E hr e0 hb r hsp=>?_⟩
 have hl:=len _ _ _ _ hsp
 have KX:K.In s.heap:=e0.mod.ES.keeps fun b o e=>(e0.bs b o e).1
 have lim:s.heap.NoLimit:=e0.mod.nolimit.keeps fun b o e=>(e0.bs b o e).1
 have hkind:∀ y ∈ ps.zip us,scope.names.lookup y.1=some .local ∨ (scope.names.lookup y.1=some .cell/\((cellsFrom (s.heap.objs.size + 1) scope.names []).lookup y.1).isSome=true):=fun ⟨n,v⟩ hy=>by
  rcases S.par n (List.of_mem_zip hy).1 with q | q
  ·exact .inl q
  ·exact .inr ⟨q,PySem.W.cellsFrom_some _ _ _ (.inl q)⟩
 refine codeAny_call_function hr.depth (KX _ _ lk) rfl S.co S.gen rfl (PySem.W.codeRec_of KX hcd) (hb _ _ _ _ ?_)
 refine wpAny_newFunctionEnv_cells S.kind hkind fun env he s1 x=>?_
 subst he
 refine ⟨lim.keeps x.toInCall.keep,codeAny_func ?_⟩
 obtain ⟨t,ht,hq⟩:=hbody A outer s H vs Q E (hr.deeper _) hsp
 have I:Inv (lV CX P w K mg base N qual scope f cdv A outer s H E) [] (start N vs) H s1:=rm S hr.hd e0 hl r x
 refine wpAny_mono (ht [] s1 (start N vs) H _ I hq) (fun fl s' hs=>?_) fun e s' hs=>hs
 have fin:∀ {σ':St}{H':Hp}{v:V}{u:Value},Inv (lV CX P w K mg base N qual scope f cdv A outer s H E) [] σ' H' s'->RelV v u->Q v H'->CE outer P w H s Q u s' :=
  fun {σ' H' v u} J rv q=>⟨v,H',J.os,J.bare,J.base,J.hok,rv,q⟩
 cases fl with
 | ret u =>
  obtain ⟨v,σ',H',J,rv,q⟩:=hs
  exact fin J rv q
 | next =>
  obtain ⟨σ',H',J,q⟩:=hs
  exact fin (v:=V.cY) (u:=Value.none) J rfl q
 | brk =>
  obtain ⟨_,_,_,q⟩:=hs
  exact False.elim q
 | cont =>
  obtain ⟨_,_,_,q⟩:=hs
  exact False.elim q
section
variable {X:Cx}{x:Str}{p pos:Pos}{e:Expr}{es:List Expr}{t:TA}{id T:String}{r:List V->Hp->VK->Prop}
def JF (r:List V->Hp->VK->Prop) (t:TA):TE:=fun σ H Q=>t σ H fun vs H1=>r vs H1 Q
theorem kR (hc:fJ X (.builtin id) r) (hg:Gl X x) (hm:X.mg x=none) (hv:bootBuiltins x=some (.builtin id)) (ha:PA X (e :: es) t) (hn:x ≠ "__name__" := by decide) (hdb:(x == ("__debug__" : Str))=false:=by decide)
  (he:starEach (e :: es) X.env=(false,eval e X.env) :: starEach es X.env:=by rfl) (hpl:(backTo pos (starEach es X.env)).any (·.1)=false:=by rfl):PE X (.Call (.Name x p) (e :: es) [] pos) (JF r t):=by
 intro pins s σ H Q I h
 refine wpAny_Call_Name_kw (jT I hg hm hv ?_ hn hdb)
 exact PyProof.Rows.callWith_builtin1 (fz (ha pos pins s σ H _ I h) fun us s1 hq5=>L2.ex5 hq5 fun vs H1 I1 r1 q1=>hc pins s1 σ H1 vs us Q I1 r1 q1) he hpl
theorem yH (hc:fJ X (.type T) r) (hg:Gl X x) (hm:X.mg x=none) (hv:bootBuiltins x=some (.type T)) (ha:PA X (e :: es) t) (hn:x ≠ "__name__" := by decide) (hdb:(x == ("__debug__" : Str))=false:=by decide)
  (he:starEach (e :: es) X.env=(false,eval e X.env) :: starEach es X.env:=by rfl) (hpl:(backTo pos (starEach es X.env)).any (·.1)=false:=by rfl):PE X (.Call (.Name x p) (e :: es) [] pos) (JF r t):=by
 intro pins s σ H Q I h
 refine wpAny_Call_Name_kw (jT I hg hm hv ?_ hn hdb)
 exact PyProof.Rows.callWith_type1 (fz (ha pos pins s σ H _ I h) fun us s1 hq5=>L2.ex5 hq5 fun vs H1 I1 r1 q1=>hc pins s1 σ H1 vs us Q I1 r1 q1) he hpl
end
end L2
namespace HT
open PySem PyProof.Rows
section
open PySem.SeqAt
open PySem.AutoSeq1 (wpAny_loadPart')
open PySem.MeetsSeq PySem.MeetsSeq2 PySem.MeetsSeq3
end
section
variable {prog:Program}{w:World}{A:Around}{E:Value->Shared->Prop}{s:Shared}
theorem CU {t b:Addr}{vs ws:List Value}{Q:Value->Shared->Prop} (ht:IsTup s.heap t vs.toArray) (hb:IsTup s.heap b ws.toArray) (hv:vs ≠ [])
  (h1:ws=[]->Q (.ref t) s) (h2:ws ≠ []->Q (.ref s.heap.objs.size) { s with heap:=s.heap.push { cls := .type "tuple",data := .seq (vs ++ ws).toArray } })
  (hsz:vs.length + ws.length <= sizeLine):wpAny (model prog w) A (binaryOp .Add (.ref t) (.ref b)) Q E s:=by
 obtain ⟨⟨cls,dd,data,sl⟩,ho,hc,n,hd⟩:=id ht
 obtain ⟨⟨cls2,dd2,data2,sl2⟩,ho2,hc2,n2,hd2⟩:=id hb
 simp only at hc hd hc2 hd2
 subst hc hd hc2 hd2
 have e:vs.toArray ++ ws.toArray=(vs ++ ws).toArray:=by simp
 by_cases hw:ws=[]
 ·exact concat_meets ⟨_,ho,rfl⟩ ⟨_,ho2,rfl⟩ noFill_tuple_add seq_tuple_add PySem.F.slot_tuple_add PySem.F.entry_tuple_add (PySem.F.args_tuple_add_2 _ _)
   (tuple_addW1 t b vs.toArray ws.toArray n n2 dd dd2 sl sl2 (by simpa using hv) (by simp [hw])) ⟨ho,ho2,h1 hw⟩
 ·refine concat_meets ⟨_,ho,rfl⟩ ⟨_,ho2,rfl⟩ noFill_tuple_add seq_tuple_add PySem.F.slot_tuple_add PySem.F.entry_tuple_add (PySem.F.args_tuple_add_2 _ _)
   (tuple_addW2 t b vs.toArray ws.toArray n n2 dd dd2 sl sl2 (by simpa using hv) (by simpa using hw) (by rw [List.size_toArray,List.size_toArray]; exact hsz)) ⟨ho,ho2,?_⟩
  rw [e]
  exact h2 hw
def fZ (n d:Nat):Option Int->Nat
 | none=>d
 | some v=>if v < 0 then (v + (n:Int)).toNat else min v.toNat n
theorem Fo (n d:Nat) (hd:d <= n) (o:Option Int):fZ n d o <= n:=by
 cases o with
 | none=>exact hd
 | some v =>
  show (if v < 0 then (v + (n:Int)).toNat else min v.toNat n) <= n
  by_cases hv:v < 0
  ·rw [if_pos hv]; omega
  ·rw [if_neg hv]; exact Nat.min_le_right _ _
theorem xJ (v:Int) (n d:Nat):(if v < 0 then max (v + (n:Int)) 0 else min v (n:Int))=((fZ n d (some v):Nat):Int):=by
 show (if v < 0 then max (v + (n:Int)) 0 else min v (n:Int))=(((if v < 0 then (v + (n:Int)).toNat else min v.toNat n):Nat):Int)
 by_cases hv:v < 0
 ·simp only [if_pos hv]; omega
 ·simp only [if_neg hv]; omega
theorem vY (lo hi:Option Int) (n:Nat):Builtin.Slice.sliceAdjust lo hi 1 (n:Int)=(((fZ n 0 lo:Nat):Int),((fZ n n hi:Nat):Int)):=by
 have h1:¬ ((1:Int) < 0):=by omega
 unfold Builtin.Slice.sliceAdjust
 simp only [h1,if_false]
 refine Prod.ext ?_ ?_
 ·cases lo with
  | none=>rfl
  | some v=>exact xJ v n 0
 ·cases hi with
  | none=>rfl
  | some v=>exact xJ v n n
theorem v9 (i j:Nat):Builtin.Slice.slicePlaces (i:Int) (j:Int) 1=j - i:=by
 unfold Builtin.Slice.slicePlaces
 have h1:(1:Int) > 0:=by omega
 simp only [h1,if_true,Int.ediv_one]
 split <;> omega
theorem pP {v:Value}{o:Option Int}{Q:Option Int->Shared->Prop} (p:IsPart v o) (h:Q o s):wpAny (model prog w) A (Builtin.Slice.slicePartIndex v) Q E s:=by
 cases p with
 | none=>exact slicePart_none h
 | int i t=>exact slicePart_int h
theorem nM {sl:Addr}{vl vu:Value}{lo hi:Option Int}{n:Nat}{Q:Int × Int × Nat->Shared->Prop} (hs:s.heap.IsSliceOf sl vl vu .none) (pl:IsPart vl lo) (pu:IsPart vu hi)
  (h:Q (((fZ n 0 lo:Nat):Int),1,fZ n n hi - fZ n 0 lo) s):wpAny (model prog w) A (Builtin.Slice.sliceApplied (.ref sl) (pure (n:Int))) Q E s:=by
 obtain ⟨os,hos,hcs,hds⟩:=id hs
 unfold Builtin.Slice.sliceApplied Builtin.Slice.sliceFields
 refine wpAny_bind (wpAny_bind (wpAny_field hos hds (x:=vl) rfl (wpAny_bind (wpAny_field hos hds (x:=vu) rfl (wpAny_bind (wpAny_field hos hds (x := .none) rfl (wpAny_pure ?_)))))))
 refine wpAny_bind (slicePart_none ?_)
 show wpAny _ _ (if ((1:Int) == 0)=true then _ else _) _ _ s
 rw [if_neg (by decide)]
 refine wpAny_bind (pP pl (wpAny_bind (pP pu (wpAny_bind (wpAny_pure ?_)))))
 show wpAny _ _ (match Builtin.Slice.sliceAdjust lo hi 1 (n:Int) with | (lo,hi)=>pure (lo,(1:Int),Builtin.Slice.slicePlaces lo hi 1)) _ _ s
 rw [vY lo hi n]
 show wpAny _ _ (pure (((fZ n 0 lo:Nat):Int),(1:Int),Builtin.Slice.slicePlaces ((fZ n 0 lo:Nat):Int) ((fZ n n hi:Nat):Int) 1)) _ _ s
 rw [v9]
 exact wpAny_pure h
theorem Af (xs:Array Value) (i k:Nat):((List.range k).filterMap fun (m:Nat)=>xs[((i:Int) + (m:Int) * 1).toNat]?).toArray=((xs.toList.drop i).take k).toArray:=by
 have e:(fun (m:Nat)=>xs[((i:Int) + (m:Int) * 1).toNat]?)=fun m=>xs[i + m]? := by
  funext m
  have:((i:Int) + (m:Int) * 1).toNat=i + m:=by omega
  rw [this]
 rw [e]
 have:=pick_run xs i k
 rw [List.filterMap_map] at this
 have e2:((fun x=>xs[x]?) ∘ fun x=>i + x)=fun m=>xs[i + m]? := rfl
 rw [e2] at this
 rw [this]
theorem mC {t sl:Addr}{items:Array Value}{vl vu:Value}{lo hi:Option Int}{Q:Value->Shared->Prop} (ht:IsTup s.heap t items) (hs:s.heap.IsSliceOf sl vl vu .none) (pl:IsPart vl lo) (pu:IsPart vu hi)
  (hw:¬ (fZ items.size 0 lo=0/\fZ items.size items.size hi=items.size))
  (h:Q (.ref s.heap.objs.size) { s with heap:=s.heap.push { cls := .type "tuple",data := .seq ((items.toList.drop (fZ items.size 0 lo)).take (fZ items.size items.size hi - fZ items.size 0 lo)).toArray } })
  (hsz:items.size <= sizeLine):wpAny (model prog w) A (getItem (.ref t) (.ref sl)) Q E s:=by
 have htake:sizeOk (.seq ((items.toList.drop (fZ items.size 0 lo)).take (fZ items.size items.size hi - fZ items.size 0 lo)).toArray):=by
  show ((items.toList.drop (fZ items.size 0 lo)).take (fZ items.size items.size hi - fZ items.size 0 lo)).toArray.size <= sizeLine
  rw [List.size_toArray,List.length_take,List.length_drop,Array.length_toList]
  omega
 have hj:fZ items.size items.size hi <= items.size:=Fo _ _ (Nat.le_refl _) hi
 obtain ⟨os,hos,hcs,hds⟩:=id hs
 have hTs:s.TypeIs (.ref sl) "slice" := ⟨os,hos,hcs⟩
 unfold getItem
 try with_reducible refine wpAny_holding ?_
 first | refine wpAny_bind (wpAny_pure ?_) | skip
 refine wpAny_bind (wpAny_sequenceKey ht.typeIs (by decide) ?_)
 refine wpAny_bind (wpAny_callSpecial?_slot (name:=Str.ofString "__getitem__") ht.typeIs PyProof.Rows.slot_tuple_getitem
  (wpAny_call_entry PyProof.Rows.slot_tuple_getitem ht.typeIs entry_tuple_getitem ?_ (args_tuple_getitem _ _)))
 show wpAny _ _ (Builtin.Tuple.tupleItemsOf (.ref t) >>= _) _ _ s
 refine wpAny_bind (tupleItemsOf_ ht ?_)
 refine wpAny_bind (wpAny_typeOf hTs ?_)
 rw [if_pos (by decide)]
 refine wpAny_bind (nM hs pl pu ?_)
 have hno:¬ ((((fZ items.size 0 lo:Nat):Int) == 0 && (1:Int) == 1 && (fZ items.size items.size hi - fZ items.size 0 lo) == items.size)=true):=by
  intro q
  rw [Bool.and_eq_true,Bool.and_eq_true] at q
  have q1:((fZ items.size 0 lo:Nat):Int)=0:=eq_of_beq q.1.1
  have q2:fZ items.size items.size hi - fZ items.size 0 lo=items.size:=eq_of_beq q.2
  exact hw ⟨by omega,by omega⟩
 show wpAny _ _ (if (((fZ items.size 0 lo:Nat):Int) == 0 && (1:Int) == 1 && (fZ items.size items.size hi - fZ items.size 0 lo) == items.size)=true then _ else _) _ _ s
 rw [if_neg hno,Af]
 first
  | exact wpAny_bind (m:=Builtin.Tuple.tupleExact _) (wpAny_newObj_type (wpAny_pure ⟨_,rfl,wpAny_pure h⟩) htake)
  | exact wpAny_bind (m:=Builtin.Tuple.tupleExact _) (wpAny_newObj_type (wpAny_bind (wpAny_pure (wpAny_pure ⟨_,rfl,wpAny_pure h⟩))) htake)
  | exact wpAny_bind (wpAny_bind (m:=Builtin.Tuple.tupleExact _) (wpAny_newObj_type (wpAny_pure (wpAny_pure ⟨_,rfl,wpAny_pure h⟩)) htake))
  | exact wpAny_bind (wpAny_bind (m:=Builtin.Tuple.tupleExact _) (wpAny_newObj_type (wpAny_pure ⟨_,rfl,wpAny_pure h⟩) htake))
end
end HT
namespace L2
open PySem PySem.Spec PyProof.Rows
abbrev TO:=St->Hp->(Option Int->Hp->Prop)->Prop
def PO (X:Cx) (e:Option Expr) (t:TO):Prop :=
 ∀ (pins:List (Addr × Obj)) (s:Shared) (σ:St) (H:Hp) (Q:Option Int->Hp->Prop),Inv X pins σ H s->t σ H Q ->
  wpAny (model X.prog X.w) X.A (evalPart e X.env) (fun u s'=>∃ o H',Inv X pins σ H' s'/\IsPart u o/\Q o H') X.xe s
def CQ:TO:=fun _ H Q=>Q none H
def Ho (t:TE):TO:=fun σ H Q=>t σ H fun x H1=>∃ i,x=.int i/\Q (some i) H1
theorem intsAre_of {ns:List Int}:∀ {us:List Value},Vals (ns.map V.int) us->IntsAre us ns:=by
 induction ns with
 | nil=>intro us r; rw [List.map_nil] at r; cases r; exact .nil
 | cons n ns ih =>
  intro us r
  rw [List.map_cons] at r
  cases r with
  | cons r1 r2 =>
   obtain ⟨t,e⟩:=r1
   subst e
   exact .cons n t (ih r2)
section
variable {X:Cx}{e:Expr}{te:TE}{lo hi:Option Expr}{tl th:TO}{pos p2:Pos}
theorem CY:PO X none CQ:=by
 intro pins s σ H Q I h
 rw [evalPart_none]
 exact wpAny_pure ⟨none,H,I,.none,h⟩
theorem C3 (h:PE X e te):PO X (some e) (Ho te):=by
 intro pins s σ H Q I hw
 rw [evalPart_some]
 refine fz (h pins s σ H _ I hw) fun u s1 hq5=>L2.ex5 hq5 fun x H1 I1 r1 q1=>?_
 obtain ⟨i,rfl,q⟩:=q1
 obtain ⟨t,rfl⟩:=r1
 exact ⟨some i,H1,I1,.int i t,q⟩
def Ep (X:Cx) (r:V->Option Int->Option Int->Hp->VK->Prop):Prop :=
 ∀ (pins:List (Addr × Obj)) (s:Shared) (σ:St) (H:Hp) (x:V) (v vl vu:Value) (lo hi:Option Int) (sl:Addr) (Q:VK),Inv X pins σ H s->RelV x v->s.heap.IsSliceOf sl vl vu .none->IsPart vl lo->IsPart vu hi->r x lo hi H Q ->
  ∃ T id,typeLookup (.type T) "__getitem__" = pure (some (.builtin id))/\s.TypeIs v T/\wpAny (model X.prog X.w) X.A (getItem v (.ref sl)) (EP X pins σ Q) X.xe s
theorem Ep.or {r r':V->Option Int->Option Int->Hp->VK->Prop} (h:Ep X r) (h':Ep X r'):Ep X (fun x lo hi H Q=>r x lo hi H Q ∨ r' x lo hi H Q):=by
 intro pins s σ H x v vl vu lo hi sl Q I rx hs pl pu q
 rcases q with q | q
 ·exact h pins s σ H x v vl vu lo hi sl Q I rx hs pl pu q
 ·exact h' pins s σ H x v vl vu lo hi sl Q I rx hs pl pu q
def JU (r:V->Option Int->Option Int->Hp->VK->Prop) (te:TE) (tl th:TO):TE:=fun σ H Q=>te σ H fun x H1=>tl σ H1 fun l H2=>th σ H2 fun u H3=>r x l u H3 Q
theorem Ae {r:V->Option Int->Option Int->Hp->VK->Prop} (hr:Ep X r) (he:PE X e te) (hl:PO X lo tl) (hu:PO X hi th):PE X (.Subscript e (.Slice lo hi none p2) pos) (JU r te tl th):=by
 intro pins s σ H Q I h
 refine Subscript_ (fz (he pins s σ H _ I h) fun v s1 hq5=>L2.ex5 hq5 fun x H1 I1 r1 q1=>?_)
 refine wpAny_Slice (fz (hl pins s1 σ H1 _ I1 q1) fun vl s2 hq5=>L2.ex5 hq5 fun l H2 I2 pl q2=>fz (hu pins s2 σ H2 _ I2 q2) fun vu s3 hq5=>L2.ex5 hq5 fun u H3 I3 pu q3=>?_)
 rw [evalPart_none]
 refine wpAny_pure ?_
 have I4:Inv X pins σ H3 { s3 with heap:=s3.heap.push { cls := .type "slice",data := .fields #[vl,vu,.none] } }:=I3.kept (t' := s3.toks) fun b ob q=>Heap.get?_push_of_some _ q
 obtain ⟨T,id,hT,ht,hg⟩:=hr pins { s3 with heap:=s3.heap.push { cls := .type "slice",data := .fields #[vl,vu,.none] } } σ H3 x v vl vu l u s3.heap.objs.size Q I4 r1 (Heap.IsSliceOf.new ..) pl pu q3
 show wpAny (model X.prog X.w) X.A (subscriptTail e (.Slice lo hi none p2) v (.ref s3.heap.objs.size)) (EP X pins σ Q) X.xe { s3 with heap:=s3.heap.push { cls := .type "slice",data := .fields #[vl,vu,.none] } }
 exact tail_any (ops := [.ref s3.heap.objs.size,v]) ht hT hg (by with_unfolding_all rfl)
def uv (xs:List V) (lo hi:Option Int):List V:=(xs.drop (HT.fZ xs.length 0 lo)).take (HT.fZ xs.length xs.length hi - HT.fZ xs.length 0 lo)
theorem oK (xs:List V) (lo hi:Option Int):(uv xs lo hi).length <= xs.length:=by
 unfold uv
 rw [List.length_take,List.length_drop]
 omega
def Jg (K:PySem.W.Frag):V->Option Int->Option Int->Hp->VK->Prop:=fun x lo hi H Q=>∃ a xs,x=.ref a/\jR K H a xs /\
 ¬ (HT.fZ xs.length 0 lo=0/\HT.fZ xs.length xs.length hi=xs.length)/\∀ p,H p=none->Q (.ref p) (upd H p (.tup (uv xs lo hi)))
theorem Fv:Ep X (Jg X.K):=by
 intro pins s σ H x v vl vu lo hi sl Q I rx hs pl pu h
 obtain ⟨a,xs,rfl,hx,hw,q⟩:=h
 cases rx
 obtain ⟨its,r,ht,hz⟩:=I.tuple hx
 have hlen:its.toArray.size=xs.length:=by rw [List.size_toArray]; exact r.length.symm
 refine ⟨"tuple",_,PyProof.Rows.slot_tuple_getitem.lookup,ht.typeIs,?_⟩
 refine HT.mC ht hs pl pu (by rw [hlen]; exact hw) ?_ (by rw [hlen]; exact hz)
 rw [hlen]
 refine ⟨.ref s.heap.objs.size,_,I.laid (t' := s.toks) (o := .tup (uv xs lo hi)) (fun b ob q=>Heap.get?_push_of_some _ q) (Nat.le_refl _) ?_,rfl,q _ (I.hok.fresh (Nat.le_refl _))⟩
 exact ⟨Nat.le_trans (oK xs lo hi) hz,_,(r.drop (HT.fZ xs.length 0 lo)).take (HT.fZ xs.length xs.length hi - HT.fZ xs.length 0 lo),um.new _ _⟩
def Ag (K:PySem.W.Frag):R2:=fun x y H Q=>∃ a b xs ys,x=.ref a/\y=.ref b/\jR K H a xs/\jR K H b ys/\xs ≠ []/\xs.length + ys.length <= sizeLine /\
 (ys=[]->Q (.ref a) H)/\(ys ≠ []->∀ p,H p=none->Q (.ref p) (upd H p (.tup (xs ++ ys))))
theorem Vals.jd {xs:List V}{us:List Value} (r:Vals xs us):us=[] ↔ xs=[]:=by
 cases r with
 | nil=>simp
 | cons _ _=>simp
theorem sU:lu X (binaryOp .Add) (Ag X.K):=by
 intro pins s σ H x y v u Q I rx ry h
 obtain ⟨a,b,xs,ys,rfl,rfl,ha,hb,hx,hz,q1,q2⟩:=h
 cases rx
 cases ry
 obtain ⟨its,r1,p1,_⟩:=I.tuple ha
 obtain ⟨its2,r2,p2,_⟩:=I.tuple hb
 refine HT.CU p1 p2 (fun z=>hx (r1.jd.mp z)) (fun z=>⟨.ref a,H,I,rfl,q1 (r2.jd.mp z)⟩) (fun z=>?_) (by rw [<- r1.length,<- r2.length]; exact hz)
 refine ⟨.ref s.heap.objs.size,_,I.laid (t' := s.toks) (o := .tup (xs ++ ys)) (fun b ob q=>Heap.get?_push_of_some _ q) (Nat.le_refl _) ?_,rfl,q2 (fun w=>z (r2.jd.mpr w)) _ (I.hok.fresh (Nat.le_refl _))⟩
 exact ⟨by rw [List.length_append]; exact hz,_,r1.append r2,um.new _ _⟩
end
def C2 (n:Nat) (i:Int):Option Nat:=if 0 <= i then (if i < n then some i.toNat else none) else if -(n:Int) <= i then some (i + n).toNat else none
def qM {α:Type} (xs:List α) (i:Int):Option α:=(C2 xs.length i).bind fun j=>xs[j]?
theorem CZ {n:Nat}{i:Int}{j:Nat} (h:C2 n i=some j):seqIndex? i n=some j/\j < n /\ -(n:Int) <= i/\i < n:=by
 unfold C2 at h
 by_cases h0:0 <= i
 ·rw [if_pos h0] at h
  by_cases h1:i < n
  ·rw [if_pos h1] at h
   have e:i.toNat=j:=Option.some.inj h
   exact ⟨by rw [seqIndex_of h0 h1,e],by omega,by omega,h1⟩
  ·rw [if_neg h1] at h; cases h
 ·rw [if_neg h0] at h
  by_cases h1 : -(n:Int) <= i
  ·rw [if_pos h1] at h
   have e:(i + n).toNat=j:=Option.some.inj h
   exact ⟨by rw [seqIndex_neg (by omega) h1,e],by omega,h1,by omega⟩
  ·rw [if_neg h1] at h; cases h
theorem sR {α:Type}{xs:List α}{i:Int}{v:α} (h:qM xs i=some v):∃ j,seqIndex? i xs.length=some j/\xs[j]?=some v/\j < xs.length /\ -(xs.length:Int) <= i/\i < xs.length:=by
 unfold qM at h
 cases e:C2 xs.length i with
 | none=>rw [e] at h; cases h
 | some j =>
  rw [e] at h
  obtain ⟨h1,h2,h3,h4⟩:=CZ e
  exact ⟨j,h1,h,h2,h3,h4⟩
theorem CW {α:Type}{xs:List α}{j:Nat}{v:α} (h:xs[j]?=some v):qM xs (j:Int)=some v:=by
 have hj:j < xs.length:=(List.getElem?_eq_some_iff.mp h).1
 have e:C2 xs.length (j:Int)=some j:=by
  unfold C2
  rw [if_pos (by omega),if_pos (by omega)]; simp
 unfold qM; rw [e]; exact h
def xK (b:Expr):Prop := ∀ o i,subscripted b false o i=operate [o,i] (getItem o i)
def CA (X:Cx) (r:R2):Prop :=
 ∀ (value slice:Expr) (pins:List (Addr × Obj)) (s:Shared) (σ:St) (H:Hp) (x y:V) (v u:Value) (Q:VK),Inv X pins σ H s->RelV x v->RelV y u->r x y H Q ->
  subscripted slice false v u=operate [v,u] (getItem v u)->wpAny (model X.prog X.w) X.A (subscriptTail value slice v u) (EP X pins σ Q) X.xe s
def JW (X:Cx) (id:String) (r:V->List V->Hp->VK->Prop):Prop :=
 ∀ (pins:List (Addr × Obj)) (s:Shared) (σ:St) (H:Hp) (x:V) (xs:List V) (v:Value) (us:List Value) (Q:VK),Inv X pins σ H s->RelV x v->Vals xs us->r x xs H Q ->
  wpAny (model X.prog X.w) X.A (call (.builtin id) (v :: us)) (EP X pins σ Q) X.xe s
section
variable {X:Cx}{a b:Expr}{ta tb:TE}{pos:Pos}
theorem CA.or {r r':R2} (h:CA X r) (h':CA X r'):CA X (fun x y H Q=>r x y H Q ∨ r' x y H Q):=by
 intro value slice pins s σ H x y v u Q I rx ry q hs
 rcases q with q | q
 ·exact h value slice pins s σ H x y v u Q I rx ry q hs
 ·exact h' value slice pins s σ H x y v u Q I rx ry q hs
theorem Hk {r:R2} (hr:CA X r) (ha:PE X a ta) (hb:PE X b tb) (hs:xK b):PE X (.Subscript a b pos) (Iq r ta tb):=by
 intro pins s σ H Q I h
 exact Subscript_ (E3 ha hb I h fun v u s2 x y H2 I2 rx ry q=>hr a b pins s2 σ H2 x y v u Q I2 rx ry q (hs _ _))
def Hr (K:PySem.W.Frag):R2:=fun x y H Q=>∃ p xs i v,x=.ref p/\y=.int i/\gI K H p xs/\qM xs i=some v/\Q v H
def Hq (K:PySem.W.Frag):R2:=fun x y H Q=>∃ p xs i v,x=.ref p/\y=.int i/\jR K H p xs/\qM xs i=some v/\Q v H
def Hm:R2:=fun x y H Q=>∃ z i c,x=.str z/\y=.int i/\z.length <= sizeLine/\qM z.cps.toList i=some c/\Q (.str ⟨#[c]⟩) H
theorem CT:CA X (Hr X.K):=by
 intro value slice pins s σ H x y v u Q I rx ry h hs
 obtain ⟨p,xs,i,z,rfl,rfl,hq,he,q⟩:=h
 cases rx
 obtain ⟨t,rfl⟩:=ry
 obtain ⟨its,r,pl,hz⟩:=I.list hq
 obtain ⟨j,h1,h2,h3,h4,h5⟩:=sR he
 obtain ⟨w,ew,rw'⟩:=r.get h2
 have hl:=r.length
 have hn:=pN
 have fin:EP X pins σ Q w s:=⟨z,H,I,rw',q⟩
 by_cases h0:0 <= i
 ·have hj:i.toNat=j:=by
   rw [seqIndex_of h0 h5] at h1
   exact Option.some.inj h1
  exact item_listR pl.isList h0 (by omega) (by rw [hj]; simpa using ew) fin hs
 ·have hj:(i + (its.toArray.size:Int)).toNat=j:=by
   rw [seqIndex_neg (by omega) h4] at h1
   rw [List.size_toArray,<- hl]
   exact Option.some.inj h1
  exact subscriptTail_builtinR (x:=w) pl.isList.typeIs slot_list_getitem.lookup
   (wpAny_getItem_list_neg (Q:=fun r s'=>r=w/\EP X pins σ Q r s') pl.isList (by omega) (by rw [List.size_toArray] <;> omega) (by omega) (by rw [hj]; simpa using ew) ⟨rfl,fin⟩) hs
theorem jm:CA X (Hq X.K):=by
 intro value slice pins s σ H x y v u Q I rx ry h hs
 obtain ⟨p,xs,i,z,rfl,rfl,hq,he,q⟩:=h
 cases rx
 obtain ⟨t,rfl⟩:=ry
 obtain ⟨its,r,pl,hz⟩:=I.tuple hq
 obtain ⟨j,h1,h2,h3,h4,h5⟩:=sR he
 obtain ⟨w,ew,rw'⟩:=r.get h2
 have hl:=r.length
 have hn:=pN
 have fin:EP X pins σ Q w s:=⟨z,H,I,rw',q⟩
 exact subscriptTail_builtinR (x:=w) pl.typeIs slot_tuple_getitem.lookup
  (getItem_tuple (j:=j) (Q:=fun r s'=>r=w/\EP X pins σ Q r s') pl (by omega) (by omega) (by rw [List.size_toArray,<- hl]; exact h1) (by simpa using ew) ⟨rfl,fin⟩) hs
theorem Ft:CA X Hm:=by
 intro value slice pins s σ H x y v u Q I rx ry h hs
 obtain ⟨z,i,c,rfl,rfl,hz,he,q⟩:=h
 obtain ⟨t,rfl⟩:=rx
 obtain ⟨t',rfl⟩:=ry
 obtain ⟨j,h1,h2,h3,h4,h5⟩:=sR he
 have hl:z.cps.toList.length=z.length:=by simp [Str.length]
 rw [hl] at h1 h4 h5
 have hn:=pN
 exact tail_any (typeIs_str s z t) slot_str_getitem.lookup (getItem_str (c:=c) (by
  have e1:decide (i < -(2 ^ 63:Int))=false:=decide_eq_false (by omega)
  have e2:decide (i ≥ 2 ^ 63)=false:=decide_eq_false (by omega)
  rw [e1,e2,Bool.or_false]) (by rw [h1]; simpa using h2) ⟨.str ⟨#[c]⟩,H,I.tok _,⟨_,rfl⟩,q⟩) hs
def JJ (K:PySem.W.Frag):R2:=fun x y H Q=>Hr K x y H Q ∨ Hq K x y H Q ∨ Hm x y H Q
theorem au:CA X (JJ X.K):=CT.or (jm.or Ft)
theorem sN (lo hi:Option Int) (n:Nat):(sliceBounds lo hi none n).1=((HT.fZ n 0 lo:Nat):Int)/\(sliceBounds lo hi none n).2.1=((HT.fZ n n hi:Nat):Int)/\(sliceBounds lo hi none n).2.2=1:=by
 refine ⟨?_,?_,rfl⟩
 ·cases lo with
  | none=>simp [sliceBounds,HT.fZ]
  | some i =>
   simp only [sliceBounds,HT.fZ,Option.getD_none,show (1:Int) > 0 by decide,if_true]
   by_cases h:i < 0
   ·simp only [h,if_true] <;> omega
   ·simp only [h,if_false] <;> omega
 ·cases hi with
  | none=>simp [sliceBounds,HT.fZ]
  | some i =>
   simp only [sliceBounds,HT.fZ,Option.getD_none,show (1:Int) > 0 by decide,if_true]
   by_cases h:i < 0
   ·simp only [h,if_true] <;> omega
   ·simp only [h,if_false] <;> omega
theorem qL (its:List Value) (lo hi:Option Int):slicePick its.toArray lo hi none=((its.drop (HT.fZ its.length 0 lo)).take (HT.fZ its.length its.length hi - HT.fZ its.length 0 lo)).toArray:=by
 obtain ⟨h1,h2,h3⟩:=sN lo hi its.toArray.size
 unfold slicePick
 rw [h1,h2,h3]
 simp only [sliceRange_one,pick_run,List.size_toArray] <;> rfl
def Jh (K:PySem.W.Frag):V->Option Int->Option Int->Hp->VK->Prop:=fun x lo hi H Q=>∃ a xs,x=.ref a/\gI K H a xs/\∀ p,H p=none->Q (.ref p) (upd H p (.lst (uv xs lo hi)))
theorem CV:Ep X (Jh X.K):=by
 intro pins s σ H x v vl vu lo hi sl Q I rx hs pl pu h
 obtain ⟨a,xs,rfl,hx,q⟩:=h
 cases rx
 obtain ⟨its,r,ht,hz⟩:=I.list hx
 have hlen:=r.length
 refine ⟨"list",_,slot_list_getitem.lookup,ht.isList.typeIs,?_⟩
 refine wpAny_getItem_list_slice ht.isList hs pl pu .none (by simp) ?_ (by rw [List.size_toArray] <;> omega)
 rw [qL,<- hlen]
 refine ⟨.ref s.heap.objs.size,_,I.laid (t' := s.toks) (o := .lst (uv xs lo hi)) (fun b ob q=>Heap.get?_push_of_some _ q) (Nat.le_refl _) ?_,rfl,q _ (I.hok.fresh (Nat.le_refl _))⟩
 exact ⟨Nat.le_trans (oK xs lo hi) hz,_,0,(r.drop (HT.fZ xs.length 0 lo)).take (HT.fZ xs.length xs.length hi - HT.fZ xs.length 0 lo),Heap.get?_push_size _ rfl⟩
def lZ:V->Bool
 | .cY=>true
 | .bl _=>true
 | .int _=>true
 | .str _=>true
 | _=>false
def CB:V->V->Bool
 | .cY,.cY=>true
 | .bl a,.bl b=>a == b
 | .bl a,.int b=>(if a then 1 else 0) == b
 | .int a,.bl b=>a == (if b then 1 else 0)
 | .int a,.int b=>a == b
 | .str a,.str b=>a == b
 | _,_=>false
theorem Fp {A:Around}{s:Shared}{y x:V}{u v:Value} (ry:RelV y u) (rx:RelV x v) (fy:lZ y=true) (fx:lZ x=true):SeqAt.EqAt A s u v (CB y x):=by
 cases y with
 | cY =>
  cases ry
  cases x with
  | cY=>cases rx; exact SeqAt.EqAt.same _
  | bl b=>cases rx; exact SeqAt.EqAt.none_bool b
  | int b=>obtain ⟨t,rfl⟩:=rx; exact SeqAt.EqAt.none_int b t
  | str b=>obtain ⟨t,rfl⟩:=rx; exact SeqAt.EqAt.none_str b t
  | _=>exact absurd (show false=true from fx) Bool.false_ne_true
 | bl a =>
  cases ry
  cases x with
  | cY=>cases rx; exact SeqAt.EqAt.bool_none a
  | bl b=>cases rx; exact SeqAt.EqAt.bool_bool a b
  | int b=>obtain ⟨t,rfl⟩:=rx; exact SeqAt.EqAt.bool_int a b t
  | str b=>obtain ⟨t,rfl⟩:=rx; exact SeqAt.EqAt.bool_str a b t
  | _=>exact absurd (show false=true from fx) Bool.false_ne_true
 | int a =>
  obtain ⟨t',rfl⟩:=ry
  cases x with
  | cY=>cases rx; exact SeqAt.EqAt.int_none a t'
  | bl b=>cases rx; exact SeqAt.EqAt.int_bool a t' b
  | int b=>obtain ⟨t,rfl⟩:=rx; exact SeqAt.EqAt.int_int a t' b t
  | str b=>obtain ⟨t,rfl⟩:=rx; exact SeqAt.EqAt.int_str a t' b t
  | _=>exact absurd (show false=true from fx) Bool.false_ne_true
 | str a =>
  obtain ⟨t',rfl⟩:=ry
  cases x with
  | cY=>cases rx; exact SeqAt.EqAt.str_none a t'
  | bl b=>cases rx; exact SeqAt.EqAt.str_bool a t' b
  | int b=>obtain ⟨t,rfl⟩:=rx; exact SeqAt.EqAt.str_int a t' b t
  | str b=>obtain ⟨t,rfl⟩:=rx; exact SeqAt.EqAt.str_str a t' b t
  | _=>exact absurd (show false=true from fx) Bool.false_ne_true
 | _=>exact absurd (show false=true from fy) Bool.false_ne_true
def vZ (x:V) (u:Value):Bool:=match u with
 | .none=>CB .cY x
 | .bool b=>CB (.bl b) x
 | .int i _=>CB (.int i) x
 | .str z _=>CB (.str z) x
 | _=>false
theorem Ad {x y:V}{u:Value} (r:RelV y u) (f:lZ y=true):vZ x u=CB y x:=by
 cases y with
 | cY=>cases r; rfl
 | bl b=>cases r; rfl
 | int i=>obtain ⟨t,rfl⟩:=r; rfl
 | str z=>obtain ⟨t,rfl⟩:=r; rfl
 | _=>exact absurd (show false=true from f) Bool.false_ne_true
theorem mD {x:V}:∀ {xs:List V}{us:List Value},Vals xs us->xs.all lZ=true->us.any (vZ x)=xs.any fun y=>CB y x
 | _,_,.nil,_=>rfl
 | y :: xs,u :: us,.cons r t,f=>by
  rw [List.all_cons,Bool.and_eq_true] at f
  rw [List.any_cons,List.any_cons,Ad r f.1,mD t f.2]
theorem kU {A:Around}{s:Shared}{x:V}{v:Value} (rx:RelV x v) (fx:lZ x=true):∀ {xs:List V}{us:List Value},Vals xs us->xs.all lZ=true->∀ u ∈ us,SeqAt.EqAt A s u v (vZ x u)
 | _,_,.nil,_=>fun u hu=>by cases hu
 | y :: xs,u :: us,.cons r t,f=>fun u' hu=>by
  rw [List.all_cons,Bool.and_eq_true] at f
  rcases List.mem_cons.mp hu with rfl | hu
  ·rw [Ad r f.1]; exact Fp r rx f.1 fx
  ·exact kU rx fx t f.2 u' hu
def Ir (x:V) (xs:List V):Bool:=xs.any fun y=>CB y x
def Jf (K:PySem.W.Frag) (neg:Bool):R2:=fun x y H Q=>∃ p xs,y=.ref p/\(gI K H p xs ∨ jR K H p xs)/\lZ x=true/\xs.all lZ=true/\Q (.bl (if neg then !Ir x xs else Ir x xs)) H
theorem nK:lu X (compareOp .In) (Jf X.K false):=by
 intro pins s σ H x y v u Q I rx ry h
 obtain ⟨p,xs,rfl,hq,fx,fs,q⟩:=h
 cases ry
 rcases hq with hq | hq
 ·obtain ⟨its,r,pl,hz⟩:=I.list hq
  refine SeqAt.in_listAt (vZ x) pl.isList (fun w hw=>kU rx fx r fs w (by simpa using hw)) ⟨.bl _,H,I,rfl,?_⟩
  rw [show its.toArray.any (vZ x)=its.any (vZ x) by simp,mD r fs]
  exact q
 ·obtain ⟨its,r,pl,hz⟩:=I.tuple hq
  refine SeqAt.in_tupleAt (vZ x) pl (fun w hw=>kU rx fx r fs w (by simpa using hw)) ⟨.bl _,H,I,rfl,?_⟩
  rw [show its.toArray.any (vZ x)=its.any (vZ x) by simp,mD r fs]
  exact q
theorem jX:lu X (compareOp .NotIn) (Jf X.K true):=by
 intro pins s σ H x y v u Q I rx ry h
 obtain ⟨p,xs,rfl,hq,fx,fs,q⟩:=h
 cases ry
 rcases hq with hq | hq
 ·obtain ⟨its,r,pl,hz⟩:=I.list hq
  refine SeqAt.notIn_listAt (vZ x) pl.isList (fun w hw=>kU rx fx r fs w (by simpa using hw)) ⟨.bl _,H,I,rfl,?_⟩
  rw [show its.toArray.any (vZ x)=its.any (vZ x) by simp,mD r fs]
  exact q
 ·obtain ⟨its,r,pl,hz⟩:=I.tuple hq
  refine SeqAt.notIn_tupleAt (vZ x) pl (fun w hw=>kU rx fx r fs w (by simpa using hw)) ⟨.bl _,H,I,rfl,?_⟩
  rw [show its.toArray.any (vZ x)=its.any (vZ x) by simp,mD r fs]
  exact q
theorem sO:fJ X (.builtin "len") (fun xs H Q=>∃ p ys,xs=[.ref p]/\(gI X.K H p ys ∨ jR X.K H p ys)/\Q (.int ys.length) H):=by
 intro pins s σ H xs us Q I r h
 obtain ⟨p,ys,rfl,hq,q⟩:=h
 obtain ⟨u,rfl,rx⟩:=vals1 r
 cases rx
 have hn:=pN
 rcases hq with hq | hq
 ·obtain ⟨its,r',pl,hz⟩:=I.list hq
  have hlen:=r'.length
  exact Calls.call_len_list pl.isList (by simp only [List.size_toArray] <;> omega) ⟨.int ys.length,H,I.tok _,⟨s.toks + 1,by rw [List.size_toArray,hlen]⟩,q⟩
 ·obtain ⟨its,r',pl,hz⟩:=I.tuple hq
  have hlen:=r'.length
  exact len_tuple pl (by simp only [List.size_toArray] <;> omega) ⟨.int ys.length,H,I.tok _,⟨s.toks + 1,by rw [List.size_toArray,hlen]⟩,q⟩
theorem sQ:fJ X (.builtin "len") (fun xs H Q=>∃ z,xs=[.str z]/\z.length <= sizeLine/\Q (.int z.length) H):=by
 intro pins s σ H xs us Q I r h
 obtain ⟨z,rfl,hz,q⟩:=h
 obtain ⟨u,rfl,t,rfl⟩:=vals1 r
 have hn:=pN
 exact len_str (by omega) ⟨.int z.length,H,I.tok _,⟨_,rfl⟩,q⟩
theorem fJ.or {f:Value}{r r':List V->Hp->VK->Prop} (h:fJ X f r) (h':fJ X f r'):fJ X f (fun xs H Q=>r xs H Q ∨ r' xs H Q):=by
 intro pins s σ H xs us Q I rs q
 rcases q with q | q
 ·exact h pins s σ H xs us Q I rs q
 ·exact h' pins s σ H xs us Q I rs q
theorem jY:fJ X (.type "list") (fun xs H Q=>∃ p ys,xs=[.ref p]/\(gI X.K H p ys ∨ jR X.K H p ys)/\∀ l,H l=none->Q (.ref l) (upd H l (.lst ys))):=by
 intro pins s σ H xs us Q I r h
 obtain ⟨p,ys,rfl,hq,q⟩:=h
 obtain ⟨u,rfl,rx⟩:=vals1 r
 cases rx
 have fin:∀ (its:List Value),Vals ys its->ys.length <= sizeLine->∀ (h':Heap) (c':Nat),(∀ b o',s.heap.get? b=some o'->h'.get? b=some o') ->
   h'.get? s.heap.objs.size=some { cls := .type "list",dict:=none,data := .seq its.toArray c',slots := #[] }->EP X pins σ Q (.ref s.heap.objs.size) { s with heap:=h' }:=fun its r' hz h' c' kp e =>
  ⟨.ref s.heap.objs.size,_,I.laid (t' := s.toks) kp (Nat.le_refl _) (show di X.prog X.w _ h' _ (.lst ys) from ⟨hz,its,c',r',e⟩),rfl,q _ (I.hok.fresh (Nat.le_refl _))⟩
 rcases hq with hq | hq
 ·obtain ⟨its,r',pl,hz⟩:=I.list hq
  have hlen:=r'.length
  obtain ⟨o,ho,hc,n,hd⟩:=pl.isList
  exact call_list_seq p (.inl rfl) ho hc hd (fun h' c' kp e=>fin its r' hz h' c' kp e) (by simp only [List.size_toArray] <;> omega)
 ·obtain ⟨its,r',pl,hz⟩:=I.tuple hq
  have hlen:=r'.length
  obtain ⟨o,ho,hc,n,hd⟩:=pl
  exact call_list_seq p (.inr rfl) ho hc hd (fun h' c' kp e=>fin its r' hz h' c' kp e) (by simp only [List.size_toArray] <;> omega)
theorem cL:fJ X (.type "tuple") (fun xs H Q=>∃ p ys,xs=[.ref p]/\((gI X.K H p ys/\∀ l,H l=none->Q (.ref l) (upd H l (.tup ys))) ∨ (jR X.K H p ys/\Q (.ref p) H))):=by
 intro pins s σ H xs us Q I r h
 obtain ⟨p,ys,rfl,h⟩:=h
 obtain ⟨u,rfl,rx⟩:=vals1 r
 cases rx
 rcases h with ⟨hq,q⟩ | ⟨hq,q⟩
 ·obtain ⟨its,r',pl,hz⟩:=I.list hq
  have hlen:=r'.length
  refine call_tuple_list pl.isList (fun h' kp=>?_) (by simp only [List.size_toArray] <;> omega)
  have I1:Inv X pins σ H { s with heap:=h' }:=I.kept (t' := s.toks) kp
  have I2:Inv X pins σ (upd H h'.objs.size (.tup ys)) { s with heap:=h'.push { cls := .type "tuple",data := .seq its.toArray } } :=
   I1.laid (t' := s.toks) (fun b o e=>Heap.get?_push_of_some _ e) (Nat.le_refl _) (show di X.prog X.w _ _ _ (.tup ys) from ⟨hz,its,r',um.new _ _⟩)
  exact ⟨.ref h'.objs.size,_,I2,rfl,q _ (I1.hok.fresh (Nat.le_refl _))⟩
 ·obtain ⟨its,r',pl,hz⟩:=I.tuple hq
  exact call_tuple_same pl ⟨.ref p,H,I,rfl,q⟩
def JK (K:PySem.W.Frag) (T:String) (x:V) (H:Hp):Prop:=match x with
 | .str _=>T = "str"
 | .int _=>T = "int"
 | .ref p=>(T = "list" /\ ∃ xs,gI K H p xs) ∨ (T = "tuple" /\ ∃ o,K.lookup p=some o/\o.cls=.type "tuple" /\ o.dict=none) ∨
   (T = "dict" /\ ((∃ kvs,H p=some (.dK kvs)) ∨ ∃ kvs,H p=some (.dT kvs))) ∨ (T = "set" /\ ∃ S n,H p=some (.set S n))
 | _=>False
theorem Fq {pins:List (Addr × Obj)}{σ:St}{H:Hp}{s:Shared}{T:String}{x:V}{v:Value} (I:Inv X pins σ H s) (r:RelV x v) (ty:JK X.K T x H) :
  s.TypeIs v T/\∀ a,v=.ref a->∃ ob,s.heap.get? a=some ob/\ob.dict=none:=by
 cases x with
 | str z =>
  obtain ⟨t,rfl⟩:=r
  cases (show T = "str" from ty)
  exact ⟨typeIs_str s z t,fun _ e=>nomatch e⟩
 | int i =>
  obtain ⟨t,rfl⟩:=r
  cases (show T = "int" from ty)
  exact ⟨typeIs_int s i t,fun _ e=>nomatch e⟩
 | ref p =>
  cases r
  rcases ty with ⟨rfl,xs,hq⟩ | ⟨rfl,o,hk,hc,hd⟩ | ⟨rfl,hk⟩ | ⟨rfl,S,n,hk⟩
  ·obtain ⟨its,_,pl,_⟩:=I.list hq
   refine ⟨pl.isList.typeIs,fun a e=>?_⟩
   cases e
   obtain ⟨o,n,e,c,hd,_⟩:=pl
   exact ⟨o,e,hd⟩
  ·refine ⟨⟨o,I.nD p o hk,hc⟩,fun a e=>?_⟩
   cases e
   exact ⟨o,I.nD _ o hk,hd⟩
  ·have z:∃ o,s.heap.get? p=some o/\o.ExactDict:=by
    rcases hk with ⟨kvs,hk⟩ | ⟨kvs,hk⟩
    ·obtain ⟨_,_,_,_,o,_,_,e,ex,_⟩:=I.hok p _ hk
     exact ⟨o,e,ex⟩
    ·obtain ⟨_,_,_,_,o,_,_,e,ex,_⟩:=I.hok p _ hk
     exact ⟨o,e,ex⟩
   obtain ⟨o,e,ex⟩:=z
   refine ⟨⟨o,e,ex.1⟩,fun a e2=>?_⟩
   cases e2
   exact ⟨o,e,ex.2.1⟩
  ·obtain ⟨o,_,_,_,e,ex,_⟩:=I.hok p _ hk
   refine ⟨⟨o,e,ex.1⟩,fun a e2=>?_⟩
   cases e2
   exact ⟨o,e,ex.2.1⟩
 | _=>exact False.elim ty
def JV (K:PySem.W.Frag) (T:String) (r:V->List V->Hp->VK->Prop) (to:TE) (t:TA):TE:=fun σ H Q=>to σ H fun x H1=>JK K T x H1/\t σ H1 fun xs H2=>r x xs H2 Q
variable {o e:Expr}{es:List Expr}{to:TE}{t:TA}{name:Str}{apos cpos:Pos}{T id:String}{r:V->List V->Hp->VK->Prop}
theorem Hl (pa:PlainAttrs T) (slot:Slot T name id) (hty:typeOf (.builtin id)=pure (.type "method_descriptor")) (hm:JW X id r) (ho:PE X o to) (ha:PA X (e :: es) t)
  (hbase:attributeBase o name X.env (eval o X.env)=eval o X.env:=by rfl)
  (hfew:((backTo cpos (starEach (e :: es) X.env)).all (fun x=>!x.1) && (backToKw cpos (keywordEach [] X.env)).all (fun x=>x.1.isSome)
   && decide ((e :: es).length + ([]:List Keyword).length + (if ([]:List Keyword).isEmpty then 0 else 1) < 30))=true:=by rfl)
  (hline:(apos.endLine == cpos.line)=true:=by rfl) (hs:starEach (e :: es) X.env=(false,eval e X.env) :: starEach es X.env:=by rfl) (hplain:(backTo cpos (starEach es X.env)).any (·.1)=false:=by rfl) :
  PE X (.Call (.Attribute o name apos) (e :: es) [] cpos) (JV X.K T r to t):=by
 intro pins s σ H Q I h
 refine wpAny_Call_method_late hbase hfew hline rfl (fz (ho pins s σ H _ I h) fun v s1 ⟨x,H1,I1,r1,ty,q1⟩=>?_)
 obtain ⟨h1,h2⟩:=Fq I1 r1 ty
 refine ⟨T,id,pa,slot,hty,h1,h2,?_⟩
 have hA:=ha cpos pins s1 σ H1 _ I1 q1
 rw [hs] at hA ⊢
 refine Calls.callWith_builtin (by show (false || (backTo cpos (starEach es X.env)).any (·.1))=false; rw [hplain] <;> rfl) (Calls.evalArgs_plain ?_)
 exact fz hA fun us s2 hq5=>L2.ex5 hq5 fun vs H2 I2 r2 q2=>hm pins s2 σ H2 x vs v us Q I2 r1 r2 q2
end
def JX (X:Cx) (id:String) (r:V->List V->Hp->VK->Prop):Prop :=
 ∀ (pins:List (Addr × Obj)) (s:Shared) (σ:St) (H:Hp) (x:V) (xs:List V) (v:Value) (us:List Value) (Q:VK),Inv X pins σ H s->RelV x v->Vals xs us->r x xs H Q ->
  wpAny (model X.prog X.w) X.A (call (.builtin id) (v :: us)) (EP X pins σ Q) X.xe s
theorem Vals.one {x:V}{us:List Value} (h:Vals [x] us):∃ u,us=[u]/\RelV x u:=by
 cases h with
 | cons r h=>cases h; exact ⟨_,rfl,r⟩
section
variable {X:Cx}{pins:List (Addr × Obj)}{σ:St}{H:Hp}{s:Shared}{l b:Addr}{xs ys zs:List V}
theorem Inv.Je {its its':List Value}{n:Nat}{f:Array Value->Array Value}{t':Nat} (I:Inv X pins σ H s) (hH:H l=some (.lst xs))
  (e:s.heap.get? l=some { cls := .type "list",data := .seq its.toArray n }) (hf:f its.toArray=its'.toArray) (hv:Vals ys its') (hz:ys.length <= sizeLine) :
  Inv X pins σ (upd H l (.lst ys)) { s with heap:=s.heap.update l (Obj.mapSeq f),toks:=t' }:=by
 have q:=PySem.IsL.update e f
 rw [hf] at q
 refine I.write (x:=l) (e:=l) (by rw [hH]; exact trivial) (.inl rfl) (fun b' u hb hu=>(Heap.get?_update_other s.heap (Obj.mapSeq f) (Ne.symm hb)).trans hu) ⟨_,q⟩ ?_
 exact ⟨hz,its',_,hv,q⟩
theorem Inv.Hn {its:List Value}{t':Nat} (I:Inv X pins σ H s) (hv:Vals ys its) (hz:ys.length <= sizeLine) :
  Inv X pins σ (upd H s.heap.objs.size (.lst ys)) { s with heap:=s.heap.push { cls := .type "list",data := .seq its.toArray },toks:=t' } :=
 I.laid (fun _ _ q=>Heap.get?_push_of_some _ q) (Nat.le_refl _) ⟨hz,its,0,hv,Heap.get?_push_size _ rfl⟩
theorem Inv.fresh (I:Inv X pins σ H s):H s.heap.objs.size=none:=I.hok.fresh (Nat.le_refl _)
theorem Inv.Jd (I:Inv X pins σ H s) (hH:H l=some (.lst xs)):xs.length <= sizeLine/\∃ (its:List Value) (n:Nat),Vals xs its/\xs.length=its.length/\s.heap.get? l=some { cls := .type "list",data := .seq its.toArray n }:=by
 obtain ⟨z,its,n,r,e⟩:=I.hok l _ hH
 exact ⟨z,its,n,r,r.length,e⟩
end
section
variable {X:Cx}
def C1:V->List V->Hp->VK->Prop:=fun x vs H Q=>∃ l xs y,x=.ref l/\vs=[y]/\H l=some (.lst xs)/\xs.length < sizeLine/\Q .cY (upd H l (.lst (xs ++ [y])))
theorem rE:JX X "list.append" C1:=by
 intro pins s σ H x vs v us Q I rx rv h
 obtain ⟨l,xs,y,rfl,rfl,hH,hz,q⟩:=h
 cases rx
 obtain ⟨u,rfl,ru⟩:=rv.one
 obtain ⟨z,its,n,r,hl,e⟩:=I.Jd hH
 refine call_meets F.slot_list_append ⟨_,e,rfl⟩ F.entry_list_append (F.args_list_append_2 _ _) (PySem.list_append l its.toArray n u (by rw [List.size_toArray]; omega)) ⟨e,?_⟩
 refine ⟨.cY,_,I.Je (its' := its ++ [u]) hH e (by simp) (r.append (.cons ru .nil)) ?_,rfl,q⟩
 rw [List.length_append,List.length_singleton]
 omega
end
section
variable {prog:Program}{w:World}{A:Around}{E:Value->Shared->Prop}{s:Shared}
end
section
variable {X:Cx}
end
section
variable {κ:Type} [DecidableEq κ]
def mE (kvs:List (κ × V)) (k:κ):Option V:=(kvs.find? fun kv=>decide (kv.1=k)).map (·.2)
def putK (kvs:List (κ × V)) (k:κ) (v:V):List (κ × V) :=
 if (kvs.any fun kv=>decide (kv.1=k))=true then kvs.map (fun kv=>if kv.1=k then (kv.1,v) else kv) else kvs ++ [(k,v)]
theorem mF {p:κ × V}{r:List (κ × V)}{k:κ} (e:p.1=k):mE (p :: r) k=some p.2:=by simp [mE,List.find?_cons,e]
theorem kW {p:κ × V}{r:List (κ × V)}{k:κ} (e:¬ p.1=k):mE (p :: r) k=mE r k:=by simp [mE,List.find?_cons,e]
theorem uB (k:κ):∀ kvs:List (κ × V),(kvs.any fun kv=>decide (kv.1=k))=(mE kvs k).isSome
 | []=>rfl
 | p :: r=>by
  rw [List.any_cons]
  by_cases e:p.1=k
  ·simp only [mF e,decide_eq_true e,Bool.true_or,Option.isSome_some]
  ·rw [kW e,decide_eq_false e,Bool.false_or]; exact uB k r
theorem oM (kvs:List (κ × V)) (k:κ) (v:V):(putK kvs k v).length <= kvs.length + 1:=by
 unfold putK
 split
 ·rw [List.length_map]; omega
 ·rw [List.length_append,List.length_cons,List.length_nil]; omega
theorem nH.yU {o:Option V}{u:Option Value} (r:nH o u):o.isSome=u.isSome:=by
 cases o with
 | none=>cases u with
  | none=>rfl
  | some _=>exact (show False from r).elim
 | some _=>cases u with
  | none=>exact (show False from r).elim
  | some _=>rfl
theorem nH.getD {o:Option V}{u:Option Value}{d:V}{d':Value} (r:nH o u) (rd:RelV d d'):RelV (o.getD d) (u.getD d'):=by
 cases o with
 | none=>cases u with
  | none=>exact rd
  | some _=>exact (show False from r).elim
 | some _=>cases u with
  | none=>exact (show False from r).elim
  | some _=>exact r
theorem KV.val {kvs:List (κ × V)}{vs:List (κ × Value)} (r:KV kvs vs) (k:κ):nH (mE kvs k) (valueAt vs k):=by
 unfold KV at r
 induction r with
 | nil=>exact True.intro
 | @cons p q ps qs h t ih =>
  obtain ⟨h1,h2⟩:=h
  by_cases e:p.1=k
  ·have e':q.1=k:=h1.symm.trans e
   have b:valueAt (q :: qs) k=some q.2:=by simp [valueAt,List.find?_cons,e']
   rw [mF e,b]; exact h2
  ·have e':¬ q.1=k:=fun z=>e (h1.trans z)
   have b:valueAt (q :: qs) k=valueAt qs k:=by simp [valueAt,List.find?_cons,e']
   rw [kW e,b]; exact ih
theorem KV.any {kvs:List (κ × V)}{vs:List (κ × Value)} (r:KV kvs vs) (k:κ):(kvs.any fun kv=>decide (kv.1=k))=vs.any fun kv=>decide (kv.1=k):=by
 unfold KV at r
 induction r with
 | nil=>rfl
 | cons h t ih=>rw [List.any_cons,List.any_cons,ih,h.1]
theorem KV.repl {kvs:List (κ × V)}{vs:List (κ × Value)} (r:KV kvs vs) (k:κ) {y:V}{u:Value} (ry:RelV y u) :
  KV (kvs.map fun kv=>if kv.1=k then (kv.1,y) else kv) (vs.map fun kv=>if kv.1=k then (kv.1,u) else kv):=by
 unfold KV at r ⊢
 induction r with
 | nil=>exact .nil
 | @cons p q ps qs h t ih =>
  rw [List.map_cons,List.map_cons]
  refine .cons ?_ ih
  obtain ⟨h1,h2⟩:=h
  by_cases e:p.1=k
  ·rw [if_pos e,if_pos (h1.symm.trans e)]; exact ⟨h1,ry⟩
  ·rw [if_neg e,if_neg (fun z=>e (h1.trans z))]; exact ⟨h1,h2⟩
theorem KV.put {kvs:List (κ × V)}{vs:List (κ × Value)} (r:KV kvs vs) (k:κ) {y:V}{u:Value} (ry:RelV y u):KV (putK kvs k y) (stored vs k u):=by
 unfold putK stored
 rw [r.any k]
 by_cases e:(vs.any fun kv=>decide (kv.1=k))=true
 ·rw [if_pos e,if_pos e]; exact r.repl k ry
 ·rw [if_neg e,if_neg e]; exact Paired.snoc r ⟨rfl,ry⟩
theorem KV.length {kvs:List (κ × V)}{vs:List (κ × Value)} (r:KV kvs vs):kvs.length=vs.length:=Paired.length r
end
theorem xM {P:Program}{w:World}{k:Key}{u:Value} (r:RelV (kV k) u):(dX P w).is k u=true:=by
 cases k with
 | inl i=>obtain ⟨t,e⟩:=(show ∃ t,u=Value.int i t from r); subst e; exact ur P w i t
 | inr x=>obtain ⟨t,e⟩:=(show ∃ t,u=Value.str x t from r); subst e; exact uo P w x t
theorem rF {P:Program}{w:World}:∀ {ks:List Key}{us:List Value},Vals (ks.map kV) us->ItemsAre (dX P w) ks us
 | [],_,r=>by rw [List.map_nil] at r; cases r; exact .nil
 | k :: ks,_,r=>by
  rw [List.map_cons] at r
  cases r with
  | cons h t=>exact .cons (xM h) (rF t)
abbrev KT (H:Hp):List (List Key × V)->List (List Key × Addr × Value)->Prop:=Paired fun p q=>p.1=q.1/\H q.2.1=some (.tup (p.1.map kV))/\RelV p.2 q.2.2
theorem KT.val {H:Hp}{kvs:List (List Key × V)}{xs:List (List Key × Addr × Value)} (r:KT H kvs xs) (k:List Key):nH (mE kvs k) ((atKey xs k).map (·.2)):=by
 induction r with
 | nil=>exact True.intro
 | @cons p q ps qs h t ih =>
  obtain ⟨h1,_,h2⟩:=h
  by_cases e:p.1=k
  ·have e':q.1=k:=h1.symm.trans e
   have b:atKey (q :: qs) k=some q.2:=by simp [atKey,List.find?_cons,e']
   rw [mF e,b]; exact h2
  ·have e':¬ q.1=k:=fun z=>e (h1.trans z)
   have b:atKey (q :: qs) k=atKey qs k:=by simp [atKey,List.find?_cons,e']
   rw [kW e,b]; exact ih
theorem KT.repl {H:Hp}{kvs:List (List Key × V)}{xs:List (List Key × Addr × Value)} (r:KT H kvs xs) (k:List Key) {y:V}{u:Value} (ry:RelV y u) :
  KT H (kvs.map fun kv=>if kv.1=k then (kv.1,y) else kv) (xs.map (putAt k u)):=by
 induction r with
 | nil=>exact .nil
 | @cons p q ps qs h t ih =>
  rw [List.map_cons,List.map_cons]
  refine .cons ?_ ih
  obtain ⟨h1,h2,h3⟩:=h
  unfold putAt
  by_cases e:p.1=k
  ·rw [if_pos e,if_pos (h1.symm.trans e)]; exact ⟨h1,h2,ry⟩
  ·rw [if_neg e,if_neg (fun z=>e (h1.trans z))]; exact ⟨h1,h2,h3⟩
theorem KT.put {H:Hp}{kvs:List (List Key × V)}{xs:List (List Key × Addr × Value)} (r:KT H kvs xs) (k:List Key) {b:Addr}{y:V}{u:Value} (hb:H b=some (.tup (k.map kV))) (ry:RelV y u) :
  KT H (putK kvs k y) (storedH xs k b u):=by
 have e:(kvs.any fun kv=>decide (kv.1=k))=(atKey xs k).isSome:=by
  rw [uB,(r.val k).yU,Option.isSome_map]
 unfold putK storedH
 rw [e]
 by_cases q:(atKey xs k).isSome=true
 ·rw [if_pos q,if_pos q]; exact r.repl k ry
 ·rw [if_neg q,if_neg q]; exact Paired.snoc r ⟨rfl,hb,ry⟩
theorem KT.keeps {H H':Hp}{kvs:List (List Key × V)}{xs:List (List Key × Addr × Value)} (r:KT H kvs xs) (ht:∀ b ys,H b=some (.tup ys)->H' b=some (.tup ys)):KT H' kvs xs :=
 Paired.EN r fun _ _ z=>⟨z.1,ht _ _ z.2.1,z.2.2⟩
section
variable {P:Program}{w:World}{H:Hp}{h:Heap}{a:Addr}
theorem Er {u:HO} (ok:jx P w H h) (e:Rd H a u):di P w H h a u:=e.ok ok
theorem uC {kvs:List (Key × V)} (ok:jx P w H h) (e:Rd H a (.dK kvs)):kvs.length <= sizeLine/\(a == sysModules)=false/\∃ vs,KV kvs vs/\h.DictOf (dX P w) a vs :=
 show di P w H h a (.dK kvs) from Er ok e
theorem Hv {kvs:List (Key × V)} (ok:jx P w H h) (e:H a=some (.dK kvs)):kvs.length <= sizeLine/\(a == sysModules)=false/\∃ vs,KV kvs vs/\h.DictOf (dX P w) a vs:=uC ok (.inl e)
theorem sV {ks:List Key} (ok:jx P w H h) (e:H a=some (.tup (ks.map kV))):(tupleKind (dX P w)).is h ks a:=by
 obtain ⟨_,its,r,tn⟩:=(show di P w H h a (.tup (ks.map kV)) from ok a _ e)
 obtain ⟨o,h1,h2,n,h3⟩:=tn.is
 exact ⟨o,its.toArray,n,h1,h2,h3,by simpa using rF r⟩
theorem uz {kvs:List (List Key × V)} (ok:jx P w H h) (e:Rd H a (.dT kvs)):kvs.length <= sizeLine/\(a == sysModules)=false /\
  ∃ xs,KT H kvs xs/\h.DictOfH (tupleKind (dX P w)) a xs:=by
 obtain ⟨z,y,xs,r,o,es,ep,h1,h2,h3,h4,h5⟩:=(show di P w H h a (.dT kvs) from Er ok e)
 refine ⟨z,y,xs,r,o,es,ep,h1,h2,h3,h4,fun x hx=>?_,h5⟩
 have all:∀ {l:List (List Key × V)}{m:List (List Key × Addr × Value)},KT H l m->∀ x ∈ m,(tupleKind (dX P w)).is h x.1 x.2.1:=by
  intro l m q
  induction q with
  | nil=>intro x hx; exact nomatch hx
  | @cons p q ps qs hq t ih =>
   intro x hx
   rcases List.mem_cons.mp hx with e | hx
   ·subst e
    exact sV ok (by rw [<- hq.1]; exact hq.2.1)
   ·exact ih x hx
 exact all r x hx
theorem Ht {kvs:List (List Key × V)} (ok:jx P w H h) (e:H a=some (.dT kvs)):kvs.length <= sizeLine/\(a == sysModules)=false /\
  ∃ xs,KT H kvs xs/\h.DictOfH (tupleKind (dX P w)) a xs:=uz ok (.inl e)
end
def l9 (H:Hp) (a:Addr) (y:V) (r:Option V):Prop :=
 (∃ kvs k,Rd H a (.dK kvs)/\y=kV k/\r=mE kvs k) ∨ ∃ kvs k b,Rd H a (.dT kvs)/\y=.ref b/\H b=some (.tup (k.map kV))/\r=mE kvs k
def uw (H:Hp) (a:Addr) (y v:V) (H':Hp):Prop :=
 (∃ kvs k,H a=some (.dK kvs)/\y=kV k/\kvs.length < sizeLine/\H'=upd H a (.dK (putK kvs k v))) ∨
 ∃ kvs k b,H a=some (.dT kvs)/\y=.ref b/\H b=some (.tup (k.map kV))/\kvs.length < sizeLine/\H'=upd H a (.dT (putK kvs k v))
theorem l9.k {H:Hp}{a:Addr}{kvs:List (Key × V)}{k:Key} (e:H a=some (.dK kvs)):l9 H a (kV k) (mE kvs k) := .inl ⟨kvs,k,.inl e,rfl,rfl⟩
theorem l9.t {H:Hp}{a b:Addr}{kvs:List (List Key × V)}{k:List Key} (e:H a=some (.dT kvs)) (eb:H b=some (.tup (k.map kV))):l9 H a (.ref b) (mE kvs k) := .inr ⟨kvs,k,b,.inl e,rfl,eb,rfl⟩
theorem uw.k {H:Hp}{a:Addr}{kvs:List (Key × V)}{k:Key}{v:V} (e:H a=some (.dK kvs)) (hl:kvs.length < sizeLine):uw H a (kV k) v (upd H a (.dK (putK kvs k v))) := .inl ⟨kvs,k,e,rfl,hl,rfl⟩
theorem uw.t {H:Hp}{a b:Addr}{kvs:List (List Key × V)}{k:List Key}{v:V} (e:H a=some (.dT kvs)) (eb:H b=some (.tup (k.map kV))) (hl:kvs.length < sizeLine) :
  uw H a (.ref b) v (upd H a (.dT (putK kvs k v))) := .inr ⟨kvs,k,b,e,rfl,eb,hl,rfl⟩
section
variable {X:Cx}{pins:List (Addr × Obj)}{σ:St}{H:Hp}{s:Shared}{a:Addr}{y v:V}{u r:Value}{o:Option V}{A:Around}{E:Value->Shared->Prop}
theorem Inv.big (I:Inv X pins σ H s):sysModules < s.heap.objs.size:=by
 have h:mainGlobals < s.heap.objs.size:=(I.mod.glob.keeps I.bk).lt
 exact Nat.lt_trans (by decide) h
theorem yV {Q:Value->Shared->Prop} (hu:A.units + 1 < cLine) (I:Inv X pins σ H s) (g:l9 H a y (some v)) (ry:RelV y u) (h:∀ w' s',Inv X pins σ H s'->RelV v w'->Q w' s') :
  wpAny (model X.prog X.w) A (getItem (.ref a) u) Q E s:=by
 rcases g with ⟨kvs,k,e,ey,l⟩ | ⟨kvs,k,b,e,ey,eb,l⟩
 ·subst ey
  obtain ⟨z,hd,vs,rel,dd⟩:=uC I.hok e
  obtain ⟨w',hw,rw'⟩:=nH.some_of (v:=v) (o:=valueAt vs k) (by rw [l]; exact rel.val k)
  exact wpAny_getItem_of (xM ry) dd.mapOf hw (h w' _ (I.tok _) rw')
 ·subst ey
  cases (show u=Value.ref b from ry)
  obtain ⟨z,hd,xs,rel,dd⟩:=uz I.hok e
  obtain ⟨w',hw,rw'⟩:=nH.some_of (v:=v) (o:=(atKey xs k).map (·.2)) (by rw [l]; exact rel.val k)
  obtain ⟨p,hp,hp2⟩:=Option.map_eq_some_iff.mp hw
  refine wpAny_getItem_heap (tupleKind_room_in1 hu) (sV I.hok eb) dd hp ?_
  rw [hp2]
  exact h w' _ (I.tok _) rw'
theorem xN {h':Heap}{t':Nat}{ob:HO} (I:Inv X pins σ H s) (mu:Hc (H a)) (hs:Heap.SameBut a s.heap h') (he:∃ q,h'.get? a=some q) (new:di X.prog X.w (upd H a ob) h' a ob) :
  Inv X pins σ (upd H a ob) { s with heap:=h',toks:=t' } :=
 I.write (x:=a) (e:=a) mu (.inl rfl) (fun b q hb z=>(hs.2 b hb).trans z) he new
theorem Fx {P:Program}{w:World}{H':Hp}{h':Heap}{kvs:List (Key × V)}{vs:List (Key × Value)} (z:kvs.length <= sizeLine) (hd:(a == sysModules)=false) (rel:KV kvs vs) (dd:h'.DictOf (dX P w) a vs) :
  di P w H' h' a (.dK kvs):=⟨z,hd,vs,rel,dd⟩
theorem yS {H':Hp}{Q:Unit->Shared->Prop} (hu:A.units + 1 < cLine) (I:Inv X pins σ H s) (g:uw H a y v H') (ry:RelV y u) (rv:RelV v r) (h:∀ s',Inv X pins σ H' s'->Q () s') :
  wpAny (model X.prog X.w) A (setItem (.ref a) u r) Q E s:=by
 rcases g with ⟨kvs,k,e,ey,l,eH⟩ | ⟨kvs,k,b,e,ey,eb,l,eH⟩
 ·subst ey eH
  obtain ⟨z,hd,vs,rel,dd⟩:=Hv I.hok e
  have hz:vs.length <= sizeLine:=by rw [<- rel.length]; exact z
  have hl:(putK kvs k v).length <= sizeLine:=by have:=oM kvs k v; omega
  refine wpAny_setItem_pairs (hsz:=hz) (xM ry) dd fun h' dd' hs=>h _ ?_
  have he:∃ q,h'.get? a=some q:=let ⟨q,_,_,hq,_⟩:=dd'; ⟨q,hq⟩
  exact xN I (by rw [e]; exact True.intro) hs he (Fx hl hd (rel.put k rv) dd')
 ·subst ey eH
  cases (show u=Value.ref b from ry)
  obtain ⟨z,hd,xs,rel,dd⟩:=Ht I.hok e
  have hz:xs.length <= sizeLine:=by rw [<- Paired.length rel]; exact z
  have hl:(putK kvs k v).length <= sizeLine:=by have:=oM kvs k v; omega
  refine wpAny_setItem_heap (hsz:=hz) (tupleKind_room_in1 hu) (sV I.hok eb) dd fun h' dd' hs=>h _ ?_
  obtain ⟨q,es,ep,hq,h2,h3,h4,_,h5⟩:=dd'
  refine xN I (by rw [e]; exact True.intro) hs ⟨q,hq⟩ ⟨hl,hd,_,(rel.put k eb rv).keeps fun c ys ec=>?_,q,es,ep,hq,h2,h3,h4,h5⟩
  rw [aZ (Hf ec e (fun z=>nomatch z))]
  exact ec
end
section
variable {X:Cx}{pins:List (Addr × Obj)}{σ:St}{H:Hp}{s:Shared}{a:Addr}{kvs:List (Key × V)}{k:Key}{u:Value}{A:Around}{E:Value->Shared->Prop}
end
def FD (i:Expr):Prop := ∀ ov iv,subscripted i false ov iv=operate [ov,iv] (getItem ov iv)
theorem C4 {prog:Program}{w:World}{A:Around}{E:Value->Shared->Prop}{s:Shared}{env:Env}{value slice:Expr}{pos:Pos}{T id:String}{Q:Value->Shared->Prop}
  (hl:typeLookup (.type T) "__getitem__" = pure (some (.builtin id))) (hs:FD slice)
  (h:wpAny (model prog w) A (eval value env) (fun o s₁=>wpAny (model prog w) A (eval slice env) (fun i s₂=>s₂.TypeIs o T/\wpAny (model prog w) A (getItem o i) Q E s₂) E s₁) E s) :
  wpAny (model prog w) A (eval (.Subscript value slice pos) env) Q E s:=by
 refine Subscript_ (wpAny_mono h (fun o s₁ h₁=>wpAny_mono h₁ (fun i s₂ h₂=>?_) fun _ _ x=>x) fun _ _ x=>x)
 obtain ⟨hT,h₂⟩:=h₂
 unfold subscriptTail
 refine wpAny_bind ?_
 rw [getitemInPython_of_ne hT.not_modules]
 refine wpAny_bind (wpAny_specialOf hT hl ?_)
 have fin:wpAny (model prog w) A (subscripted slice false o i) (fun r s₃=>wpAny (model prog w) A (letTemporaryGo value o r >>= fun _=>pure r) Q E s₃) E s₂:=by
  rw [hs o i]
  exact wpAny_operating (wpAny_mono h₂ (fun r s₃ h₃=>wpAny_bind (wpAny_letTemporaryGo (wpAny_pure h₃))) fun _ _ x=>x)
 first
  | exact wpAny_pure (wpAny_bind fin)
  | exact wpAny_bind (wpAny_pure (wpAny_bind fin))
  | exact wpAny_bind fin
theorem uA {X:Cx}{pins:List (Addr × Obj)}{σ:St}{H:Hp}{s:Shared}{a:Addr}{y:V}{o:Option V} (I:Inv X pins σ H s) (g:l9 H a y o):s.TypeIs (.ref a) "dict" := by
 rcases g with ⟨kvs,k,e,_,_⟩ | ⟨kvs,k,b,e,_,_,_⟩
 ·obtain ⟨_,_,vs,_,dd⟩:=uC I.hok e
  exact dd.typeIs
 ·obtain ⟨_,_,xs,_,dd⟩:=uz I.hok e
  exact dd.typeIs
def Hs (td ty:TE):TE:=fun σ H Q=>td σ H fun x H1=>ty σ H1 fun y H2=>∃ a v,x=.ref a/\l9 H2 a y (some v)/\Q v H2
def Hu (td ty tv:TE):TS:=fun D σ H=>tv σ H fun v H1=>td σ H1 fun x H2=>ty σ H2 fun y H3=>∃ a H4,x=.ref a/\uw H3 a y v H4/\D.nx σ H4
section
variable {X:Cx}{o i e value:Expr}{pos pos' tpos:Pos}{td ty tv:TE}
theorem C6 (hu:X.A.units + 1 < cLine) (ho:PE X o td) (hi:PE X i ty) (hs:FD i):PE X (.Subscript o i pos) (Hs td ty):=by
 intro pins s σ H Q I h
 refine C4 PySem.F.slot_dict_getitem.lookup hs (fz (ho pins s σ H _ I h) fun u s1 hq5=>L2.ex5 hq5 fun x H1 I1 rx q1=>fz (hi pins s1 σ H1 _ I1 q1) fun iv s2 ⟨y,H2,I2,ry,a,v,ex,g,q2⟩=>?_)
 subst ex
 obtain rfl:u=Value.ref a:=rx
 exact ⟨uA I2 g,yV hu I2 g ry fun w' s3 I3 rw'=>⟨v,H2,I3,rw',q2⟩⟩
theorem C5 (hu:X.A.units + 1 < cLine) (ho:PE X o td) (hi:PE X i ty) (hv:PE X value tv) (hs:swapsWith value (some (.Subscript o i pos')) pos.line X.env=pure false) :
  PS X (.Assign [.Subscript o i pos'] value pos) (Hu td ty tv):=by
 intro pins s σ H D I h
 refine wpAny_Assign_Subscript (fz (hv pins s σ H _ I h) fun r s1 hq5=>L2.ex5 hq5 fun v H1 I1 rv q1=>fz (ho pins s1 σ H1 _ I1 q1) fun u s2 hq5=>L2.ex5 hq5 fun x H2 I2 rx q2=>fz (hi pins s2 σ H2 _ I2 q2) fun iv s3 ⟨y,H3,I3,ry,a,H4,ex,g,q3⟩=>?_) hs
 subst ex
 obtain rfl:u=Value.ref a:=rx
 exact yS hu I3 g ry rv fun s4 I4=>⟨σ,H4,I4,q3⟩
end
theorem Ah {P:Program}{w:World}{H:Hp} (h:Heap) (hb:sysModules < h.objs.size):di P w H (h.push { cls := .type "dict",data := .dict #[] }) h.objs.size (.dT []) :=
 ⟨Nat.zero_le _,beq_eq_false_iff_ne.mpr (Ne.symm (Nat.ne_of_lt hb)),[],.nil,_,#[],0,Heap.get?_push_size _ rfl,⟨rfl,rfl,rfl⟩,rfl,rfl,List.nodup_nil⟩
def Fw:TE:=fun _ H Q=>∀ p,H p=none->Q (.ref p) (upd H p (.dT []))
section
variable {X:Cx}{pos:Pos}
theorem Ai:PE X (.Dict [] [] pos) Fw:=fun pins s σ H Q I h =>
 wpAny_Dict_empty ⟨.ref s.heap.objs.size,_,I.laid (a:=s.heap.objs.size) (o := .dT []) (t' := s.toks) (fun _ _ q=>Heap.get?_push_of_some _ q) (Nat.le_refl _) (Ah s.heap I.big),rfl,h _ (I.hok.fresh (Nat.le_refl _))⟩
end
structure M2 (X:Cx) (o:Expr) (m:Str) (apos:Pos) (e f:Expr) (cpos:Pos):Prop where
 base:attributeBase o m X.env (eval o X.env)=eval o X.env
 few:((backTo cpos (starEach [e,f] X.env)).all (fun x=>!x.1) && (backToKw cpos (keywordEach [] X.env)).all (fun x=>x.1.isSome)
  && decide (([e,f]:List Expr).length + ([]:List Keyword).length + (if ([]:List Keyword).isEmpty then 0 else 1) < 30))=true
 line:(apos.endLine == cpos.line)=true
 trees:backTo cpos (starEach [e,f] X.env)=[(false,eval e X.env),(false,eval f X.env)]
def Ji (H:Hp) (a:Addr):Prop:=(∃ kvs,Rd H a (.dK kvs)) ∨ ∃ kvs,Rd H a (.dT kvs)
theorem FA {X:Cx}{pins:List (Addr × Obj)}{σ:St}{H:Hp}{s:Shared}{a:Addr} (I:Inv X pins σ H s) (d:Ji H a) :
  s.TypeIs (.ref a) "dict" /\ (∀ b,Value.ref a=.ref b->∃ ob,s.heap.get? b=some ob/\ob.dict=none)/\(a == sysModules)=false:=by
 rcases d with ⟨kvs,e⟩ | ⟨kvs,e⟩
 ·obtain ⟨_,hd,vs,_,dd⟩:=uC I.hok e
  refine ⟨dd.typeIs,fun b q=>?_,hd⟩
  cases q
  obtain ⟨ob,_,_,h1,h2,_⟩:=dd
  exact ⟨ob,h1,h2.2.1⟩
 ·obtain ⟨_,hd,xs,_,dd⟩:=uz I.hok e
  refine ⟨dd.typeIs,fun b q=>?_,hd⟩
  cases q
  obtain ⟨ob,_,_,h1,h2,_⟩:=dd
  exact ⟨ob,h1,h2.2.1⟩
section
variable {X:Cx}{pins:List (Addr × Obj)}{σ:St}{H:Hp}{s:Shared}{a:Addr}{y d:V}{u r:Value}{o:Option V}{A:Around}{E:Value->Shared->Prop}
theorem Fy {Q:Value->Shared->Prop} (hu:A.units + 1 < cLine) (I:Inv X pins σ H s) (g:l9 H a y o) (ry:RelV y u) (rd:RelV d r) (h:∀ w' s',Inv X pins σ H s'->RelV (o.getD d) w'->Q w' s') :
  wpAny (model X.prog X.w) A (call (.builtin "dict.get") [.ref a,u,r]) Q E s:=by
 rcases g with ⟨kvs,k,e,ey,l⟩ | ⟨kvs,k,b,e,ey,eb,l⟩
 ·subst ey
  obtain ⟨z,hd,vs,rel,dd⟩:=uC I.hok e
  refine call_meetsIn PySem.F.slot_dict_get dd.typeIs PySem.F.entry_dict_get (PySem.F.args_dict_get_3 _ _ _) (meets_dict_get_default (dX X.prog X.w) a (xM ry) hd r) ⟨_,dd.mapOf,h _ _ (I.tok _) ?_⟩
  rw [l]
  exact (rel.val k).getD rd
 ·subst ey
  cases (show u=Value.ref b from ry)
  obtain ⟨z,hd,xs,rel,dd⟩:=uz I.hok e
  refine call_meetsIn PySem.F.slot_dict_get dd.typeIs PySem.F.entry_dict_get (PySem.F.args_dict_get_3 _ _ _) (meetsH_dict_get_default (tupleKind (dX X.prog X.w)) a b hd r) ⟨tupleKind_room_in1 hu,k,xs,sV I.hok eb,dd,h _ _ (I.tok _) ?_⟩
  rw [l]
  exact (rel.val k).getD rd
end
def Fz (td ty tx:TE):TE:=fun σ H Q=>td σ H fun x H1=>∃ a,x=.ref a/\Ji H1 a/\ty σ H1 fun y H2=>tx σ H2 fun z H3=>∃ o,l9 H3 a y o/\Q (o.getD z) H3
section
variable {X:Cx}{o e f:Expr}{apos cpos:Pos}{td ty tx:TE}
theorem Aj (hu:X.A.units + 1 < cLine) (ho:PE X o td) (he:PE X e ty) (hf:PE X f tx) (m:M2 X o "get" apos e f cpos):PE X (.Call (.Attribute o "get" apos) [e,f] [] cpos) (Fz td ty tx):=by
 intro pins s σ H Q I h
 refine wpAny_Call_method m.base m.few m.line PySem.F.plainAttrs_dict PySem.F.slot_dict_get PySem.F.type_dict_get (fz (ho pins s σ H _ I h) fun u s1 ⟨x,H1,I1,rx,a,ex,d,q1⟩=>?_)
 subst ex
 obtain rfl:u=Value.ref a:=rx
 obtain ⟨t1,t2,_⟩:=FA I1 d
 refine ⟨t1,t2,?_⟩
 rw [m.trees]
 refine Calls.callWith_builtin rfl (Calls.evalArgs_plain (Calls.spliced_cons (fz (he pins s1 σ H1 _ I1 q1) fun iv s2 hq5=>L2.ex5 hq5 fun y H2 I2 ry q2 =>
  Calls.spliced_cons (fz (hf pins s2 σ H2 _ I2 q2) fun fv s3 ⟨z,H3,I3,rz,ov,g,q3⟩=>Calls.spliced_nil ?_))))
 exact Fy hu I3 g ry rz fun w' s4 I4 rw'=>⟨_,H3,I4,rw',q3⟩
end
section
variable {X:Cx}{pins:List (Addr × Obj)}{σ:St}{H:Hp}{s:Shared}{a:Addr}{kvs:List (Key × V)}{A:Around}{E:Value->Shared->Prop}
end
section
variable {X:Cx}{pins:List (Addr × Obj)}{σ:St}{H:Hp}{s:Shared}{a:Addr}{y:V}{u:Value}{A:Around}{E:Value->Shared->Prop}
end
end L2
namespace JL
open PySem PySem.W PySem.Calls PyProof.Rows
theorem oY {P:Params}{h:Heap}:∀ (ns:List Int) (vs:List Value),WellAll P h vs (ns.map WData.int)->IntsAre vs ns:=by
 intro ns
 induction ns with
 | nil =>
  intro vs w
  rw [List.map_nil] at w
  cases w
  exact .nil
 | cons n ns ih =>
  intro vs w
  rw [List.map_cons] at w
  cases w with
  | cons a b =>
   cases a
   exact .cons _ _ (ih _ b)
theorem yX {l:OpenLaw}{n:Nat} (hn:l.most=some n) {P:Params}{h:Heap}{args:List WData}{vals:List Value}
  (hpre:l.row.toRowW.claim.pre args=true) (hwl:WellAll P h vals args) :
  ∃ a vs ns,vals=[Value.ref a]/\args=[WData.list (ns.map WData.int)]/\h.get? a=some { cls := .type "list",data := .seq vs.toArray }/\IntsAre vs ns/\ns.length <= n:=by
 have hsh:WShape.hasAll [] args [.list .int]=true:=(pre_splitW hpre).1
 have hc:l.pre.holds [] { args:=args }=true:=(pre_splitW hpre).2
 obtain ⟨d,r,rfl,h1,h2⟩:=hasAllW_cons hsh
 obtain rfl:=hasAllW_nil h2
 obtain ⟨xs,rfl,h3⟩:=hasW_list h1
 obtain ⟨ns,rfl⟩:=items_int h3
 have hlen:ns.length <= n:=by
  unfold OpenLaw.pre at hc
  have h4:(WTm.not (.lt (.lit (.int (n:Int))) (.len (.arg 0)))).holds [] { args := [.list (ns.map .int)] }=true:=by
   have h4:=(holds_andW hc).1
   rw [hn] at h4
   exact h4
  have h5:=condW_of h4 (w_not (w_lt w_lit (w_len_list (w_arg rfl))))
  rw [List.length_map] at h5
  refine Nat.le_of_not_lt fun q=>?_
  have q':(n:Int) < ((ns.length:Nat):Int):=by omega
  first
   | (rw [decide_eq_true q'] at h5; exact absurd h5 (by decide))
   | (simp at h5; omega)
 cases hwl with
 | cons w1 w2 =>
  cases w2
  cases w1 with
  | list ho hall=>exact ⟨_,_,ns,rfl,rfl,ho,oY ns _ hall,hlen⟩
theorem yW (l:OpenLaw) (args:List WData):l.row.toRowW.claim.post args (.bool true) args=true :=
 postW_of (r:=l.row.toRowW) (X:=(true == true))
  (show WShape.has [] (.bool true) .bool=true by first | rfl | decide | simp [WShape.has,WShape.arms,WShape.armsAll])
  (show (WTm.eq .res (.lit (.bool true))).value [] { args:=args,res:=some (.bool true),after:=args }=some (.bool (true == true)) from w_eq_bool (w_res rfl) w_lit) rfl
theorem uD {l:OpenLaw}{n:Nat}{q:Program}{loose:List Str}{XP:(Str->Option Value)->Heap->Prop}{YP:World->Heap->Prop}{d:DefRec}
  (hn:l.most=some n) (hdf:d.params.defaults=[])
  (call:∀ (w:World) (s₀ s₁:Shared) (mg mb:Str->Option Value) (fa:Addr) (o:Obj) (pm cd doc:Value) (a:Addr) (vs:List Value) (ns:List Int),
   Ground q loose [] XP w s₀ mg mb s₁.heap->YP w s₁.heap ->
   s₁.heap.get? fa=some o->o.data=.func (docDef d.name d.params d.body d.scope pm cd doc)->s₁.heap.CodeRec cd d.name->mg d.name=some (.ref fa) ->
   s₁.heap.get? a=some { cls := .type "list",data := .seq vs.toArray }->IntsAre vs ns->ns.length <= n->s₁.gens = #[] ->
   codeAny (model l.prog w) callerA (.call (.ref fa) ⟨[.ref a],[]⟩) (fun r s'=>r=.ok (.ret (.bool true))/\OldK s₁.heap s'.heap/\s'.os=s₁.os/\AllBare s'.gens) s₁) :
  WalkO q loose XP YP l.row.toRowW d [] (fun f vs=>PySem.call f vs):=by
 intro w s₀ s₁ mg mb G Y fa o pm cd doc dV kV ho hd hcd hD hmg hg args vals as hpre hlay hrd hwl hlo
 obtain rfl:dV=.none:=Dflts.none hD hdf
 obtain rfl:kV=.none:=Dflts.noKw hD
 obtain ⟨a,vs,ns,rfl,rfl,hobj,hints,hlen⟩:=yX hn hpre hwl
 refine enter_call (codeAny_mono (call w s₀ s₁ mg mb fa o pm cd doc a vs ns G Y ho (fd_plain hd) hcd hmg hobj hints hlen hg) fun r s' hq=>?_)
 obtain ⟨rfl,h2,h3,h4⟩:=hq
 exact ⟨.inl ⟨.bool true,.bool true,[],rfl,fun _=>rfl,.bool true,yW l _,fun _=>⟨List.Pairwise.nil,fun _ hm=>(nomatch hm)⟩⟩,h2,h3,h4⟩
section
variable {prog:Program}{w:World}{A:Around}{E:Value->Shared->Prop}{s:Shared}{K:Frag}
end
end JL
namespace L2
open PySem PySem.Spec PyProof.Rows
theorem jz:∀ {vs:List Value}{ns:List Int},IntsAre vs ns->Vals (ns.map V.int) vs
 | _,_,.nil=>.nil
 | _,_,.cons n t h=>.cons ⟨t,rfl⟩ (jz h)
def FE (H:Hp):Prop := ∀ b,H b=none ∨ ∃ o xs,H b=some (.aG o (.lst xs))
theorem Ak {P:Program}{w:World}{K:PySem.W.Frag}{mg mb:Str->Option Value}{CX:zR}{k:Nat}{fa a:Addr}{fd:FuncData}{x:Str}{sp:Sp}{s₁:Shared}{vs:List Value}{ns:List Int}
  (KX:K.In s₁.heap) (hns:s₁.heap.Ns mainGlobals mg) (hb:s₁.heap.Ns builtinsNs mb) (hbb:∀ x:Str,x ≠ "__name__" -> mb x=bootBuiltins x) (hlim:s₁.heap.NoLimit) (hg:s₁.gens = #[])
  (ha:s₁.heap.get? a=some { cls := .type "list",data := .seq vs.toArray }) (hi:IntsAre vs ns) (hl:ns.length <= sizeLine) (hr:gh k callerA)
  (F:∀ base:Heap,K.In base->base.Ns mainGlobals mg->nG P w K mg base CX k fa fd [x] sp) (hbind:∀ (s:Shared) (u:Value),BindsTo s fd ⟨[u],[]⟩ [(x,u)])
  (hsp:∀ H:Hp,FE H->gI K H a (ns.map V.int)->sp [.ref a] H (fun v _=>v=.bl true) fun _ _ _=>False)
  (hCX:∀ H e s',CX [] H s₁ (fun _ _ _=>False) e s'->False) :
  codeAny (model P w) callerA (.call (.ref fa) ⟨[.ref a],[]⟩) (fun r s'=>r=.ok (.ret (.bool true))/\OldK s₁.heap s'.heap/\s'.os=s₁.os/\AllBare s'.gens) s₁:=by
 have rv:=jz hi
 have lenV:=hi.length
 have core:∀ H:Hp,FE H->gI K H a (ns.map V.int)->jx P w H s₁.heap->(∀ b,H b ≠ none->b=a)->(H a ≠ none->K.lookup a=none) ->
   codeAny (model P w) callerA (.call (.ref fa) ⟨[.ref a],[]⟩) (fun r s'=>r=.ok (.ret (.bool true))/\OldK s₁.heap s'.heap/\s'.os=s₁.os/\AllBare s'.gens) s₁:=by
  intro H hO hS hok hA hK
  have base_of:∀ {b:Addr}{o:Obj},s₁.heap.get? b=some o->H b=none->(sM s₁.heap H).get? b=some o:=fun e n=>Ab e n
  have noA:∀ {b:Addr}{o:Obj}{es:Array DictEntry}{ep:Nat},s₁.heap.get? b=some o->o.data=.dict es ep->H b=none:=fun {b o es ep} e d=>by
   cases q:H b with
   | none=>rfl
   | some u =>
    have e':b=a:=hA b (by rw [q]; simp)
    subst e'
    rw [ha] at e; cases e
    have d':Data.seq vs.toArray _=Data.dict es ep:=d
    cases d'
  have nsK:∀ {b:Addr}{m:Str->Option Value},s₁.heap.Ns b m->(sM s₁.heap H).Ns b m:=fun {b m} ⟨o,es,ep,e,d,r⟩=>⟨o,es,ep,base_of e (noA e d),d,r⟩
  have hKb:K.In (sM s₁.heap H):=fun b o e=>base_of (KX b o e) (by
   cases q:H b with
   | none=>rfl
   | some u =>
    have e':b=a:=hA b (by rw [q]; simp)
    subst e'
    rw [hK (by rw [q]; simp)] at e; cases e)
  have hM:Mod K mg (sM s₁.heap H):=⟨hKb,nsK hns,⟨mb,nsK hb,hbb⟩,let ⟨mc,h1,h2⟩:=hlim; ⟨mc,nsK h1,h2⟩⟩
  have e0:vS P w K mg (sM s₁.heap H) callerA [] s₁ H:=⟨rfl,hM,fun b o e=>CP e,Nat.le_of_eq (yF _ _),trivial,fun b hb=>absurd (show b ∈ ([]:List Addr) from hb) (by simp),hok,.of_eq hg⟩
  refine codeAny_mono ((F _ hKb (nsK hns)).run callerA [] s₁ H ⟨[.ref a],[]⟩ [.ref a] [.ref a] _ _ hr e0 (hbind s₁ (.ref a)) (.cons rfl .nil) (hsp H hO hS)) fun r s' h=>?_
  cases r with
  | error e=>exact (hCX H e s' h).elim
  | ok fl =>
   cases fl with
   | next=>exact False.elim h
   | brk=>exact False.elim h
   | cont=>exact False.elim h
   | ret u =>
    obtain ⟨v,H',os,bare,un,hok',r',q⟩:=h
    have q':v=.bl true:=q
    subst q'
    obtain rfl:u=Value.bool true:=r'
    refine ⟨rfl,OldK.of_keep fun b o e=>?_,os,bare⟩
    cases q:H b with
    | none=>exact un.keep b o e q (by intro z; exact absurd (show b ∈ ([]:List Addr) from z) (by simp)) (by simp)
    | some u =>
     rcases hO b with z | ⟨ob,xs,z⟩
     ·rw [q] at z; cases z
     ·have z2:=un.lU b ob _ z
      obtain ⟨e1,_⟩:=hok b _ z
      obtain ⟨e2,_⟩:=hok' b _ z2
      rw [e] at e1; cases e1
      exact e2
 cases hk:K.lookup a with
 | some o =>
  have e:=KX a o hk
  rw [ha] at e
  cases e
  refine core (fun _=>none) (fun _=>.inl rfl) (.inr ⟨_,vs.toArray,_,hk,rfl,rfl,rfl,by rw [List.size_toArray,lenV]; exact hl,by simpa using rv⟩) (fun b u z=>by have z':(none:Option HO)=some u:=z; cases z') (fun b z=>absurd rfl z) fun z=>absurd rfl z
 | none =>
  refine core (fun b=>if b=a then some (.aG { cls := .type "list",data := .seq vs.toArray } (.lst (ns.map V.int))) else none) (fun b=>?_) (.inl (.inr ⟨{ cls := .type "list",data := .seq vs.toArray },if_pos rfl⟩)) (fun b u z=>?_) (fun b z=>?_) fun _=>hk
  ·by_cases hb:b=a
   ·exact .inr ⟨_,_,if_pos hb⟩
   ·exact .inl (if_neg hb)
  ·by_cases hb:b=a
   ·have z' := (if_pos hb).symm.trans z
    cases z'
    subst hb
    exact ⟨ha,by rw [List.length_map]; exact hl,vs,_,rv,ha⟩
   ·have z' := (if_neg hb).symm.trans z
    cases z'
  ·by_cases hb:b=a
   ·exact hb
   ·exact absurd (if_neg hb) z
abbrev cE {K:PySem.W.Frag}{h:Heap} (_:K.In h):PySem.W.Frag:=K
theorem C8 {l:PySem.W.OpenLaw}{n k:Nat}{q:Program}{loose:List Str}{XP:(Str->Option Value)->Heap->Prop}{YP:World->Heap->Prop}{d:DefRec}{K:Params->PySem.W.Frag}{CX:World->zR}{sp:World->Sp}{x:Str}
  (hn:l.most=some n) (hn2:n <= sizeLine) (hdf:d.params.defaults=[]) (hr:gh k callerA)
  (hY:∀ (w:World) (h:Heap),YP w h->(K w.params).In h)
  (F:∀ (w:World) (mg:Str->Option Value) (fa:Addr) (h:Heap),(K w.params).In h->h.Ns mainGlobals mg->mg d.name=some (.ref fa) ->
   ∃ fd:FuncData,(∀ (s:Shared) (u:Value),BindsTo s fd ⟨[u],[]⟩ [(x,u)]) /\
    ∀ base:Heap,(K w.params).In base->base.Ns mainGlobals mg->nG l.prog w (K w.params) mg base (CX w) k fa fd [x] (sp w))
  (hsp:∀ (w:World) (H:Hp) (a:Addr) (ns:List Int),ns.length <= n->FE H->gI (K w.params) H a (ns.map V.int)->sp w [.ref a] H (fun v _=>v=.bl true) fun _ _ _=>False)
  (hCX:∀ (w:World) (H:Hp) (s:Shared) (e:Value) (s':Shared),CX w [] H s (fun _ _ _=>False) e s'->False) :
  PySem.W.WalkO q loose XP YP l.row.toRowW d [] (fun f vs=>PySem.call f vs):=by
 refine JL.uD hn hdf fun w s₀ s₁ mg mb fa o pm cd doc a vs ns G Y ho hd hcd hmg hobj hints hlen hg=>?_
 have KX:=hY w _ Y
 obtain ⟨fd,hb,hF⟩:=F w mg fa _ KX G.T.g hmg
 exact Ak KX G.T.g G.T.b G.T.builtins G.T.nolimit hg hobj hints (Nat.le_trans hlen hn2) hr hF hb (fun H hO hS=>hsp w H a ns hlen hO hS) fun H e s'=>hCX w H s₁ e s'
def je (s:Stmt):Arguments:=match s with
 | .FunctionDef _ a _ _ _ _ _ _ _ _=>a
 | _=>{ posonlyargs := [],args := [],vararg:=none,kwonlyargs := [],kw_defaults := [],kwarg:=none,defaults := [] }
def dY (s:Stmt):List Stmt:=match s with
 | .FunctionDef _ _ b _ _ _ _ _ _ _=>b
 | _=>[]
def aC (s:Stmt):Scope:=match s with
 | .FunctionDef _ _ _ _ _ _ sc _ _ _=>sc
 | _=>{ kind := .function,names := [],isGenerator:=false,isCoroutine:=false }
abbrev vQ:zR:=fun _ _ _ _ _ _=>False
abbrev E0:XK:=fun _ _ _=>False
theorem Hw {X:Cx}:Passes vQ X E0:=fun _ _ _ _ _ _ _ h=>h.elim
structure C7 (K:PySem.W.Frag) (x qual:Str) (st:Stmt) (f:Addr) (fd:FuncData):Prop where
 ex:∃ (oc:Value) (od:Option Addr) (kV doc pm:Value) (an:Option Addr) (cdv ct:Value) (osl:Array (Option Value)),
  fd=PySem.W.fnOf x qual (je st) (dY st) (aC st) .none kV doc pm an cdv ct/\K.lookup f=some ⟨oc,od,.func fd,osl⟩/\PySem.W.codeIn K cdv qual=true
 kp:PySem.W.keepIn K (.ref f)=true
section
variable {P:Program}{w:World}{K:PySem.W.Frag}{mg:Str->Option Value}{base:Heap}
theorem C7.ok {x qual:Str}{st:Stmt}{f:Addr}{fd:FuncData}{N ps:List Str}{k:Nat}{sp:Sp} (F:C7 K x qual st f fd) (S:a9 N ps (aC st)) (len:∀ vs H Q E,sp vs H Q E->vs.length=ps.length)
  (hbody:∀ (cdv:Value) (A:Around) (outer:List Env) (s:Shared) (H:Hp) (vs:List V) (Q:VK) (E:XK),gh k (A.deeper (envOfC qual (aC st) s.heap.objs.size f cdv))->sp vs H Q E ->
   ∃ t,lY (lV vQ P w K mg base N qual (aC st) f cdv A outer s H E).El (dY st) t/\t { nx:=fun _ H'=>Q .cY H',rt:=Q } (start N vs) H):nG P w K mg base vQ (k + 1) f fd ps sp:=by
 obtain ⟨oc,od,kV,doc,pm,an,cdv,ct,osl,rfl,lk,hcd⟩:=F.ex
 refine Ef lk hcd S len fun A outer s H vs Q E hr hsp=>?_
 obtain ⟨t,h,q⟩:=hbody cdv A outer s H vs Q E hr hsp
 exact ⟨t,h.El,q⟩
theorem C7.binds {x qual:Str}{st:Stmt}{f:Addr}{fd:FuncData}{ps:List Str} (F:C7 K x qual st f fd)
  (h:∀ (kV doc pm:Value) (an:Option Addr) (cdv ct:Value) (us:List Value),us.length=ps.length->bindArgs (PySem.W.fnOf x qual (je st) (dY st) (aC st) .none kV doc pm an cdv ct) ⟨us,[]⟩=pure (ps.zip us)):Binds K fd ps []:=by
 obtain ⟨oc,od,kV,doc,pm,an,cdv,ct,osl,rfl,lk,hcd⟩:=F.ex
 exact .all (h kV doc pm an cdv ct)
theorem wa {x qual:Str}{st:Stmt}{f:Addr}{oc:Value}{od an:Option Addr}{osl:Array (Option Value)}{kV doc pm cdv ct:Value} (l:K.lookup f=some ⟨oc,od,.func (PySem.W.fnOf x qual (je st) (dY st) (aC st) .none kV doc pm an cdv ct),osl⟩)
  (c:PySem.W.codeIn K cdv qual=true) (k:PySem.W.keepIn K (.ref f)=true):C7 K x qual st f (PySem.W.fnOf x qual (je st) (dY st) (aC st) .none kV doc pm an cdv ct):=⟨⟨oc,od,kV,doc,pm,an,cdv,ct,osl,rfl,l,c⟩,k⟩
end
theorem dU {A:Around}{k:Nat} (hr:gh k A):A.units + 1 < cLine:=Nat.lt_of_le_of_lt (Nat.add_le_add_left (by decide:1 <= 64) _) hr.units
section
variable {X:Cx}
end
def aw (H H':Hp):Prop := ∀ b o,H b=some o->H' b=some o
theorem aw.refl (H:Hp):aw H H:=fun _ _ h=>h
theorem aw.trans {H H1 H2:Hp} (a:aw H H1) (b:aw H1 H2):aw H H2:=fun c o h=>b c o (a c o h)
theorem aw.free {H H':Hp} (e:aw H H') {l:Addr} (h:H' l=Option.none):H l=Option.none:=by
 cases q:H l with
 | none=>rfl
 | some o =>
  rw [e l o q] at h
  cases h
theorem aw.seq {K:PySem.W.Frag}{H H':Hp}{a:Addr}{xs:List V} (e:aw H H') (h:gI K H a xs):gI K H' a xs:=by
 rcases h with (h | ⟨o,h⟩) | h
 ·exact .inl (.inl (e _ _ h))
 ·exact .inl (.inr ⟨o,e _ _ h⟩)
 ·exact .inr h
section
variable {X:Cx}
end
section
variable {κ:Type} [DecidableEq κ]
end
section
variable {X:Cx}{pins:List (Addr × Obj)}{σ:St}{H H':Hp}{s s':Shared}
end
theorem lookup_mem {α:Type}{y:Str}{v:α}:∀ {l:List (Str × α)},l.lookup y=some v->(y,v) ∈ l
 | [],h=>by cases h
 | (n,k) :: r,h=>by
  rw [List.lookup_cons] at h
  cases hb:y == n with
  | true =>
   rw [hb] at h
   cases h
   rw [beq_iff_eq.mp hb]
   exact List.mem_cons_self
  | false =>
   rw [hb] at h
   exact List.mem_cons_of_mem _ (lookup_mem h)
theorem iC {α:Type}{y:Str}{v:α}:∀ {l:List (Str × α)},(l.map (·.1)).Nodup->(y,v) ∈ l->l.lookup y=some v
 | [],_,h=>by cases h
 | (n,k) :: r,hn,h=>by
  have hn':(n :: r.map (·.1)).Nodup:=hn
  obtain ⟨h1,h2⟩:=List.nodup_cons.mp hn'
  rw [List.lookup_cons]
  rcases List.mem_cons.mp h with e | e
  ·cases e
   simp
  ·have hne:(y == n)=false:=by
    refine beq_eq_false_iff_ne.mpr fun z=>h1 ?_
    rw [<- z]
    exact List.mem_map.mpr ⟨(y,v),e,rfl⟩
   rw [hne]
   exact iC h2 e
def yY (env:Env) (y:Str) (k:NameKind):NameKind:=if (k == NameKind.free && env.scope.kind == .function && env.kindOf y == some .cell)=true then .cell else k
theorem kX (scope:Scope) (env:Env) (y:Str):(relabel scope env).names.lookup y=(scope.names.lookup y).map (yY env y):=by
 show (scope.names.map fun (n,k)=>if (k == NameKind.free && env.scope.kind == .function && env.kindOf n == some .cell)=true then (n,NameKind.cell) else (n,k)).lookup y=_
 induction scope.names with
 | nil=>rfl
 | cons p r ih =>
  obtain ⟨n,k⟩:=p
  rw [List.map_cons]
  by_cases hc:(k == NameKind.free && env.scope.kind == .function && env.kindOf n == some .cell)=true
  ·simp only [if_pos hc,List.lookup_cons]
   cases hb:y == n with
   | true =>
    have e:y=n:=beq_iff_eq.mp hb
    subst e
    simp only [Option.map_some,yY,if_pos hc]
   | false=>exact ih
  ·simp only [if_neg hc,List.lookup_cons]
   cases hb:y == n with
   | true =>
    have e:y=n:=beq_iff_eq.mp hb
    subst e
    simp only [Option.map_some,yY,if_neg hc]
   | false=>exact ih
theorem mf {env:Env} (f:Str × NameKind->List (Str × Addr)->Sem (ForInStep (List (Str × Addr))))
  (hf:∀ name kind cs,f (name,kind) cs=if (kind == .free)=true then (do let a <- cellOf env name; pure (.yield ((name,a) :: cs))) else pure (.yield cs)) :
  ∀ (names:List (Str × NameKind)) (acc:List (Str × Addr)),(∀ y ∈ names,y.2=.free->∃ c,env.cells.lookup y.1=some c) ->
   ∃ cl,(forIn names acc f:Sem (List (Str × Addr)))=pure cl/\(∀ y c,cl.lookup y=some c->acc.lookup y=some c ∨ (env.cells.lookup y=some c/\(y,NameKind.free) ∈ names)) /\
    (∀ y,(y,NameKind.free) ∈ names ∨ (acc.lookup y).isSome=true->∃ c,cl.lookup y=some c)
 | [],acc,_=>⟨acc,by rw [List.forIn_nil],fun y c e=>.inl e,fun y h=>by
   rcases h with h | h
   ·cases h
   ·exact Option.isSome_iff_exists.mp h⟩
 | (name,kind) :: r,acc,h=>by
  have hr:∀ y ∈ r,y.2=.free->∃ c,env.cells.lookup y.1=some c:=fun y hy=>h y (List.mem_cons_of_mem _ hy)
  by_cases hk:(kind == NameKind.free)=true
  ·have e:kind=.free:=beq_iff_eq.mp hk
   subst e
   obtain ⟨c0,hc0⟩:=h (name,.free) List.mem_cons_self rfl
   have hc0:env.cells.lookup name=some c0:=hc0
   obtain ⟨cl,h1,h2,h3⟩:=mf f hf r ((name,c0) :: acc) hr
   refine ⟨cl,?_,fun y c e=>?_,fun y hy=>?_⟩
   ·rw [List.forIn_cons,hf,if_pos hk]
    unfold cellOf
    rw [hc0]
    exact h1
   ·rcases h2 y c e with q | ⟨q1,q2⟩
    ·rw [List.lookup_cons] at q
     cases hb:y == name with
     | true =>
      rw [hb] at q
      cases q
      have e:y=name:=beq_iff_eq.mp hb
      subst e
      exact .inr ⟨hc0,List.mem_cons_self⟩
     | false =>
      rw [hb] at q
      exact .inl q
    ·exact .inr ⟨q1,List.mem_cons_of_mem _ q2⟩
   ·refine h3 y ?_
    rw [List.lookup_cons]
    cases hb:y == name with
    | true=>exact .inr rfl
    | false =>
     rcases hy with hy | hy
     ·rcases List.mem_cons.mp hy with z | z
      ·cases z
       simp at hb
      ·exact .inl z
     ·exact .inr hy
  ·obtain ⟨cl,h1,h2,h3⟩:=mf f hf r acc hr
   refine ⟨cl,?_,fun y c e=>(h2 y c e).imp id fun q=>⟨q.1,List.mem_cons_of_mem _ q.2⟩,fun y hy=>h3 y (hy.imp (fun hy=>?_) id)⟩
   ·rw [List.forIn_cons,hf,if_neg hk]
    exact h1
   ·rcases List.mem_cons.mp hy with z | z
    ·cases z
     exact absurd rfl hk
    ·exact z
theorem wc {scope:Scope}{env:Env} (h:∀ y ∈ scope.names,y.2=.free->∃ c,env.cells.lookup y.1=some c) :
  ∃ cl,closureFor scope env=pure cl/\(∀ y c,cl.lookup y=some c->env.cells.lookup y=some c/\(y,NameKind.free) ∈ scope.names)/\(∀ y,(y,NameKind.free) ∈ scope.names->∃ c,cl.lookup y=some c):=by
 have key:∀ f:Str × NameKind->List (Str × Addr)->Sem (ForInStep (List (Str × Addr))),
   (∀ name kind cs,f (name,kind) cs=if (kind == .free)=true then (do let a <- cellOf env name; pure (.yield ((name,a) :: cs))) else pure (.yield cs)) ->
   closureFor scope env=(forIn scope.names [] f >>= fun r=>pure r) ->
   ∃ cl,closureFor scope env=pure cl/\(∀ y c,cl.lookup y=some c->env.cells.lookup y=some c/\(y,NameKind.free) ∈ scope.names)/\(∀ y,(y,NameKind.free) ∈ scope.names->∃ c,cl.lookup y=some c):=by
  intro f hf e
  obtain ⟨cl,h1,h2,h3⟩:=mf f hf scope.names [] h
  refine ⟨cl,?_,fun y c q=>(h2 y c q).resolve_left (fun z=>by cases z),fun y hy=>h3 y (.inl hy)⟩
  rw [e,h1]
  rfl
 refine key _ (fun name kind cs=>?_) rfl
 by_cases hk:(kind == NameKind.free)=true
 ·simp only [hk,if_true]
 ·simp only [hk,if_false]
theorem kY:∀ (names:List (Str × NameKind)) (h:Heap) (acc:List (Str × Addr)) (y:Str) (c:Addr),(cellsFrom h.objs.size names acc).lookup y=some c ->
  acc.lookup y=some c ∨ (h.objs.size <= c/\(y,NameKind.cell) ∈ names/\(pushCells h names).IsCell c none)
 | [],_,_,_,_,e=>.inl e
 | (name,kind) :: r,h,acc,y,c,e=>by
  unfold cellsFrom at e
  unfold pushCells
  by_cases hk:(kind == NameKind.cell)=true
  ·rw [if_pos hk] at e ⊢
   have ek:kind=.cell:=beq_iff_eq.mp hk
   subst ek
   have sz:(h.push { cls := .type "cell",data := .cell none }).objs.size=h.objs.size + 1:=Heap.size_push ..
   rw [<- sz] at e
   rcases kY r _ _ y c e with q | ⟨q1,q2,q3⟩
   ·rw [List.lookup_cons] at q
    cases hb:y == name with
    | true =>
     rw [hb] at q
     cases q
     have e:y=name:=beq_iff_eq.mp hb
     subst e
     exact .inr ⟨Nat.le_refl _,List.mem_cons_self,⟨_,pushCells_keeps _ _ _ _ (Heap.get?_push_size _ rfl),rfl⟩⟩
    | false =>
     rw [hb] at q
     exact .inl q
   ·rw [sz] at q1
    exact .inr ⟨Nat.le_of_succ_le q1,List.mem_cons_of_mem _ q2,q3⟩
  ·rw [if_neg hk] at e ⊢
   rcases kY r _ _ y c e with q | ⟨q1,q2,q3⟩
   ·exact .inl q
   ·exact .inr ⟨q1,List.mem_cons_of_mem _ q2,q3⟩
theorem nN:∀ (names:List (Str × NameKind)) (n:Nat) (acc:List (Str × Addr)),(∀ y z c,acc.lookup y=some c->acc.lookup z=some c->y=z)->(∀ y c,acc.lookup y=some c->c < n) ->
  ∀ y z c,(cellsFrom n names acc).lookup y=some c->(cellsFrom n names acc).lookup z=some c->y=z
 | [],_,_,h,_,y,z,c,e1,e2=>h y z c e1 e2
 | (name,kind) :: r,n,acc,h,hl,y,z,c,e1,e2=>by
  unfold cellsFrom at e1 e2
  by_cases hk:(kind == NameKind.cell)=true
  ·rw [if_pos hk] at e1 e2
   refine nN r (n + 1) _ (fun y z c q1 q2=>?_) (fun y c q=>?_) y z c e1 e2
   ·rw [List.lookup_cons] at q1 q2
    cases b1:y == name with
    | true =>
     rw [b1] at q1
     cases q1
     cases b2:z == name with
     | true=>rw [beq_iff_eq.mp b1,beq_iff_eq.mp b2]
     | false =>
      rw [b2] at q2
      exact absurd (hl z _ q2) (Nat.lt_irrefl _)
    | false =>
     rw [b1] at q1
     cases b2:z == name with
     | true =>
      rw [b2] at q2
      cases q2
      exact absurd (hl y _ q1) (Nat.lt_irrefl _)
     | false =>
      rw [b2] at q2
      exact h y z c q1 q2
   ·rw [List.lookup_cons] at q
    cases b:y == name with
    | true =>
     rw [b] at q
     cases q
     exact Nat.lt_succ_self _
    | false =>
     rw [b] at q
     exact Nat.lt_succ_of_lt (hl y c q)
  ·rw [if_neg hk] at e1 e2
   exact nN r n acc h hl y z c e1 e2
theorem wb {M:Model}{A:Around}{E:Value->Shared->Prop}{s:Shared}{scope:Scope}{env:Env}{cl:List (Str × Addr)}{Q:Env->Shared->Prop}
  (hQ:Q { scope:=scope,locals:=s.heap.objs.size,globals:=env.globals,cells:=cellsFrom (s.heap.objs.size + 1) scope.names cl,qual:=env.qual,func:=none,code:=env.code,frame:=env.frame,builtins:=env.builtins }
   { s with heap:=pushCells (s.heap.push { cls := .type "dict",data := .dict #[] }) scope.names }) :
  wpAny M A (newFunctionEnv scope env.globals cl [] env.qual none .none (some env)) Q E s:=by
 simp only [newFunctionEnv,Option.isSome_some,if_true]
 refine wpAny_bind (wpAny_alloc ?_)
 refine wpAny_bind (wpAny_layCells _ (fun name kind cells=>by cases hkc:kind == NameKind.cell <;> simp [hkc]) _ _ _ _ ?_)
 rw [show ({ s with heap:=s.heap.push { cls := .type "dict",data := .dict #[] } }:Shared).heap.objs.size=s.heap.objs.size + 1 from Heap.size_push ..]
 refine wpAny_bind ?_
 rw [List.forIn_nil]
 exact wpAny_pure (wpAny_pure hQ)
section
variable {prog:Program}{w:World}{A:Around}{R:Result->Shared->Prop}{s:Shared}
theorem yZ {elt target iter:Expr}{ifs:List Expr}{scope:Scope}{pos:Pos}{it acc:Value}{env:Env} (I:Nat->Shared->Prop)
  (turn:∀ n s,I n s->wpAny (model prog w) A (pyNext it) (fun r s₁=>match r with
   | none=>R (.ok .next) s₁
   | some v=>wpAny (model prog w) A (letOwnedTupleGo target it v) (fun _ s₁'=>wpAny (model prog w) A (assign target env v) (fun _ s₂ =>
     wpAny (model prog w) A (forIn ifs true fun c r=>if r=true then do let ok <- isTrue c env (eval c env); pure (ForInStep.yield ok) else pure (ForInStep.yield r)) (fun ok s₂' =>
      if ok=true then wpAny (model prog w) A (eval elt env) (fun x s₃ =>
       wpAny (model prog w) A (call (.builtin "list.append") [acc,x]) (fun _ s₄=>∃ m,m < n/\I m s₄) (fun _ _=>False) s₃) (fun _ _=>False) s₂'
      else ∃ m,m < n/\I m s₂') (fun _ _=>False) s₂) (fun _ _=>False) s₁') (fun _ _=>False) s₁) (fun _ _=>False) s)
  (n:Nat) (h:I n s):codeAny (model prog w) A (.compLoop (.ListComp elt [⟨target,iter,ifs,0⟩] scope pos) 0 it acc env) R s:=by
 refine codeAny_loop rfl I (fun n s hI=>?_) n h
 show wpAny _ _ ((compTurn (.ListComp elt [⟨target,iter,ifs,0⟩] scope pos) 0 it acc env).onRaise (fun x=>do noteFrame x env; theTreesLotGoes x)) _ _ s
 refine wpAny_noted ?_
 rw [compTurn_list]
 refine wpAny_bind (wpAny_standAt (wpAny_bind (wpAny_mono (turn n s hI) (fun r s₁ h₁=>?_) fun _ _ h'=>h'.elim)))
 cases r with
 | none=>exact wpAny_pure h₁
 | some v =>
  refine wpAny_bind (wpAny_mono h₁ (fun _ s₁' h₁'=>?_) fun _ _ h'=>h'.elim)
  refine wpAny_bind (wpAny_mono h₁' (fun _ s₂ h₂=>wpAny_bind (wpAny_mono h₂ (fun ok s₃ h₃=>?_) fun _ _ h'=>h'.elim)) fun _ _ h'=>h'.elim)
  cases ok with
  | false=>exact wpAny_pure ⟨rfl,h₃⟩
  | true =>
   exact wpAny_bind (wpAny_bind (wpAny_mono h₃ (fun x s₄ h₄=>wpAny_bind (wpAny_mono h₄ (fun _ s₅ h₅=>wpAny_pure (wpAny_pure ⟨rfl,h₅⟩)) fun _ _ h'=>h'.elim)) fun _ _ h'=>h'.elim))
def Hx (X:Cx) (ifs:List Expr) (t:TT):Prop := ∀ (pins:List (Addr × Obj)) (s:Shared) (σ:St) (H:Hp) (Q:Bool->Hp->Prop),Inv X pins σ H s->t σ H Q ->
 wpAny (model X.prog X.w) X.A (forIn ifs true fun c r=>if r=true then do let ok <- isTrue c X.env (eval c X.env); pure (ForInStep.yield ok) else pure (ForInStep.yield r)) (TP X pins σ Q) X.xe s
def Jj:TT:=fun _ H Q=>Q true H
theorem Dc {X:Cx}:Hx X [] Jj:=fun pins s σ H Q I h=>wpAny_tests_nil ⟨H,I,h⟩
theorem C9 {X:Cx}{c:Expr}{t:TT} (h:PT X c t):Hx X [c] t:=fun pins s σ H Q I hw=>wpAny_tests_one (h pins s σ H Q I hw)
end
structure iq (X:Cx) (scope:Scope) (own:List Str) (cap:List (Str × Nat)):Prop where
 kind:scope.kind=.function
 nd:(scope.names.map (·.1)).Nodup
 free:∀ y ∈ scope.names,y.2=.free->X.env.kindOf y.1=some .cell ∨ X.env.kindOf y.1=some .free
 Jk:∀ p ∈ cap,X.N[p.2]?=some p.1/\(p.1,NameKind.free) ∈ scope.names
def pQ (σ:St) (cap:List (Str × Nat)):St:=cap.map fun p=>(σ[p.2]?).join
def iS (X:Cx) (scope:Scope) (cs:List (Str × Addr)) (C:Addr) (N:List Str) (s0:Shared) (H0:Hp) (fp:List Addr):Cx where
 prog:=X.prog
 w:=X.w
 K:=X.K
 mg:=X.mg
 base:=X.base
 A:=X.A
 N:=N
 s₀:=s0
 H₀:=H0
 env:=compEnvC scope cs C X.env
 outer:=X.stack
 stack:=X.stack
 ex:=fp
 fn:=fun y=>decide (scope.names.lookup y=some .cell)
 calm:=X.calm
 pn:=X.pn
 xe:=fun _ _=>False
section
variable {X:Cx}{pins:List (Addr × Obj)}{σ:St}{H:Hp}{s:Shared}
theorem uF {env:Env}{y:Str} (h:env.kindOf y=some .cell ∨ env.kindOf y=some .free):Eg env.scope y := .inr h
theorem Al {scope:Scope}{own:List Str}{cap:List (Str × Nat)}{cl:List (Str × Addr)}{fp:List Addr} (I:Inv X pins σ H s) (ok:iq X scope own cap)
  (hcl:∀ y c,cl.lookup y=some c->X.env.cells.lookup y=some c/\(y,NameKind.free) ∈ scope.names) (hcl2:∀ y,(y,NameKind.free) ∈ scope.names->∃ c,cl.lookup y=some c)
  (f2:∀ b ∈ fp,oX X pins H b) (fo:∀ b ∈ fp,b < s.heap.objs.size) :
  Inv (iS X scope (cellsFrom (s.heap.objs.size + 1) scope.names cl) s.heap.objs.size (own ++ cap.map (·.1)) s H fp) pins (List.replicate own.length none ++ pQ σ cap) H
   { s with heap:=pushCells (s.heap.push { cls := .type "dict",data := .dict #[] }) scope.names }:=by
 have szC:(s.heap.push { cls := .type "dict",data := .dict #[] }).objs.size=s.heap.objs.size + 1:=Heap.size_push ..
 have kp:∀ b o,s.heap.get? b=some o->(pushCells (s.heap.push { cls := .type "dict",data := .dict #[] }) scope.names).get? b=some o:=fun b o e=>pushCells_keeps _ _ b o (Heap.get?_push_of_some _ e)
 have sp:∀ y c,(cellsFrom (s.heap.objs.size + 1) scope.names cl).lookup y=some c->(X.env.cells.lookup y=some c/\(y,NameKind.free) ∈ scope.names) ∨
   (s.heap.objs.size + 1 <= c/\(y,NameKind.cell) ∈ scope.names/\(pushCells (s.heap.push { cls := .type "dict",data := .dict #[] }) scope.names).IsCell c none):=fun y c e=>by
  rw [<- szC] at e
  rcases kY _ _ _ y c e with q | q
  ·exact .inl (hcl y c q)
  ·rw [szC] at q
   exact .inr q
 have clt:∀ y c,X.env.cells.lookup y=some c->c < s.heap.objs.size:=fun y c e=>by
  obtain ⟨v,o,ho,_⟩:=I.cell y c e
  exact Heap.lt_size ho
 have kfree:∀ y,(y,NameKind.free) ∈ scope.names->scope.names.lookup y=some .free:=fun y h=>iC ok.nd h
 have kcell:∀ y,(y,NameKind.cell) ∈ scope.names->scope.names.lookup y=some .cell:=fun y h=>iC ok.nd h
 have okY:(iS X scope (cellsFrom (s.heap.objs.size + 1) scope.names cl) s.heap.objs.size (own ++ cap.map (·.1)) s H fp).Ok := {
  mod:=I.ok.mod
  kind:=ok.kind
  glob:=I.ok.glob
  blt:=I.ok.blt
  above:=Nat.le_refl _
  inj:=fun x y c e1 e2=>nN scope.names (s.heap.objs.size + 1) cl (fun y z c q1 q2=>I.ok.inj y z c (hcl y c q1).1 (hcl z c q2).1) (fun y c q=>Nat.lt_succ_of_lt (clt y c (hcl y c q).1)) x y c e1 e2
  has:=fun y hy=>by
   have hy':(relabel scope X.env).names.lookup y=some .cell ∨ (relabel scope X.env).names.lookup y=some .free:=hy
   rw [kX] at hy'
   refine Option.isSome_iff_exists.mp (PySem.W.cellsFrom_some scope.names _ _ ?_)
   cases q:scope.names.lookup y with
   | none =>
    rw [q] at hy'
    rcases hy' with z | z <;> cases z
   | some k =>
    by_cases hk:k=.cell
    ·subst hk
     exact .inl rfl
    ·by_cases hf:k=.free
     ·subst hf
      obtain ⟨c,hc⟩:=hcl2 y (lookup_mem q)
      exact .inr (by rw [hc]; rfl)
     ·rw [q] at hy'
      exfalso
      have hb:(k == NameKind.free)=false:=by simpa using hf
      rcases hy' with z | z
      ·simp [yY,hb] at z
       exact hk z
      ·simp [yY,hb] at z
       exact hf z
  Cz:=fun y c hf e=>by
   have hf':scope.names.lookup y=some .cell:=of_decide_eq_true hf
   rcases sp y c e with ⟨_,q⟩ | ⟨q,_⟩
   ·rw [kfree y q] at hf'
    cases hf'
   ·exact Nat.le_of_succ_le q
  hd:=I.ok.hd
  frames:=I.ok.frames
  CG := .inl rfl
  Em:=fun b hb=>⟨Nat.ne_of_lt (fo b hb),fun x c e z=>by
   subst z
   rcases sp x c e with ⟨q,_⟩ | ⟨q,_⟩
   ·exact (f2 c hb).2.2.2.2.1 x c q rfl
   ·exact absurd (Nat.lt_of_lt_of_le (fo c hb) (Nat.le_of_succ_le q)) (Nat.lt_irrefl _)⟩
  bs:=I.bs
  xE:=Nat.le_trans I.ok.xE I.sz
  qJ:=fun b o e hb=>by
   rcases (f2 b hb).2.2.2.1 with q | q
   ·exact I.ok.qJ b o e q
   ·exact absurd (Nat.lt_of_lt_of_le (Heap.lt_size e) (Nat.le_trans I.ok.xE q)) (Nat.lt_irrefl _)
  qK:=fun b hb z=>by
   rcases List.mem_cons.mp (I.nI b z) with q | q
   ·exact (f2 b hb).2.1 q
   ·exact (f2 b hb).2.2.1 q
  jS:=I.stack
  zQ:=I.sL }
 obtain ⟨m,hns,hl⟩:=id I.loc
 refine ⟨okY,rfl,I.bare,Un.kept kp,⟨fun _=>none,(Heap.Ns.new s.heap (.type "dict")).keeps (pushCells_keeps _ _),fun i x v e1 e2 e3=>?_⟩,fun y c e=>?_,I.fresh,fun y c e=>?_,fun p hp=>?_,I.hok.kept kp,?_⟩
 ·
  have e1:(own ++ cap.map (·.1))[i]?=some x:=e1
  by_cases hi:i < own.length
  ·rw [List.getElem?_append_left (by simpa using hi)] at e2
   simp [hi] at e2
  ·have hi':own.length <= i:=Nat.not_lt.mp hi
   rw [List.getElem?_append_right (by simpa using hi')] at e2
   rw [List.getElem?_append_right hi'] at e1
   rw [List.length_replicate] at e2
   unfold pQ at e2
   rw [List.getElem?_map] at e1 e2
   cases q:cap[i - own.length]? with
   | none =>
    rw [q] at e1
    cases e1
   | some p =>
    rw [q] at e1 e2
    obtain ⟨p1,p2⟩:=p
    have e1:p1=x:=Option.some.inj e1
    subst e1
    have e2:(σ[p2]?).join=some v:=Option.some.inj e2
    have e2:σ[p2]?=some (some v):=by
     cases z:σ[p2]? with
     | none=>rw [z] at e2; cases e2
     | some z'=>rw [z] at e2; exact congrArg some e2
    obtain ⟨hN,hfr⟩:=ok.Jk (p1,p2) (List.mem_of_getElem? q)
    have hk:=ok.free (p1,.free) hfr rfl
    obtain ⟨u,r,L⟩:=hl p2 p1 v hN e2 (uF hk)
    refine ⟨u,r,?_⟩
    rcases L with ⟨k,_⟩ | ⟨_,c,hc,hcell⟩
    ·have hk:X.env.kindOf p1=some .cell ∨ X.env.kindOf p1=some .free:=hk
     rw [k] at hk
     rcases hk with z | z <;> cases z
    ·refine .inr ⟨?_,c,?_,hcell.keeps kp⟩
     ·show (relabel scope X.env).names.lookup p1=some .cell ∨ (relabel scope X.env).names.lookup p1=some .free
      rw [kX,kfree _ hfr,Option.map_some]
      unfold yY
      split
      ·exact .inl rfl
      ·exact .inr rfl
     ·obtain ⟨c',hc'⟩:=hcl2 p1 hfr
      obtain ⟨c2,hc2⟩:=Option.isSome_iff_exists.mp (PySem.W.cellsFrom_some scope.names (s.heap.objs.size + 1) cl (.inr (by rw [hc']; rfl):scope.names.lookup p1=some .cell ∨ (cl.lookup p1).isSome=true))
      have hc2':(cellsFrom (s.heap.objs.size + 1) scope.names cl).lookup p1=some c2:=hc2
      rcases sp p1 c2 hc2' with ⟨q1,_⟩ | ⟨_,q2,_⟩
      ·rw [hc] at q1
       cases q1
       exact hc2'
      ·have:=kcell p1 q2
       rw [kfree p1 hfr] at this
       cases this
 ·rcases sp y c e with ⟨q,_⟩ | ⟨_,_,q⟩
  ·obtain ⟨v,hv⟩:=I.cell y c q
   exact ⟨v,hv.keeps kp⟩
  ·exact ⟨none,q⟩
 ·rcases sp y c e with ⟨q,_⟩ | ⟨q,_⟩
  ·exact I.gi y c q
  ·exact I.hok.fresh (Nat.le_of_succ_le q)
 ·obtain ⟨a1,a2,a3,a4,a5⟩:=I.pin p hp
  refine ⟨kp _ _ a1,a2,Nat.ne_of_lt (Heap.lt_size a1),fun z=>?_,a5⟩
  rcases List.mem_cons.mp (I.nI p.1 z) with q | q
  ·exact a3 q
  ·exact a4 q
 ·show (List.replicate own.length none ++ pQ σ cap).length=(own ++ cap.map (·.1)).length
  simp [pQ]
theorem uE {scope:Scope}{cs:List (Str × Addr)}{C:Addr}{N:List Str}{fp:List Addr}{τ:St}{H':Hp}{s':Shared}{h':Heap} (I:Inv X pins σ H s) (f2:∀ b ∈ fp,oX X pins H b)
  (hC:s.heap.objs.size <= C) (J:Inv (iS X scope cs C N s H fp) pins τ H' s') (hs:Heap.SameBut C s'.heap h'):Inv X pins σ H' { s' with heap:=h' }:=by
 have u:Un (frs X.stack) fp H H' s.heap s'.heap:=J.base
 have ne:∀ b o,s.heap.get? b=some o->b ≠ C:=fun b o e=>Nat.ne_of_lt (Nat.lt_of_lt_of_le (Heap.lt_size e) hC)
 refine I.Eo (s' := { s' with heap:=h' }) (ch:=fp) J.os ⟨fun b o e n hf hx=>?_,fun b o e n hf hx=>?_,u.free,fun b o e hx=>?_,u.tups,u.lU,u.nJ⟩ (fun a o e=>?_) J.bare fun b hb=>⟨(f2 b hb).2.2.2.1,(f2 b hb).2.1,(f2 b hb).2.2.2.2.1,(f2 b hb).2.2.2.2.2⟩
 ·exact (hs.2 b (ne b o e)).trans (u.keep b o e n hf hx)
 ·obtain ⟨sl,q⟩:=u.slot b o e n hf hx
  exact ⟨sl,(hs.2 b (ne b o e)).trans q⟩
 ·obtain ⟨o',q⟩:=u.there b o e hx
  exact ⟨o',(hs.2 b (ne b o e)).trans q⟩
 ·refine (J.hok a o e).stay (fun b v hb q=>(hs.2 b ?_).trans q) (fun _ q=>q) fun _ _ q=>q
  rintro rfl
  have fr:H' b=none:=J.free
  rcases hb with rfl | hb
  ·rw [fr] at e
   cases e
  ·rw [fr] at hb
   cases hb
end
def uG (wi:TI) (g:TG) (tt:TT) (te:TE) (k:Nat) (cap:List (Str × Nat)):TE:=fun σ H Q=>wi σ H fun J H1=>∀ acc,H1 acc=none->∃ W:Nat->Nat->St->List V->Hp->Prop,
 (∃ m,W 0 m (List.replicate k none ++ pQ σ cap) [] (upd H1 acc (.lst []))) /\
 ∀ i m τ ys H,W i m τ ys H->(J.stop i H/\Q (.ref acc) H) ∨ (J.go i H/\∀ x H',J.yI i H x H'->g x τ H' fun τ2 H2=>tt τ2 H2 fun b H2'=>if b=true then te τ2 H2' fun v H3 =>
  H3 acc=some (.lst ys)/\ys.length < sizeLine/\∃ m',m' < m/\W (i + 1) m' τ2 (ys ++ [v]) (upd H3 acc (.lst (ys ++ [v]))) else ∃ m',m' < m/\W (i + 1) m' τ2 ys H2')
structure jf (X:Cx) (scope:Scope) (own:List Str) (cap:List (Str × Nat)) (tg:Expr) (ifs:List Expr) (elt:Expr) (g:TG) (tt:TT) (te:TE):Prop where
 JY:∀ cs C s0 H0 fp,PG (iS X scope cs C (own ++ cap.map (·.1)) s0 H0 fp) tg g
 J0:∀ cs C s0 H0 fp,Hx (iS X scope cs C (own ++ cap.map (·.1)) s0 H0 fp) ifs tt
 JZ:∀ cs C s0 H0 fp,PE (iS X scope cs C (own ++ cap.map (·.1)) s0 H0 fp) elt te
section
variable {X:Cx}{tg elt iter:Expr}{ifs:List Expr}{tt:TT}{scope:Scope}{pos:Pos}{own:List Str}{cap:List (Str × Nat)}{wi:TI}{g:TG}{te:TE}
theorem pR {pins:List (Addr × Obj)}{σ:St}{H2:Hp}{s2:Shared}{Q:VK}{it:Addr}{fp:List Addr}{tn:Nat->Heap->Prop}{J:It}{cl:List (Str × Addr)}{RR:Value->Addr->Result->Shared->Prop}
  {cm:Cx->Prop} (ok:iq X scope own cap) (hc:∀ cs C N s0 H0 fp,Inv X pins σ H0 s0->cm (iS X scope cs C N s0 H0 fp)) (B:jf X scope own cap tg ifs elt g tt te)
  (hcl:∀ y c,cl.lookup y=some c->X.env.cells.lookup y=some c/\(y,NameKind.free) ∈ scope.names) (hcl2:∀ y,(y,NameKind.free) ∈ scope.names->∃ c,cl.lookup y=some c)
  (I2:Inv X pins σ H2 s2) (T:xx cm X.prog X.w X.K tg J fp it tn) (st2:tn 0 s2.heap) (f2:∀ b ∈ fp,oX X pins H2 b)
  (h:∀ acc,H2 acc=none->∃ W:Nat->Nat->St->List V->Hp->Prop,(∃ m,W 0 m (List.replicate own.length none ++ pQ σ cap) [] (upd H2 acc (.lst []))) /\
   ∀ i m τ ys H,W i m τ ys H->(J.stop i H/\Q (.ref acc) H) ∨ (J.go i H/\∀ x H',J.yI i H x H'->g x τ H' fun τ2 H2=>tt τ2 H2 fun b H2'=>if b=true then te τ2 H2' fun v H3 =>
    H3 acc=some (.lst ys)/\ys.length < sizeLine/\∃ m',m' < m/\W (i + 1) m' τ2 (ys ++ [v]) (upd H3 acc (.lst (ys ++ [v]))) else ∃ m',m' < m/\W (i + 1) m' τ2 ys H2'))
  (hR:∀ D C H' s',(∀ h',Heap.SameBut C s'.heap h'->Inv X pins σ H' { s' with heap:=h' })->(∃ m,s'.heap.Ns C m)->H' C=none->X.s₀.heap.objs.size <= C->C ≠ X.env.locals->(∀ x c,X.env.cells.lookup x=some c->c ≠ C)->(∀ p ∈ X.pn ++ pins,p.1 ≠ C) ->
   Q (.ref D) H'->RR (.ref D) C (.ok .next) s') {E:Value->Shared->Prop} :
  wpAny (model X.prog X.w) X.A (newList []) (fun acc s₃=>wpAny (model X.prog X.w) X.A (newFunctionEnv scope X.env.globals cl [] X.env.qual none .none (some X.env)) (fun cenv s₄ =>
   codeAny (model X.prog X.w) X.A (.compStart (.ListComp elt [⟨tg,iter,ifs,0⟩] scope pos) 0 (.ref it) acc { cenv with scope:=relabel scope X.env }) (RR acc cenv.locals) s₄) E s₃) E s2:=by
 refine wpAny_newObj_type ?_
 have fresh:H2 s2.heap.objs.size=none:=I2.fresh
 have I3:Inv X pins σ (upd H2 s2.heap.objs.size (.lst [])) { s2 with heap:=s2.heap.push { cls := .type "list",data := .seq ([]:List Value).toArray } }:=I2.Hn (its := []) (ys := []) (t' := s2.toks) .nil (Nat.zero_le _)
 have ob2:=T.obj _ _ st2
 have lt2:∀ b ∈ fp,b < s2.heap.objs.size:=fun b hb=>let ⟨o,e,_⟩:=ob2 b hb; Heap.lt_size e
 have f3:∀ b ∈ fp,oX X pins (upd H2 s2.heap.objs.size (.lst [])) b:=fun b hb=>⟨by rw [aZ (Nat.ne_of_lt (lt2 b hb))]; exact (f2 b hb).1,(f2 b hb).2⟩
 have kp3:∀ b o,s2.heap.get? b=some o->(s2.heap.push { cls := .type "list",data := .seq ([]:List Value).toArray }).get? b=some o:=fun b o e=>Heap.get?_push_of_some _ e
 generalize hs3:({ s2 with heap:=s2.heap.push { cls := .type "list",data := .seq ([]:List Value).toArray } }:Shared)=s3 at I3 ⊢
 have k3:∀ b o,s2.heap.get? b=some o->s3.heap.get? b=some o:=fun b o e=>by rw [<- hs3]; exact kp3 b o e
 refine wb ?_
 have lt3:∀ b ∈ fp,b < s3.heap.objs.size:=fun b hb=>let ⟨o,e,_⟩:=ob2 b hb; Heap.lt_size (k3 b o e)
 have I4:=Al (own:=own) (cap:=cap) (fp:=fp) I3 ok hcl hcl2 f3 lt3
 have st4:tn 0 (pushCells (s3.heap.push { cls := .type "dict",data := .dict #[] }) scope.names):=T.keep _ _ _ st2 fun b _ o e=>pushCells_keeps _ _ b o (Heap.get?_push_of_some _ (k3 b o e))
 obtain ⟨W,⟨m0,w0⟩,turn⟩:=h s2.heap.objs.size fresh
 let Y:=iS X scope (cellsFrom (s3.heap.objs.size + 1) scope.names cl) s3.heap.objs.size (own ++ cap.map (·.1)) s3 (upd H2 s2.heap.objs.size (.lst [])) fp
 have I4:Inv Y pins (List.replicate own.length none ++ pQ σ cap) (upd H2 s2.heap.objs.size (.lst [])) { s3 with heap:=pushCells (s3.heap.push { cls := .type "dict",data := .dict #[] }) scope.names }:=I4
 have f4:∀ {H':Hp},(∀ b ∈ fp,H' b=none)->∀ b ∈ fp,oX Y pins H' b:=fun {H'} hn b hb=>by
  refine ⟨hn b hb,Nat.ne_of_lt (lt3 b hb),fun z=>?_,.inl hb,(I4.ok.Em b hb).2,(f2 b hb).2.2.2.2.2⟩
  exact I4.ok.qK b hb z
 have loop:codeAny (model X.prog X.w) X.A (.compLoop (.ListComp elt [⟨tg,iter,ifs,0⟩] scope pos) 0 (.ref it) (.ref s2.heap.objs.size) Y.env) (RR (.ref s2.heap.objs.size) s3.heap.objs.size)
   { s3 with heap:=pushCells (s3.heap.push { cls := .type "dict",data := .dict #[] }) scope.names }:=by
  refine yZ (fun n s'=>∃ i τ ys H',Inv Y pins τ H' s'/\tn i s'.heap/\(∀ b ∈ fp,H' b=none)/\W i n τ ys H') ?_ m0 ⟨0,_,[],_,I4,st4,fun b hb=>(f3 b hb).1,w0⟩
  rintro n s5 ⟨i,τ,ys,H5,I5,st5,fr5,w5⟩
  rcases turn i n τ ys H5 w5 with ⟨stop,q⟩ | ⟨go,step⟩
  ·refine fz (T.done Y rfl rfl rfl (hc _ _ _ _ _ _ I3) i pins s5 τ H5 (fun _ _=>False) I5 (f4 fr5) st5 stop) fun r s6 ⟨hr,I6⟩=>?_
   subst hr
   obtain ⟨m,hns,_⟩:=I6.loc
   have hC:X.s₀.heap.objs.size <= s3.heap.objs.size:=I3.sz
   refine hR _ _ H5 s6 (fun h' hs'=>uE I3 f3 (Nat.le_refl _) I6 hs') ⟨m,hns⟩ I6.free hC (fun z=>?_) (fun x c e z=>?_) (fun p hp z=>?_) q
   ·exact Nat.lt_irrefl _ (z ▸ I3.lt)
   ·obtain ⟨v,o,ho,_⟩:=I3.cell x c e
    rw [z] at ho
    exact Nat.lt_irrefl _ (Heap.lt_size ho)
   ·have e:=(I3.pin p hp).1
    rw [z] at e
    exact Nat.lt_irrefl _ (Heap.lt_size e)
  ·refine fz (T.item Y rfl rfl rfl (hc _ _ _ _ _ _ I3) i pins s5 τ H5 (fun _ _=>False) I5 (f4 fr5) st5 go) fun r s6 ⟨u,hr,h6⟩=>?_
   subst hr
   refine fz h6 fun _ s7 ⟨x,H7,I7,r7,y7,st7,fr7⟩=>?_
   have I7' := I7.pinned (f4 fr7) (T.obj _ _ st7)
   refine fz (B.JY _ _ _ _ _ _ s7 τ H7 x u _ I7' r7 (step x H7 y7)) fun _ s8 ⟨τ8,H8,I8,q8⟩=>?_
   refine fz (B.J0 _ _ _ _ _ _ s8 τ8 H8 _ I8 q8) fun ok s8' ⟨H8',I8',q8'⟩=>?_
   have again:∀ {H':Hp}{s':Shared},Inv Y (pins ++ pO fp s7.heap) τ8 H' s'->Inv Y pins τ8 H' s'/\tn (i + 1) s'.heap/\∀ b ∈ fp,H' b=none:=fun {H' s'} I'=>by
    refine ⟨I'.mz,T.keep _ _ _ st7 fun b hb o e=>(I'.pin (b,o) (List.mem_append_right _ (List.mem_append_right _ (jV hb e)))).1,fun b hb=>?_⟩
    obtain ⟨o,e,d⟩:=T.obj _ _ st7 b hb
    exact (I'.pin (b,o) (List.mem_append_right _ (List.mem_append_right _ (jV hb e)))).2.1
   cases ok with
   | false =>
    rw [if_neg Bool.false_ne_true] at q8' ⊢
    obtain ⟨m',hm,w9⟩:=q8'
    obtain ⟨z1,z2,z3⟩:=again I8'
    exact ⟨m',hm,i + 1,τ8,ys,H8',z1,z2,z3,w9⟩
   | true =>
    rw [if_pos rfl] at q8' ⊢
    refine fz (B.JZ _ _ _ _ _ _ s8' τ8 H8' _ I8' q8') fun v s9 ⟨y,H9,I9,r9,hacc,hlen,m',hm,w9⟩=>?_
    refine fz (rE _ s9 τ8 H9 (.ref s2.heap.objs.size) [y] (.ref s2.heap.objs.size) [v] (fun z H'=>z=.cY/\H'=upd H9 s2.heap.objs.size (.lst (ys ++ [y]))) I9 rfl (.cons r9 .nil) ⟨_,ys,y,rfl,rfl,hacc,hlen,rfl,rfl⟩) fun _ s10 ⟨z,H10,I10,_,_,e10⟩=>?_
    subst e10
    obtain ⟨z1,z2,z3⟩:=again I10
    exact ⟨m',hm,i + 1,τ8,ys ++ [y],_,z1,z2,z3,w9⟩
 exact codeAny_compStart_list loop (T.self X.A 0 _ _ _ st4 loop)
theorem mG {pins:List (Addr × Obj)}{σ:St}{H:Hp}{s:Shared} (I:Inv X pins σ H s) (ok:iq X scope own cap):∃ cl,closureFor scope X.env=pure cl/\(∀ y c,cl.lookup y=some c->X.env.cells.lookup y=some c/\(y,NameKind.free) ∈ scope.names)/\(∀ y,(y,NameKind.free) ∈ scope.names->∃ c,cl.lookup y=some c) :=
 wc fun y hy hk=>I.ok.has y.1 (ok.free y hy hk)
theorem pS (ok:iq X scope own cap):∀ x ∈ scope.names,x.2=.local->scope.names.lookup x.1=some .local:=fun x hx hl=>iC ok.nd (by rw [<- hl]; exact hx)
def Hy (cm:Cx->Prop) (X:Cx) (pins:List (Addr × Obj)) (σ:St) (tg:Expr) (R:It->Hp->Prop) (itv:Value) (s2:Shared):Prop :=
 ∃ (it:Addr) (fp:List Addr) (tn:Nat->Heap->Prop) (J:It) (H':Hp),itv=.ref it/\Inv X pins σ H' s2/\xx cm X.prog X.w X.K tg J fp it tn/\tn 0 s2.heap/\(∀ b ∈ fp,oX X pins H' b)/\R J H'
def Dd (cm:Cx->Prop) (X:Cx) (tg iter:Expr) (wi:TI):Prop :=
 ∀ (pins:List (Addr × Obj)) (s:Shared) (σ:St) (H:Hp) (R:It->Hp->Prop),Inv X pins σ H s->wi σ H R ->
  wpAny (model X.prog X.w) X.A (eval iter X.env) (fun v s1=>wpAny (model X.prog X.w) X.A (pyIter v) (Hy cm X pins σ tg R) X.xe s1) X.xe s
theorem Am {cm:Cx->Prop} (ok:iq X scope own cap) (hc:∀ pins σ cs C N s0 H0 fp,Inv X pins σ H0 s0->cm (iS X scope cs C N s0 H0 fp)) (hi:Dd cm X tg iter wi) (B:jf X scope own cap tg ifs elt g tt te) (hs:∀ x,foldedSetIterable iter X.env x=pure x:=by intro _; rfl) :
  PE X (.ListComp elt [⟨tg,iter,ifs,0⟩] scope pos) (uG wi g tt te own.length cap):=by
 intro pins s σ H Q I h
 obtain ⟨cl,hclos,hcl,hcl2⟩:=mG I ok
 rw [eval_ListComp]
 refine wpAny_comprehension_free (use:=none) rfl hs hclos ok.kind (pS ok) (fz (hi pins s σ H _ I h) fun xv s1 h1=>fz h1 fun itv s2 h2=>?_)
 obtain ⟨it,fp,tn,J,H2,e,I2,T,st2,f2,hW⟩:=h2
 subst e
 refine pR (Q:=Q) (RR:=fun acc C=>compPost (model X.prog X.w) X.A X.xe none (EP X pins σ Q) acc C) ok (hc pins σ) B hcl hcl2 I2 T st2 f2 hW ?_
 rintro D C H' s' hI ⟨m,hm⟩ _ _ _ _ _ q
 exact ⟨m,hm,fun h' hs'=>⟨.ref D,H',hI h' hs',rfl,q⟩⟩
theorem oN {cm:Cx->Prop}{i:Nat}{y:Str}{py spos:Pos} (hN:X.N.Nodup) (hi':X.N[i]?=some y) (hy:Loc X.env.scope y) (ok:iq X scope own cap) (hc:∀ pins σ cs C N s0 H0 fp,Inv X pins σ H0 s0->cm (iS X scope cs C N s0 H0 fp)) (hi:Dd cm X tg iter wi) (B:jf X scope own cap tg ifs elt g tt te)
  (hsw:swapsWith (.ListComp elt [⟨tg,iter,ifs,0⟩] scope pos) (some (.Name y py)) spos.line X.env=pure true:=by rfl)
  (hf:X.fn y=true ∨ X.env.scope.names.lookup y=some .local:=by first | exact .inl rfl | exact .inr rfl) (hs:∀ x,foldedSetIterable iter X.env x=pure x:=by intro _; rfl) :
  PS X (.Assign [.Name y py] (.ListComp elt [⟨tg,iter,ifs,0⟩] scope pos) spos) (EX (uG wi g tt te own.length cap) (pL i)):=by
 intro pins s σ H D I h
 obtain ⟨cl,hclos,hcl,hcl2⟩:=mG I ok
 rw [exec_Assign_Name_used _ _ _ _ hsw]
 refine wpAny_bind (wpAny_standAt (wpAny_bind ?_))
 show wpAny _ X.A (do let _ <- comprehension (.ListComp elt [⟨tg,iter,ifs,0⟩] scope pos) scope X.env _ (newList []) false (eval iter X.env) (some (assign (.Name y py) X.env))) _ _ s
 refine wpAny_bind (wpAny_mono (wpAny_comprehension_free (use:=some (assign (.Name y py) X.env)) (Q:=fun _ s'=>SP X pins D .next s') rfl hs hclos ok.kind (pS ok) (fz (hi pins s σ H _ I h) fun xv s1 h1=>fz h1 fun itv s2 h2=>?_)) (fun _ s' hq=>wpAny_pure (wpAny_pure hq)) fun _ _ e=>e)
 obtain ⟨it,fp,tn,J,H2,e,I2,T,st2,f2,hW⟩:=h2
 subst e
 refine pR (Q:=fun v H'=>pL i v σ H' D.nx) (RR:=fun acc C=>compPost (model X.prog X.w) X.A X.xe (some (assign (.Name y py) X.env)) (fun _ s'=>SP X pins D .next s') acc C) ok (hc pins σ) B hcl hcl2 I2 T st2 f2 hW ?_
 rintro D' C H' s' hI ⟨m,hm⟩ hHC hC1 hC2 hC3 hC4 q
 have I':Inv X pins σ H' s' := hI s'.heap (.refl ..)
 show wpAny _ X.A (assign (.Name y py) X.env (.ref D')) _ _ s'
 refine wpAny_assign_Name (rC I' hN hi' hy (show RelV (.ref D') (.ref D') from rfl) (fun s'' I'' ⟨a,hsa,ha⟩=>?_) hf)
 have ne:C ≠ a:=by
  rcases ha with rfl | ha
  ·exact hC2
  ·exact fun z=>hC3 y a ha z.symm
 refine ⟨m,hm.sameBut hsa ne,fun h' hs'=>?_⟩
 refine ⟨_,H',I''.turned (t' := s''.toks) (h' := h') (it:=C) (fun b o hb e=>(hs'.2 b hb).trans e) hHC hC2 (.inr hC1) (fun x c e z=>hC3 x c e z) hC4,q⟩
theorem De (ok:iq X scope own cap) (hc:X.calm=true) (hi:PI X tg iter wi) (B:jf X scope own cap tg ifs elt g tt te) (hs:∀ x,foldedSetIterable iter X.env x=pure x:=by intro _; rfl) :
  PE X (.ListComp elt [⟨tg,iter,ifs,0⟩] scope pos) (uG wi g tt te own.length cap):=Am (cm:=fun X=>X.calm=true) ok (fun _ _ _ _ _ _ _ _ _=>hc) hi B hs
theorem wd {i:Nat}{y:Str}{py spos:Pos} (hN:X.N.Nodup) (hi':X.N[i]?=some y) (hy:Loc X.env.scope y) (ok:iq X scope own cap) (hc:X.calm=true) (hi:PI X tg iter wi) (B:jf X scope own cap tg ifs elt g tt te)
  (hsw:swapsWith (.ListComp elt [⟨tg,iter,ifs,0⟩] scope pos) (some (.Name y py)) spos.line X.env=pure true:=by rfl)
  (hf:X.fn y=true ∨ X.env.scope.names.lookup y=some .local:=by first | exact .inl rfl | exact .inr rfl) (hs:∀ x,foldedSetIterable iter X.env x=pure x:=by intro _; rfl) :
  PS X (.Assign [.Name y py] (.ListComp elt [⟨tg,iter,ifs,0⟩] scope pos) spos) (EX (uG wi g tt te own.length cap) (pL i)) :=
 oN (cm:=fun X=>X.calm=true) hN hi' hy ok (fun _ _ _ _ _ _ _ _ _=>hc) hi B hsw hf hs
end
section
variable {prog:Program}{w:World}{A:Around}{E:Value->Shared->Prop}{s:Shared}
theorem kD {it t:Addr}{i:Nat}{items:Array Value}{x:Value}{Q:Value->Shared->Prop} (hit:s.heap.IsTupleIter it t i) (ht:s.heap.IsTuple t items) (hx:items[i]?=some x)
  (hQ:∀ h',h'.IsTupleIter it t (i + 1)->Heap.SameBut it s.heap h'->Q x { s with heap:=h' }):wpAny (model prog w) A (Builtin.SmallTypes.nextOf (.ref it)) Q E s:=by
 obtain ⟨o,ho,hc,hd⟩:=id hit
 obtain ⟨ot,hot,_,nt,hdt⟩:=ht
 unfold Builtin.SmallTypes.nextOf
 refine wpAny_bind (wpAny_callSpecial?_slot (name:=Str.ofString "__next__") hit.typeIs F.slot_tuple_iterator_next (wpAny_call_entry F.slot_tuple_iterator_next hit.typeIs F.entry_tuple_iterator_next ?_ (F.args_tuple_iterator_next_1 _)))
 show wpAny _ _ (field (.ref it) 0 >>= _) _ _ s
 refine wpAny_bind (wpAny_field ho hd (x := .ref t) rfl ?_)
 show wpAny _ _ (if (Value.ref t == Value.none)=true then _ else _) _ _ s
 rw [if_neg (fun z:(Value.ref t == Value.none)=true=>Bool.false_ne_true z)]
 show wpAny _ _ (field (.ref it) 1 >>= _) _ _ s
 refine wpAny_bind (wpAny_field ho hd (x := .int i 0) rfl ?_)
 show wpAny _ _ (seqItems? (.ref t) >>= _) _ _ s
 refine wpAny_bind (wpAny_seqItems hot hdt ?_)
 simp only [Int.toNat_natCast,hx]
 refine wpAny_bind (wpAny_setField ho hd (by simp) (wpAny_pure ⟨x,rfl,wpAny_pure (hQ _ ⟨_,Heap.get?_update_self _ ho (Obj.isFreed_of_fields (Obj.data_mapFields hd _)),(Obj.cls_mapFields ..).trans hc,?_⟩ (Heap.SameBut.update ..))⟩))
 rw [Obj.data_mapFields hd]
 simp [rawInt]
theorem kZ {it t:Addr}{i:Nat}{items:Array Value}{Q:Value->Shared->Prop} (hh:A.handled=none) (hit:s.heap.IsTupleIter it t i) (ht:s.heap.IsTuple t items) (hx:items[i]?=none)
  (hE:∀ h' e,Heap.ExtBut it s.heap h'->(∃ o,h'.get? e=some o/\o.cls=.type "StopIteration")->E (.ref e) { s with heap:=h' }):wpAny (model prog w) A (Builtin.SmallTypes.nextOf (.ref it)) Q E s:=by
 obtain ⟨o,ho,hc,hd⟩:=id hit
 obtain ⟨ot,hot,_,nt,hdt⟩:=ht
 unfold Builtin.SmallTypes.nextOf
 refine wpAny_bind (wpAny_callSpecial?_slot (name:=Str.ofString "__next__") hit.typeIs F.slot_tuple_iterator_next (wpAny_call_entry F.slot_tuple_iterator_next hit.typeIs F.entry_tuple_iterator_next ?_ (F.args_tuple_iterator_next_1 _)))
 show wpAny _ _ (field (.ref it) 0 >>= _) _ _ s
 refine wpAny_bind (wpAny_field ho hd (x := .ref t) rfl ?_)
 show wpAny _ _ (if (Value.ref t == Value.none)=true then _ else _) _ _ s
 rw [if_neg (fun z:(Value.ref t == Value.none)=true=>Bool.false_ne_true z)]
 show wpAny _ _ (field (.ref it) 1 >>= _) _ _ s
 refine wpAny_bind (wpAny_field ho hd (x := .int i 0) rfl ?_)
 show wpAny _ _ (seqItems? (.ref t) >>= _) _ _ s
 refine wpAny_bind (wpAny_seqItems hot hdt ?_)
 simp only [Int.toNat_natCast,hx]
 refine wpAny_bind (wpAny_rule (wpAny_bind (wpAny_setField ho hd (by simp) ?_)))
 show wpAny _ _ (newExc (.type "StopIteration") [] >>= _) _ _ _
 refine wpAny_bind ?_
 simp only [newExc,newTuple]
 refine wpAny_bind (wpAny_newObj_type ?_ (by size_fits))
 refine wpAny_bind (m:=firstArgMember _ _) (wpAny_of_eq (a:=Value.none) (by first | rfl | (simp only [firstArgMember]; rfl)) ?_)
 refine wpAny_newObj_type ?_ (by size_fits)
 simp only [raiseNew]
 refine wpAny_bind (wpAny_handled ?_)
 first | rw [show A.in1.handled=none from hh] | rw [hh]
 exact wpAny_bind (wpAny_pure (wpAny_throw (hE _ _ (((Heap.SameBut.update ..).extBut.push _).push _) ⟨_,Heap.get?_push_size _ rfl,rfl⟩)))
theorem y9 {e it:Addr}{i:Nat}{x old:Value}{R:Obj->Prop}{Q:Option Value->Shared->Prop} (he:IsEnum s.heap e it i old) (hne:e ≠ it)
  (hn:∀ (A':Around) (E' Q':Value->Shared->Prop),(∀ h',(∃ o,h'.get? it=some o/\R o)->Heap.SameBut it s.heap h'->Q' x { s with heap:=h' })->wpAny (model prog w) A' (Builtin.SmallTypes.nextOf (.ref it)) Q' E' s)
  (hQ:∀ h',IsEnumOut h' e it ((i:Int) + 1) x s.heap.objs.size->(∃ o,h'.get? it=some o/\R o)->h'.get? s.heap.objs.size=some { cls := .type "tuple",data := .seq #[.int i s.toks,x] }->h'.objs.size=s.heap.objs.size + 1 ->
   (∀ b o,b ≠ e->b ≠ it->s.heap.get? b=some o->h'.get? b=some o)->Q (some (.ref s.heap.objs.size)) { s with heap:=h',toks:=s.toks + 1 }) :
  wpAny (model prog w) A (pyNext (.ref e)) Q E s:=by
 have hT:s.TypeIs (.ref e) "enumerate" := ⟨_,he,rfl⟩
 unfold pyNext
 refine wpAny_bind (wpAny_attempt (wpAny_callSpecial?_slot (name:=Str.ofString "__next__") hT F.slot_enumerate_next (wpAny_call_entry F.slot_enumerate_next hT F.entry_enumerate_next ?_ (F.args_enumerate_next_1 _))))
 obtain ⟨hp,g,d,tk,os⟩:=s
 show wpAny _ _ (field (.ref e) 2 >>= _) _ _ _
 refine wpAny_bind (wpAny_field he rfl (x := .ref it) rfl (wpAny_bind (hn _ _ _ fun h₁ hit₁ hs₁=>?_)))
 replace hs₁:Heap.SameBut it hp h₁:=hs₁
 have he₁:IsEnum h₁ e it i old:=(hs₁.2 e hne).trans he
 show wpAny _ _ (field (.ref e) 3 >>= _) _ _ ⟨h₁,g,d,tk,os⟩
 refine wpAny_bind (wpAny_field he₁ rfl (x:=rawInt i) rfl ?_)
 show wpAny _ _ (field (.ref e) 4 >>= _) _ _ ⟨h₁,g,d,tk,os⟩
 refine wpAny_bind (wpAny_field he₁ rfl (x := .none) rfl ?_)
 show wpAny _ _ (mkInt i >>= _) _ _ ⟨h₁,g,d,tk,os⟩
 refine wpAny_bind (wpAny_mkInt ?_)
 show wpAny _ _ (setField (.ref e) 3 (rawInt ((i:Int) + 1)) >>= _) _ _ ⟨h₁,g,d,tk + 1,os⟩
 refine wpAny_bind (wpAny_setField_rec he₁ (by simp) fun h₂ he₂ hs₂=>?_)
 replace hs₂:Heap.SameBut e h₁ h₂:=hs₂
 replace he₂:IsEnum h₂ e it ((i:Int) + 1) old:=he₂
 show wpAny _ _ (setField (.ref e) 4 .none >>= _) _ _ ⟨h₂,g,d,tk + 1,os⟩
 refine wpAny_bind (wpAny_setField_rec he₂ (by simp) fun h₃ he₃ hs₃=>?_)
 replace hs₃:Heap.SameBut e h₂ h₃:=hs₃
 replace he₃:IsEnum h₃ e it ((i:Int) + 1) old:=he₃
 show wpAny _ _ (newTuple [.int i tk,x] >>= _) _ _ ⟨h₃,g,d,tk + 1,os⟩
 refine wpAny_bind (wpAny_newTuple ?_)
 have sz:h₃.objs.size=hp.objs.size:=by rw [hs₃.1,hs₂.1,hs₁.1]
 have hel:e < hp.objs.size:=Heap.lt_size he
 obtain ⟨h₄,hh₄⟩:∃ h₄,h₄=h₃.push { cls := .type "tuple",data := .seq #[.int i tk,x] }:=⟨_,rfl⟩
 have he₄:IsEnum h₄ e it ((i:Int) + 1) old:=by rw [hh₄]; exact Heap.get?_push_of_some _ he₃
 have ht₄:h₄.get? hp.objs.size=some { cls := .type "tuple",data := .seq #[.int i tk,x] }:=by rw [hh₄,<- sz]; exact Heap.get?_push_size _ rfl
 have hz₄:h₄.objs.size=hp.objs.size + 1:=by rw [hh₄,Heap.size_push,sz]
 have hk₄:∀ b o,b ≠ e->b ≠ it->hp.get? b=some o->h₄.get? b=some o:=fun b o hbe hbi hb=>by
  rw [hh₄]
  exact Heap.get?_push_of_some _ (hs₃.extBut b o hbe (hs₂.extBut b o hbe (hs₁.extBut b o hbi hb)))
 have hit₄:∃ o,h₄.get? it=some o/\R o:=by
  obtain ⟨o,ho,r⟩:=hit₁
  rw [hh₄]
  exact ⟨o,Heap.get?_push_of_some _ (hs₃.extBut it o (Ne.symm hne) (hs₂.extBut it o (Ne.symm hne) ho)),r⟩
 rw [<- hh₄]
 show wpAny _ _ (Builtin.SmallTypes.ownedTupleIsFree (.ref e) >>= _) _ _ ⟨h₄,g,d,tk + 1,os⟩
 rw [sz]
 clear hh₄ he₃ hs₃ he₂ hs₂ he₁ hs₁ hit₁ sz h₃ h₂ h₁
 refine wpAny_bind ?_
 unfold Builtin.SmallTypes.ownedTupleIsFree
 refine wpAny_bind (wpAny_field he₄ rfl (x := .none) rfl (wpAny_pure ?_))
 simp only [if_true]
 refine wpAny_bind (wpAny_rule (wpAny_bind (wpAny_field he₄ rfl (x:=old) rfl (wpAny_bind (wpAny_setField_rec he₄ (by simp) fun h₅ he₅ hs₅=>?_)))))
 replace hs₅:Heap.SameBut e h₄ h₅:=hs₅
 replace he₅:IsEnum h₅ e it ((i:Int) + 1) x:=he₅
 show wpAny _ _ (Builtin.SmallTypes.ownedTupleHandOut (.ref e) (.ref hp.objs.size) >>= _) _ _ ⟨h₅,g,d,tk + 1,os⟩
 refine wpAny_bind ?_
 unfold Builtin.SmallTypes.ownedTupleHandOut
 refine wpAny_bind (wpAny_setField_rec he₅ (by simp) fun h₆ he₆ hs₆=>?_)
 replace hs₆:Heap.SameBut e h₅ h₆:=hs₆
 replace he₆:IsEnumOut h₆ e it ((i:Int) + 1) x hp.objs.size:=he₆
 refine wpAny_setField_rec he₆ (by simp) fun h₇ he₇ hs₇=>?_
 replace hs₇:Heap.SameBut e h₆ h₇:=hs₇
 replace he₇:IsEnumOut h₇ e it ((i:Int) + 1) x hp.objs.size:=he₇
 have up:∀ b o,b ≠ e->h₄.get? b=some o->h₇.get? b=some o:=fun b o hb q=>hs₇.extBut b o hb (hs₆.extBut b o hb (hs₅.extBut b o hb q))
 refine wpAny_bind (wpAny_letGo (wpAny_pure ⟨_,rfl,wpAny_pure (hQ h₇ he₇ ?_ (up _ _ (Nat.ne_of_gt hel) ht₄) (by rw [hs₇.1,hs₆.1,hs₅.1,hz₄]) fun b o hbe hbi hb=>up b o hbe (hk₄ b o hbe hbi hb))⟩))
 obtain ⟨o,ho,r⟩:=hit₄
 exact ⟨o,up it o (Ne.symm hne) ho,r⟩
theorem An {e it:Addr}{i:Nat}{old:Value}{Q:Option Value->Shared->Prop} (he:IsEnum s.heap e it i old)
  (hn:∀ (A':Around) (E' Q':Value->Shared->Prop),A'.handled=A.handled->(∀ h' x,Heap.ExtBut it s.heap h'->(∃ o,h'.get? x=some o/\o.cls=.type "StopIteration")->E' (.ref x) { s with heap:=h' })->wpAny (model prog w) A' (Builtin.SmallTypes.nextOf (.ref it)) Q' E' s)
  (hQ:∀ h',Heap.ExtBut it s.heap h'->Q none { s with heap:=h' }):wpAny (model prog w) A (pyNext (.ref e)) Q E s:=by
 have hT:s.TypeIs (.ref e) "enumerate" := ⟨_,he,rfl⟩
 unfold pyNext
 refine wpAny_bind (wpAny_attempt (wpAny_callSpecial?_slot (name:=Str.ofString "__next__") hT F.slot_enumerate_next (wpAny_call_entry F.slot_enumerate_next hT F.entry_enumerate_next ?_ (F.args_enumerate_next_1 _))))
 show wpAny _ _ (field (.ref e) 2 >>= _) _ _ _
 refine wpAny_bind (wpAny_field he rfl (x := .ref it) rfl (wpAny_bind (hn _ _ _ rfl fun h' x he' hx'=>?_)))
 obtain ⟨o,ho,hc⟩:=hx'
 exact wpAny_bind (wpAny_isInstance (T := "StopIteration") (b:=true) ⟨o,ho,hc⟩ isSubtype_stop (wpAny_pure (hQ _ he')))
set_option maxHeartbeats 4000000 in
theorem oZ (t:Addr) (items:Array Value) (n:Nat) (dct:Option Addr) (sl:Array (Option Value)) :
  Meets (Builtin.«enumerate.__new__» ⟨[.type "enumerate",.ref t],[]⟩) (fun _ R s=>s.heap.get? t=some { cls := .type "tuple",dict:=dct,data := .seq items n,slots:=sl } /\
   R (.ok (.ret (.ref (s.heap.push { cls := .type "tuple_iterator",data := .fields #[.ref t,.int 0 0] }).objs.size)))
    { s with heap:=(s.heap.push { cls := .type "tuple_iterator",data := .fields #[.ref t,.int 0 0] }).push { cls := .type "enumerate",data := .fields #[.none,.bool false,.ref s.heap.objs.size,rawInt 0,.none,.none] } }) :=
 .of_wp fun prog w A R s h=>by
  obtain ⟨hp,g,d,tk,os⟩:=s
  obtain ⟨ht,h⟩:=h
  have hsub:=sub_enumerate
  have hT:Heap.IsTuple (Shared.heap ⟨hp,g,d,tk,os⟩) t items:=⟨_,ht,rfl,n,rfl⟩
  wp_walk using AutoSeq1.wpAny_loadPart' ht
  refine wpAny_stack_any fun st=>wpAny_pure ?_
  split
  ·rename_i c _ _ _ _ _
   cases (c == Value.type "enumerate") <;> (wp_walk using AutoSeq1.wpAny_loadPart' ht,wpAny_pyIter_tuple hT; exact ⟨_,rfl,h⟩)
  ·wp_walk using AutoSeq1.wpAny_loadPart' ht,wpAny_pyIter_tuple hT
   exact ⟨_,rfl,h⟩
theorem qN {t:Addr}{items:Array Value}{Q:Value->Shared->Prop} (hT:s.heap.IsTuple t items)
  (h:∀ h',IsEnum h' (s.heap.objs.size + 1) s.heap.objs.size 0 .none->h'.IsTupleIter s.heap.objs.size t 0->(∀ b o,s.heap.get? b=some o->h'.get? b=some o)->Q (.ref (s.heap.objs.size + 1)) { s with heap:=h' }) :
  wpAny (model prog w) A (call (.type "enumerate") [.ref t]) Q E s:=by
 obtain ⟨⟨c,dct,dt,sl⟩,hl,hc,n,hd⟩:=hT
 have hc:c=.type "tuple" := hc
 have hd:dt=.seq items n:=hd
 subst hc hd
 refine callType_new F.called_enumerate (by decide) (F.typeCall_enumerate_1 _) (F.newCall_enumerate_1 _) (fun obj=>F.args_object_init_2 obj _) F.entry_enumerate_new (oZ t items n dct sl) ⟨hl,?_⟩
 have hz:(s.heap.push { cls := .type "tuple_iterator",data := .fields #[.ref t,.int 0 0] }).objs.size=s.heap.objs.size + 1:=Heap.size_push ..
 show _/\_
 rw [hz]
 have q:=Heap.get?_push_size (s.heap.push { cls := .type "tuple_iterator",data := .fields #[.ref t,.int 0 0] }) (o := { cls := .type "enumerate",data := .fields #[.none,.bool false,.ref s.heap.objs.size,rawInt 0,.none,.none] }) rfl
 rw [hz] at q
 exact ⟨⟨_,q,rfl⟩,h _ q ⟨_,Heap.get?_push_of_some _ (Heap.get?_push_size _ rfl),rfl,rfl⟩ fun b o x=>Heap.get?_push_of_some _ (Heap.get?_push_of_some _ x)⟩
end
theorem xO {P:Program}{w:World}{H:Hp}{h:Heap}{p:Addr}{o:HO} (x:jx P w H h) (hn:H p=none) (new:di P w (upd H p o) h p o):jx P w (upd H p o) h:=fun a u e=>by
 by_cases q:a=p
 ·subst q
  rw [bX] at e
  cases e
  exact new
 ·rw [aZ q] at e
  exact (x a u e).stay (fun _ _ _ z=>z) (fun b z=>by rw [aZ (cy z hn)]; exact z) fun b xs z=>by rw [aZ (cy z hn)]; exact z
def Iu (src:Hp->List V->Prop):It :=
 ⟨fun i H=>∃ xs x,src H xs/\xs[i]?=some x,fun i H x H'=>∃ p y,x=.ref p/\H p=none/\H'=upd H p (.tup [.int i,y])/\∀ xs,src H xs->xs[i]?=some y,fun i H=>∃ xs,src H xs/\xs.length <= i⟩
structure Src (P:Program) (w:World) (K:PySem.W.Frag) (a it:Addr) (src:Hp->List V->Prop) (nx:Nat->Obj->Prop):Prop where
 dat:∀ i o,nx i o->∀ v,o.data ≠ .cell v
 item:∀ (X:Cx),X.prog=P->X.w=w->X.K=K->∀ (pins:List (Addr × Obj)) (σ:St) (H:Hp) (s:Shared) (xs:List V) (i:Nat) (x:V),Inv X pins σ H s->src H xs->xs[i]?=some x->(∃ o,s.heap.get? it=some o/\nx i o) ->
  ∃ u,RelV x u/\∀ (A':Around) (E' Q':Value->Shared->Prop),(∀ h',(∃ o,h'.get? it=some o/\nx (i + 1) o)->Heap.SameBut it s.heap h'->Q' u { s with heap:=h' })->wpAny (model P w) A' (Builtin.SmallTypes.nextOf (.ref it)) Q' E' s
 done:∀ (X:Cx),X.prog=P->X.w=w->X.K=K->∀ (pins:List (Addr × Obj)) (σ:St) (H:Hp) (s:Shared) (xs:List V) (i:Nat),Inv X pins σ H s->src H xs->xs.length <= i->(∃ o,s.heap.get? it=some o/\nx i o) ->
  ∀ (A':Around) (E' Q':Value->Shared->Prop),A'.handled=none->(∀ h' x,Heap.ExtBut it s.heap h'->(∃ o,h'.get? x=some o/\o.cls=.type "StopIteration")->E' (.ref x) { s with heap:=h' })->wpAny (model P w) A' (Builtin.SmallTypes.nextOf (.ref it)) Q' E' s
 inj:∀ (X:Cx),X.prog=P->X.w=w->X.K=K->∀ (pins:List (Addr × Obj)) (σ:St) (H:Hp) (s:Shared) (xs ys:List V),Inv X pins σ H s->src H xs->src H ys->xs=ys
theorem src_list {P:Program}{w:World}{K:PySem.W.Frag} (a it:Addr):Src P w K a it (fun H xs=>gI K H a xs) (fun i o=>o.cls=.type "list_iterator" /\ o.data=.fields #[.ref a,.int i 0]) where
 dat:=fun i o h v z=>by rw [h.2] at z; cases z
 item:=by
  intro X hP hw hK pins σ H s xs i x I hq hx ho
  subst hP hw hK
  obtain ⟨its,rv,p,hz⟩:=I.list hq
  obtain ⟨u,hu,ru⟩:=rv.get hx
  obtain ⟨o,h1,h2,h3⟩:=ho
  exact ⟨u,ru,fun A' E' Q' hQ=>wpAny_nextOf_list_item ⟨o,h1,h2,h3⟩ p.isList (by simpa using hu) fun h' st sb=>hQ h' st sb⟩
 done:=by
  intro X hP hw hK pins σ H s xs i I hq hx ho A' E' Q' hh hE
  subst hP hw hK
  obtain ⟨its,rv,p,hz⟩:=I.list hq
  obtain ⟨o,h1,h2,h3⟩:=ho
  have hl:=rv.length
  exact wpAny_nextOf_list_end hh ⟨o,h1,h2,h3⟩ p.isList (by simp; omega) hE
 inj:=by
  intro X hP hw hK pins σ H s xs ys I h1 h2
  subst hP hw hK
  exact I.pK h1 h2
theorem jZ {h:Heap}{a:Addr}{its:Array Value} (x:IsTup h a its):h.IsTuple a its:=by
 obtain ⟨o,h1,h2,h3⟩:=x
 exact ⟨o,h1,h2,h3⟩
theorem Df {P:Program}{w:World}{K:PySem.W.Frag} (a it:Addr):Src P w K a it (fun H xs=>jR K H a xs) (fun i o=>o.cls=.type "tuple_iterator" /\ o.data=.fields #[.ref a,.int i 0]) where
 dat:=fun i o h v z=>by rw [h.2] at z; cases z
 item:=by
  intro X hP hw hK pins σ H s xs i x I hq hx ho
  subst hP hw hK
  obtain ⟨its,rv,p,hz⟩:=I.tuple hq
  obtain ⟨u,hu,ru⟩:=rv.get hx
  obtain ⟨o,h1,h2,h3⟩:=ho
  exact ⟨u,ru,fun A' E' Q' hQ=>kD ⟨o,h1,h2,h3⟩ (jZ p) (by simpa using hu) fun h' st sb=>hQ h' st sb⟩
 done:=by
  intro X hP hw hK pins σ H s xs i I hq hx ho A' E' Q' hh hE
  subst hP hw hK
  obtain ⟨its,rv,p,hz⟩:=I.tuple hq
  obtain ⟨o,h1,h2,h3⟩:=ho
  have hl:=rv.length
  exact kZ hh ⟨o,h1,h2,h3⟩ (jZ p) (by simp; omega) hE
 inj:=by
  intro X hP hw hK pins σ H s xs ys I h1 h2
  subst hP hw hK
  exact I.nE h1 h2
theorem rG {P:Program}{w:World}{K:PySem.W.Frag}{elts:List Expr}{x1:Nat}{tp:Pos}{a it e:Addr}{src:Hp->List V->Prop}{nx:Nat->Obj->Prop} (S:Src P w K a it src nx) (hne:e ≠ it) :
  Turn P w K (.Tuple elts x1 tp) (Iu src) [e,it] e (fun i h=>(∃ old,IsEnum h e it (i:Nat) old)/\∃ o,h.get? it=some o/\nx i o) where
 mem:=by simp
 obj:=fun i h st b hb=>by
  obtain ⟨⟨old,h1⟩,o,h2,h3⟩:=st
  rcases List.mem_cons.mp hb with q | q
  ·subst q
   exact ⟨_,h1,fun v z=>by cases z⟩
  ·have q:b=it:=by simpa using q
   subst q
   exact ⟨o,h2,S.dat i o h3⟩
 keep:=fun i h h' st k=>by
  obtain ⟨⟨old,h1⟩,o,h2,h3⟩:=st
  exact ⟨⟨old,k e (by simp) _ h1⟩,o,k it (by simp) o h2,h3⟩
 item:=by
  intro X hP hw hK hc i pins s σ H E I hf st hg
  obtain ⟨xs,x,hq,hx⟩:=hg
  obtain ⟨⟨old,h1⟩,ho⟩:=st
  obtain ⟨u,ru,hnx⟩:=S.item X hP hw hK pins σ H s xs i x I hq hx ho
  have inj:=fun ys (hy:src H ys)=>S.inj X hP hw hK pins σ H s ys xs I hy hq
  obtain ⟨f0,f1,f2,f3,f4,f5⟩:=hf e (by simp)
  obtain ⟨g0,g1,g2,g3,g4,g5⟩:=hf it (by simp)
  subst hP hw hK
  have hel:e < s.heap.objs.size:=Heap.lt_size h1
  refine y9 h1 hne hnx fun h' k1 k2 k3 k4 k5=>⟨_,rfl,wpAny_letOwnedTupleGo_enum k1 fun h'' m1 m2=>?_⟩
  have m2:Heap.SameBut e h' h'' := m2
  have fr:H s.heap.objs.size=none:=I.fresh
  have kp:∀ b o,b ≠ e->b ≠ it->s.heap.get? b=some o->h''.get? b=some o:=fun b o hb hb' q=>(m2.2 b hb).trans (k5 b o hb hb' q)
  have tp:h''.get? s.heap.objs.size=some { cls := .type "tuple",data := .seq #[.int i s.toks,u] }:=(m2.2 _ (Nat.ne_of_gt hel)).trans k3
  have ok1:jx X.prog X.w H h'' := fun b o hb=>(I.hok b o hb).stay (fun c v hcb q=>kp c v (fun z=>by
    subst z
    rcases hcb with z | z
    ·subst z
     rw [f0] at hb
     cases hb
    ·rw [f0] at z
     cases z) (fun z=>by
    subst z
    rcases hcb with z | z
    ·subst z
     rw [g0] at hb
     cases hb
    ·rw [g0] at z
     cases z) q) (fun _ z=>z) fun _ _ z=>z
  have ok2:jx X.prog X.w (upd H s.heap.objs.size (.tup [.int i,x])) h'' := xO ok1 fr ⟨by show 2 <= sizeLine; decide,[.int i s.toks,u],.cons ⟨_,rfl⟩ (.cons ru .nil),⟨_,tp⟩⟩
  have I2:Inv X pins σ (upd H s.heap.objs.size (.tup [.int i,x])) { s with heap:=h'',toks:=s.toks + 1 }:=by
   refine I.step (g' := s.gens) (d' := s.drawn) (ch := [e,it]) (fun b hb=>?_) (fun b o _ _ hb q _=>kp b o (fun z=>hb (by simp [z])) (fun z=>hb (by simp [z])) q) (fun b o _ _ hb q _=>⟨o.slots,kp b o (fun z=>hb (by simp [z])) (fun z=>hb (by simp [z])) q⟩)
    (fun b o _ q n=>by rw [aZ (Nat.ne_of_lt (Heap.lt_size q))]; exact n) (fun b o hb q=>⟨o,kp b o (fun z=>hb (by simp [z])) (fun z=>hb (by simp [z])) q⟩)
    (fun b ys q=>by rw [aZ (cy q fr)]; exact q) (fun b o v q=>by rw [aZ (cy q fr)]; exact q) (fun b ps q=>⟨#[],by rw [aZ (cy q fr),Array.append_empty]; exact q⟩)
    (fun m hm=>hm.at fun o q=>kp _ o (Ne.symm f1) (Ne.symm g1) q) ok2 I.bare
   rcases List.mem_cons.mp hb with z | z
   ·subst z
    exact ⟨f3,f1,f4,f5⟩
   ·have z:b=it:=by simpa using z
    subst z
    exact ⟨g3,g1,g4,g5⟩
  obtain ⟨oi,hoi,ri⟩:=k2
  refine ⟨.ref s.heap.objs.size,_,I2,rfl,⟨_,x,rfl,fr,rfl,fun ys hy=>by rw [inj ys hy]; exact hx⟩,⟨⟨u,?_⟩,oi,(m2.2 it (Ne.symm hne)).trans hoi,ri⟩,fun b hb=>?_⟩
  ·have m1:IsEnum h'' e it ((i:Int) + 1) u:=m1
   have z:(((i + 1:Nat)):Int)=(i:Int) + 1:=by omega
   rw [z]
   exact m1
  ·have lt:b < s.heap.objs.size:=by
    rcases List.mem_cons.mp hb with z | z
    ·rw [z]
     exact hel
    ·have z:b=it:=by simpa using z
     obtain ⟨o,q,_⟩:=ho
     rw [z]
     exact Heap.lt_size q
   rw [aZ (Nat.ne_of_lt lt)]
   exact (hf b hb).1
 done:=by
  intro X hP hw hK hc i pins s σ H E I hf st hg
  obtain ⟨xs,hq,hx⟩:=hg
  obtain ⟨⟨old,h1⟩,ho⟩:=st
  have hd:=S.done X hP hw hK pins σ H s xs i I hq hx ho
  obtain ⟨g0,g1,g2,g3,g4,g5⟩:=hf it (by simp)
  subst hP hw hK
  exact An h1 (fun A' E' Q' hA hE=>hd A' E' Q' (hA.trans (I.ok.hd hc)) hE) fun h' eb=>⟨rfl,I.turned (t' := s.toks) (fun b o hb q=>eb b o hb q) g0 g1 g3 g4 g5⟩
 self:=fun _ _ _ _ _ st h=>by
  obtain ⟨⟨old,h1⟩,_⟩:=st
  exact wpAny_pyIter_enum h1 h
section
variable {X:Cx}{elts:List Expr}{x1:Nat}{tp p pos:Pos}{l:Expr}{ta:TA}
end
section
variable {X:Cx}
theorem uH:fJ X (.builtin "sorted") (fun xs H Q=>∃ (a:Addr) (ns:List Int),xs=[.ref a]/\gI X.K H a (ns.map V.int)/\ns.length < 64/\∀ (p:Addr) (ns':List Int),H p=none->ns'.Perm ns->ns'.Pairwise (· <= ·)->Q (.ref p) (upd H p (.lst (ns'.map V.int)))):=by
 intro pins s σ H xs us Q I r h
 obtain ⟨a,ns,rfl,hq,hl,q⟩:=h
 obtain ⟨u,rfl,ru⟩:=vals1 r
 cases ru
 obtain ⟨its,rv,pl,hz⟩:=I.list hq
 have hi:=intsAre_of rv
 have hlen:=rv.length
 rw [List.length_map] at hlen
 refine sorted_ints pl.isList hi (by omega) fun out ns' a1 a2 a3=>?_
 obtain ⟨e,he⟩:=sortedAll_at s.heap its out
 refine ⟨.ref (s.heap.objs.size + 1),_,I.laid (t' := s.toks) (fun b o z=>sortedAll_old z) (Nat.le_succ _) ?_,rfl,q _ ns' (I.hok.fresh (Nat.le_succ _)) a2 a3⟩
 refine ⟨?_,out.toList,e,jz a1,by rw [Array.toArray_toList]; exact he⟩
 rw [List.length_map,a2.length_eq]
 exact Nat.le_trans (Nat.le_of_lt hl) (by decide)
def dd (ns:List Int):List Int:=firstMet (fun i=>ns.getD i 0) ns.length
end
def Ao (scope sc:Scope):Scope :=
 { scope with names:=scope.names.map fun (n,k)=>if (k == .free && sc.kind == .function && sc.names.lookup n == some .cell) then (n,.cell) else (n,k) }
theorem FG (scope:Scope) (env:Env):relabel scope env=Ao scope env.scope:=rfl
def xP (sc:Scope) (N:List Str) (scope:Scope) (cap:List (Str × Nat)):Bool :=
 decide (scope.kind=.function) && decide ((scope.names.map (·.1)).Nodup) &&
 (scope.names.all fun y=>!(y.2 == .free) || (sc.names.lookup y.1 == some .cell || sc.names.lookup y.1 == some .free)) &&
 (cap.all fun p=>(N[p.2]? == some p.1) && scope.names.contains (p.1,NameKind.free))
theorem dJ {X:Cx}{scope:Scope}{own:List Str}{cap:List (Str × Nat)} (sc:Scope) (hsc:X.env.scope=sc) (N:List Str) (hN:X.N=N) (h:xP sc N scope cap=true):iq X scope own cap:=by
 simp only [xP,Bool.and_eq_true,decide_eq_true_eq] at h
 obtain ⟨⟨⟨h1,h2⟩,h3⟩,h4⟩:=h
 refine ⟨h1,h2,fun y hy hk=>?_,fun p hp=>?_⟩
 ·have q:=List.all_eq_true.mp h3 y hy
  show X.env.scope.names.lookup y.1=some .cell ∨ X.env.scope.names.lookup y.1=some .free
  rw [hsc]
  rw [hk] at q
  simpa using q
 ·have q:=List.all_eq_true.mp h4 p hp
  rw [Bool.and_eq_true] at q
  rw [hN]
  exact ⟨by simpa using q.1,by simpa using q.2⟩
structure ir (P:Program) (w:World) (K:PySem.W.Frag) (mg:Str->Option Value) (base:Heap) (k:Nat) (x:Str) (ps:List Str) (sp:Sp):Prop where
 ex:∃ f fd,mg x=some (.ref f)/\PySem.W.keepIn K (.ref f)=true/\Binds K fd ps []/\nG P w K mg base vQ k f fd ps sp
structure dR (K:PySem.W.Frag) (mg:Str->Option Value) (x:Str) (st:Stmt) (ps:List Str):Prop where
 ex:∃ f fd,C7 K x x st f fd/\mg x=some (.ref f)/\Binds K fd ps []
section
variable {X:Cx}{k:Nat}{x:Str}{ps:List Str}{sp:Sp}{p pos:Pos}{e:Expr}{es:List Expr}{t:TA}
theorem FF (C:ir X.prog X.w X.K X.mg X.base k x ps sp) (hr:gh k X.A) (hg:Gl X x) (ha:PA X (e :: es) t) (hdb:(x == ("__debug__" : Str))=false:=by decide)
  (he:starEach (e :: es) X.env=(false,eval e X.env) :: starEach es X.env:=by rfl) (hpl:(backTo pos (starEach es X.env)).any (·.1)=false:=by rfl):PE X (.Call (.Name x p) (e :: es) [] pos) (En sp [] E0 t):=by
 obtain ⟨f,fd,hm,hk,hb,F⟩:=C.ex
 exact CM F hr hg hm hk hb .nil Hw ha hdb he hpl
end
structure mh (a it:Addr) (its:Array Value) (seq:Heap->Prop) (nx:Nat->Obj->Prop):Prop where
 ext:∀ {h h':Heap},seq h->(∀ o,h.get? a=some o->h'.get? a=some o)->seq h'
 item:∀ {P:Program}{w:World}{A:Around}{E:Value->Shared->Prop}{s:Shared}{i:Nat}{x:Value}{Q:Value->Shared->Prop},seq s.heap->(∃ o,s.heap.get? it=some o/\nx i o)->its[i]?=some x ->
  (∀ h',(∃ o,h'.get? it=some o/\nx (i + 1) o)->Heap.SameBut it s.heap h'->Q x { s with heap:=h' })->wpAny (model P w) A (Builtin.SmallTypes.nextOf (.ref it)) Q E s
 done:∀ {P:Program}{w:World}{A:Around}{E:Value->Shared->Prop}{s:Shared}{i:Nat}{Q:Value->Shared->Prop},A.handled=none->seq s.heap->(∃ o,s.heap.get? it=some o/\nx i o)->its[i]?=none ->
  (∀ h' e,Heap.ExtBut it s.heap h'->(∃ o,h'.get? e=some o/\o.cls=.type "StopIteration")->E (.ref e) { s with heap:=h' })->wpAny (model P w) A (Builtin.SmallTypes.nextOf (.ref it)) Q E s
abbrev JN (a:Addr) (i:Nat) (o:Obj):Prop:=o.cls=.type "list_iterator" /\ o.data=.fields #[.ref a,.int i 0]
abbrev JM (a:Addr) (i:Nat) (o:Obj):Prop:=o.cls=.type "tuple_iterator" /\ o.data=.fields #[.ref a,.int i 0]
theorem Ar (a it:Addr) (its:Array Value):mh a it its (fun h=>h.IsList a its) (JN a) where
 ext:=fun x k=>x.at k
 item:=fun hs ⟨o,h1,h2,h3⟩ hx hQ=>wpAny_nextOf_list_item ⟨o,h1,h2,h3⟩ hs hx fun h' st sb=>hQ h' st sb
 done:=fun hh hs ⟨o,h1,h2,h3⟩ hx hE=>wpAny_nextOf_list_end hh ⟨o,h1,h2,h3⟩ hs hx hE
theorem Dg (a it:Addr) (its:Array Value):mh a it its (fun h=>h.IsTuple a its) (JM a) where
 ext:=fun ⟨o,h1,h2⟩ k=>⟨o,k o h1,h2⟩
 item:=fun hs ⟨o,h1,h2,h3⟩ hx hQ=>kD ⟨o,h1,h2,h3⟩ hs hx fun h' st sb=>hQ h' st sb
 done:=fun hh hs ⟨o,h1,h2,h3⟩ hx hE=>kZ hh ⟨o,h1,h2,h3⟩ hs hx hE
section
variable {prog:Program}{w:World}{A:Around}{E:Value->Shared->Prop}{s:Shared}{z TI TO i1 i2 l1 l2:Addr}{k:Nat}{xs ys:Array Value}{a b:Value}{seq1 qR:Heap->Prop}{nx1 nx2:Nat->Obj->Prop}
theorem za {x y:Value}{Q:Option Value->Shared->Prop} (S1:mh l1 i1 xs seq1 nx1) (S2:mh l2 i2 ys qR nx2) (D:ZipApart z TI TO i1 i2 l1 l2) (hz:IsZip s.heap z TI TO .none) (hI:IsPair s.heap TI (.ref i1) (.ref i2)) (hO:IsPair s.heap TO a b)
  (h1:∃ o,s.heap.get? i1=some o/\nx1 k o) (h2:∃ o,s.heap.get? i2=some o/\nx2 k o) (hl1:seq1 s.heap) (hl2:qR s.heap) (hx:xs[k]?=some x) (hy:ys[k]?=some y)
  (hQ:∀ h',IsZip h' z TI TO (rawInt s.heap.objs.size)->IsPair h' TO x y->(∃ o,h'.get? i1=some o/\nx1 (k + 1) o)->(∃ o,h'.get? i2=some o/\nx2 (k + 1) o)->IsPair h' s.heap.objs.size x y ->
   (∀ c o,c ≠ z->c ≠ TO->c ≠ i1->c ≠ i2->s.heap.get? c=some o->h'.get? c=some o)->Q (some (.ref s.heap.objs.size)) { s with heap:=h' }):wpAny (model prog w) A (pyNext (.ref z)) Q E s:=by
 have hT:s.TypeIs (.ref z) "zip" := ⟨_,hz,rfl⟩
 unfold pyNext
 refine wpAny_bind (wpAny_attempt (wpAny_callSpecial?_slot (name:=Str.ofString "__next__") hT F.slot_zip_next (wpAny_call_entry F.slot_zip_next hT F.entry_zip_next ?_ (F.args_zip_next_1 _))))
 show wpAny _ _ (field (.ref z) 2 >>= _) _ _ _
 refine wpAny_bind (wpAny_field hz rfl (x := .bool false) rfl (show wpAny _ _ (field (.ref z) 3 >>= _) _ _ _ from wpAny_bind (wpAny_field hz rfl (x := .ref TI) rfl (wpAny_bind (wpAny_seqItems hI rfl ?_)))))
 show wpAny _ _ (Builtin.SmallTypes.ownedTupleIsFree (.ref z) >>= _) _ _ _; refine wpAny_bind ?_; unfold Builtin.SmallTypes.ownedTupleIsFree
 refine wpAny_bind (wpAny_field hz rfl (x := .none) rfl (wpAny_pure ?_)); simp only [if_true]
 refine wpAny_bind (wpAny_rule (wpAny_bind (wpAny_field hz rfl (x := .ref TO) rfl (wpAny_bind (wpAny_setField_rec hz (by simp) fun g1 hz1 hs1=>?_)))))
 replace hz1:IsZip g1 z TI TO .ellipsis:=hz1
 refine wpAny_bind ?_; simp only [List.zipIdx_cons,List.zipIdx_nil,List.forIn_cons,List.forIn_nil]
 refine wpAny_bind (wpAny_bind (wpAny_onRaise (show wpAny _ _ (Builtin.SmallTypes.nextOf (.ref i1) >>= _) _ _ _ from wpAny_bind (S1.item (S1.ext hl1 fun o q=>hs1.extBut _ _ D.l1z q) (h1.imp fun o q=>⟨hs1.extBut _ _ D.i1z q.1,q.2⟩) hx fun g2 h12 hs2=>wpAny_pure ?_))))
 have hO2:IsPair g2 TO a b:=hs2.extBut _ _ D.TOi1 (hs1.extBut _ _ D.TOz hO)
 refine wpAny_bind (wpAny_seqItems hO2 rfl (wpAny_bind (wpAny_updateSeq_pair hO2 fun g3 hO3 hs3=>?_)))
 replace hO3:IsPair g3 TO x b:=hO3
 refine wpAny_bind (wpAny_letGo (wpAny_pure (wpAny_bind (wpAny_bind (wpAny_onRaise (show wpAny _ _ (Builtin.SmallTypes.nextOf (.ref i2) >>= _) _ _ _ from wpAny_bind (S2.item (S2.ext hl2 fun o q=>hs3.extBut _ _ D.l2TO (hs2.extBut _ _ D.l2i1 (hs1.extBut _ _ D.l2z q))) (h2.imp fun o q=>⟨hs3.extBut _ _ D.TOi2.symm (hs2.extBut _ _ D.i12.symm (hs1.extBut _ _ D.i2z q.1)),q.2⟩) hy fun g4 h24 hs4=>wpAny_pure ?_)))))))
 have hO4:IsPair g4 TO x b:=hs4.extBut _ _ D.TOi2 hO3
 refine wpAny_bind (wpAny_seqItems hO4 rfl (wpAny_bind (wpAny_updateSeq_pair hO4 fun g5 hO5 hs5=>?_)))
 replace hO5:IsPair g5 TO x y:=hO5
 refine wpAny_bind (wpAny_letGo (wpAny_pure (wpAny_pure (wpAny_bind (wpAny_seqItems hO5 rfl (wpAny_bind (wpAny_newTuple ?_)))))))
 have sz:g5.objs.size=s.heap.objs.size:=by rw [hs5.1,hs4.1,hs3.1,hs2.1,hs1.1]
 have hz5:IsZip g5 z TI TO .ellipsis:=hs5.extBut _ _ D.TOz.symm (hs4.extBut _ _ D.i2z.symm (hs3.extBut _ _ D.TOz.symm (hs2.extBut _ _ D.i1z.symm hz1)))
 have kp:∀ c o,c ≠ z->c ≠ TO->c ≠ i1->c ≠ i2->s.heap.get? c=some o->g5.get? c=some o:=fun c o c1 c2 c3 c4 e=>hs5.extBut _ _ c2 (hs4.extBut _ _ c4 (hs3.extBut _ _ c2 (hs2.extBut _ _ c3 (hs1.extBut _ _ c1 e))))
 have n1:∃ o,g5.get? i1=some o/\nx1 (k + 1) o:=h12.imp fun o q=>⟨hs5.extBut _ _ D.TOi1.symm (hs4.extBut _ _ D.i12 (hs3.extBut _ _ D.TOi1.symm q.1)),q.2⟩
 have n2:∃ o,g5.get? i2=some o/\nx2 (k + 1) o:=h24.imp fun o q=>⟨hs5.extBut _ _ D.TOi2.symm q.1,q.2⟩
 have zlt:z < g5.objs.size:=Heap.lt_size hz5
 show wpAny _ _ (Builtin.SmallTypes.ownedTupleHandOut (.ref z) (.ref g5.objs.size) >>= _) _ _ _; refine wpAny_bind ?_; unfold Builtin.SmallTypes.ownedTupleHandOut
 have hz6:IsZip (g5.push { cls := .type "tuple",data := .seq #[x,y] }) z TI TO .ellipsis:=Heap.get?_push_of_some _ hz5
 refine wpAny_bind (wpAny_setField_rec hz6 (by simp) fun g7 hz7 hs7=>?_)
 replace hz7:IsZip g7 z TI TO (rawInt g5.objs.size):=hz7
 refine wpAny_setField_rec hz7 (by simp) fun g8 hz8 hs8=>?_
 replace hz8:IsZip g8 z TI TO (rawInt g5.objs.size):=hz8
 have up:∀ c o,c ≠ z->g5.get? c=some o->g8.get? c=some o:=fun c o c1 e=>hs8.extBut _ _ c1 (hs7.extBut _ _ c1 (Heap.get?_push_of_some _ e))
 have hT8:IsPair g8 g5.objs.size x y:=hs8.extBut _ _ (Nat.ne_of_gt zlt) (hs7.extBut _ _ (Nat.ne_of_gt zlt) (Heap.get?_push_size _ rfl))
 rw [sz] at hz8 hT8
 refine wpAny_pure ⟨_,rfl,wpAny_pure ?_⟩
 show Q (some (.ref g5.objs.size)) _
 rw [sz]
 exact hQ g8 hz8 (up _ _ D.TOz hO5) (n1.imp fun o q=>⟨up _ o D.i1z q.1,q.2⟩) (n2.imp fun o q=>⟨up _ o D.i2z q.1,q.2⟩) hT8 fun c o c1 c2 c3 c4 e=>up c o c1 (kp c o c1 c2 c3 c4 e)
theorem Aq {Q:Option Value->Shared->Prop} (hh:A.handled=none) (S1:mh l1 i1 xs seq1 nx1) (S2:mh l2 i2 ys qR nx2) (D:ZipApart z TI TO i1 i2 l1 l2) (hz:IsZip s.heap z TI TO .none) (hI:IsPair s.heap TI (.ref i1) (.ref i2)) (hO:IsPair s.heap TO a b)
  (h1:∃ o,s.heap.get? i1=some o/\nx1 k o) (h2:∃ o,s.heap.get? i2=some o/\nx2 k o) (hl1:seq1 s.heap) (hl2:qR s.heap) (he:xs[k]?=none ∨ ys[k]?=none)
  (hQ:∀ h',(∀ c o,c ≠ z->c ≠ TO->c ≠ i1->c ≠ i2->s.heap.get? c=some o->h'.get? c=some o)->Q none { s with heap:=h' }):wpAny (model prog w) A (pyNext (.ref z)) Q E s:=by
 have hT:s.TypeIs (.ref z) "zip" := ⟨_,hz,rfl⟩
 unfold pyNext
 refine wpAny_bind (wpAny_attempt (wpAny_callSpecial?_slot (name:=Str.ofString "__next__") hT F.slot_zip_next (wpAny_call_entry F.slot_zip_next hT F.entry_zip_next ?_ (F.args_zip_next_1 _))))
 have fin:∀ (h':Heap) (e:Addr),(∀ c o,c ≠ z->c ≠ TO->c ≠ i1->c ≠ i2->s.heap.get? c=some o->h'.get? c=some o)->(∃ o,h'.get? e=some o/\o.cls=.type "StopIteration") ->
   wpAny (model prog w) A (do let b <- isInstance (.ref e) (.type "StopIteration"); if b=true then pure none else throw (.ref e)) Q E { s with heap:=h' }:=fun h' e kp ⟨o,ho,hc⟩=>wpAny_bind (wpAny_isInstance (T := "StopIteration") (b:=true) ⟨o,ho,hc⟩ isSubtype_stop (wpAny_pure (hQ h' kp)))
 show wpAny _ _ (field (.ref z) 2 >>= _) _ _ _
 refine wpAny_bind (wpAny_field hz rfl (x := .bool false) rfl (show wpAny _ _ (field (.ref z) 3 >>= _) _ _ _ from wpAny_bind (wpAny_field hz rfl (x := .ref TI) rfl (wpAny_bind (wpAny_seqItems hI rfl ?_)))))
 show wpAny _ _ (Builtin.SmallTypes.ownedTupleIsFree (.ref z) >>= _) _ _ _; refine wpAny_bind ?_; unfold Builtin.SmallTypes.ownedTupleIsFree
 refine wpAny_bind (wpAny_field hz rfl (x := .none) rfl (wpAny_pure ?_)); simp only [if_true]
 refine wpAny_bind (wpAny_rule (wpAny_bind (wpAny_field hz rfl (x := .ref TO) rfl (wpAny_bind (wpAny_setField_rec hz (by simp) fun g1 hz1 hs1=>?_)))))
 replace hz1:IsZip g1 z TI TO .ellipsis:=hz1
 refine wpAny_bind ?_; simp only [List.zipIdx_cons,List.zipIdx_nil,List.forIn_cons,List.forIn_nil]
 refine wpAny_bind (wpAny_bind (wpAny_onRaise (show wpAny _ _ (Builtin.SmallTypes.nextOf (.ref i1) >>= _) _ _ _ from wpAny_bind ?_)))
 have b1:=S1.ext hl1 fun o q=>hs1.extBut _ _ D.l1z q
 have c1:∃ o,g1.get? i1=some o/\nx1 k o:=h1.imp fun o q=>⟨hs1.extBut _ _ D.i1z q.1,q.2⟩
 cases hx:xs[k]? with
 | none =>
  refine S1.done hh b1 c1 hx fun g2 e hs2 ⟨oe,ho,hc⟩=>?_
  have hz2:IsZip g2 z TI TO .ellipsis:=hs2 _ _ D.i1z.symm hz1
  have hne:e ≠ z:=fun x=>by subst x; rw [hz2] at ho; cases ho; simp at hc
  refine wpAny_setField_rec hz2 (by simp) fun g3 _ hs3=>fin g3 e (fun c o c1 _ c3 _ x=>hs3.extBut _ _ c1 (hs2 _ _ c3 (hs1.extBut _ _ c1 x))) ⟨oe,hs3.extBut _ _ hne ho,hc⟩
 | some x =>
  have hy:ys[k]?=none:=he.resolve_left fun q=>by rw [hx] at q; cases q
  refine S1.item b1 c1 hx fun g2 h12 hs2=>wpAny_pure ?_
  have hO2:IsPair g2 TO a b:=hs2.extBut _ _ D.TOi1 (hs1.extBut _ _ D.TOz hO)
  refine wpAny_bind (wpAny_seqItems hO2 rfl (wpAny_bind (wpAny_updateSeq_pair hO2 fun g3 hO3 hs3=>?_)))
  refine wpAny_bind (wpAny_letGo (wpAny_pure (wpAny_bind (wpAny_bind (wpAny_onRaise (show wpAny _ _ (Builtin.SmallTypes.nextOf (.ref i2) >>= _) _ _ _ from wpAny_bind (S2.done hh (S2.ext hl2 fun o q=>hs3.extBut _ _ D.l2TO (hs2.extBut _ _ D.l2i1 (hs1.extBut _ _ D.l2z q))) (h2.imp fun o q=>⟨hs3.extBut _ _ D.TOi2.symm (hs2.extBut _ _ D.i12.symm (hs1.extBut _ _ D.i2z q.1)),q.2⟩) hy fun g4 e hs4 ⟨oe,ho,hc⟩=>?_)))))))
  have hz4:IsZip g4 z TI TO .ellipsis:=hs4 _ _ D.i2z.symm (hs3.extBut _ _ D.TOz.symm (hs2.extBut _ _ D.i1z.symm hz1))
  have hne:e ≠ z:=fun x=>by subst x; rw [hz4] at ho; cases ho; simp at hc
  refine wpAny_setField_rec hz4 (by simp) fun g5 _ hs5=>fin g5 e (fun c o c1 c2 c3 c4 x=>hs5.extBut _ _ c1 (hs4 _ _ c4 (hs3.extBut _ _ c2 (hs2.extBut _ _ c3 (hs1.extBut _ _ c1 x))))) ⟨oe,hs5.extBut _ _ hne ho,hc⟩
end
def uI (b:Bool) (l:Addr):Obj := { cls := .type (if b=true then "tuple_iterator" else "list_iterator"),data := .fields #[.ref l,.int 0 0] }
def o9 (b:Bool) (h:Heap) (l:Addr) (xs:Array Value):Prop:=if b=true then h.IsTuple l xs else h.IsList l xs
theorem zb {b:Bool}{h:Heap}{l:Addr}{xs:Array Value} (x:o9 b h l xs) (o:Obj):o9 b (h.push o) l xs:=by
 cases b
 ·exact Heap.IsList.push x o
 ·obtain ⟨u,h1,h2⟩:=x
  exact ⟨u,Heap.get?_push_of_some _ h1,h2⟩
def zH (b1 b2:Bool) (h:Heap) (l1 l2:Addr):Heap:=((((h.push (uI b1 l1)).push (uI b2 l2)).push { cls := .type "tuple",data := .seq #[.ref h.objs.size,.ref (h.objs.size + 1)] }).push { cls := .type "tuple",data := .seq #[.none,.none] }).push { cls := .type "zip",data := .fields #[.none,.bool false,.bool false,.ref (h.objs.size + 2),.ref (h.objs.size + 3)] }
theorem kE {prog:Program}{w:World}{A:Around}{E:Value->Shared->Prop}{s:Shared}{b:Bool}{l:Addr}{xs:Array Value}{Q:Value->Shared->Prop} (h:o9 b s.heap l xs) (k:Q (.ref s.heap.objs.size) { s with heap:=s.heap.push (uI b l) }):wpAny (model prog w) A (pyIter (.ref l)) Q E s:=by
 cases b
 ·exact wpAny_pyIter_list h k
 ·exact wpAny_pyIter_tuple h k
theorem sW (b1 b2:Bool) (l1 l2:Addr) (xs ys:Array Value) :
  Meets (Builtin.«zip.__new__» ⟨[.type "zip",.ref l1,.ref l2],[]⟩) (fun _ R s=>o9 b1 s.heap l1 xs/\o9 b2 s.heap l2 ys/\R (.ok (.ret (.ref (s.heap.objs.size + 4)))) { s with heap:=zH b1 b2 s.heap l1 l2 }) :=
 .of_wp fun prog w A R s h=>by
  obtain ⟨hp,g,d,tk,os⟩:=s
  obtain ⟨hl1,hl2,h⟩:=h
  have hsub:=sub_zip
  have q1:o9 b1 (Shared.heap ⟨hp,g,d,tk,os⟩) l1 xs:=hl1
  have q2:o9 b2 (Shared.heap ⟨hp.push (uI b1 l1),g,d,tk,os⟩) l2 ys:=zb hl2 _
  wp_walk using kE q1,kE q2
  refine ⟨_,rfl,?_⟩
  simp only [Heap.size_push]
  exact h
theorem uJ {prog:Program}{w:World}{A:Around}{E:Value->Shared->Prop}{s:Shared}{b1 b2:Bool}{l1 l2:Addr}{xs ys:Array Value}{Q:Value->Shared->Prop} (h1:o9 b1 s.heap l1 xs) (h2:o9 b2 s.heap l2 ys)
  (h:∀ h',IsZip h' (s.heap.objs.size + 4) (s.heap.objs.size + 2) (s.heap.objs.size + 3) .none->IsPair h' (s.heap.objs.size + 2) (.ref s.heap.objs.size) (.ref (s.heap.objs.size + 1))->IsPair h' (s.heap.objs.size + 3) .none .none->h'.get? s.heap.objs.size=some (uI b1 l1)->h'.get? (s.heap.objs.size + 1)=some (uI b2 l2) ->
   (∀ c o,s.heap.get? c=some o->h'.get? c=some o)->Q (.ref (s.heap.objs.size + 4)) { s with heap:=h' }):wpAny (model prog w) A (call (.type "zip") [.ref l1,.ref l2]) Q E s:=by
 refine callType_new F.called_zip (by decide) (F.typeCall_zip_2 _ _) (F.newCall_zip_2 _ _) (fun obj=>F.args_object_init_3 obj _ _) F.entry_zip_new (sW b1 b2 l1 l2 xs ys) ⟨h1,h2,?_⟩
 have e5:(zH b1 b2 s.heap l1 l2).get? (s.heap.objs.size + 4)=some { cls := .type "zip",data := .fields #[.none,.bool false,.bool false,.ref (s.heap.objs.size + 2),.ref (s.heap.objs.size + 3)] }:=by
  have:=Heap.get?_push_size ((((s.heap.push (uI b1 l1)).push (uI b2 l2)).push { cls := .type "tuple",data := .seq #[.ref s.heap.objs.size,.ref (s.heap.objs.size + 1)] }).push { cls := .type "tuple",data := .seq #[.none,.none] }) (o := { cls := .type "zip",data := .fields #[.none,.bool false,.bool false,.ref (s.heap.objs.size + 2),.ref (s.heap.objs.size + 3)] }) rfl
  simp only [Heap.size_push] at this
  exact this
 have e4:(zH b1 b2 s.heap l1 l2).get? (s.heap.objs.size + 3)=some { cls := .type "tuple",data := .seq #[.none,.none] }:=by
  have:=Heap.get?_push_size (((s.heap.push (uI b1 l1)).push (uI b2 l2)).push { cls := .type "tuple",data := .seq #[.ref s.heap.objs.size,.ref (s.heap.objs.size + 1)] }) (o := { cls := .type "tuple",data := .seq #[.none,.none] }) rfl
  simp only [Heap.size_push] at this
  exact Heap.get?_push_of_some _ this
 have e3:(zH b1 b2 s.heap l1 l2).get? (s.heap.objs.size + 2)=some { cls := .type "tuple",data := .seq #[.ref s.heap.objs.size,.ref (s.heap.objs.size + 1)] }:=by
  have:=Heap.get?_push_size ((s.heap.push (uI b1 l1)).push (uI b2 l2)) (o := { cls := .type "tuple",data := .seq #[.ref s.heap.objs.size,.ref (s.heap.objs.size + 1)] }) rfl
  simp only [Heap.size_push] at this
  exact Heap.get?_push_of_some _ (Heap.get?_push_of_some _ this)
 have e2:(zH b1 b2 s.heap l1 l2).get? (s.heap.objs.size + 1)=some (uI b2 l2):=by
  have:=Heap.get?_push_size (s.heap.push (uI b1 l1)) (o:=uI b2 l2) rfl
  simp only [Heap.size_push] at this
  exact Heap.get?_push_of_some _ (Heap.get?_push_of_some _ (Heap.get?_push_of_some _ this))
 have e1:(zH b1 b2 s.heap l1 l2).get? s.heap.objs.size=some (uI b1 l1):=Heap.get?_push_of_some _ (Heap.get?_push_of_some _ (Heap.get?_push_of_some _ (Heap.get?_push_of_some _ (Heap.get?_push_size _ rfl))))
 exact ⟨⟨_,e5,rfl⟩,h _ e5 e3 e4 e1 e2 fun c o x=>Heap.get?_push_of_some _ (Heap.get?_push_of_some _ (Heap.get?_push_of_some _ (Heap.get?_push_of_some _ (Heap.get?_push_of_some _ x))))⟩
def As (K:PySem.W.Frag) (b:Bool) (a:Addr) (H:Hp) (xs:List V):Prop:=if b=true then jR K H a xs else gI K H a xs
def Hz (b:Bool) (a:Addr) (i:Nat) (o:Obj):Prop:=if b=true then JM a i o else JN a i o
theorem sX (b:Bool) (a it:Addr) (its:Array Value):mh a it its (fun h=>o9 b h a its) (Hz b a):=by
 cases b
 ·exact Ar a it its
 ·exact Dg a it its
theorem xR {b:Bool}{a:Addr}{i:Nat}{o:Obj} (h:Hz b a i o):∀ v,o.data ≠ .cell v:=fun v z=>by
 cases b
 ·rw [show o.data=_ from h.2] at z
  cases z
 ·rw [show o.data=_ from h.2] at z
  cases z
theorem xT (b:Bool) (a:Addr):Hz b a 0 (uI b a):=by
 cases b
 ·exact ⟨rfl,rfl⟩
 ·exact ⟨rfl,rfl⟩
theorem nO {X:Cx}{pins:List (Addr × Obj)}{σ:St}{H:Hp}{s:Shared}{b:Bool}{a:Addr}{xs:List V} (I:Inv X pins σ H s) (h:As X.K b a H xs):∃ its,Vals xs its/\o9 b s.heap a its.toArray:=by
 cases b
 ·obtain ⟨its,rv,p,_⟩:=I.list h
  exact ⟨its,rv,p.isList⟩
 ·obtain ⟨its,rv,p,_⟩:=I.tuple h
  exact ⟨its,rv,jZ p⟩
theorem xQ {X:Cx}{pins:List (Addr × Obj)}{σ:St}{H:Hp}{s:Shared}{b:Bool}{a:Addr}{xs ys:List V} (I:Inv X pins σ H s) (h:As X.K b a H xs) (h':As X.K b a H ys):xs=ys:=by
 cases b
 ·exact I.pK h h'
 ·exact I.nE h h'
def Iz (src1 src2:Hp->List V->Prop):It :=
 ⟨fun i H=>∃ xs x ys y,src1 H xs/\xs[i]?=some x/\src2 H ys/\ys[i]?=some y,fun i H v H'=>∃ p y1 y2,v=.ref p/\H p=none/\H'=upd H p (.tup [y1,y2])/\(∀ xs,src1 H xs->xs[i]?=some y1)/\∀ ys,src2 H ys->ys[i]?=some y2,fun i H=>∃ xs ys,src1 H xs/\src2 H ys/\(xs.length <= i ∨ ys.length <= i)⟩
def J2 (b1 b2:Bool) (z TI TO i1 i2 l1 l2:Addr) (i:Nat) (h:Heap):Prop:=IsZip h z TI TO .none/\IsPair h TI (.ref i1) (.ref i2)/\(∃ a b,IsPair h TO a b)/\(∃ o,h.get? i1=some o/\Hz b1 l1 i o)/\∃ o,h.get? i2=some o/\Hz b2 l2 i o
theorem Au {P:Program}{w:World}{K:PySem.W.Frag}{elts:List Expr}{x1:Nat}{tp:Pos}{z TI TO i1 i2 l1 l2:Addr} (b1 b2:Bool) (D:ZipApart z TI TO i1 i2 l1 l2) :
  Turn P w K (.Tuple elts x1 tp) (Iz (As K b1 l1) (As K b2 l2)) [z,TI,TO,i1,i2] z (J2 b1 b2 z TI TO i1 i2 l1 l2) where
 mem:=by simp
 obj:=fun i h st b hb=>by
  obtain ⟨h1,h2,⟨u,v,h3⟩,⟨o1,h4,h5⟩,o2,h6,h7⟩:=st
  simp only [List.mem_cons,List.not_mem_nil,or_false] at hb
  rcases hb with q | q | q | q | q <;> subst q
  ·exact ⟨_,h1,fun v z=>by cases z⟩
  ·exact ⟨_,h2,fun v z=>by cases z⟩
  ·exact ⟨_,h3,fun v z=>by cases z⟩
  ·exact ⟨o1,h4,xR h5⟩
  ·exact ⟨o2,h6,xR h7⟩
 keep:=fun i h h' st k=>by
  obtain ⟨h1,h2,⟨u,v,h3⟩,⟨o1,h4,h5⟩,o2,h6,h7⟩:=st
  exact ⟨k z (by simp) _ h1,k TI (by simp) _ h2,⟨u,v,k TO (by simp) _ h3⟩,⟨o1,k i1 (by simp) _ h4,h5⟩,o2,k i2 (by simp) _ h6,h7⟩
 item:=by
  intro X hP hw hK hc i pins s σ H E I hf st hg
  obtain ⟨xs,x,ys,y,hq1,hx,hq2,hy⟩:=hg
  obtain ⟨h1,h2,⟨u,v,h3⟩,h4,h5⟩:=st
  subst hP hw hK
  obtain ⟨its1,rv1,sq1⟩:=nO I hq1
  obtain ⟨its2,rv2,sq2⟩:=nO I hq2
  obtain ⟨ux,hux,rux⟩:=rv1.get hx
  obtain ⟨uy,huy,ruy⟩:=rv2.get hy
  have zlt:z < s.heap.objs.size:=Heap.lt_size h1
  refine za (sX b1 l1 i1 its1.toArray) (sX b2 l2 i2 its2.toArray) D h1 h2 h3 h4 h5 sq1 sq2 (by simpa using hux) (by simpa using huy) fun h' k1 k2 k3 k4 k5 k6=>⟨_,rfl,wpAny_letOwnedTupleGo_zip k1 fun h'' m1 m2=>?_⟩
  have m2:Heap.SameBut z h' h'' := m2
  have fr:H s.heap.objs.size=none:=I.fresh
  have kp:∀ b o,b ∉ [z,TI,TO,i1,i2]->s.heap.get? b=some o->h''.get? b=some o:=fun b o hb q=>(m2.2 b fun e=>hb (by simp [e])).trans (k6 b o (fun e=>hb (by simp [e])) (fun e=>hb (by simp [e])) (fun e=>hb (by simp [e])) (fun e=>hb (by simp [e])) q)
  have hTI:IsPair h'' TI (.ref i1) (.ref i2):=(m2.2 TI D.TIz).trans (k6 TI _ D.TIz D.TITO D.TIi1 D.TIi2 h2)
  have tp:h''.get? s.heap.objs.size=some { cls := .type "tuple",data := .seq #[ux,uy] }:=(m2.2 _ (Nat.ne_of_gt zlt)).trans k5
  have ok1:jx X.prog X.w H h'' := fun b o hb=>(I.hok b o hb).stay (fun c v hcb q=>kp c v (fun e=>by
    have n:=(hf c e).1
    rcases hcb with e2 | e2
    ·subst e2
     rw [n] at hb
     cases hb
    ·rw [n] at e2
     cases e2) q) (fun _ e=>e) fun _ _ e=>e
  have ok2:jx X.prog X.w (upd H s.heap.objs.size (.tup [x,y])) h'' := xO ok1 fr ⟨by show 2 <= sizeLine; decide,[ux,uy],.cons rux (.cons ruy .nil),⟨_,tp⟩⟩
  have I2:Inv X pins σ (upd H s.heap.objs.size (.tup [x,y])) { s with heap:=h'' }:=by
   refine I.step (t' := s.toks) (g' := s.gens) (d' := s.drawn) (ch := [z,TI,TO,i1,i2]) (fun b hb=>?_) (fun b o _ _ hb q _=>kp b o hb q) (fun b o _ _ hb q _=>⟨o.slots,kp b o hb q⟩)
    (fun b o _ q n=>by rw [aZ (Nat.ne_of_lt (Heap.lt_size q))]; exact n) (fun b o hb q=>⟨o,kp b o hb q⟩)
    (fun b ys q=>by rw [aZ (cy q fr)]; exact q) (fun b o v q=>by rw [aZ (cy q fr)]; exact q) (fun b ps q=>⟨#[],by rw [aZ (cy q fr),Array.append_empty]; exact q⟩)
    (fun m hm=>hm.at fun o q=>kp _ o (fun e=>(hf _ e).2.1 rfl) q) ok2 I.bare
   obtain ⟨f0,f1,f2,f3,f4,f5⟩:=hf b hb
   exact ⟨f3,f1,f4,f5⟩
  refine ⟨.ref s.heap.objs.size,_,I2,rfl,⟨_,x,y,rfl,fr,rfl,fun ws hw=>by rw [xQ I hw hq1]; exact hx,fun ws hw=>by rw [xQ I hw hq2]; exact hy⟩,⟨m1,hTI,⟨ux,uy,(m2.2 TO D.TOz).trans k2⟩,k3.imp fun o q=>⟨(m2.2 i1 D.i1z).trans q.1,q.2⟩,k4.imp fun o q=>⟨(m2.2 i2 D.i2z).trans q.1,q.2⟩⟩,fun b hb=>?_⟩
  have lt:b < s.heap.objs.size:=by
   simp only [List.mem_cons,List.not_mem_nil,or_false] at hb
   rcases hb with q | q | q | q | q <;> subst q
   ·exact zlt
   ·exact Heap.lt_size h2
   ·exact Heap.lt_size h3
   ·obtain ⟨_,q,_⟩:=h4
    exact Heap.lt_size q
   ·obtain ⟨_,q,_⟩:=h5
    exact Heap.lt_size q
  rw [aZ (Nat.ne_of_lt lt)]
  exact (hf b hb).1
 done:=by
  intro X hP hw hK hc i pins s σ H E I hf st hg
  obtain ⟨xs,ys,hq1,hq2,he⟩:=hg
  obtain ⟨h1,h2,⟨u,v,h3⟩,h4,h5⟩:=st
  subst hP hw hK
  obtain ⟨its1,rv1,sq1⟩:=nO I hq1
  obtain ⟨its2,rv2,sq2⟩:=nO I hq2
  have e1:=rv1.length
  have e2:=rv2.length
  refine Aq (I.ok.hd hc) (sX b1 l1 i1 its1.toArray) (sX b2 l2 i2 its2.toArray) D h1 h2 h3 h4 h5 sq1 sq2 (he.imp (fun q=>by simp; omega) fun q=>by simp; omega) fun h' k6=>⟨rfl,?_⟩
  have kp:∀ b o,b ∉ [z,TI,TO,i1,i2]->s.heap.get? b=some o->h'.get? b=some o:=fun b o hb q=>k6 b o (fun e=>hb (by simp [e])) (fun e=>hb (by simp [e])) (fun e=>hb (by simp [e])) (fun e=>hb (by simp [e])) q
  have ok1:jx X.prog X.w H h' := fun b o hb=>(I.hok b o hb).stay (fun c v hcb q=>kp c v (fun e=>by
    have n:=(hf c e).1
    rcases hcb with e2 | e2
    ·subst e2
     rw [n] at hb
     cases hb
    ·rw [n] at e2
     cases e2) q) (fun _ e=>e) fun _ _ e=>e
  refine I.step (t' := s.toks) (g' := s.gens) (d' := s.drawn) (ch := [z,TI,TO,i1,i2]) (fun b hb=>?_) (fun b o _ _ hb q _=>kp b o hb q) (fun b o _ _ hb q _=>⟨o.slots,kp b o hb q⟩)
   (fun _ _ _ _ n=>n) (fun b o hb q=>⟨o,kp b o hb q⟩) (fun _ _ q=>q) (fun _ _ _ q=>q) (fun b ps q=>⟨#[],by rw [Array.append_empty]; exact q⟩)
   (fun m hm=>hm.at fun o q=>kp _ o (fun e=>(hf _ e).2.1 rfl) q) ok1 I.bare
  obtain ⟨f0,f1,f2,f3,f4,f5⟩:=hf b hb
  exact ⟨f3,f1,f4,f5⟩
 self:=fun _ _ _ _ _ st h=>wpAny_pyIter_zip st.1 h
theorem xS {b:Bool}{h:Heap}{l:Addr}{xs:Array Value} (x:o9 b h l xs):l < h.objs.size:=by
 cases b
 ·obtain ⟨o,e,_⟩:=x
  exact Heap.lt_size e
 ·obtain ⟨o,e,_⟩:=x
  exact Heap.lt_size e
theorem FH {X:Cx}{elts:List Expr}{x1:Nat}{tp p pos:Pos}{l m:Expr}{ta:TA} (hg:Gl X "zip") (hm:X.mg "zip" = none) (ha:PA X [l,m] ta) (hs:starEach [l,m] X.env=[(false,eval l X.env),(false,eval m X.env)]:=by rfl) (hs2:starEach [m] X.env=[(false,eval m X.env)]:=by rfl) :
  PI X (.Tuple elts x1 tp) (.Call (.Name "zip" p) [l,m] [] pos) (fun σ H R=>ta σ H fun vs H1=>∃ b1 b2 a1 a2 xs ys,vs=[.ref a1,.ref a2]/\As X.K b1 a1 H1 xs/\As X.K b2 a2 H1 ys/\R (Iz (As X.K b1 a1) (As X.K b2 a2)) H1):=by
 intro pins s σ H R I h
 refine wpAny_Call_Name_kw (jT I hg hm (by decide +kernel:bootBuiltins "zip" = some (.type "zip")) ?_)
 refine PyProof.Rows.callWith_type1 (fz (ha pos pins s σ H _ I h) fun us s1 hq5=>L2.ex5 hq5 fun vs H1 I1 r1 q1=>?_) (by rw [hs,hs2]) (by rw [hs2]; rfl)
 obtain ⟨b1,b2,a1,a2,xs,ys,rfl,hq1,hq2,q⟩:=q1
 obtain ⟨u,u',rfl,ru,ru'⟩:=vals2 r1
 cases ru
 cases ru'
 obtain ⟨its1,rv1,sq1⟩:=nO I1 hq1
 obtain ⟨its2,rv2,sq2⟩:=nO I1 hq2
 refine uJ sq1 sq2 fun h' e1 e2 e3 e4 e5 e6=>wpAny_pyIter_zip e1 ?_
 have I2:Inv X pins σ H1 { s1 with heap:=h' }:=I1.kept (t' := s1.toks) e6
 refine ⟨_,_,_,_,H1,rfl,I2,Au b1 b2 (zipApart_new (xS sq1) (xS sq2)),⟨e1,e2,⟨_,_,e3⟩,⟨_,e4,xT b1 a1⟩,⟨_,e5,xT b2 a2⟩⟩,fun b hb=>?_,q⟩
 have le:s1.heap.objs.size <= b:=by
  simp only [List.mem_cons,List.not_mem_nil,or_false] at hb
  rcases hb with e | e | e | e | e <;> (rw [e]; first | exact Nat.le_refl _ | exact Nat.le_add_right _ _)
 exact I1.sJ le (I1.hok.fresh le)
section
variable {X:Cx}
end
section
variable {X:Cx}
variable {o e:Expr}{es:List Expr}{to:TE}{t:TA}{name:Str}{apos cpos:Pos}{id:String}{r:V->List V->Hp->VK->Prop}
end
end L2
namespace DL
open PySem PySem.Spec PyProof.Rows L2
inductive Tg where | own | bor | aG
 deriving DecidableEq
abbrev KT:=Sum Key (List Key)
inductive D where
 | cY | bl (b:Bool) | int (i:Int) | str (x:Str)
 | tup (xs:List D) | lst (t:Tg) (xs:List D) | dct (t:Tg) (k:Bool) (ks:List KT) (vs:List D)
 | exc (C:Addr)
abbrev SD:=List (Option D)
inductive Res (α:Type) where | ok (a:α) | d9 (C:Addr) | bad
def Res.bind {α β:Type}:Res α->(α->Res β)->Res β
 | .ok a,f=>f a
 | .d9 c,_=>.d9 c
 | .bad,_=>.bad
def Res.map {α β:Type} (f:α->β) (r:Res α):Res β:=r.bind fun a=>.ok (f a)
@[simp] theorem Res.aQ {α β:Type} (a:α) (f:α->Res β):(Res.ok a).bind f=f a:=rfl
@[simp] theorem Res.mJ {α β:Type} (c:Addr) (f:α->Res β):(Res.d9 c:Res α).bind f=.d9 c:=rfl
@[simp] theorem Res.mH {α β:Type} (f:α->Res β):(Res.bad:Res α).bind f=.bad:=rfl
@[simp] theorem Res.Av {α β:Type} (a:α) (f:α->β):Res.map f (Res.ok a)=.ok (f a):=rfl
def Tg.view:Tg->Tg | .own=>.bor | t=>t
def Tg.bz:Tg->Tg | .aG=>.bor | t=>t
mutual
def D.view:D->D
 | .tup xs=>.tup (bQ xs)
 | .lst t xs=>.lst t.view (bQ xs)
 | .dct t k ks vs=>.dct t.view k ks (bQ vs)
 | d=>d
def bQ:List D->List D
 | []=>[]
 | d :: r=>d.view :: bQ r
end
mutual
def D.aG:D->D
 | .tup xs=>.tup (aH xs)
 | .lst _ xs=>.lst .aG (aH xs)
 | .dct _ k ks vs=>.dct .aG k ks (aH vs)
 | d=>d
def aH:List D->List D
 | []=>[]
 | d :: r=>d.aG :: aH r
end
mutual
def D.bz:D->D
 | .tup xs=>.tup (cN xs)
 | .lst t xs=>.lst t.bz (cN xs)
 | .dct t k ks vs=>.dct t.bz k ks (cN vs)
 | d=>d
def cN:List D->List D
 | []=>[]
 | d :: r=>d.bz :: cN r
end
mutual
def D.aE:D->Bool
 | .tup xs=>aI xs
 | .lst t xs=>decide (t=.bor) || aI xs
 | .dct t _ _ vs=>decide (t=.bor) || aI vs
 | _=>false
def aI:List D->Bool
 | []=>false
 | d :: r=>d.aE || aI r
end
mutual
def D.pure:D->Bool
 | .tup xs=>bc xs
 | .lst _ _=>false
 | .dct _ _ _ _=>false
 | _=>true
def bc:List D->Bool
 | []=>true
 | d :: r=>d.pure && bc r
end
mutual
theorem rH:∀ d:D,d.pure=true->d.view=d
 | .cY,_=>rfl
 | .bl _,_=>rfl
 | .int _,_=>rfl
 | .str _,_=>rfl
 | .exc _,_=>rfl
 | .tup xs,h=>by
  have h:bc xs=true:=h
  show D.tup (bQ xs)=_
  rw [bK xs h]
 | .lst _ _,h=>by cases h
 | .dct _ _ _ _,h=>by cases h
theorem bK:∀ xs:List D,bc xs=true->bQ xs=xs
 | [],_=>rfl
 | d :: r,h=>by
  have h:(d.pure && bc r)=true:=h
  rw [Bool.and_eq_true] at h
  show d.view :: bQ r=_
  rw [rH d h.1,bK r h.2]
end
mutual
theorem er:∀ d:D,d.pure=true->d.aG=d
 | .cY,_=>rfl
 | .bl _,_=>rfl
 | .int _,_=>rfl
 | .str _,_=>rfl
 | .exc _,_=>rfl
 | .tup xs,h=>by
  have h:bc xs=true:=h
  show D.tup (aH xs)=_
  rw [cR xs h]
 | .lst _ _,h=>by cases h
 | .dct _ _ _ _,h=>by cases h
theorem cR:∀ xs:List D,bc xs=true->aH xs=xs
 | [],_=>rfl
 | d :: r,h=>by
  have h:(d.pure && bc r)=true:=h
  rw [Bool.and_eq_true] at h
  show d.aG :: aH r=_
  rw [er d h.1,cR r h.2]
end
mutual
theorem pT:∀ d:D,d.pure=true->d.bz=d
 | .cY,_=>rfl
 | .bl _,_=>rfl
 | .int _,_=>rfl
 | .str _,_=>rfl
 | .exc _,_=>rfl
 | .tup xs,h=>by
  have h:bc xs=true:=h
  show D.tup (cN xs)=_
  rw [ia xs h]
 | .lst _ _,h=>by cases h
 | .dct _ _ _ _,h=>by cases h
theorem ia:∀ xs:List D,bc xs=true->cN xs=xs
 | [],_=>rfl
 | d :: r,h=>by
  have h:(d.pure && bc r)=true:=h
  rw [Bool.and_eq_true] at h
  show d.bz :: cN r=_
  rw [pT d h.1,ia r h.2]
end
mutual
theorem aX:∀ d:D,d.pure=true->d.aE=false
 | .cY,_=>rfl
 | .bl _,_=>rfl
 | .int _,_=>rfl
 | .str _,_=>rfl
 | .exc _,_=>rfl
 | .tup xs,h=>bu xs h
 | .lst _ _,h=>by cases h
 | .dct _ _ _ _,h=>by cases h
theorem bu:∀ xs:List D,bc xs=true->aI xs=false
 | [],_=>rfl
 | d :: r,h=>by
  have h:(d.pure && bc r)=true:=h
  rw [Bool.and_eq_true] at h
  show (d.aE || aI r)=false
  rw [aX d h.1,bu r h.2]
  rfl
end
theorem dF:∀ {xs:List D},(∀ d ∈ xs,d.pure=true)->bc xs=true
 | [],_=>rfl
 | d :: r,h=>by
  show (d.pure && bc r)=true
  rw [h d List.mem_cons_self,dF fun x hx=>h x (List.mem_cons_of_mem _ hx)]
  rfl
theorem sY:∀ xs:List D,aH xs=xs.map D.aG
 | []=>rfl
 | d :: r=>by rw [aH,sY r]; rfl
def DictAt (H:Hp) (a:Addr) (k:Bool) (ks:List KT) (vs:List V):Prop :=
 (k=false/\∃ kvs:List (Key × V),H a=some (.dK kvs)/\ks=kvs.map (fun p=>Sum.inl p.1)/\vs=kvs.map (·.2)) ∨
 (k=true/\∃ kvs:List (List Key × V),H a=some (.dT kvs)/\ks=kvs.map (fun p=>Sum.inr p.1)/\vs=kvs.map (·.2))
def ExcAt (H:Hp) (a C:Addr):Prop := ∃ (t:Addr) (tb:Value) (u:HO),H a=some (.aG { cls := .ref C,data := .fields #[.ref t,tb,.none,.none,.bool false,.none] } u)
mutual
def Rep (K:PySem.W.Frag) (B:Hp) (S:Addr->Prop) (H:Hp):D->V->List Addr->Prop
 | .cY,v,fp=>v=.cY/\fp=[]
 | .bl b,v,fp=>v=.bl b/\fp=[]
 | .int i,v,fp=>v=.int i/\fp=[]
 | .str x,v,fp=>v=.str x/\fp=[]
 | .exc x,v,fp=>(∃ a,v=.ref a/\ExcAt H a x)/\fp=[]
 | .tup xs,v,fp=>∃ a vs,v=.ref a/\H a=some (.tup vs)/\aB K B S H xs vs fp
 | .lst .own xs,v,fp=>∃ a vs f,v=.ref a/\H a=some (.lst vs)/\aB K B S H xs vs f/\fp=a :: f
 | .lst .bor xs,v,fp=>∃ a vs,v=.ref a/\((S a/\gI K H a vs) ∨ gI K B a vs)/\aB K B S H xs vs []/\fp=[]
 | .lst .aG xs,v,fp=>∃ a vs,v=.ref a/\gI K B a vs/\aB K B (fun _=>False) H xs vs []/\fp=[]
 | .dct .own k ks xs,v,fp=>∃ a vs f,v=.ref a/\DictAt H a k ks vs/\aB K B S H xs vs f/\fp=a :: f
 | .dct .bor k ks xs,v,fp=>∃ a vs,v=.ref a/\((S a/\DictAt H a k ks vs) ∨ DictAt B a k ks vs)/\aB K B S H xs vs []/\fp=[]
 | .dct .aG k ks xs,v,fp=>∃ a vs,v=.ref a/\DictAt B a k ks vs/\aB K B (fun _=>False) H xs vs []/\fp=[]
def aB (K:PySem.W.Frag) (B:Hp) (S:Addr->Prop) (H:Hp):List D->List V->List Addr->Prop
 | [],vs,fp=>vs=[]/\fp=[]
 | d :: ds,vs,fp=>∃ v r f g,vs=v :: r/\Rep K B S H d v f/\aB K B S H ds r g/\fp=f ++ g
end
theorem eN {K:PySem.W.Frag}{H H':Hp} (s:aw H H') {a:Addr}{xs:List V} (h:gI K H a xs):gI K H' a xs:=s.seq h
theorem DictAt.mono {H H':Hp} (s:aw H H') {a:Addr}{k:Bool}{ks:List KT}{vs:List V} (h:DictAt H a k ks vs):DictAt H' a k ks vs:=by
 rcases h with ⟨z,kvs,h,r⟩ | ⟨z,kvs,h,r⟩
 ·exact .inl ⟨z,kvs,s _ _ h,r⟩
 ·exact .inr ⟨z,kvs,s _ _ h,r⟩
theorem ExcAt.mono {H H':Hp} (s:aw H H') {a C:Addr} (h:ExcAt H a C):ExcAt H' a C:=let ⟨t,tb,u,h⟩:=h; ⟨t,tb,u,s _ _ h⟩
section
variable {K:PySem.W.Frag}
mutual
theorem Rep.mono {B B' H H':Hp}{S S':Addr->Prop} (sH:aw H H') (sB:aw B B') (sS:∀ a,S a->S' a):∀ {d:D}{v:V}{fp:List Addr},Rep K B S H d v fp->Rep K B' S' H' d v fp
 | .cY,_,_,h=>h
 | .bl _,_,_,h=>h
 | .int _,_,_,h=>h
 | .str _,_,_,h=>h
 | .exc _,_,_,h=>let ⟨⟨a,e,z⟩,r⟩:=h; ⟨⟨a,e,z.mono sH⟩,r⟩
 | .tup xs,v,fp,h=>let ⟨a,vs,e,q,r⟩:=h; ⟨a,vs,e,sH _ _ q,aB.mono sH sB sS r⟩
 | .lst .own xs,v,fp,h=>let ⟨a,vs,f,e,q,r,z⟩:=h; ⟨a,vs,f,e,sH _ _ q,aB.mono sH sB sS r,z⟩
 | .lst .bor xs,v,fp,h=>let ⟨a,vs,e,q,r,z⟩:=h; ⟨a,vs,e,q.imp (fun y=>⟨sS _ y.1,eN sH y.2⟩) (fun y=>eN sB y),aB.mono sH sB sS r,z⟩
 | .lst .aG xs,v,fp,h=>let ⟨a,vs,e,q,r,z⟩:=h; ⟨a,vs,e,eN sB q,aB.mono sH sB (fun _ x=>x) r,z⟩
 | .dct .own k ks xs,v,fp,h=>let ⟨a,vs,f,e,q,r,z⟩:=h; ⟨a,vs,f,e,q.mono sH,aB.mono sH sB sS r,z⟩
 | .dct .bor k ks xs,v,fp,h=>let ⟨a,vs,e,q,r,z⟩:=h; ⟨a,vs,e,q.imp (fun y=>⟨sS _ y.1,y.2.mono sH⟩) (fun y=>y.mono sB),aB.mono sH sB sS r,z⟩
 | .dct .aG k ks xs,v,fp,h=>let ⟨a,vs,e,q,r,z⟩:=h; ⟨a,vs,e,q.mono sB,aB.mono sH sB (fun _ x=>x) r,z⟩
theorem aB.mono {B B' H H':Hp}{S S':Addr->Prop} (sH:aw H H') (sB:aw B B') (sS:∀ a,S a->S' a):∀ {ds:List D}{vs:List V}{fp:List Addr},aB K B S H ds vs fp->aB K B' S' H' ds vs fp
 | [],_,_,h=>h
 | d :: ds,vs,fp,h=>let ⟨v,r,f,g,e,h1,h2,z⟩:=h; ⟨v,r,f,g,e,Rep.mono sH sB sS h1,aB.mono sH sB sS h2,z⟩
end
theorem aB.length {B H:Hp}{S:Addr->Prop}:∀ {ds:List D}{vs:List V}{fp:List Addr},aB K B S H ds vs fp->ds.length=vs.length
 | [],_,_,h=>by rw [h.1]; rfl
 | d :: ds,vs,fp,h=>by
  obtain ⟨v,r,f,g,e,h1,h2,z⟩:=h
  rw [e,List.length_cons,List.length_cons,aB.length h2]
theorem l3 {f g:List Addr} (h:([]:List Addr)=f ++ g):f=[]/\g=[]:=List.append_eq_nil_iff.mp h.symm
theorem aB.get {B H:Hp}{S:Addr->Prop}:∀ {ds:List D}{vs:List V}{fp:List Addr}{i:Nat}{d:D},aB K B S H ds vs fp->ds[i]?=some d->∃ v f,vs[i]?=some v/\Rep K B S H d v f/\List.Sublist f fp
 | [],_,_,i,_,_,e=>by simp at e
 | d :: ds,vs,fp,0,d',h,e=>by
  obtain ⟨v,r,f,g,e1,h1,h2,z⟩:=h
  have e:d=d' := by simpa using e
  subst e e1 z
  exact ⟨v,f,rfl,h1,List.sublist_append_left _ _⟩
 | d :: ds,vs,fp,i + 1,d',h,e=>by
  obtain ⟨v,r,f,g,e1,h1,h2,z⟩:=h
  subst e1 z
  obtain ⟨w,f',a1,a2,a3⟩:=aB.get (i:=i) h2 (by simpa using e)
  exact ⟨w,f',by simpa using a1,a2,a3.trans (List.sublist_append_right _ _)⟩
theorem aB.append {B H:Hp}{S:Addr->Prop}:∀ {xs ys:List D}{us vs:List V}{f g:List Addr},aB K B S H xs us f->aB K B S H ys vs g->aB K B S H (xs ++ ys) (us ++ vs) (f ++ g)
 | [],ys,us,vs,f,g,h,h'=>by
  obtain ⟨rfl,rfl⟩:=h
  exact h'
 | d :: ds,ys,us,vs,f,g,h,h'=>by
  obtain ⟨v,r,f1,f2,e1,h1,h2,z⟩:=h
  subst e1 z
  exact ⟨v,r ++ vs,f1,f2 ++ g,rfl,h1,aB.append h2 h',by rw [List.append_assoc]⟩
theorem aB.one {B H:Hp}{S:Addr->Prop}{d:D}{v:V}{f:List Addr} (h:Rep K B S H d v f):aB K B S H [d] [v] f:=⟨v,[],f,[],rfl,h,⟨rfl,rfl⟩,(List.append_nil _).symm⟩
theorem Dh {B H:Hp}{S:Addr->Prop}:(∀ (d:D) {v:V}{fp:List Addr},d.pure=true->Rep K B S H d v fp->fp=[])/\(∀ (ds:List D) {vs:List V}{fp:List Addr},bc ds=true->aB K B S H ds vs fp->fp=[]):=by
 refine ⟨fun d=>?_,fun ds=>?_⟩
 ·exact D.rec (motive_1:=fun d=>∀ {v:V}{fp:List Addr},d.pure=true->Rep K B S H d v fp->fp=[]) (motive_2:=fun ds=>∀ {vs:List V}{fp:List Addr},bc ds=true->aB K B S H ds vs fp->fp=[])
   (fun _ h=>h.2) (fun _ _ _ _ h=>h.2) (fun _ _ _ _ h=>h.2) (fun _ _ _ _ h=>h.2) (fun xs ih _ _ p h=>let ⟨_,_,_,_,r⟩:=h; ih p r) (fun _ _ _ _ _ p=>by cases p) (fun _ _ _ _ _ _ _ p=>by cases p) (fun _ _ _ _ h=>h.2) (fun _ h=>h.2)
   (fun d r ih1 ih2 _ _ p h=>by
    have p:(d.pure && bc r)=true:=p
    rw [Bool.and_eq_true] at p
    obtain ⟨_,_,_,_,_,h1,h2,z⟩:=h
    rw [z,ih1 p.1 h1,ih2 p.2 h2]; rfl) d
 ·exact D.rec_1 (motive_1:=fun d=>∀ {v:V}{fp:List Addr},d.pure=true->Rep K B S H d v fp->fp=[]) (motive_2:=fun ds=>∀ {vs:List V}{fp:List Addr},bc ds=true->aB K B S H ds vs fp->fp=[])
   (fun _ h=>h.2) (fun _ _ _ _ h=>h.2) (fun _ _ _ _ h=>h.2) (fun _ _ _ _ h=>h.2) (fun xs ih _ _ p h=>let ⟨_,_,_,_,r⟩:=h; ih p r) (fun _ _ _ _ _ p=>by cases p) (fun _ _ _ _ _ _ _ p=>by cases p) (fun _ _ _ _ h=>h.2) (fun _ h=>h.2)
   (fun d r ih1 ih2 _ _ p h=>by
    have p:(d.pure && bc r)=true:=p
    rw [Bool.and_eq_true] at p
    obtain ⟨_,_,_,_,_,h1,h2,z⟩:=h
    rw [z,ih1 p.1 h1,ih2 p.2 h2]; rfl) ds
end
abbrev No:Addr->Prop:=fun _=>False
section
variable {K:PySem.W.Frag}
mutual
theorem Rep.view {B H:Hp}{S:Addr->Prop}:∀ {d:D}{v:V}{fp:List Addr},Rep K B No H d v fp->(∀ a ∈ fp,S a)->Rep K B S H d.view v []
 | .cY,_,_,h,_=>⟨h.1,rfl⟩
 | .bl _,_,_,h,_=>⟨h.1,rfl⟩
 | .int _,_,_,h,_=>⟨h.1,rfl⟩
 | .str _,_,_,h,_=>⟨h.1,rfl⟩
 | .exc _,_,_,h,_=>⟨h.1,rfl⟩
 | .tup xs,v,fp,h,hs=>let ⟨a,vs,e,q,r⟩:=h; ⟨a,vs,e,q,aB.view r hs⟩
 | .lst .own xs,v,fp,h,hs=>by
  obtain ⟨a,vs,f,e,q,r,z⟩:=h
  subst z
  exact ⟨a,vs,e,.inl ⟨hs a List.mem_cons_self,gI.of q⟩,aB.view r fun b hb=>hs b (List.mem_cons_of_mem _ hb),rfl⟩
 | .lst .bor xs,v,fp,h,hs=>let ⟨a,vs,e,q,r,z⟩:=h; ⟨a,vs,e,.inr (q.resolve_left fun y=>y.1),aB.view r (fun _ x=>by cases x),rfl⟩
 | .lst .aG xs,v,fp,h,hs=>let ⟨a,vs,e,q,r,z⟩:=h; ⟨a,vs,e,q,aB.view (S:=No) r (fun _ x=>by cases x),rfl⟩
 | .dct .own kd ks xs,v,fp,h,hs=>by
  obtain ⟨a,vs,f,e,q,r,z⟩:=h
  subst z
  exact ⟨a,vs,e,.inl ⟨hs a List.mem_cons_self,q⟩,aB.view r fun b hb=>hs b (List.mem_cons_of_mem _ hb),rfl⟩
 | .dct .bor kd ks xs,v,fp,h,hs=>let ⟨a,vs,e,q,r,z⟩:=h; ⟨a,vs,e,.inr (q.resolve_left fun y=>y.1),aB.view r (fun _ x=>by cases x),rfl⟩
 | .dct .aG kd ks xs,v,fp,h,hs=>let ⟨a,vs,e,q,r,z⟩:=h; ⟨a,vs,e,q,aB.view (S:=No) r (fun _ x=>by cases x),rfl⟩
theorem aB.view {B H:Hp}{S:Addr->Prop}:∀ {ds:List D}{vs:List V}{fp:List Addr},aB K B No H ds vs fp->(∀ a ∈ fp,S a)->aB K B S H (bQ ds) vs []
 | [],_,_,h,_=>⟨h.1,rfl⟩
 | d :: ds,vs,fp,h,hs=>by
  obtain ⟨v,r,f,g,e,h1,h2,z⟩:=h
  subst z
  exact ⟨v,r,[],[],e,Rep.view h1 (fun b hb=>hs b (List.mem_append_left _ hb)),aB.view h2 (fun b hb=>hs b (List.mem_append_right _ hb)),rfl⟩
end
theorem Aw {B B' H:Hp}{S:Addr->Prop}{a:Addr}{vs:List V} (sB:aw B B') (hs:∀ a o,S a->H a=some o->B' a=some o) (q:(S a/\gI K H a vs) ∨ gI K B a vs):gI K B' a vs:=by
 rcases q with ⟨s,(q | ⟨o,q⟩) | q⟩ | q
 ·exact .inl (.inl (hs _ _ s q))
 ·exact .inl (.inr ⟨o,hs _ _ s q⟩)
 ·exact .inr q
 ·exact sB.seq q
theorem nP {B B' H:Hp}{S:Addr->Prop}{a:Addr}{kd:Bool}{ks:List KT}{vs:List V} (sB:aw B B') (hs:∀ a o,S a->H a=some o->B' a=some o) (q:(S a/\DictAt H a kd ks vs) ∨ DictAt B a kd ks vs):DictAt B' a kd ks vs:=by
 rcases q with ⟨s,⟨z,kvs,q,r⟩ | ⟨z,kvs,q,r⟩⟩ | q
 ·exact .inl ⟨z,kvs,hs _ _ s q,r⟩
 ·exact .inr ⟨z,kvs,hs _ _ s q,r⟩
 ·exact q.mono sB
mutual
theorem Rep.aG {B B' H:Hp}{S:Addr->Prop} (sB:aw B B') (hs:∀ a o,S a->H a=some o->B' a=some o):∀ {d:D}{v:V}{fp:List Addr},Rep K B S H d v fp->(∀ a ∈ fp,∀ o,H a=some o->B' a=some o)->Rep K B' No H d.aG v []
 | .cY,_,_,h,_=>⟨h.1,rfl⟩
 | .bl _,_,_,h,_=>⟨h.1,rfl⟩
 | .int _,_,_,h,_=>⟨h.1,rfl⟩
 | .str _,_,_,h,_=>⟨h.1,rfl⟩
 | .exc _,_,_,h,_=>⟨h.1,rfl⟩
 | .tup xs,v,fp,h,hf=>let ⟨a,vs,e,q,r⟩:=h; ⟨a,vs,e,q,aB.aG sB hs r hf⟩
 | .lst .own xs,v,fp,h,hf=>by
  obtain ⟨a,vs,f,e,q,r,z⟩:=h
  subst z
  exact ⟨a,vs,e,gI.of (hf a List.mem_cons_self _ q),aB.aG sB hs r fun b hb=>hf b (List.mem_cons_of_mem _ hb),rfl⟩
 | .lst .bor xs,v,fp,h,hf=>let ⟨a,vs,e,q,r,z⟩:=h; ⟨a,vs,e,Aw sB hs q,aB.aG sB hs r (fun _ x=>by cases x),rfl⟩
 | .lst .aG xs,v,fp,h,hf=>let ⟨a,vs,e,q,r,z⟩:=h; ⟨a,vs,e,eN sB q,aB.aG sB (fun _ _ x=>x.elim) r (fun _ x=>by cases x),rfl⟩
 | .dct .own kd ks xs,v,fp,h,hf=>by
  obtain ⟨a,vs,f,e,q,r,z⟩:=h
  subst z
  refine ⟨a,vs,e,?_,aB.aG sB hs r fun b hb=>hf b (List.mem_cons_of_mem _ hb),rfl⟩
  exact nP (S:=fun b=>b=a) sB (fun b o eb=>by rw [eb]; exact hf a List.mem_cons_self o) (.inl ⟨rfl,q⟩)
 | .dct .bor kd ks xs,v,fp,h,hf=>let ⟨a,vs,e,q,r,z⟩:=h; ⟨a,vs,e,nP sB hs q,aB.aG sB hs r (fun _ x=>by cases x),rfl⟩
 | .dct .aG kd ks xs,v,fp,h,hf=>let ⟨a,vs,e,q,r,z⟩:=h; ⟨a,vs,e,q.mono sB,aB.aG sB (fun _ _ x=>x.elim) r (fun _ x=>by cases x),rfl⟩
theorem aB.aG {B B' H:Hp}{S:Addr->Prop} (sB:aw B B') (hs:∀ a o,S a->H a=some o->B' a=some o):∀ {ds:List D}{vs:List V}{fp:List Addr},aB K B S H ds vs fp->(∀ a ∈ fp,∀ o,H a=some o->B' a=some o)->aB K B' No H (aH ds) vs []
 | [],_,_,h,_=>⟨h.1,rfl⟩
 | d :: ds,vs,fp,h,hf=>by
  obtain ⟨v,r,f,g,e,h1,h2,z⟩:=h
  subst z
  exact ⟨v,r,[],[],e,Rep.aG sB hs h1 (fun b hb=>hf b (List.mem_append_left _ hb)),aB.aG sB hs h2 (fun b hb=>hf b (List.mem_append_right _ hb)),rfl⟩
end
theorem uL {B B' H:Hp}{S:Addr->Prop}{a:Addr}{vs:List V} (sH:aw B H) (hb:∀ a o,B a=some o->B' a=some o ∨ S a) (q:gI K B a vs):(S a/\gI K H a vs) ∨ gI K B' a vs:=by
 rcases q with (q | ⟨o,q⟩) | q
 ·exact (hb _ _ q).symm.imp (fun s=>⟨s,gI.of (sH _ _ q)⟩) fun z=>.inl (.inl z)
 ·exact (hb _ _ q).symm.imp (fun s=>⟨s,.inl (.inr ⟨o,sH _ _ q⟩)⟩) fun z=>.inl (.inr ⟨o,z⟩)
 ·exact .inr (.inr q)
theorem oO {B B' H:Hp}{S:Addr->Prop}{a:Addr}{kd:Bool}{ks:List KT}{vs:List V} (sH:aw B H) (hb:∀ a o,B a=some o->B' a=some o ∨ S a) (q:DictAt B a kd ks vs):(S a/\DictAt H a kd ks vs) ∨ DictAt B' a kd ks vs:=by
 rcases q with ⟨y,kvs,q,r⟩ | ⟨y,kvs,q,r⟩
 ·exact (hb _ _ q).symm.imp (fun s=>⟨s,.inl ⟨y,kvs,sH _ _ q,r⟩⟩) fun z=>.inl ⟨y,kvs,z,r⟩
 ·exact (hb _ _ q).symm.imp (fun s=>⟨s,.inr ⟨y,kvs,sH _ _ q,r⟩⟩) fun z=>.inr ⟨y,kvs,z,r⟩
mutual
theorem Rep.bz {B B' H:Hp}{S:Addr->Prop} (sH:aw B H) (hb:∀ a o,B a=some o->B' a=some o ∨ S a):∀ {d:D}{v:V}{fp:List Addr},Rep K B No H d v fp->Rep K B' S H d.bz v fp
 | .cY,_,_,h=>h
 | .bl _,_,_,h=>h
 | .int _,_,_,h=>h
 | .str _,_,_,h=>h
 | .exc _,_,_,h=>h
 | .tup xs,v,fp,h=>let ⟨a,vs,e,q,r⟩:=h; ⟨a,vs,e,q,aB.bz sH hb r⟩
 | .lst .own xs,v,fp,h=>let ⟨a,vs,f,e,q,r,z⟩:=h; ⟨a,vs,f,e,q,aB.bz sH hb r,z⟩
 | .lst .bor xs,v,fp,h=>let ⟨a,vs,e,q,r,z⟩:=h; ⟨a,vs,e,uL sH hb (q.resolve_left fun y=>y.1),aB.bz sH hb r,z⟩
 | .lst .aG xs,v,fp,h=>let ⟨a,vs,e,q,r,z⟩:=h; ⟨a,vs,e,uL sH hb q,aB.bz sH hb r,z⟩
 | .dct .own kd ks xs,v,fp,h=>let ⟨a,vs,f,e,q,r,z⟩:=h; ⟨a,vs,f,e,q,aB.bz sH hb r,z⟩
 | .dct .bor kd ks xs,v,fp,h=>let ⟨a,vs,e,q,r,z⟩:=h; ⟨a,vs,e,oO sH hb (q.resolve_left fun y=>y.1),aB.bz sH hb r,z⟩
 | .dct .aG kd ks xs,v,fp,h=>let ⟨a,vs,e,q,r,z⟩:=h; ⟨a,vs,e,oO sH hb q,aB.bz sH hb r,z⟩
theorem aB.bz {B B' H:Hp}{S:Addr->Prop} (sH:aw B H) (hb:∀ a o,B a=some o->B' a=some o ∨ S a):∀ {ds:List D}{vs:List V}{fp:List Addr},aB K B No H ds vs fp->aB K B' S H (cN ds) vs fp
 | [],_,_,h=>h
 | d :: ds,vs,fp,h=>let ⟨v,r,f,g,e,h1,h2,z⟩:=h; ⟨v,r,f,g,e,Rep.bz sH hb h1,aB.bz sH hb h2,z⟩
end
mutual
theorem Rep.iT {B H:Hp}{S:Addr->Prop}:∀ {d:D}{v:V}{fp:List Addr},d.aE=false->Rep K B S H d v fp->Rep K B No H d v fp
 | .cY,_,_,_,h=>h
 | .bl _,_,_,_,h=>h
 | .int _,_,_,_,h=>h
 | .str _,_,_,_,h=>h
 | .exc _,_,_,_,h=>h
 | .tup xs,v,fp,p,h=>let ⟨a,vs,e,q,r⟩:=h; ⟨a,vs,e,q,aB.iT (ds:=xs) p r⟩
 | .lst .own xs,v,fp,p,h=>let ⟨a,vs,f,e,q,r,z⟩:=h; ⟨a,vs,f,e,q,aB.iT (ds:=xs) (by simpa [D.aE] using p) r,z⟩
 | .lst .bor xs,v,fp,p,h=>by simp [D.aE] at p
 | .lst .aG xs,v,fp,p,h=>h
 | .dct .own kd ks xs,v,fp,p,h=>let ⟨a,vs,f,e,q,r,z⟩:=h; ⟨a,vs,f,e,q,aB.iT (ds:=xs) (by simpa [D.aE] using p) r,z⟩
 | .dct .bor kd ks xs,v,fp,p,h=>by simp [D.aE] at p
 | .dct .aG kd ks xs,v,fp,p,h=>h
theorem aB.iT {B H:Hp}{S:Addr->Prop}:∀ {ds:List D}{vs:List V}{fp:List Addr},aI ds=false->aB K B S H ds vs fp->aB K B No H ds vs fp
 | [],_,_,_,h=>h
 | d :: ds,vs,fp,p,h=>by
  obtain ⟨v,r,f,g,e,h1,h2,z⟩:=h
  have p:(d.aE || aI ds)=false:=p
  rw [Bool.or_eq_false_iff] at p
  exact ⟨v,r,f,g,e,Rep.iT p.1 h1,aB.iT p.2 h2,z⟩
end
def qO:HO->Prop
 | .lst _=>True
 | .dK _=>True
 | .dT _=>True
 | _=>False
structure mK (H H':Hp) (M:List Addr):Prop where
 keep:∀ a o,H a=some o->a ∉ M->H' a=some o
 Jl:∀ a ∈ M,∃ o,H a=some o/\qO o
theorem mK.CC {H H':Hp}{M:List Addr} (k:mK H H' M) {a:Addr}{o:HO} (h:H a=some o) (n:¬ qO o):H' a=some o:=k.keep a o h fun m=>by
 obtain ⟨u,e,z⟩:=k.Jl a m
 rw [h] at e
 cases e
 exact n z
mutual
theorem Rep.keep {B H H':Hp}{M:List Addr} (k:mK H H' M):∀ {d:D}{v:V}{fp:List Addr},Rep K B No H d v fp->(∀ a ∈ fp,a ∉ M)->Rep K B No H' d v fp
 | .cY,_,_,h,_=>h
 | .bl _,_,_,h,_=>h
 | .int _,_,_,h,_=>h
 | .str _,_,_,h,_=>h
 | .exc _,_,_,h,_=>let ⟨⟨a,e,t,tb,u,h1⟩,r⟩:=h; ⟨⟨a,e,t,tb,u,k.CC h1 (fun x=>x)⟩,r⟩
 | .tup xs,v,fp,h,hf=>by
  obtain ⟨a,vs,e,q,r⟩:=h
  exact ⟨a,vs,e,k.CC q (fun x=>x),aB.keep k r hf⟩
 | .lst .own xs,v,fp,h,hf=>by
  obtain ⟨a,vs,f,e,q,r,z⟩:=h
  subst z
  exact ⟨a,vs,f,e,k.keep _ _ q (hf a List.mem_cons_self),aB.keep k r fun b hb=>hf b (List.mem_cons_of_mem _ hb),rfl⟩
 | .lst .bor xs,v,fp,h,hf=>let ⟨a,vs,e,q,r,z⟩:=h; ⟨a,vs,e,.inr (q.resolve_left fun y=>y.1),aB.keep k r (fun _ x=>by cases x),z⟩
 | .lst .aG xs,v,fp,h,hf=>let ⟨a,vs,e,q,r,z⟩:=h; ⟨a,vs,e,q,aB.keep k r (fun _ x=>by cases x),z⟩
 | .dct .own kd ks xs,v,fp,h,hf=>by
  obtain ⟨a,vs,f,e,q,r,z⟩:=h
  subst z
  have hm:=hf a List.mem_cons_self
  refine ⟨a,vs,f,e,?_,aB.keep k r fun b hb=>hf b (List.mem_cons_of_mem _ hb),rfl⟩
  rcases q with ⟨y,kvs,q,w⟩ | ⟨y,kvs,q,w⟩
  ·exact .inl ⟨y,kvs,k.keep _ _ q hm,w⟩
  ·exact .inr ⟨y,kvs,k.keep _ _ q hm,w⟩
 | .dct .bor kd ks xs,v,fp,h,hf=>let ⟨a,vs,e,q,r,z⟩:=h; ⟨a,vs,e,.inr (q.resolve_left fun y=>y.1),aB.keep k r (fun _ x=>by cases x),z⟩
 | .dct .aG kd ks xs,v,fp,h,hf=>let ⟨a,vs,e,q,r,z⟩:=h; ⟨a,vs,e,q,aB.keep k r (fun _ x=>by cases x),z⟩
theorem aB.keep {B H H':Hp}{M:List Addr} (k:mK H H' M):∀ {ds:List D}{vs:List V}{fp:List Addr},aB K B No H ds vs fp->(∀ a ∈ fp,a ∉ M)->aB K B No H' ds vs fp
 | [],_,_,h,_=>h
 | d :: ds,vs,fp,h,hf=>by
  obtain ⟨v,r,f,g,e,h1,h2,z⟩:=h
  subst z
  exact ⟨v,r,f,g,e,Rep.keep k h1 (fun b hb=>hf b (List.mem_append_left _ hb)),aB.keep k h2 (fun b hb=>hf b (List.mem_append_right _ hb)),rfl⟩
end
mutual
theorem Rep.own {B H:Hp}{S:Addr->Prop}:∀ {d:D}{v:V}{fp:List Addr},Rep K B S H d v fp->∀ a ∈ fp,∃ o,H a=some o/\qO o
 | .cY,_,_,h=>by rw [h.2]; intro a m; cases m
 | .bl _,_,_,h=>by rw [h.2]; intro a m; cases m
 | .int _,_,_,h=>by rw [h.2]; intro a m; cases m
 | .str _,_,_,h=>by rw [h.2]; intro a m; cases m
 | .exc _,_,_,h=>by rw [h.2]; intro a m; cases m
 | .tup xs,v,fp,h=>let ⟨a,vs,e,q,r⟩:=h; aB.own r
 | .lst .own xs,v,fp,h=>by
  obtain ⟨a,vs,f,e,q,r,z⟩:=h
  subst z
  intro b hb
  rcases List.mem_cons.mp hb with e | e
  ·subst e; exact ⟨_,q,trivial⟩
  ·exact aB.own r b e
 | .lst .bor xs,v,fp,h=>by obtain ⟨a,vs,e,q,r,z⟩:=h; rw [z]; intro a m; cases m
 | .lst .aG xs,v,fp,h=>by obtain ⟨a,vs,e,q,r,z⟩:=h; rw [z]; intro a m; cases m
 | .dct .own kd ks xs,v,fp,h=>by
  obtain ⟨a,vs,f,e,q,r,z⟩:=h
  subst z
  intro b hb
  rcases List.mem_cons.mp hb with e | e
  ·subst e
   rcases q with ⟨y,kvs,q,w⟩ | ⟨y,kvs,q,w⟩
   ·exact ⟨_,q,trivial⟩
   ·exact ⟨_,q,trivial⟩
  ·exact aB.own r b e
 | .dct .bor kd ks xs,v,fp,h=>by obtain ⟨a,vs,e,q,r,z⟩:=h; rw [z]; intro a m; cases m
 | .dct .aG kd ks xs,v,fp,h=>by obtain ⟨a,vs,e,q,r,z⟩:=h; rw [z]; intro a m; cases m
theorem aB.own {B H:Hp}{S:Addr->Prop}:∀ {ds:List D}{vs:List V}{fp:List Addr},aB K B S H ds vs fp->∀ a ∈ fp,∃ o,H a=some o/\qO o
 | [],_,_,h=>by rw [h.2]; intro a m; cases m
 | d :: ds,vs,fp,h=>by
  obtain ⟨v,r,f,g,e,h1,h2,z⟩:=h
  subst z
  intro b hb
  rcases List.mem_append.mp hb with e | e
  ·exact Rep.own h1 b e
  ·exact aB.own h2 b e
end
def eL (K:PySem.W.Frag) (B H:Hp):SD->L2.St->List Addr->Prop
 | [],σ,P=>σ=[]/\P=[]
 | none :: r,σ,P=>∃ o τ,σ=o :: τ/\eL K B H r τ P
 | some d :: r,σ,P=>∃ v τ f g,σ=some v :: τ/\Rep K B No H d v f/\eL K B H r τ g/\P=f ++ g
structure SI (K:PySem.W.Frag) (H0 B0 B H:Hp) (σ:L2.St) (τ:SD) (P:List Addr) (F:Addr->Prop):Prop where
 bh:aw B H
 h0:aw H0 H
 b0:aw B0 B
 nb:∀ a,B a ≠ none->B0 a ≠ none ∨ H0 a=none
 rep:eL K B H τ σ P
 nd:P.Nodup
 own:∀ a ∈ P,B a=none/\H0 a=none/\¬ F a
 fr:∀ a,F a->B a=none/\H a ≠ none
structure gQ (H0 B H:Hp) (P:List Addr) (F:Addr->Prop) (fp:List Addr):Prop where
 nd:fp.Nodup
 own:∀ a ∈ fp,B a=none/\H0 a=none/\H a ≠ none/\a ∉ P/\¬ F a
theorem gQ.nil {H0 B H:Hp}{P:List Addr}{F:Addr->Prop}:gQ H0 B H P F []:=⟨List.nodup_nil,fun a m=>by cases m⟩
theorem gQ.sub {H0 B H:Hp}{P:List Addr}{F:Addr->Prop}{fp fq:List Addr} (h:gQ H0 B H P F fp) (s:List.Sublist fq fp):gQ H0 B H P F fq:=⟨h.nd.sublist s,fun a m=>h.own a (s.subset m)⟩
theorem eL.own {B H:Hp}:∀ {τ:SD}{σ:L2.St}{P:List Addr},eL K B H τ σ P->∀ a ∈ P,∃ o,H a=some o/\qO o
 | [],_,_,h=>by rw [h.2]; intro a m; cases m
 | none :: r,σ,P,h=>by obtain ⟨o,τ,e,h⟩:=h; exact eL.own h
 | some d :: r,σ,P,h=>by
  obtain ⟨v,τ,f,g,e,h1,h2,z⟩:=h
  subst z
  intro b hb
  rcases List.mem_append.mp hb with e | e
  ·exact Rep.own h1 b e
  ·exact eL.own h2 b e
theorem eL.mono {B B' H H':Hp} (sH:aw H H') (sB:aw B B'):∀ {τ:SD}{σ:L2.St}{P:List Addr},eL K B H τ σ P->eL K B' H' τ σ P
 | [],_,_,h=>h
 | none :: r,σ,P,h=>let ⟨o,τ,e,h⟩:=h; ⟨o,τ,e,eL.mono sH sB h⟩
 | some d :: r,σ,P,h=>let ⟨v,τ,f,g,e,h1,h2,z⟩:=h; ⟨v,τ,f,g,e,Rep.mono sH sB (fun _ x=>x) h1,eL.mono sH sB h2,z⟩
theorem eL.get {B H:Hp}:∀ {τ:SD}{σ:L2.St}{P:List Addr}{i:Nat}{d:D},eL K B H τ σ P->τ[i]?=some (some d)->∃ v f,σ[i]?=some (some v)/\Rep K B No H d v f/\List.Sublist f P
 | [],_,_,i,_,_,e=>by simp at e
 | none :: r,σ,P,0,d,h,e=>by simp at e
 | none :: r,σ,P,i + 1,d,h,e=>by
  obtain ⟨o,τ,e1,h⟩:=h
  subst e1
  obtain ⟨v,f,a1,a2,a3⟩:=eL.get (i:=i) h (by simpa using e)
  exact ⟨v,f,by simpa using a1,a2,a3⟩
 | some d :: r,σ,P,0,d',h,e=>by
  obtain ⟨v,τ,f,g,e1,h1,h2,z⟩:=h
  have e:d=d' := by simpa using e
  subst e e1 z
  exact ⟨v,f,rfl,h1,List.sublist_append_left _ _⟩
 | some d :: r,σ,P,i + 1,d',h,e=>by
  obtain ⟨v,τ,f,g,e1,h1,h2,z⟩:=h
  subst e1 z
  obtain ⟨w,f',a1,a2,a3⟩:=eL.get (i:=i) h2 (by simpa using e)
  exact ⟨w,f',by simpa using a1,a2,a3.trans (List.sublist_append_right _ _)⟩
variable {H0 B0 B H:Hp}{σ:L2.St}{τ:SD}{P:List Addr}{F:Addr->Prop}
theorem SI.stands (I:SI K H0 B0 B H σ τ P F) {a:Addr} (h:a ∈ P):H a ≠ none:=by
 obtain ⟨o,e,_⟩:=I.rep.own a h
 rw [e]; exact fun z=>by cases z
theorem SI.uK {F':Addr->Prop} (I:SI K H0 B0 B H σ τ P F) (h:∀ a,F' a->F a):SI K H0 B0 B H σ τ P F' :=
 ⟨I.bh,I.h0,I.b0,I.nb,I.rep,I.nd,fun a m=>let ⟨x,y,z⟩:=I.own a m; ⟨x,y,fun q=>z (h a q)⟩,fun a m=>I.fr a (h a m)⟩
theorem SI.hold {fp:List Addr} (I:SI K H0 B0 B H σ τ P F) (v:gQ H0 B H P F fp):SI K H0 B0 B H σ τ P (fun a=>a ∈ fp ∨ F a) :=
 ⟨I.bh,I.h0,I.b0,I.nb,I.rep,I.nd,fun a m=>let ⟨x,y,z⟩:=I.own a m; ⟨x,y,fun q=>q.elim (fun r=>(v.own a r).2.2.2.1 m) z⟩,fun a m=>m.elim (fun r=>⟨(v.own a r).1,(v.own a r).2.2.1⟩) (I.fr a)⟩
theorem SI.grow {H':Hp} (I:SI K H0 B0 B H σ τ P F) (s:aw H H'):SI K H0 B0 B H' σ τ P F :=
 ⟨I.bh.trans s,I.h0.trans s,I.b0,I.nb,I.rep.mono s (fun _ _ x=>x),I.nd,I.own,fun a m=>⟨(I.fr a m).1,fun z=>(I.fr a m).2 (s.free z)⟩⟩
theorem gQ.grow {H' B':Hp}{fp:List Addr} (v:gQ H0 B H P F fp) (s:aw H H') (hb:∀ a ∈ fp,B' a=none):gQ H0 B' H' P F fp :=
 ⟨v.nd,fun a m=>let ⟨x,y,z,p,q⟩:=v.own a m; ⟨hb a m,y,fun n=>z (s.free n),p,q⟩⟩
theorem SI.Ax (I:SI K H0 B0 B H σ τ P F) {p:Addr} (h:H p=none):B p=none/\H0 p=none/\p ∉ P/\¬ F p :=
 ⟨I.bh.free h,I.h0.free h,fun m=>I.stands m h,fun m=>(I.fr p m).2 h⟩
end
theorem ex8 {α β γ δ ε ζ:Sort _}{p q:α->β->γ->δ->ε->ζ->Prop}{C:Prop} (h:∃ a b c d e f,p a b c d e f/\q a b c d e f) (k:∀ a b c d e f,p a b c d e f->q a b c d e f->C):C:=h.elim fun a h=>h.elim fun b h=>h.elim fun c h=>h.elim fun d h=>h.elim fun e h=>h.elim fun f h=>k a b c d e f h.1 h.2
theorem ex7 {α β γ δ ε:Sort _}{p q:α->β->γ->δ->ε->Prop}{C:Prop} (h:∃ a b c d e,p a b c d e/\q a b c d e) (k:∀ a b c d e,p a b c d e->q a b c d e->C):C:=h.elim fun a h=>h.elim fun b h=>h.elim fun c h=>h.elim fun d h=>h.elim fun e h=>k a b c d e h.1 h.2
theorem ex12 {α β γ δ ε ζ η θ:Sort _}{p q r s:α->β->γ->δ->ε->ζ->η->θ->Prop}{C:Prop} (h:∃ a b c d e f g i,p a b c d e f g i/\q a b c d e f g i/\r a b c d e f g i/\s a b c d e f g i) (k:∀ a b c d e f g i,p a b c d e f g i->q a b c d e f g i->r a b c d e f g i->s a b c d e f g i->C):C:=h.elim fun a h=>h.elim fun b h=>h.elim fun c h=>h.elim fun d h=>h.elim fun e h=>h.elim fun f h=>h.elim fun g h=>h.elim fun i h=>k a b c d e f g i h.1 h.2.1 h.2.2.1 h.2.2.2
abbrev XY:=Addr->L2.St->Hp->Prop
section
variable (K:PySem.W.Frag) (Y:XY) (H0 B0 B H:Hp) (σ:L2.St) (τ:SD) (P:List Addr) (F:Addr->Prop)
def Out (Q:VK) (d:D):Prop := ∀ v H' B' fp,SI K H0 B0 B' H' σ τ P F->aw H H'->aw B B'->Rep K B' (· ∈ P) H' d v fp->gQ H0 B' H' P F fp->Q v H'
def lW (C:Addr):Prop := ∀ H' B',SI K H0 B0 B' H' σ τ P F->aw H H'->aw B B'->Y C σ H'
def Jo (Q:List V->Hp->Prop) (ds:List D):Prop := ∀ vs H' B' fp,SI K H0 B0 B' H' σ τ P F->aw H H'->aw B B'->aB K B' (· ∈ P) H' ds vs fp->gQ H0 B' H' P F fp->Q vs H'
def Jm (Q:Bool->Hp->Prop) (b:Bool):Prop := ∀ H' B',SI K H0 B0 B' H' σ τ P F->aw H H'->aw B B'->Q b H'
def Goal (Q:VK):Res D->Prop
 | .ok d=>Out K H0 B0 B H σ τ P F Q d
 | .d9 C=>lW K Y H0 B0 B H σ τ P F C
 | .bad=>False
def HA (Q:List V->Hp->Prop):Res (List D)->Prop
 | .ok d=>Jo K H0 B0 B H σ τ P F Q d
 | .d9 C=>lW K Y H0 B0 B H σ τ P F C
 | .bad=>False
def oQ (Q:Bool->Hp->Prop):Res Bool->Prop
 | .ok d=>Jm K H0 B0 B H σ τ P F Q d
 | .d9 C=>lW K Y H0 B0 B H σ τ P F C
 | .bad=>False
end
def tM (K:PySem.W.Frag) (Y:XY) (f:SD->Res D):TE:=fun σ H Q=>∃ H0 B0 B τ P F,SI K H0 B0 B H σ τ P F/\Goal K Y H0 B0 B H σ τ P F Q (f τ)
def pU (K:PySem.W.Frag) (Y:XY) (f:SD->Res (List D)):TA:=fun σ H Q=>∃ H0 B0 B τ P F,SI K H0 B0 B H σ τ P F/\HA K Y H0 B0 B H σ τ P F Q (f τ)
def l4 (K:PySem.W.Frag) (Y:XY) (f:SD->Res Bool):TT:=fun σ H Q=>∃ H0 B0 B τ P F,SI K H0 B0 B H σ τ P F/\oQ K Y H0 B0 B H σ τ P F Q (f τ)
section
variable {K:PySem.W.Frag}{Y:XY}{H0 B0 B H:Hp}{σ:L2.St}{τ:SD}{P:List Addr}{F:Addr->Prop}
theorem lW.later {H1 B1:Hp}{F':Addr->Prop}{C:Addr} (h:lW K Y H0 B0 B H σ τ P F C) (sH:aw H H1) (sB:aw B B1) (hF:∀ a,F a->F' a):lW K Y H0 B0 B1 H1 σ τ P F' C :=
 fun H' B' I s b=>h H' B' (I.uK hF) (sH.trans s) (sB.trans b)
theorem Out.later {H1 B1:Hp}{Q:VK}{d:D} (h:Out K H0 B0 B H σ τ P F Q d) (sH:aw H H1) (sB:aw B B1):Out K H0 B0 B1 H1 σ τ P F Q d :=
 fun v H' B' fp I s b r k=>h v H' B' fp I (sH.trans s) (sB.trans b) r k
theorem Goal.later {H1 B1:Hp}{Q:VK}{r:Res D} (h:Goal K Y H0 B0 B H σ τ P F Q r) (sH:aw H H1) (sB:aw B B1):Goal K Y H0 B0 B1 H1 σ τ P F Q r:=by
 cases r with
 | ok d=>exact Out.later h sH sB
 | d9 C=>exact lW.later h sH sB fun _ x=>x
 | bad=>exact h
theorem Out.here {Q:VK}{d:D}{v:V} (h:Out K H0 B0 B H σ τ P F Q d) (I:SI K H0 B0 B H σ τ P F) (r:Rep K B (· ∈ P) H d v []):Q v H:=h v H B [] I (aw.refl _) (aw.refl _) r gQ.nil
theorem Out.pV {Q:VK}{d:D}{v:V}{fp:List Addr} (h:Out K H0 B0 B H σ τ P F Q d) (I:SI K H0 B0 B H σ τ P F) (r:Rep K B (· ∈ P) H d v fp) (k:gQ H0 B H P F fp):Q v H:=h v H B fp I (aw.refl _) (aw.refl _) r k
theorem ib {p:Addr}{o:HO} (h:H p=none):aw H (upd H p o):=fun b u e=>by
 rw [aZ (cy e h)]; exact e
theorem Out.uM {Q:VK}{ds:List D}{vs:List V}{fp:List Addr}{p:Addr} (h:Out K H0 B0 B H σ τ P F Q (.lst .own ds)) (I:SI K H0 B0 B H σ τ P F) (r:aB K B (· ∈ P) H ds vs fp) (k:gQ H0 B H P F fp) (hp:H p=none):Q (.ref p) (upd H p (.lst vs)):=by
 have s:=ib (o := .lst vs) hp
 obtain ⟨n1,n2,n3,n4⟩:=I.Ax hp
 refine h (.ref p) _ B (p :: fp) (I.grow s) s (aw.refl _) ⟨p,vs,fp,rfl,bX,r.mono s (aw.refl _) (fun _ x=>x),rfl⟩ ⟨List.nodup_cons.mpr ⟨fun m=>(k.own p m).2.2.1 hp,k.nd⟩,fun a m=>?_⟩
 rcases List.mem_cons.mp m with e | e
 ·subst e
  exact ⟨n1,n2,(by rw [bX]; exact Option.some_ne_none _),n3,n4⟩
 ·obtain ⟨a1,a2,a3,a4,a5⟩:=k.own a e
  exact ⟨a1,a2,fun z=>a3 (s.free z),a4,a5⟩
theorem Out.fU {Q:VK}{ds:List D}{vs:List V}{fp:List Addr}{p:Addr} (h:Out K H0 B0 B H σ τ P F Q (.tup ds)) (I:SI K H0 B0 B H σ τ P F) (r:aB K B (· ∈ P) H ds vs fp) (k:gQ H0 B H P F fp) (hp:H p=none):Q (.ref p) (upd H p (.tup vs)):=by
 have s:=ib (o := .tup vs) hp
 exact h (.ref p) _ B fp (I.grow s) s (aw.refl _) ⟨p,vs,rfl,bX,r.mono s (aw.refl _) (fun _ x=>x)⟩ (k.grow s fun a m=>(k.own a m).1)
theorem gQ.both {H1 B1:Hp}{f g:List Addr} (k:gQ H0 B H P F f) (sH:aw H H1) (I1:SI K H0 B0 B1 H1 σ τ P (fun a=>a ∈ f ∨ F a)) (k':gQ H0 B1 H1 P (fun a=>a ∈ f ∨ F a) g):gQ H0 B1 H1 P F (f ++ g):=by
 refine ⟨List.nodup_append.mpr ⟨k.nd,k'.nd,fun a ha b hb e=>?_⟩,fun a m=>?_⟩
 ·subst e
  exact (k'.own a hb).2.2.2.2 (.inl ha)
 ·rcases List.mem_append.mp m with e | e
  ·obtain ⟨a1,a2,a3,a4,a5⟩:=k.own a e
   exact ⟨(I1.fr a (.inl e)).1,a2,(I1.fr a (.inl e)).2,a4,a5⟩
  ·obtain ⟨a1,a2,a3,a4,a5⟩:=k'.own a e
   exact ⟨a1,a2,a3,a4,fun z=>a5 (.inr z)⟩
theorem gQ.left {f g:List Addr} (k:gQ H0 B H P F (f ++ g)):gQ H0 B H P F f:=k.sub (List.sublist_append_left _ _)
theorem gQ.right {f g:List Addr} (k:gQ H0 B H P F (f ++ g)):gQ H0 B H P F g:=k.sub (List.sublist_append_right _ _)
theorem PE.imp {X:Cx}{e:Expr}{t t':TE} (h:PE X e t) (hi:∀ σ H Q,t' σ H Q->t σ H Q):PE X e t' := fun pins s σ H Q I hw=>h pins s σ H Q I (hi σ H Q hw)
theorem PT.imp {X:Cx}{e:Expr}{t t':TT} (h:PT X e t) (hi:∀ σ H Q,t' σ H Q->t σ H Q):PT X e t' := fun pins s σ H Q I hw=>h pins s σ H Q I (hi σ H Q hw)
theorem PA.imp {X:Cx}{es:List Expr}{t t':TA} (h:PA X es t) (hi:∀ σ H Q,t' σ H Q->t σ H Q):PA X es t' := fun pos pins s σ H Q I hw=>h pos pins s σ H Q I (hi σ H Q hw)
theorem PS.imp {X:Cx}{st:Stmt}{t t':TS} (h:PS X st t) (hi:∀ E σ H,t' E σ H->t E σ H):PS X st t' := fun pins s σ H E I hw=>h pins s σ H E I (hi E σ H hw)
theorem lY.imp {X:Cx}{st:List Stmt}{t t':TS} (h:lY X st t) (hi:∀ E σ H,t' E σ H->t E σ H):lY X st t' := fun pins s σ H E I hw=>h pins s σ H E I (hi E σ H hw)
theorem tM.seq {f:SD->Res D}{Q':V->Hp->Prop}{g:D->Res D}{Q:VK} (I:SI K H0 B0 B H σ τ P F) (h:Goal K Y H0 B0 B H σ τ P F Q ((f τ).bind g))
  (k:∀ d v H1 B1 fp,f τ=.ok d->SI K H0 B0 B1 H1 σ τ P F->aw H H1->aw B B1->Rep K B1 (· ∈ P) H1 d v fp->gQ H0 B1 H1 P F fp->Goal K Y H0 B0 B1 H1 σ τ P F Q (g d)->Q' v H1):tM K Y f σ H Q' := by
 refine ⟨H0,B0,B,τ,P,F,I,?_⟩
 cases e:f τ with
 | ok d =>
  rw [e] at h
  intro v H1 B1 fp I1 s1 b1 r1 k1
  exact k d v H1 B1 fp e I1 s1 b1 r1 k1 (Goal.later h s1 b1)
 | d9 C=>rw [e] at h; exact h
 | bad=>rw [e] at h; exact h
theorem tM.qR {f1 f2:SD->Res D}{Q':V->V->Hp->Prop}{g:D->D->Res D}{Q:VK} (I:SI K H0 B0 B H σ τ P F) (h:Goal K Y H0 B0 B H σ τ P F Q ((f1 τ).bind fun x=>(f2 τ).bind (g x)))
  (k:∀ d1 d2 v1 v2 H2 B2 fp1 fp2,f1 τ=.ok d1->f2 τ=.ok d2->SI K H0 B0 B2 H2 σ τ P F->aw H H2->aw B B2->Rep K B2 (· ∈ P) H2 d1 v1 fp1->Rep K B2 (· ∈ P) H2 d2 v2 fp2->gQ H0 B2 H2 P F (fp1 ++ fp2)->Goal K Y H0 B0 B2 H2 σ τ P F Q (g d1 d2)->Q' v1 v2 H2) :
  tM K Y f1 σ H fun x H1=>tM K Y f2 σ H1 fun y H2=>Q' x y H2:=by
 refine tM.seq (g:=fun x=>(f2 τ).bind (g x)) I h fun d1 v1 H1 B1 fp1 e1 I1 s1 b1 r1 k1 h1=>?_
 refine ⟨H0,B0,B1,τ,P,_,I1.hold k1,?_⟩
 cases e:f2 τ with
 | ok d2 =>
  rw [e] at h1
  intro v2 H2 B2 fp2 I2 s2 b2 r2 k2
  exact k d1 d2 v1 v2 H2 B2 fp1 fp2 e1 e (I2.uK fun a x=>.inr x) (s1.trans s2) (b1.trans b2) (r1.mono s2 b2 fun _ x=>x) r2 (k1.both s2 I2 k2) (Goal.later h1 s2 b2)
 | d9 C =>
  rw [e] at h1
  exact lW.later h1 (aw.refl _) (aw.refl _) fun a x=>.inr x
 | bad=>rw [e] at h1; exact h1
def ae (i:Nat) (τ:SD):Res D:=match τ[i]? with
 | some (some d)=>.ok d.view
 | _=>.bad
def eC (d:D) (_:SD):Res D := .ok d
theorem qv {X:Cx} (i:Nat) {x:Str}{pos:Pos} (hN:X.N[i]?=some x:=by rfl) (hv:Eg X.env.scope x:=by first | exact Or.inl rfl | exact Or.inr (Or.inl rfl) | exact Or.inr (Or.inr rfl)) (hd:(x == ("__debug__" : Str))=false:=by decide)
  (hcd:(x == ("__classdict__" : Str))=false:=by decide):PE X (.Name x pos) (tM X.K Y (ae i)):=by
 refine PE.imp (pJ hN hv hd hcd) ?_
 rintro σ H Q ⟨H0,B0,B,τ,P,F,I,h⟩
 unfold ae at h
 cases e:τ[i]? with
 | none=>rw [e] at h; exact h.elim
 | some o =>
  cases o with
  | none=>rw [e] at h; exact h.elim
  | some d =>
   rw [e] at h
   obtain ⟨v,f,h1,h2,h3⟩:=I.rep.get e
   exact ⟨v,h1,Out.here h I (h2.view fun a m=>h3.subset m)⟩
theorem qc {X:Cx}{e:Expr}{d:D}{v:V} (h:PE X e (tC v)) (hr:∀ K B S H,Rep K B S H d v []):PE X e (tM X.K Y (eC d)):=PE.imp h fun σ H Q hq=>ex8 hq fun H0 B0 B τ P F I h=>Out.here h I (hr _ _ _ _)
theorem ai {X:Cx}{i:Int}{j pos}:PE X (.Constant (.int i) j pos) (tM X.K Y (eC (.int i))):=qc E6 fun _ _ _ _=>⟨rfl,rfl⟩
theorem we {X:Cx}{b:Bool}{j pos}:PE X (.Constant (.bool b) j pos) (tM X.K Y (eC (.bl b))):=qc Hg fun _ _ _ _=>⟨rfl,rfl⟩
theorem Es {X:Cx}{j pos}:PE X (.Constant .none j pos) (tM X.K Y (eC .cY)):=qc Fg fun _ _ _ _=>⟨rfl,rfl⟩
theorem cW {X:Cx}{x:Str}{j pos}:PE X (.Constant (.str x) j pos) (tM X.K Y (eC (.str x))):=qc E8 fun _ _ _ _=>⟨rfl,rfl⟩
theorem FI {X:Cx}{x:Str}{i:Int}{pos:Pos} (hg:Gl X x) (hm:∃ t,X.mg x=some (.int i t)) (hd:(x == ("__debug__" : Str))=false:=by decide):PE X (.Name x pos) (tM X.K Y (eC (.int i))) :=
 qc (sI (v := .int i) hg hm.choose_spec ⟨_,rfl⟩ hd) fun _ _ _ _=>⟨rfl,rfl⟩
def qQ (K:PySem.W.Frag) (Y:XY) (r:R2) (g:D->D->Res D):Prop := ∀ {H0 B0 B H:Hp}{σ:L2.St}{τ:SD}{P:List Addr}{F:Addr->Prop}{d1 d2:D}{x y:V}{f1 f2:List Addr}{Q:VK},
 SI K H0 B0 B H σ τ P F->Rep K B (· ∈ P) H d1 x f1->Rep K B (· ∈ P) H d2 y f2->gQ H0 B H P F (f1 ++ f2)->Goal K Y H0 B0 B H σ τ P F Q (g d1 d2)->r x y H Q
def ah (g:D->D->Res D) (a b:SD->Res D) (τ:SD):Res D:=(a τ).bind fun x=>(b τ).bind (g x)
theorem lu.or {X:Cx}{f:Value->Value->Sem Value}{r r':R2} (h:lu X f r) (h':lu X f r'):lu X f (fun x y H Q=>r x y H Q ∨ r' x y H Q):=by
 intro pins s σ H x y v u Q I rx ry q
 rcases q with q | q
 ·exact h pins s σ H x y v u Q I rx ry q
 ·exact h' pins s σ H x y v u Q I rx ry q
variable {X:Cx}{a b c:Expr}{fa fb fc:SD->Res D}{pos:Pos}
theorem aK {op:Operator}{r:R2}{g:D->D->Res D} (ho:lu X (binaryOp op) r) (hg:qQ X.K Y r g) (ha:PE X a (tM X.K Y fa)) (hb:PE X b (tM X.K Y fb)):PE X (.BinOp a op b pos) (tM X.K Y (ah g fa fb)) :=
 PE.imp (G5 ho ha hb) fun σ H Q hq=>ex8 hq fun H0 B0 B τ P F I h=>tM.qR I h fun d1 d2 v1 v2 H2 B2 f1 f2 _ _ I2 _ _ r1 r2 k h2=>hg I2 r1 r2 k h2
theorem xU {op:CmpOp}{r:R2}{g:D->D->Res D} (ho:lu X (compareOp op) r) (hg:qQ X.K Y r g) (ha:PE X a (tM X.K Y fa)) (hb:PE X b (tM X.K Y fb)) (hm:behindInMarks op b=false):PE X (.Compare a [op] [b] pos) (tM X.K Y (ah g fa fb)) :=
 PE.imp (CN ho ha hb hm) fun σ H Q hq=>ex8 hq fun H0 B0 B τ P F I h=>tM.qR I h fun d1 d2 v1 v2 H2 B2 f1 f2 _ _ I2 _ _ r1 r2 k h2=>hg I2 r1 r2 k h2
theorem aS {r:R2}{g:D->D->Res D} (ho:CA X r) (hg:qQ X.K Y r g) (ha:PE X a (tM X.K Y fa)) (hb:PE X b (tM X.K Y fb)) (hs:xK b):PE X (.Subscript a b pos) (tM X.K Y (ah g fa fb)) :=
 PE.imp (Hk ho ha hb hs) fun σ H Q hq=>ex8 hq fun H0 B0 B τ P F I h=>tM.qR I h fun d1 d2 v1 v2 H2 B2 f1 f2 _ _ I2 _ _ r1 r2 k h2=>hg I2 r1 r2 k h2
def qP:D->Res Bool | .bl b=>.ok b | _=>.bad
theorem uN {Q:Bool->Hp->Prop}{r:Res D} (h:oQ K Y H0 B0 B H σ τ P F Q (r.bind qP)):Goal K Y H0 B0 B H σ τ P F (fun x H1=>∃ c,x=.bl c/\Q c H1) r:=by
 cases r with
 | ok d =>
  intro v H' B' fp I s b r k
  cases d with
  | bl c=>obtain ⟨rfl,rfl⟩:=r; exact ⟨c,rfl,h H' B' I s b⟩
  | _=>exact h.elim
 | d9 C=>exact h
 | bad=>exact h
def eT (f:SD->Res D) (τ:SD):Res Bool:=(f τ).bind qP
theorem gj (ha:PE X a (tM X.K Y fa)) (he:∀ whole,isTrue a X.env whole=(do let v <- whole; standAt a.pos; holding [v] (truthy v)):=by intro _; rfl):PT X a (l4 X.K Y (eT fa)) :=
 PT.imp (EL ha he) fun σ H Q hq=>ex8 hq fun H0 B0 B τ P F I h=>⟨H0,B0,B,τ,P,F,I,uN h⟩
theorem aY {op:CmpOp}{r:R2}{g:D->D->Res D} (ho:lu X (compareOp op) r) (hg:qQ X.K Y r g) (ha:PE X a (tM X.K Y fa)) (hb:PE X b (tM X.K Y fb)) (hm:behindInMarks op b=false):PT X (.Compare a [op] [b] pos) (l4 X.K Y (eT (ah g fa fb))) :=
 PT.imp (CL ho ha hb hm) fun σ H Q hq=>ex8 hq fun H0 B0 B τ P F I h=>tM.qR I (uN h) fun d1 d2 v1 v2 H2 B2 f1 f2 _ _ I2 _ _ r1 r2 k h2=>hg I2 r1 r2 k h2
end
section
variable {K:PySem.W.Frag}{Y:XY}{H0 B0 B H:Hp}{σ:L2.St}{τ:SD}{P:List Addr}{F:Addr->Prop}
theorem Rep.lst (I:SI K H0 B0 B H σ τ P F) {t:Tg}{xs:List D}{v:V}{f:List Addr} (r:Rep K B (· ∈ P) H (.lst t xs) v f):∃ a vs g,v=.ref a/\gI K H a vs/\aB K B (· ∈ P) H xs vs g/\List.Sublist g f:=by
 cases t with
 | own =>
  obtain ⟨a,vs,g,e,q,r,z⟩:=r
  subst z
  exact ⟨a,vs,g,e,gI.of q,r,List.sublist_cons_self _ _⟩
 | bor =>
  obtain ⟨a,vs,e,q,r,z⟩:=r
  subst z
  exact ⟨a,vs,[],e,q.elim (fun y=>y.2) fun y=>eN I.bh y,r,List.Sublist.refl _⟩
 | aG =>
  obtain ⟨a,vs,e,q,r,z⟩:=r
  subst z
  exact ⟨a,vs,[],e,eN I.bh q,r.mono (aw.refl _) (aw.refl _) (fun _ x=>x.elim),List.Sublist.refl _⟩
theorem Rep.tp {xs:List D}{v:V}{f:List Addr} (r:Rep K B (· ∈ P) H (.tup xs) v f):∃ a vs,v=.ref a/\jR K H a vs/\aB K B (· ∈ P) H xs vs f:=let ⟨a,vs,e,q,r⟩:=r; ⟨a,vs,e,jR.of q,r⟩
theorem gk {a:Addr}{vs:List V} (h:gI K H a vs):gI K H a vs:=h
variable {X:Cx}
def Eu (K:PySem.W.Frag):R2:=fun x y H Q=>∃ l b xs zs,x=.ref l/\y=.ref b/\gI K H l xs/\gI K H b zs/\xs.length + zs.length <= sizeLine/\∀ p,H p=none->Q (.ref p) (upd H p (.lst (xs ++ zs)))
theorem Dk:lu X (binaryOp .Add) (Eu X.K):=by
 intro pins s σ H x y v u Q I rx ry h
 obtain ⟨l,b,xs,zs,rfl,rfl,hH,hB,hz,q⟩:=h
 cases rx
 cases ry
 obtain ⟨its,r,pl,z⟩:=I.list hH
 obtain ⟨its2,r2,pl2,z2⟩:=I.list hB
 obtain ⟨⟨cls,dd,data,sl⟩,ho,hc,n,hd⟩:=id pl.isList
 obtain ⟨⟨cls2,dd2,data2,sl2⟩,ho2,hc2,n2,hd2⟩:=id pl2.isList
 simp only at hc hd hc2 hd2
 subst hc hd hc2 hd2
 have e:its.toArray ++ its2.toArray=(its ++ its2).toArray:=by simp
 have l1:=r.length
 have l2:=r2.length
 refine concat_meets ⟨_,ho,rfl⟩ ⟨_,ho2,rfl⟩ noFill_list_add seq_list_add PySem.F.slot_list_add PySem.F.entry_list_add (PySem.F.args_list_add_2 _ _) (list_addW l b its.toArray its2.toArray n n2 dd dd2 sl sl2 (by rw [List.size_toArray,List.size_toArray]; omega)) ⟨ho,ho2,?_⟩
 rw [e]
 exact ⟨.ref _,_,I.Hn (t' := s.toks) (r.append r2) (by rw [List.length_append]; omega),rfl,q _ I.fresh⟩
def bP:D->D->Res D
 | .int i,.int j=>.ok (.int (i + j))
 | .str i,.str j=>if i.length + j.length <= 16777216 then .ok (.str (i ++ j)) else .bad
 | .lst _ xs,.lst _ ys=>if xs.length + ys.length <= 16777216 then .ok (.lst .own (xs ++ ys)) else .bad
 | .tup xs,.tup ys=>if xs ≠ []/\ys ≠ []/\xs.length + ys.length <= 16777216 then .ok (.tup (xs ++ ys)) else .bad
 | _,_=>.bad
theorem Et {n:Nat} (h:n <= 16777216):n <= sizeLine:=by rw [sizeLine_eq]; exact h
theorem aB.jd {S:Addr->Prop}{xs:List D}{vs:List V}{f:List Addr} (r:aB K B S H xs vs f):vs=[] ↔ xs=[]:=by
 have:=r.length
 cases xs <;> cases vs <;> simp_all
abbrev G6 (K:PySem.W.Frag):R2:=fun x y H Q=>yG (fun i j=>.int (i + j)) x y H Q ∨ ((∃ i j,x=.str i/\y=.str j/\i.length + j.length <= sizeLine/\Q (.str (i ++ j)) H) ∨ (Eu K x y H Q ∨ Ag K x y H Q))
theorem aV:lu X (binaryOp .Add) (G6 X.K):=lu.or Fc (lu.or vW (lu.or Dk sU))
theorem cz:qQ K Y (G6 K) bP:=by
 intro H0 B0 B H σ τ P F d1 d2 x y f1 f2 Q I r1 r2 k h
 unfold bP at h
 split at h
 ·obtain ⟨rfl,rfl⟩:=r1
  obtain ⟨rfl,rfl⟩:=r2
  exact .inl ⟨_,_,rfl,rfl,Out.here h I ⟨rfl,rfl⟩⟩
 ·obtain ⟨rfl,rfl⟩:=r1
  obtain ⟨rfl,rfl⟩:=r2
  split at h
  ·rename_i hl
   exact .inr (.inl ⟨_,_,rfl,rfl,Et hl,Out.here h I ⟨rfl,rfl⟩⟩)
  ·exact h.elim
 ·obtain ⟨a,vs,g1,rfl,q1,l1,s1⟩:=r1.lst I
  obtain ⟨b,ws,g2,rfl,q2,l2,s2⟩:=r2.lst I
  split at h
  ·rename_i hl
   refine .inr (.inr (.inl ⟨_,_,_,_,rfl,rfl,q1,q2,by rw [<- l1.length,<- l2.length]; exact Et hl,fun p hp=>?_⟩))
   exact Out.uM h I (l1.append l2) (k.sub (s1.append s2)) hp
  ·exact h.elim
 ·obtain ⟨a,vs,rfl,q1,l1⟩:=r1.tp
  obtain ⟨b,ws,rfl,q2,l2⟩:=r2.tp
  split at h
  ·rename_i hl
   obtain ⟨n1,n2,hl⟩:=hl
   refine .inr (.inr (.inr ⟨_,_,_,_,rfl,rfl,q1,q2,fun z=>n1 (l1.jd.mp z),by rw [<- l1.length,<- l2.length]; exact Et hl,fun z=>absurd (l2.jd.mp z) n2,fun _ p hp=>?_⟩))
   exact Out.fU h I (l1.append l2) k hp
  ·exact h.elim
 ·exact h.elim
def pe (C:Int->Int->Prop) [∀ i j,Decidable (C i j)] (g:Int->Int->D):D->D->Res D
 | .int i,.int j=>if C i j then .ok (g i j) else .bad
 | _,_=>.bad
def qG (g:Int->Int->D):D->D->Res D
 | .int i,.int j=>.ok (g i j)
 | _,_=>.bad
theorem Dj {C:Int->Int->Prop} [∀ i j,Decidable (C i j)] {g:Int->Int->D}{gv:Int->Int->V} (hg:∀ i j K B S H,Rep K B S H (g i j) (gv i j) []):qQ K Y (rI C gv) (pe C g):=by
 intro H0 B0 B H σ τ P F d1 d2 x y f1 f2 Q I r1 r2 k h
 unfold pe at h
 split at h
 ·obtain ⟨rfl,rfl⟩:=r1
  obtain ⟨rfl,rfl⟩:=r2
  split at h
  ·rename_i hc
   exact ⟨_,_,rfl,rfl,hc,Out.here h I (hg ..)⟩
  ·exact h.elim
 ·exact h.elim
theorem xV {g:Int->Int->D}{gv:Int->Int->V} (hg:∀ i j K B S H,Rep K B S H (g i j) (gv i j) []):qQ K Y (yG gv) (qG g):=by
 intro H0 B0 B H σ τ P F d1 d2 x y f1 f2 Q I r1 r2 k h
 unfold qG at h
 split at h
 ·obtain ⟨rfl,rfl⟩:=r1
  obtain ⟨rfl,rfl⟩:=r2
  exact ⟨_,_,rfl,rfl,Out.here h I (hg ..)⟩
 ·exact h.elim
instance (i j:Int):Decidable (jb i j):=inferInstanceAs (Decidable (_/\_))
instance (i j:Int):Decidable (jy i j):=inferInstanceAs (Decidable (_/\_/\_))
instance (i j:Int):Decidable (zX i j):=inferInstanceAs (Decidable ((_/\_) ∨ (_/\_)))
def kF (i j:Int):Prop:=zX i j ∨ (i.natAbs < 2 ^ 1024/\j.natAbs < 2 ^ 1024)
instance (i j:Int):Decidable (kF i j):=inferInstanceAs (Decidable (_ ∨ (_/\_)))
theorem rJ {i:Int} (h:i.natAbs < 2 ^ 1024):Builtin.Int.intBits i <= 2 ^ 20:=by
 unfold Builtin.Int.intBits
 split
 ·exact Nat.zero_le _
 ·by_cases e:i.natAbs=0
  ·rw [e]; decide
  ·have:=(Nat.log2_lt e).mpr h
   omega
theorem iD:lu X (binaryOp .Mult) (rI kF fun i j=>.int (i * j)):=Io fun _ _ _ _ _ _ _ hc q=>mul_int q (hc.elim zX.ok fun z=>IntMulOk.of_bits (rJ z.1) (rJ z.2))
abbrev HD (g:Int->Int->Int):∀ i j K B S H,Rep K B S H (.int (g i j)) (.int (g i j)) []:=fun _ _ _ _ _ _=>⟨rfl,rfl⟩
abbrev Jq (g:Int->Int->Bool):∀ i j K B S H,Rep K B S H (.bl (g i j)) (.bl (g i j)) []:=fun _ _ _ _ _ _=>⟨rfl,rfl⟩
abbrev Di:=qG fun i j=>.int (i - j)
abbrev pW:=pe kF fun i j=>.int (i * j)
abbrev c8:=pe jb fun i j=>.int (i / j)
abbrev cM:=pe (fun _ j=>0 < j) fun i j=>.int (i % j)
abbrev nQ:=pe jy fun i j=>.int (i ^ j.toNat)
abbrev FJ:=qG fun i j=>.bl (decide (i < j))
abbrev HC:=qG fun i j=>.bl (decide (j < i))
abbrev Iv:=qG fun i j=>.bl (decide (j <= i))
theorem Ay:qQ K Y (yG fun i j=>.int (i - j)) Di:=xV (HD _)
theorem mL:qQ K Y (rI kF fun i j=>.int (i * j)) pW:=Dj (HD _)
theorem cT:qQ K Y (rI jb fun i j=>.int (i / j)) c8:=Dj (HD _)
theorem bY:qQ K Y (rI (fun _ j=>0 < j) fun i j=>.int (i % j)) cM:=Dj (HD _)
theorem pX:qQ K Y (rI jy fun i j=>.int (i ^ j.toNat)) nQ:=Dj (HD fun i j=>i ^ j.toNat)
theorem Az:qQ K Y (yG fun i j=>.bl (decide (i < j))) FJ:=xV (Jq fun i j=>decide (i < j))
theorem HB:qQ K Y (yG fun i j=>.bl (decide (j < i))) HC:=xV (Jq fun i j=>decide (j < i))
theorem Jp:qQ K Y (yG fun i j=>.bl (decide (j <= i))) Iv:=xV (Jq fun i j=>decide (j <= i))
end
section
variable {K:PySem.W.Frag}{Y:XY}{H0 B0 B H:Hp}{σ:L2.St}{τ:SD}{P:List Addr}{F:Addr->Prop}{X:Cx}{a b c:Expr}{fa fb fc:SD->Res D}{ga gb:SD->Res Bool}{pos:Pos}
theorem gQ.HG {H1 B1:Hp}{f:List Addr} (k:gQ H0 B H P F f) (sH:aw H H1) (I1:SI K H0 B0 B1 H1 σ τ P (fun a=>a ∈ f ∨ F a)):gQ H0 B1 H1 P F f:=⟨k.nd,fun a m=>let ⟨_,a2,_,a4,a5⟩:=k.own a m; ⟨(I1.fr a (.inl m)).1,a2,(I1.fr a (.inl m)).2,a4,a5⟩⟩
def D.flat:D->Bool | .cY=>true | .bl _=>true | .int _=>true | .str _=>true | _=>false
def du:D->D->Option Bool
 | .cY,.cY=>some true | .cY,.int _=>some false | .int _,.cY=>some false | .cY,.bl _=>some false | .bl _,.cY=>some false | .cY,.str _=>some false | .str _,.cY=>some false
 | .int i,.int j=>some (decide (i=j)) | .bl i,.bl j=>some (decide (i=j)) | .str i,.str j=>some (decide (i=j))
 | .int _,.str _=>some false | .str _,.int _=>some false | .bl _,.str _=>some false | .str _,.bl _=>some false
 | _,_=>none
theorem rL {S S':Addr->Prop}{d1 d2:D}{x y:V}{f1 f2:List Addr}{r:Bool} (e:du d1 d2=some r) (r1:Rep K B S H d1 x f1) (r2:Rep K B S' H d2 y f2):Ff x y=true/\decide (x=y)=r:=by
 cases d1 <;> cases d2 <;> first | (cases e; done) | (obtain ⟨rfl,rfl⟩:=r1; obtain ⟨rfl,rfl⟩:=r2; cases e; first | exact ⟨rfl,rfl⟩ | exact ⟨rfl,by simp⟩)
def sZ (neg:Bool):Option Bool->Res D | some b=>.ok (.bl (xor neg b)) | none=>.bad
def fG (d1 d2:D):Res D:=sZ false (du d1 d2)
def nS (d1 d2:D):Res D:=sZ true (du d1 d2)
theorem gn:qQ K Y JI fG:=by
 intro H0 B0 B H σ τ P F d1 d2 x y f1 f2 Q I r1 r2 k h
 unfold fG at h
 cases e:du d1 d2 with
 | none=>rw [e] at h; exact h.elim
 | some r =>
  rw [e] at h
  obtain ⟨s,z⟩:=rL e r1 r2
  refine ⟨s,?_⟩
  rw [z]
  exact Out.here h I ⟨by simp,rfl⟩
theorem wg:qQ K Y JG nS:=by
 intro H0 B0 B H σ τ P F d1 d2 x y f1 f2 Q I r1 r2 k h
 unfold nS at h
 cases e:du d1 d2 with
 | none=>rw [e] at h; exact h.elim
 | some r =>
  rw [e] at h
  obtain ⟨s,z⟩:=rL e r1 r2
  refine ⟨s,?_⟩
  rw [z]
  exact Out.here h I ⟨by simp,rfl⟩
def jA (neg:Bool):D->D->Res D
 | .cY,.cY=>.ok (.bl (!neg))
 | _,.cY=>.ok (.bl neg)
 | _,_=>.bad
def D.J3:D->Bool | .cY=>true | _=>false
theorem Dl {S:Addr->Prop}{d:D}{v:V}{f:List Addr} (r:Rep K B S H d v f):decide (v=.cY)=d.J3:=by
 cases d with
 | cY=>rw [r.1]; rfl
 | bl _=>rw [r.1]; rfl
 | int _=>rw [r.1]; rfl
 | str _=>rw [r.1]; rfl
 | exc _=>obtain ⟨⟨a,rfl,_⟩,_⟩:=r; rfl
 | tup _=>obtain ⟨a,_,rfl,_⟩:=r; rfl
 | lst t _=>cases t <;> (obtain ⟨a,_,r⟩:=r; first | (obtain ⟨_,rfl,_⟩:=r; rfl) | (obtain ⟨rfl,_⟩:=r; rfl))
 | dct t _ _ _=>cases t <;> (obtain ⟨a,_,r⟩:=r; first | (obtain ⟨_,rfl,_⟩:=r; rfl) | (obtain ⟨rfl,_⟩:=r; rfl))
theorem Ex:qQ K Y (fun x y H Q=>y=.cY/\Q (.bl (decide (x=.cY))) H) (jA false):=by
 intro H0 B0 B H σ τ P F d1 d2 x y f1 f2 Q I r1 r2 k h
 have e:=Dl r1
 unfold jA at h
 split at h
 ·rw [r2.1]; rw [e]; exact ⟨rfl,Out.here h I ⟨rfl,rfl⟩⟩
 ·rename_i hn
  rw [r2.1]; rw [e]
  refine ⟨rfl,Out.here h I ⟨?_,rfl⟩⟩
  cases d1 <;> first | rfl | exact (hn rfl).elim
 ·exact h.elim
def FL:D->D->Bool
 | .cY,.cY=>true
 | .bl a,.bl b=>a == b
 | .bl a,.int b=>(if a then 1 else 0) == b
 | .int a,.bl b=>a == (if b then 1 else 0)
 | .int a,.int b=>a == b
 | .str a,.str b=>a == b
 | _,_=>false
def xX (x:D) (xs:List D):Bool:=xs.any fun y=>FL y x
theorem pY {S:Addr->Prop}{d:D}{v:V}{f:List Addr} (h:d.flat=true) (r:Rep K B S H d v f):lZ v=true:=by
 cases d <;> first | exact absurd (show false=true from h) Bool.false_ne_true | (obtain ⟨rfl,_⟩:=r; rfl)
theorem FN {S:Addr->Prop}{d e:D}{v u:V}{f g:List Addr} (h:d.flat=true) (h':e.flat=true) (r:Rep K B S H d v f) (r':Rep K B S H e u g):CB v u=FL d e:=by
 cases d <;> cases e <;> first | exact absurd (show false=true from h) Bool.false_ne_true | exact absurd (show false=true from h') Bool.false_ne_true | (obtain ⟨rfl,_⟩:=r; obtain ⟨rfl,_⟩:=r'; rfl)
theorem pZ {S:Addr->Prop}{x:D}{u:V}{g:List Addr} (hx:x.flat=true) (rx:Rep K B S H x u g):∀ {xs:List D}{vs:List V}{f:List Addr},xs.all D.flat=true->aB K B S H xs vs f->vs.all lZ=true/\Ir u vs=xX x xs
 | [],vs,f,_,r=>by obtain ⟨rfl,_⟩:=r; exact ⟨rfl,rfl⟩
 | d :: ds,vs,f,h,r=>by
  obtain ⟨v,w,f1,f2,rfl,r1,r2,_⟩:=r
  rw [List.all_cons,Bool.and_eq_true] at h
  obtain ⟨i1,i2⟩:=pZ hx rx h.2 r2
  refine ⟨by rw [List.all_cons,pY h.1 r1,i1]; rfl,?_⟩
  show (CB v u || Ir u w)=(FL d x || xX x ds)
  rw [i2,FN h.1 hx r1 rx]
def inD (neg:Bool):D->D->Res D
 | x,.lst _ xs=>if x.flat=true/\xs.all D.flat=true then .ok (.bl (if neg then !xX x xs else xX x xs)) else .bad
 | x,.tup xs=>if x.flat=true/\xs.all D.flat=true then .ok (.bl (if neg then !xX x xs else xX x xs)) else .bad
 | _,_=>.bad
theorem yT (neg:Bool):qQ K Y (Jf K neg) (inD neg):=by
 intro H0 B0 B H σ τ P F d1 d2 x y f1 f2 Q I r1 r2 k h
 unfold inD at h
 split at h
 ·split at h
  ·rename_i hc
   obtain ⟨a,vs,g,rfl,q,l,s⟩:=r2.lst I
   obtain ⟨z1,z2⟩:=pZ hc.1 r1 hc.2 l
   refine ⟨a,vs,rfl,.inl (gk q),pY hc.1 r1,z1,?_⟩
   rw [z2]
   exact Out.here h I ⟨rfl,rfl⟩
  ·exact h.elim
 ·split at h
  ·rename_i hc
   obtain ⟨a,vs,rfl,q,l⟩:=r2.tp
   obtain ⟨z1,z2⟩:=pZ hc.1 r1 hc.2 l
   refine ⟨a,vs,rfl,.inr q,pY hc.1 r1,z1,?_⟩
   rw [z2]
   exact Out.here h I ⟨rfl,rfl⟩
  ·exact h.elim
 ·exact h.elim
def aP:D->D->Res D
 | .lst _ xs,.int i=>match qM xs i with | some d=>.ok d | none=>.bad
 | .tup xs,.int i=>match qM xs i with | some d=>.ok d | none=>.bad
 | .str z,.int i=>if z.length <= 16777216 then match qM z.cps.toList i with | some c=>.ok (.str ⟨#[c]⟩) | none=>.bad else .bad
 | _,_=>.bad
theorem aB.qM {S:Addr->Prop}{xs:List D}{vs:List V}{f:List Addr}{i:Int}{d:D} (r:aB K B S H xs vs f) (e:qM xs i=some d):∃ v g,L2.qM vs i=some v/\Rep K B S H d v g/\List.Sublist g f:=by
 unfold L2.qM at e ⊢
 rw [r.length] at e
 cases z:C2 vs.length i with
 | none=>rw [z] at e; cases e
 | some j =>
  rw [z] at e
  obtain ⟨v,g,h1,h2,h3⟩:=r.get (i:=j) e
  exact ⟨v,g,h1,h2,h3⟩
theorem aT:qQ K Y (JJ K) aP:=by
 intro H0 B0 B H σ τ P F d1 d2 x y f1 f2 Q I r1 r2 k h
 unfold aP at h
 split at h
 ·obtain ⟨rfl,rfl⟩:=r2
  obtain ⟨a,vs,g,rfl,q,l,s⟩:=r1.lst I
  split at h
  ·rename_i d e
   obtain ⟨v,g',e1,r',s'⟩:=l.qM e
   exact .inl ⟨a,vs,_,v,rfl,rfl,gk q,e1,Out.pV h I r' (k.left.sub (s'.trans s))⟩
  ·exact h.elim
 ·obtain ⟨rfl,rfl⟩:=r2
  obtain ⟨a,vs,rfl,q,l⟩:=r1.tp
  split at h
  ·rename_i d e
   obtain ⟨v,g',e1,r',s'⟩:=l.qM e
   exact .inr (.inl ⟨a,vs,_,v,rfl,rfl,q,e1,Out.pV h I r' (k.left.sub s')⟩)
  ·exact h.elim
 ·obtain ⟨rfl,rfl⟩:=r2
  obtain ⟨rfl,rfl⟩:=r1
  split at h
  ·rename_i hl
   split at h
   ·rename_i c e
    exact .inr (.inr ⟨_,_,c,rfl,rfl,Et hl,e,Out.here h I ⟨rfl,rfl⟩⟩)
   ·exact h.elim
  ·exact h.elim
 ·exact h.elim
theorem oQ.later {H1 B1:Hp}{Q:Bool->Hp->Prop}{r:Res Bool} (h:oQ K Y H0 B0 B H σ τ P F Q r) (sH:aw H H1) (sB:aw B B1):oQ K Y H0 B0 B1 H1 σ τ P F Q r:=by
 cases r with
 | ok d=>exact fun H' B' I s b=>h H' B' I (sH.trans s) (sB.trans b)
 | d9 C=>exact lW.later h sH sB fun _ x=>x
 | bad=>exact h
theorem l4.seq {f:SD->Res Bool}{Q':Bool->Hp->Prop}{g:Bool->Res Bool}{Q:Bool->Hp->Prop} (I:SI K H0 B0 B H σ τ P F) (h:oQ K Y H0 B0 B H σ τ P F Q ((f τ).bind g))
  (k:∀ d H1 B1,SI K H0 B0 B1 H1 σ τ P F->oQ K Y H0 B0 B1 H1 σ τ P F Q (g d)->Q' d H1):l4 K Y f σ H Q' := by
 refine ⟨H0,B0,B,τ,P,F,I,?_⟩
 cases e:f τ with
 | ok d=>rw [e] at h; exact fun H1 B1 I1 s1 b1=>k d H1 B1 I1 (oQ.later h s1 b1)
 | d9 C=>rw [e] at h; exact h
 | bad=>rw [e] at h; exact h
theorem l4.Jr {f:SD->Res Bool}{Q':Bool->Hp->Prop}{g:Bool->Res D}{Q:VK} (I:SI K H0 B0 B H σ τ P F) (h:Goal K Y H0 B0 B H σ τ P F Q ((f τ).bind g))
  (k:∀ d H1 B1,SI K H0 B0 B1 H1 σ τ P F->Goal K Y H0 B0 B1 H1 σ τ P F Q (g d)->Q' d H1):l4 K Y f σ H Q' := by
 refine ⟨H0,B0,B,τ,P,F,I,?_⟩
 cases e:f τ with
 | ok d=>rw [e] at h; exact fun H1 B1 I1 s1 b1=>k d H1 B1 I1 (Goal.later h s1 b1)
 | d9 C=>rw [e] at h; exact h
 | bad=>rw [e] at h; exact h
def gm (f:SD->Res Bool) (τ:SD):Res Bool:=(f τ).bind fun b=>.ok (!b)
def gM (f g:SD->Res Bool) (τ:SD):Res Bool:=(f τ).bind fun b=>if b=true then g τ else .ok false
def ph (f g:SD->Res Bool) (τ:SD):Res Bool:=(f τ).bind fun b=>if b=true then .ok true else g τ
theorem mi (ha:PT X a (l4 X.K Y ga)):PT X (.UnaryOp .Not a pos) (l4 X.K Y (gm ga)) :=
 PT.imp (Fd ha) fun σ H Q hq=>ex8 hq fun H0 B0 B τ P F I h=>l4.seq I h fun d H1 B1 I1 h1=>h1 H1 B1 I1 (aw.refl _) (aw.refl _)
theorem PW.imp {e:Expr}{t t':TT} (h:PW X e t) (hi:∀ σ H Q,t' σ H Q->t σ H Q):PW X e t' := fun wh pins s σ H Q I hw=>h wh pins s σ H Q I (hi σ H Q hw)
theorem lz (ha:PT X a (l4 X.K Y ga)):PW X (.BoolOp .And [a] pos) (l4 X.K Y ga):=CI ha
theorem wk (ha:PT X a (l4 X.K Y ga)):PW X (.BoolOp .Or [a] pos) (l4 X.K Y ga):=E1 ha
theorem nR {rest:List Expr} (ha:PT X a (l4 X.K Y ga)) (hb:PW X (.BoolOp .And (b :: rest) pos) (l4 X.K Y gb)):PW X (.BoolOp .And (a :: b :: rest) pos) (l4 X.K Y (gM ga gb)) :=
 PW.imp (E4 ha hb) fun σ H Q hq=>ex8 hq fun H0 B0 B τ P F I h=>l4.seq I h fun d H1 B1 I1 h1=>by
  cases d with
  | true=>rw [if_pos rfl] at h1 ⊢; exact ⟨H0,B0,B1,τ,P,F,I1,h1⟩
  | false=>rw [if_neg Bool.false_ne_true] at h1 ⊢; exact h1 H1 B1 I1 (aw.refl _) (aw.refl _)
theorem xY {rest:List Expr} (ha:PT X a (l4 X.K Y ga)) (hb:PW X (.BoolOp .Or (b :: rest) pos) (l4 X.K Y gb)):PW X (.BoolOp .Or (a :: b :: rest) pos) (l4 X.K Y (ph ga gb)) :=
 PW.imp (Hj ha hb) fun σ H Q hq=>ex8 hq fun H0 B0 B τ P F I h=>l4.seq I h fun d H1 B1 I1 h1=>by
  cases d with
  | true=>rw [if_pos rfl] at h1 ⊢; exact h1 H1 B1 I1 (aw.refl _) (aw.refl _)
  | false=>rw [if_neg Bool.false_ne_true] at h1 ⊢; exact ⟨H0,B0,B1,τ,P,F,I1,h1⟩
def tm (c:SD->Res Bool) (f g:SD->Res D) (τ:SD):Res D:=(c τ).bind fun b=>if b=true then f τ else g τ
theorem Js (hc:PT X c (l4 X.K Y ga)) (ha:PE X a (tM X.K Y fa)) (hb:PE X b (tM X.K Y fb)):PE X (.IfExp c a b pos) (tM X.K Y (tm ga fa fb)) :=
 PE.imp (zV hc ha hb) fun σ H Q hq=>ex8 hq fun H0 B0 B τ P F I h=>l4.Jr I h fun d H1 B1 I1 h1=>by
  cases d with
  | true=>rw [if_pos rfl] at h1 ⊢; exact ⟨H0,B0,B1,τ,P,F,I1,h1⟩
  | false=>rw [if_neg Bool.false_ne_true] at h1 ⊢; exact ⟨H0,B0,B1,τ,P,F,I1,h1⟩
def iU (f g:SD->Res D) (τ:SD):Res D:=(f τ).bind fun d=>(qP d).bind fun b=>if b=true then g τ else .ok (.bl false)
def kK (f:SD->Res D) (τ:SD):Res D:=(f τ).bind fun d=>(qP d).bind fun b=>.ok (.bl (!b))
theorem rK {d:D}{v:V}{f:List Addr}{g:Bool->Res D}{Q:VK} (r:Rep K B (· ∈ P) H d v f) (h:Goal K Y H0 B0 B H σ τ P F Q ((qP d).bind g)):∃ c,v=.bl c/\f=[]/\Goal K Y H0 B0 B H σ τ P F Q (g c):=by
 cases d with
 | bl c=>exact ⟨c,r.1,r.2,h⟩
 | _=>exact h.elim
theorem AD {op} (h:PE X a (tM X.K Y fa)):PE X (.BoolOp op [a] pos) (tM X.K Y fa):=E2 h
theorem xW {rest:List Expr} (ha:PE X a (tM X.K Y fa)) (hb:PE X (.BoolOp .And (b :: rest) pos) (tM X.K Y fb)):PE X (.BoolOp .And (a :: b :: rest) pos) (tM X.K Y (iU fa fb)) :=
 PE.imp (EO ha hb) fun σ H Q hq=>ex8 hq fun H0 B0 B τ P F I h=>tM.seq I h fun d v H1 B1 fp _ I1 _ _ r1 _ h1=>by
  obtain ⟨c,rfl,_,h2⟩:=rK r1 h1
  refine ⟨c,rfl,?_⟩
  cases c with
  | true=>rw [if_pos rfl] at h2 ⊢; exact ⟨H0,B0,B1,τ,P,F,I1,h2⟩
  | false=>rw [if_neg Bool.false_ne_true] at h2 ⊢; exact Out.here h2 I1 ⟨rfl,rfl⟩
theorem HE (ha:PE X a (tM X.K Y fa)):PE X (.UnaryOp .Not a pos) (tM X.K Y (kK fa)) :=
 PE.imp (Fe ha) fun σ H Q hq=>ex8 hq fun H0 B0 B τ P F I h=>tM.seq I h fun d v H1 B1 fp _ I1 _ _ r1 _ h1=>by
  obtain ⟨c,rfl,_,h2⟩:=rK r1 h1
  exact ⟨c,rfl,Out.here h2 I1 ⟨rfl,rfl⟩⟩
def fH (g:D->Res D) (f:SD->Res D) (τ:SD):Res D:=(f τ).bind g
def jn:D->Res D | .int i=>.ok (.int (-i)) | _=>.bad
theorem Ew (ha:PE X a (tM X.K Y fa)):PE X (.UnaryOp .USub a pos) (tM X.K Y (fH jn fa)) :=
 PE.imp (G3 EU ha) fun σ H Q hq=>ex8 hq fun H0 B0 B τ P F I h=>tM.seq I h fun d v H1 B1 fp _ I1 _ _ r1 _ h1=>by
  cases d with
  | int i=>exact ⟨i,r1.1,Out.here h1 I1 ⟨rfl,rfl⟩⟩
  | _=>exact h1.elim
def ak (_:SD):Res (List D) := .ok []
def aa (f:SD->Res D) (g:SD->Res (List D)) (τ:SD):Res (List D):=(f τ).bind fun d=>(g τ).bind fun ds=>.ok (d :: ds)
variable {e:Expr}{es:List Expr}{fe:SD->Res D}{fs:SD->Res (List D)}
theorem aj:PA X [] (pU X.K Y ak):=PA.imp jW fun σ H Q hq=>ex8 hq fun H0 B0 B τ P F I h=>h [] H B [] I (aw.refl _) (aw.refl _) ⟨rfl,rfl⟩ gQ.nil
theorem af (ha:PE X e (tM X.K Y fe)) (hr:PA X es (pU X.K Y fs)) (hs:starEach (e :: es) X.env=(false,eval e X.env) :: starEach es X.env:=by rfl):PA X (e :: es) (pU X.K Y (aa fe fs)):=by
 refine PA.imp (eZ ha hr hs) fun σ H Q hq=>ex8 hq fun H0 B0 B τ P F I h=>?_
 refine ⟨H0,B0,B,τ,P,F,I,?_⟩
 unfold aa at h
 cases z:fe τ with
 | d9 C=>rw [z] at h; exact h
 | bad=>rw [z] at h; exact h
 | ok d =>
  rw [z] at h
  intro v H1 B1 fp I1 s1 b1 r1 k1
  refine ⟨H0,B0,B1,τ,P,_,I1.hold k1,?_⟩
  cases y:fs τ with
  | d9 C=>rw [y] at h; exact lW.later h s1 b1 fun a x=>.inr x
  | bad=>rw [y] at h; exact h
  | ok ds =>
   rw [y] at h
   intro vs H2 B2 fq I2 s2 b2 r2 k2
   exact h (v :: vs) H2 B2 (fp ++ fq) (I2.uK fun a x=>.inr x) (s1.trans s2) (b1.trans b2) ⟨v,vs,fp,fq,rfl,r1.mono s2 b2 (fun _ x=>x),r2,rfl⟩ (k1.both s2 I2 k2)
theorem pU.seq {f:SD->Res (List D)}{Q':List V->Hp->Prop}{g:List D->Res D}{Q:VK} (I:SI K H0 B0 B H σ τ P F) (h:Goal K Y H0 B0 B H σ τ P F Q ((f τ).bind g))
  (k:∀ ds vs H1 B1 fp,f τ=.ok ds->SI K H0 B0 B1 H1 σ τ P F->aw H H1->aw B B1->aB K B1 (· ∈ P) H1 ds vs fp->gQ H0 B1 H1 P F fp->Goal K Y H0 B0 B1 H1 σ τ P F Q (g ds)->Q' vs H1):pU K Y f σ H Q' := by
 refine ⟨H0,B0,B,τ,P,F,I,?_⟩
 cases e:f τ with
 | ok d =>
  rw [e] at h
  intro v H1 B1 fp I1 s1 b1 r1 k1
  exact k d v H1 B1 fp e I1 s1 b1 r1 k1 (Goal.later h s1 b1)
 | d9 C=>rw [e] at h; exact h
 | bad=>rw [e] at h; exact h
def cO (ds:List D):Res D:=if ds.length <= 16777216 then .ok (.tup ds) else .bad
def eS (ds:List D):Res D:=if ds.length <= 16777216 then .ok (.lst .own ds) else .bad
def eA (g:List D->Res D) (f:SD->Res (List D)) (τ:SD):Res D:=(f τ).bind g
theorem f7 {x1} (h:PA X es (pU X.K Y fs)):PE X (.Tuple es x1 pos) (tM X.K Y (eA cO fs)) :=
 PE.imp (zZ h) fun σ H Q hq=>ex8 hq fun H0 B0 B τ P F I h=>pU.seq I h fun ds vs H1 B1 fp _ I1 _ _ r1 k1 h1=>by
  unfold cO at h1
  split at h1
  ·rename_i hl
   exact ⟨by rw [<- r1.length]; exact Et hl,fun p hp=>Out.fU h1 I1 r1 k1 hp⟩
  ·exact h1.elim
theorem kG (h:PA X es (pU X.K Y fs)):PE X (.List es pos) (tM X.K Y (eA eS fs)) :=
 PE.imp (Fi h) fun σ H Q hq=>ex8 hq fun H0 B0 B τ P F I h=>pU.seq I h fun ds vs H1 B1 fp _ I1 _ _ r1 k1 h1=>by
  unfold eS at h1
  split at h1
  ·rename_i hl
   exact ⟨by rw [<- r1.length]; exact Et hl,fun p hp=>Out.uM h1 I1 r1 k1 hp⟩
  ·exact h1.elim
def oR (K:PySem.W.Frag) (Y:XY) (r:List V->Hp->VK->Prop) (g:List D->Res D):Prop := ∀ {H0 B0 B H:Hp}{σ:L2.St}{τ:SD}{P:List Addr}{F:Addr->Prop}{ds:List D}{vs:List V}{f:List Addr}{Q:VK},
 SI K H0 B0 B H σ τ P F->aB K B (· ∈ P) H ds vs f->gQ H0 B H P F f->Goal K Y H0 B0 B H σ τ P F Q (g ds)->r vs H Q
theorem bM {x:Str}{id:String}{p:Pos}{r:List V->Hp->VK->Prop}{g:List D->Res D} (hc:fJ X (.builtin id) r) (hgd:oR X.K Y r g) (hg:Gl X x) (hm:X.mg x=none) (hv:bootBuiltins x=some (.builtin id)) (ha:PA X (e :: es) (pU X.K Y fs)) (hn:x ≠ "__name__" := by decide) (hdb:(x == ("__debug__" : Str))=false:=by decide)
  (he:starEach (e :: es) X.env=(false,eval e X.env) :: starEach es X.env:=by rfl) (hpl:(backTo pos (starEach es X.env)).any (·.1)=false:=by rfl) :
  PE X (.Call (.Name x p) (e :: es) [] pos) (tM X.K Y (eA g fs)) :=
 PE.imp (kR hc hg hm hv ha hn hdb he hpl) fun σ H Q hq=>ex8 hq fun H0 B0 B τ P F I h=>pU.seq I h fun ds vs H1 B1 fp _ I1 _ _ r1 k1 h1=>hgd I1 r1 k1 h1
theorem eu {x:Str}{T:String}{p:Pos}{r:List V->Hp->VK->Prop}{g:List D->Res D} (hc:fJ X (.type T) r) (hgd:oR X.K Y r g) (hg:Gl X x) (hm:X.mg x=none) (hv:bootBuiltins x=some (.type T)) (ha:PA X (e :: es) (pU X.K Y fs)) (hn:x ≠ "__name__" := by decide) (hdb:(x == ("__debug__" : Str))=false:=by decide)
  (he:starEach (e :: es) X.env=(false,eval e X.env) :: starEach es X.env:=by rfl) (hpl:(backTo pos (starEach es X.env)).any (·.1)=false:=by rfl) :
  PE X (.Call (.Name x p) (e :: es) [] pos) (tM X.K Y (eA g fs)) :=
 PE.imp (yH hc hg hm hv ha hn hdb he hpl) fun σ H Q hq=>ex8 hq fun H0 B0 B τ P F I h=>pU.seq I h fun ds vs H1 B1 fp _ I1 _ _ r1 k1 h1=>hgd I1 r1 k1 h1
theorem kH {S:Addr->Prop}{d:D}{vs:List V}{f:List Addr} (r:aB K B S H [d] vs f):∃ v,vs=[v]/\Rep K B S H d v f:=by
 obtain ⟨v,w,f1,f2,rfl,r1,r2,rfl⟩:=r
 obtain ⟨rfl,rfl⟩:=r2
 exact ⟨v,rfl,by rw [List.append_nil]; exact r1⟩
theorem AA {S:Addr->Prop}{d e:D}{vs:List V}{f:List Addr} (r:aB K B S H [d,e] vs f):∃ v u f1 f2,vs=[v,u]/\f=f1 ++ f2/\Rep K B S H d v f1/\Rep K B S H e u f2:=by
 obtain ⟨v,w,f1,f2,rfl,r1,r2,rfl⟩:=r
 obtain ⟨u,rfl,r3⟩:=kH r2
 exact ⟨v,u,f1,f2,rfl,rfl,r1,r3⟩
def cG:List D->Res D
 | [.lst _ xs]=>.ok (.int xs.length)
 | [.tup xs]=>.ok (.int xs.length)
 | [.str z]=>if z.length <= 16777216 then .ok (.int z.length) else .bad
 | _=>.bad
abbrev HF (K:PySem.W.Frag):List V->Hp->VK->Prop:=fun xs H Q=>(∃ p ys,xs=[.ref p]/\(gI K H p ys ∨ jR K H p ys)/\Q (.int ys.length) H) ∨ ∃ z,xs=[.str z]/\z.length <= sizeLine/\Q (.int z.length) H
theorem bD:fJ X (.builtin "len") (HF X.K):=fJ.or sO sQ
theorem fB:oR K Y (HF K) cG:=by
 intro H0 B0 B H σ τ P F ds vs f Q I r k h
 unfold cG at h
 split at h
 ·obtain ⟨v,rfl,r'⟩:=kH r
  obtain ⟨a,ws,g,rfl,q,l,s⟩:=r'.lst I
  refine .inl ⟨a,ws,rfl,.inl (gk q),?_⟩
  rw [<- l.length]
  exact Out.here h I ⟨rfl,rfl⟩
 ·obtain ⟨v,rfl,r'⟩:=kH r
  obtain ⟨a,ws,rfl,q,l⟩:=r'.tp
  refine .inl ⟨a,ws,rfl,.inr q,?_⟩
  rw [<- l.length]
  exact Out.here h I ⟨rfl,rfl⟩
 ·obtain ⟨v,rfl,r'⟩:=kH r
  obtain ⟨rfl,rfl⟩:=r'
  split at h
  ·rename_i hl
   exact .inr ⟨_,rfl,Et hl,Out.here h I ⟨rfl,rfl⟩⟩
  ·exact h.elim
 ·exact h.elim
def f6:List D->Res D | [.int i,.int j]=>.ok (.int (if j > i then j else i)) | _=>.bad
def gq:List D->Res D | [.int i,.int j]=>.ok (.int (if j < i then j else i)) | _=>.bad
theorem AB:oR K Y (fun xs H Q=>∃ i j,xs=[.int i,.int j]/\Q (.int (if j > i then j else i)) H) f6:=by
 intro H0 B0 B H σ τ P F ds vs f Q I r k h
 unfold f6 at h
 split at h
 ·obtain ⟨v,u,f1,f2,rfl,rfl,⟨rfl,rfl⟩,⟨rfl,rfl⟩⟩:=AA r
  exact ⟨_,_,rfl,Out.here h I ⟨rfl,rfl⟩⟩
 ·exact h.elim
theorem FO:oR K Y (fun xs H Q=>∃ i j,xs=[.int i,.int j]/\Q (.int (if j < i then j else i)) H) gq:=by
 intro H0 B0 B H σ τ P F ds vs f Q I r k h
 unfold gq at h
 split at h
 ·obtain ⟨v,u,f1,f2,rfl,rfl,⟨rfl,rfl⟩,⟨rfl,rfl⟩⟩:=AA r
  exact ⟨_,_,rfl,Out.here h I ⟨rfl,rfl⟩⟩
 ·exact h.elim
def dj:List D->Res D
 | [.lst _ xs]=>.ok (.lst .own xs)
 | [.tup xs]=>.ok (.lst .own xs)
 | _=>.bad
theorem wj:oR K Y (fun xs H Q=>∃ p ys,xs=[.ref p]/\(gI K H p ys ∨ jR K H p ys)/\∀ l,H l=none->Q (.ref l) (upd H l (.lst ys))) dj:=by
 intro H0 B0 B H σ τ P F ds vs f Q I r k h
 unfold dj at h
 split at h
 ·obtain ⟨v,rfl,r'⟩:=kH r
  obtain ⟨a,ws,g,rfl,q,l,s⟩:=r'.lst I
  exact ⟨a,ws,rfl,.inl (gk q),fun p hp=>Out.uM h I l (k.sub s) hp⟩
 ·obtain ⟨v,rfl,r'⟩:=kH r
  obtain ⟨a,ws,rfl,q,l⟩:=r'.tp
  exact ⟨a,ws,rfl,.inr q,fun p hp=>Out.uM h I l k hp⟩
 ·exact h.elim
def cF:List D->Res D
 | [.lst _ xs]=>.ok (.tup xs)
 | [.tup xs]=>.ok (.tup xs)
 | _=>.bad
theorem iE:oR K Y (fun xs H Q=>∃ p ys,xs=[.ref p]/\((gI K H p ys/\∀ l,H l=none->Q (.ref l) (upd H l (.tup ys))) ∨ (jR K H p ys/\Q (.ref p) H))) cF:=by
 intro H0 B0 B H σ τ P F ds vs f Q I r k h
 unfold cF at h
 split at h
 ·obtain ⟨v,rfl,r'⟩:=kH r
  obtain ⟨a,ws,g,rfl,q,l,s⟩:=r'.lst I
  exact ⟨a,ws,rfl,.inl ⟨gk q,fun p hp=>Out.fU h I l (k.sub s) hp⟩⟩
 ·obtain ⟨v,rfl,r'⟩:=kH r
  obtain ⟨a,ws,rfl,q,l⟩:=r'.tp
  exact ⟨a,ws,rfl,.inr ⟨q,Out.pV h I r' k⟩⟩
 ·exact h.elim
def eP (f:SD->Res D) (τ:SD):Res (Option Int):=(f τ).bind fun d=>match d with | .int i=>.ok (some i) | _=>.bad
def lA (_:SD):Res (Option Int) := .ok none
def IA (K:PySem.W.Frag) (Y:XY) (f:SD->Res (Option Int)):TO:=fun σ H Q=>∃ H0 B0 B τ P F,SI K H0 B0 B H σ τ P F/\match f τ with
 | .ok o=>∀ H' B',SI K H0 B0 B' H' σ τ P F->aw H H'->aw B B'->Q o H'
 | .d9 C=>lW K Y H0 B0 B H σ τ P F C
 | .bad=>False
theorem PO.imp {e:Option Expr}{t t':TO} (h:PO X e t) (hi:∀ σ H Q,t' σ H Q->t σ H Q):PO X e t' := fun pins s σ H Q I hw=>h pins s σ H Q I (hi σ H Q hw)
theorem mO:PO X none (IA X.K Y lA):=PO.imp CY fun σ H Q hq=>ex8 hq fun H0 B0 B τ P F I h=>h H B I (aw.refl _) (aw.refl _)
theorem j2 (h:PE X e (tM X.K Y fe)):PO X (some e) (IA X.K Y (eP fe)):=by
 refine PO.imp (C3 h) fun σ H Q hq=>ex8 hq fun H0 B0 B τ P F I h=>?_
 refine ⟨H0,B0,B,τ,P,F,I,?_⟩
 unfold eP at h
 cases z:fe τ with
 | d9 C=>rw [z] at h; exact h
 | bad=>rw [z] at h; exact h
 | ok d =>
  rw [z] at h
  intro v H1 B1 fp I1 s1 b1 r1 k1
  cases d with
  | int i=>exact ⟨i,r1.1,h H1 B1 I1 s1 b1⟩
  | _=>exact h.elim
def cut {α:Type} (xs:List α) (lo hi:Option Int):List α:=(xs.drop (HT.fZ xs.length 0 lo)).take (HT.fZ xs.length xs.length hi - HT.fZ xs.length 0 lo)
theorem aB.drop {S:Addr->Prop}:∀ (n:Nat) {xs:List D}{vs:List V}{f:List Addr},aB K B S H xs vs f->∃ g,aB K B S H (xs.drop n) (vs.drop n) g/\List.Sublist g f
 | 0,xs,vs,f,r=>⟨f,r,List.Sublist.refl _⟩
 | n + 1,[],vs,f,r=>by
  obtain ⟨rfl,rfl⟩:=r
  exact ⟨[],⟨rfl,rfl⟩,List.Sublist.refl _⟩
 | n + 1,d :: ds,vs,f,r=>by
  obtain ⟨v,w,f1,f2,rfl,r1,r2,rfl⟩:=r
  obtain ⟨g,h1,h2⟩:=aB.drop n r2
  exact ⟨g,h1,h2.trans (List.sublist_append_right _ _)⟩
theorem aB.take {S:Addr->Prop}:∀ (n:Nat) {xs:List D}{vs:List V}{f:List Addr},aB K B S H xs vs f->∃ g,aB K B S H (xs.take n) (vs.take n) g/\List.Sublist g f
 | 0,xs,vs,f,r=>⟨[],⟨rfl,rfl⟩,List.nil_sublist _⟩
 | n + 1,[],vs,f,r=>by
  obtain ⟨rfl,rfl⟩:=r
  exact ⟨[],⟨rfl,rfl⟩,List.Sublist.refl _⟩
 | n + 1,d :: ds,vs,f,r=>by
  obtain ⟨v,w,f1,f2,rfl,r1,r2,rfl⟩:=r
  obtain ⟨g,h1,h2⟩:=aB.take n r2
  exact ⟨f1 ++ g,⟨v,_,f1,g,rfl,r1,h1,rfl⟩,List.Sublist.append (List.Sublist.refl _) h2⟩
theorem aB.cut {S:Addr->Prop}{xs:List D}{vs:List V}{f:List Addr} (r:aB K B S H xs vs f) (lo hi:Option Int):∃ g,aB K B S H (cut xs lo hi) (uv vs lo hi) g/\List.Sublist g f:=by
 unfold DL.cut uv
 rw [r.length]
 obtain ⟨g,h1,h2⟩:=r.drop (HT.fZ vs.length 0 lo)
 obtain ⟨g',h3,h4⟩:=h1.take (HT.fZ vs.length vs.length hi - HT.fZ vs.length 0 lo)
 exact ⟨g',h3,h4.trans h2⟩
def cutD (d:D) (lo hi:Option Int):Res D:=match d with
 | .lst _ xs=>.ok (.lst .own (cut xs lo hi))
 | .tup xs=>if HT.fZ xs.length 0 lo=0/\HT.fZ xs.length xs.length hi=xs.length then .bad else .ok (.tup (cut xs lo hi))
 | _=>.bad
def dS (f:SD->Res D) (lo hi:SD->Res (Option Int)) (τ:SD):Res D:=(f τ).bind fun d=>(lo τ).bind fun l=>(hi τ).bind fun u=>cutD d l u
theorem lB {lo hi:Option Expr}{fl fh:SD->Res (Option Int)}{p2:Pos} (he:PE X e (tM X.K Y fe)) (hl:PO X lo (IA X.K Y fl)) (hu:PO X hi (IA X.K Y fh)):PE X (.Subscript e (.Slice lo hi none p2) pos) (tM X.K Y (dS fe fl fh)):=by
 refine PE.imp (Ae (Ep.or CV Fv) he hl hu) fun σ H Q hq=>ex8 hq fun H0 B0 B τ P F I h=>?_
 refine tM.seq I h fun d v H1 B1 fp _ I1 s1 b1 r1 k1 h1=>?_
 refine ⟨H0,B0,B1,τ,P,_,I1.hold k1,?_⟩
 cases z:fl τ with
 | d9 C=>rw [z] at h1; exact lW.later h1 (aw.refl _) (aw.refl _) fun a x=>.inr x
 | bad=>rw [z] at h1; exact h1
 | ok l =>
  rw [z] at h1
  intro H2 B2 I2 s2 b2
  refine ⟨H0,B0,B2,τ,P,_,I2,?_⟩
  cases y:fh τ with
  | d9 C=>rw [y] at h1; exact lW.later h1 s2 b2 fun a x=>.inr x
  | bad=>rw [y] at h1; exact h1
  | ok u =>
   rw [y] at h1
   intro H3 B3 I3 s3 b3
   have I4:=I3.uK (F' := F) fun a x=>.inr x
   have k4:=k1.HG (s2.trans s3) I3
   have r4:=r1.mono (s2.trans s3) (b2.trans b3) fun _ x=>x
   have h4:Goal X.K Y H0 B0 B3 H3 σ τ P F Q (cutD d l u):=Goal.later h1 (s2.trans s3) (b2.trans b3)
   unfold cutD at h4
   split at h4
   ·obtain ⟨a,vs,g,rfl,q,l',s⟩:=r4.lst I4
    obtain ⟨g',l2,s2⟩:=l'.cut l u
    exact .inl ⟨a,vs,rfl,gk q,fun p hp=>Out.uM h4 I4 l2 (k4.sub (s2.trans s)) hp⟩
   ·obtain ⟨a,vs,rfl,q,l'⟩:=r4.tp
    obtain ⟨g',l2,s2⟩:=l'.cut l u
    split at h4
    ·exact h4.elim
    ·rename_i hc
     rw [l'.length] at hc
     exact .inr ⟨a,vs,rfl,q,hc,fun p hp=>Out.fU h4 I4 l2 (k4.sub s2) hp⟩
   ·exact h4.elim
end
inductive Fl where | nx (τ:SD) | rt (d:D) | bk (τ:SD) | ct (τ:SD) | ex (C:Addr) (τ:SD) | bad
abbrev SF:=SD->Fl
def Tg.bq:Tg->Tg | .bor=>.aG | t=>t
mutual
def D.bq:D->D
 | .tup xs=>.tup (cg xs)
 | .lst t xs=>.lst t.bq (cg xs)
 | .dct t k ks vs=>.dct t.bq k ks (cg vs)
 | d=>d
def cg:List D->List D
 | []=>[]
 | d :: r=>d.bq :: cg r
end
mutual
theorem uO:∀ d:D,d.aE=false->d.bq=d
 | .cY,_=>rfl
 | .bl _,_=>rfl
 | .int _,_=>rfl
 | .str _,_=>rfl
 | .exc _,_=>rfl
 | .tup xs,h=>by
  have h:aI xs=false:=h
  show D.tup (cg xs)=_
  rw [jC xs h]
 | .lst t xs,h=>by
  have h:(decide (t=.bor) || aI xs)=false:=h
  rw [Bool.or_eq_false_iff] at h
  show D.lst t.bq (cg xs)=_
  rw [jC xs h.2]
  cases t <;> first | rfl | exact absurd h.1 (by decide)
 | .dct t k ks vs,h=>by
  have h:(decide (t=.bor) || aI vs)=false:=h
  rw [Bool.or_eq_false_iff] at h
  show D.dct t.bq k ks (cg vs)=_
  rw [jC vs h.2]
  cases t <;> first | rfl | exact absurd h.1 (by decide)
theorem jC:∀ xs:List D,aI xs=false->cg xs=xs
 | [],_=>rfl
 | d :: r,h=>by
  have h:(d.aE || aI r)=false:=h
  rw [Bool.or_eq_false_iff] at h
  show d.bq :: cg r=_
  rw [uO d h.1,jC r h.2]
end
section
variable {K:PySem.W.Frag}
mutual
theorem Rep.bq {B B' H:Hp}{S:Addr->Prop} (sB:aw B B') (hs:∀ a o,S a->H a=some o->B' a=some o):∀ {d:D}{v:V}{fp:List Addr},Rep K B S H d v fp->Rep K B' No H d.bq v fp
 | .cY,_,_,h=>h
 | .bl _,_,_,h=>h
 | .int _,_,_,h=>h
 | .str _,_,_,h=>h
 | .exc _,_,_,h=>h
 | .tup xs,v,fp,h=>let ⟨a,vs,e,q,r⟩:=h; ⟨a,vs,e,q,aB.bq sB hs r⟩
 | .lst .own xs,v,fp,h=>let ⟨a,vs,f,e,q,r,z⟩:=h; ⟨a,vs,f,e,q,aB.bq sB hs r,z⟩
 | .lst .bor xs,v,fp,h=>let ⟨a,vs,e,q,r,z⟩:=h; ⟨a,vs,e,Aw sB hs q,aB.bq sB hs r,z⟩
 | .lst .aG xs,v,fp,h=>let ⟨a,vs,e,q,r,z⟩:=h; ⟨a,vs,e,eN sB q,aB.bq sB (fun _ _ x=>x.elim) r,z⟩
 | .dct .own kd ks xs,v,fp,h=>let ⟨a,vs,f,e,q,r,z⟩:=h; ⟨a,vs,f,e,q,aB.bq sB hs r,z⟩
 | .dct .bor kd ks xs,v,fp,h=>let ⟨a,vs,e,q,r,z⟩:=h; ⟨a,vs,e,nP sB hs q,aB.bq sB hs r,z⟩
 | .dct .aG kd ks xs,v,fp,h=>let ⟨a,vs,e,q,r,z⟩:=h; ⟨a,vs,e,q.mono sB,aB.bq sB (fun _ _ x=>x.elim) r,z⟩
theorem aB.bq {B B' H:Hp}{S:Addr->Prop} (sB:aw B B') (hs:∀ a o,S a->H a=some o->B' a=some o):∀ {ds:List D}{vs:List V}{fp:List Addr},aB K B S H ds vs fp->aB K B' No H (cg ds) vs fp
 | [],_,_,h=>h
 | d :: ds,vs,fp,h=>let ⟨v,r,f,g,e,h1,h2,z⟩:=h; ⟨v,r,f,g,e,Rep.bq sB hs h1,aB.bq sB hs h2,z⟩
end
def nU (H H':Hp):Prop := ∀ a o,H a=some o->¬ qO o->H' a=some o
theorem nU.of {H H':Hp} (s:aw H H'):nU H H' := fun a o h _=>s a o h
theorem nU.refl (H:Hp):nU H H:=fun _ _ h _=>h
theorem nU.trans {H H1 H2:Hp} (a:nU H H1) (b:nU H1 H2):nU H H2:=fun x o h n=>b x o (a x o h n) n
structure lC (K:PySem.W.Frag) (H0 B0 B H:Hp) (B' H':Hp) (σ':L2.St) (τ':SD) (P':List Addr):Prop where
 si:SI K H0 B0 B' H' σ' τ' P' No
 b:aw B B'
 CC:nU H H'
structure oS (K:PySem.W.Frag) (H0 B0 B' H':Hp) (d:D) (v:V) (fp:List Addr):Prop where
 h0:aw H0 H'
 b0:aw B0 B'
 bh:aw B' H'
 nb:∀ a,B' a ≠ none->B0 a ≠ none ∨ H0 a=none
 rep:Rep K B' No H' d v fp
 nd:fp.Nodup
 own:∀ a ∈ fp,B' a=none/\H0 a=none/\H' a ≠ none
def eU (K:PySem.W.Frag) (Y:XY) (H0 B0 B H:Hp) (E:Ends):Fl->Prop
 | .nx τ'=>∀ B' H' σ' P',lC K H0 B0 B H B' H' σ' τ' P'->E.nx σ' H'
 | .bk τ'=>∀ B' H' σ' P',lC K H0 B0 B H B' H' σ' τ' P'->E.bk σ' H'
 | .ct τ'=>∀ B' H' σ' P',lC K H0 B0 B H B' H' σ' τ' P'->E.ct σ' H'
 | .ex C τ'=>∀ B' H' σ' P',lC K H0 B0 B H B' H' σ' τ' P'->Y C σ' H'
 | .rt d=>∀ B' H' v fp,oS K H0 B0 B' H' d v fp->E.rt v H'
 | .bad=>False
def mw (K:PySem.W.Frag) (Y:XY) (g:SF):TS:=fun E σ H=>∃ H0 B0 B τ P,SI K H0 B0 B H σ τ P No/\eU K Y H0 B0 B H E (g τ)
variable {Y:XY}{H0 B0 B H:Hp}{σ:L2.St}{τ:SD}{P:List Addr}{F:Addr->Prop}{E:Ends}
theorem lC.refl (I:SI K H0 B0 B H σ τ P No):lC K H0 B0 B H B H σ τ P:=⟨I,aw.refl _,nU.refl _⟩
theorem lC.grow {B' H':Hp} (I:SI K H0 B0 B' H' σ τ P No) (sB:aw B B') (sH:aw H H'):lC K H0 B0 B H B' H' σ τ P:=⟨I,sB,nU.of sH⟩
theorem lC.trans {B1 H1 B2 H2:Hp}{σ1 σ2:L2.St}{τ1 τ2:SD}{P1 P2:List Addr} (a:lC K H0 B0 B H B1 H1 σ1 τ1 P1) (b:lC K H0 B0 B1 H1 B2 H2 σ2 τ2 P2):lC K H0 B0 B H B2 H2 σ2 τ2 P2:=⟨b.si,a.b.trans b.b,a.CC.trans b.CC⟩
theorem eU.later {B1 H1:Hp}{σ1:L2.St}{τ1:SD}{P1:List Addr}{r:Fl} (h:eU K Y H0 B0 B H E r) (a:lC K H0 B0 B H B1 H1 σ1 τ1 P1):eU K Y H0 B0 B1 H1 E r:=by
 cases r with
 | nx τ'=>exact fun B' H' σ' P' b=>h B' H' σ' P' (a.trans b)
 | bk τ'=>exact fun B' H' σ' P' b=>h B' H' σ' P' (a.trans b)
 | ct τ'=>exact fun B' H' σ' P' b=>h B' H' σ' P' (a.trans b)
 | ex C τ'=>exact fun B' H' σ' P' b=>h B' H' σ' P' (a.trans b)
 | rt d=>exact h
 | bad=>exact h
def Fl.andThen (r:Fl) (s:SF):Fl:=match r with | .nx τ=>s τ | r=>r
def aD (a b:SF) (τ:SD):Fl:=(a τ).andThen b
def aR (τ:SD):Fl := .nx τ
variable {X:Cx}{st:Stmt}{rest:List Stmt}{g g1 g2:SF}{pos:Pos}
theorem bj:lY X [] (mw X.K Y aR):=lY.imp CO fun E σ H hq=>ex7 hq fun H0 B0 B τ P I h=>h B H σ P (lC.refl I)
theorem az (h:PS X st (mw X.K Y g)):lY X [st] (mw X.K Y g):=xA h
theorem aq (h1:PS X st (mw X.K Y g1)) (h2:lY X rest (mw X.K Y g2)):lY X (st :: rest) (mw X.K Y (aD g1 g2)):=by
 refine lY.imp (zU h1 h2) fun E σ H hq=>ex7 hq fun H0 B0 B τ P I h=>⟨H0,B0,B,τ,P,I,?_⟩
 unfold aD at h
 cases e:g1 τ with
 | nx τ'=>rw [e] at h; exact fun B' H' σ' P' a=>⟨H0,B0,B',τ',P',a.si,eU.later h a⟩
 | bk τ'=>rw [e] at h; exact h
 | ct τ'=>rw [e] at h; exact h
 | ex C τ'=>rw [e] at h; exact h
 | rt d=>rw [e] at h; exact h
 | bad=>rw [e] at h; exact h
def Res.nV (τ:SD) (r:Res D) (k:D->Fl):Fl:=match r with | .ok d=>k d | .d9 C=>.ex C τ | .bad=>.bad
def Res.uP (τ:SD) (r:Res Bool) (k:Bool->Fl):Fl:=match r with | .ok d=>k d | .d9 C=>.ex C τ | .bad=>.bad
theorem p6 {f:SD->Res D}{k:D->Fl}{Q:VK} (I:SI K H0 B0 B H σ τ P No) (h:eU K Y H0 B0 B H E ((f τ).nV τ k))
  (c:∀ d v H1 B1 fp,f τ=.ok d->SI K H0 B0 B1 H1 σ τ P No->aw H H1->aw B B1->Rep K B1 (· ∈ P) H1 d v fp->gQ H0 B1 H1 P No fp->eU K Y H0 B0 B1 H1 E (k d)->Q v H1):tM K Y f σ H Q:=by
 refine ⟨H0,B0,B,τ,P,No,I,?_⟩
 cases e:f τ with
 | ok d =>
  rw [e] at h
  intro v H1 B1 fp I1 s1 b1 r1 k1
  exact c d v H1 B1 fp e I1 s1 b1 r1 k1 (eU.later h (lC.grow I1 b1 s1))
 | d9 C=>rw [e] at h; exact fun H1 B1 I1 s1 b1=>h B1 H1 σ P (lC.grow I1 b1 s1)
 | bad=>rw [e] at h; exact h
theorem HH {f:SD->Res Bool}{k:Bool->Fl}{Q:Bool->Hp->Prop} (I:SI K H0 B0 B H σ τ P No) (h:eU K Y H0 B0 B H E ((f τ).uP τ k))
  (c:∀ d H1 B1,f τ=.ok d->SI K H0 B0 B1 H1 σ τ P No->aw H H1->aw B B1->eU K Y H0 B0 B1 H1 E (k d)->Q d H1):l4 K Y f σ H Q:=by
 refine ⟨H0,B0,B,τ,P,No,I,?_⟩
 cases e:f τ with
 | ok d=>rw [e] at h; exact fun H1 B1 I1 s1 b1=>c d H1 B1 e I1 s1 b1 (eU.later h (lC.grow I1 b1 s1))
 | d9 C=>rw [e] at h; exact fun H1 B1 I1 s1 b1=>h B1 H1 σ P (lC.grow I1 b1 s1)
 | bad=>rw [e] at h; exact h
variable {e c:Expr}{fe:SD->Res D}{gc:SD->Res Bool}
def dW (f:SD->Res D) (τ:SD):Fl:=(f τ).nV τ fun _=>.nx τ
theorem p7 (he:PE X e (tM X.K Y fe)) (hs:swapsWith e none pos.line X.env=pure false:=by rfl):PS X (.Expr e pos) (mw X.K Y (dW fe)) :=
 PS.imp (xH he hs) fun E σ H hq=>ex7 hq fun H0 B0 B τ P I h=>p6 I h fun d v H1 B1 fp _ I1 _ _ _ _ h1=>h1 B1 H1 σ P (lC.refl I1)
def dP (c:SD->Res Bool) (a b:SF) (τ:SD):Fl:=(c τ).uP τ fun t=>if t=true then a τ else b τ
theorem dh {a b:List Stmt} (hc:PT X c (l4 X.K Y gc)) (ha:lY X a (mw X.K Y g1)) (hb:lY X b (mw X.K Y g2)):PS X (.If c a b pos) (mw X.K Y (dP gc g1 g2)) :=
 PS.imp (G2 hc ha hb) fun E σ H hq=>ex7 hq fun H0 B0 B τ P I h=>HH I h fun d H1 B1 _ I1 _ _ h1=>by
  cases d with
  | true=>rw [if_pos rfl] at h1 ⊢; exact ⟨H0,B0,B1,τ,P,I1,h1⟩
  | false=>rw [if_neg Bool.false_ne_true] at h1 ⊢; exact ⟨H0,B0,B1,τ,P,I1,h1⟩
def atRest (B H:Hp) (S:Addr->Prop):Hp:=fun a=>by classical exact if S a then H a else B a
theorem dO {S:Addr->Prop} (h:aw B H):aw B (atRest B H S):=fun a o e=>by
 unfold atRest; split
 ·exact h a o e
 ·exact e
theorem fQ {S:Addr->Prop}{a:Addr}{o:HO} (s:S a) (h:H a=some o):atRest B H S a=some o:=by unfold atRest; rw [if_pos s]; exact h
theorem iF {S:Addr->Prop} (h:aw B H):aw (atRest B H S) H:=fun a o e=>by
 unfold atRest at e; split at e
 ·exact e
 ·exact h a o e
theorem ic {S:Addr->Prop}{a:Addr} (s:¬ S a):atRest B H S a=B a:=by unfold atRest; rw [if_neg s]
def bE (f:SD->Res D) (τ:SD):Fl:=(f τ).nV τ fun d=>.rt d.bq
theorem AE {d:D}{v:V}{fp:List Addr} (I:SI K H0 B0 B H σ τ P F) (r:Rep K B (· ∈ P) H d v fp) (k:gQ H0 B H P F fp):oS K H0 B0 (atRest B H (· ∈ P)) H d.bq v fp where
 h0:=I.h0
 b0:=I.b0.trans (dO I.bh)
 bh:=iF I.bh
 nb:=fun a n=>by
  by_cases m:a ∈ P
  ·exact .inr (I.own a m).2.1
  ·rw [ic m] at n; exact I.nb a n
 rep:=r.bq (dO I.bh) fun a o s h=>fQ s h
 nd:=k.nd
 own:=fun a m=>let ⟨a1,a2,a3,a4,_⟩:=k.own a m; ⟨by rw [ic a4]; exact a1,a2,a3⟩
theorem bJ (he:PE X e (tM X.K Y fe)):PS X (.Return (some e) pos) (mw X.K Y (bE fe)) :=
 PS.imp (vV he) fun E σ H hq=>ex7 hq fun H0 B0 B τ P I h=>p6 I h fun d v H1 B1 fp _ I1 _ _ r1 k1 h1=>h1 _ H1 v fp (AE I1 r1 k1)
def dM (i:Nat) (τ:SD):Fl:=match τ[i]? with | some (some d)=>.rt d | _=>.bad
theorem p5 (i:Nat) {x:Str}{pos':Pos} (hN:X.N[i]?=some x:=by rfl) (hv:Eg X.env.scope x:=by first | exact Or.inl rfl | exact Or.inr (Or.inl rfl) | exact Or.inr (Or.inr rfl)) (hd:(x == ("__debug__" : Str))=false:=by decide)
  (hcd:(x == ("__classdict__" : Str))=false:=by decide):PS X (.Return (some (.Name x pos')) pos) (mw X.K Y (dM i)):=by
 refine PS.imp (vV (pJ hN hv hd hcd)) fun E σ H hq=>ex7 hq fun H0 B0 B τ P I h=>?_
 unfold dM at h
 cases e:τ[i]? with
 | none=>rw [e] at h; exact h.elim
 | some o =>
  cases o with
  | none=>rw [e] at h; exact h.elim
  | some d =>
   rw [e] at h
   obtain ⟨v,f,h1,h2,h3⟩:=I.rep.get e
   refine ⟨v,h1,h B H v f ⟨I.h0,I.b0,I.bh,I.nb,h2,I.nd.sublist h3,fun a m=>?_⟩⟩
   obtain ⟨a1,a2,a3⟩:=I.own a (h3.subset m)
   exact ⟨a1,a2,I.stands (h3.subset m)⟩
theorem eL.length {B H:Hp}:∀ {τ:SD}{σ:L2.St}{P:List Addr},eL K B H τ σ P->τ.length=σ.length
 | [],_,_,h=>by rw [h.1]; rfl
 | none :: r,σ,P,h=>by obtain ⟨o,t,rfl,h⟩:=h; rw [List.length_cons,List.length_cons,eL.length h]
 | some d :: r,σ,P,h=>by obtain ⟨v,t,f,g,rfl,_,h,_⟩:=h; rw [List.length_cons,List.length_cons,eL.length h]
theorem eL.cut {B H:Hp}:∀ {τ:SD}{σ:L2.St}{P:List Addr}{i:Nat},eL K B H τ σ P->i < τ.length->∃ A f C,P=A ++ f ++ C/\(∀ d,τ[i]?=some (some d)->∃ v,σ[i]?=some (some v)/\Rep K B No H d v f) /\
  ∀ {B' H':Hp}{d':D}{v':V}{f':List Addr},(∀ d v g,Rep K B No H d v g->(∀ a ∈ g,a ∈ A ++ C)->Rep K B' No H' d v g)->Rep K B' No H' d' v' f'->eL K B' H' (τ.set i (some d')) (σ.set i (some v')) (A ++ f' ++ C)
 | [],σ,P,i,h,hi=>absurd hi (Nat.not_lt_zero _)
 | none :: r,σ,P,0,h,hi=>by
  obtain ⟨o,t,rfl,h⟩:=h
  refine ⟨[],[],P,rfl,fun d e=>by simp at e,fun {B' H' d' v' f'} hm hr=>⟨v',t,f',P,rfl,hr,?_,rfl⟩⟩
  revert hm
  have key:∀ {τ:SD}{σ:L2.St}{Q:List Addr},eL K B H τ σ Q->(∀ d v g,Rep K B No H d v g->(∀ a ∈ g,a ∈ Q)->Rep K B' No H' d v g)->eL K B' H' τ σ Q:=by
   intro τ
   induction τ with
   | nil=>intro σ Q h _; exact h
   | cons o r ih =>
    intro σ Q h hm
    cases o with
    | none=>obtain ⟨o,t,e,h⟩:=h; exact ⟨o,t,e,ih h hm⟩
    | some d =>
     obtain ⟨v,t,f,g,e,h1,h2,z⟩:=h
     subst z
     exact ⟨v,t,f,g,e,hm d v f h1 (fun a m=>List.mem_append_left _ m),ih h2 (fun d v g' hr hg=>hm d v g' hr fun a m=>List.mem_append_right _ (hg a m)),rfl⟩
  exact fun hm=>key h hm
 | some d :: r,σ,P,0,h,hi=>by
  obtain ⟨v,t,f,g,rfl,h1,h2,rfl⟩:=h
  refine ⟨[],f,g,by simp,fun d' e=>⟨v,rfl,?_⟩,fun {B' H' d' v' f'} hm hr=>⟨v',t,f',g,rfl,hr,?_,rfl⟩⟩
  ·have e:d=d' := by simpa using e
   subst e
   exact h1
  ·have key:∀ {τ:SD}{σ:L2.St}{Q:List Addr},eL K B H τ σ Q->(∀ d v g,Rep K B No H d v g->(∀ a ∈ g,a ∈ Q)->Rep K B' No H' d v g)->eL K B' H' τ σ Q:=by
    intro τ
    induction τ with
    | nil=>intro σ Q h _; exact h
    | cons o r ih =>
     intro σ Q h hm
     cases o with
     | none=>obtain ⟨o,t,e,h⟩:=h; exact ⟨o,t,e,ih h hm⟩
     | some d =>
      obtain ⟨v,t,f,g,e,h1,h2,z⟩:=h
      subst z
      exact ⟨v,t,f,g,e,hm d v f h1 (fun a m=>List.mem_append_left _ m),ih h2 (fun d v g' hr hg=>hm d v g' hr fun a m=>List.mem_append_right _ (hg a m)),rfl⟩
   exact key h2 hm
 | none :: r,σ,P,i + 1,h,hi=>by
  obtain ⟨o,t,rfl,h⟩:=h
  obtain ⟨A,f,C,e,h1,h2⟩:=eL.cut (i:=i) h (by simpa using hi)
  exact ⟨A,f,C,e,fun d z=>h1 d (by simpa using z),fun hm hr=>⟨o,_,rfl,h2 hm hr⟩⟩
 | some d :: r,σ,P,i + 1,h,hi=>by
  obtain ⟨v,t,f,g,rfl,r1,r2,rfl⟩:=h
  obtain ⟨A,f',C,e,h1,h2⟩:=eL.cut (i:=i) r2 (by simpa using hi)
  subst e
  refine ⟨f ++ A,f',C,by simp,fun d z=>h1 d (by simpa using z),fun {B' H' d' v' f''} hm hr=>?_⟩
  refine ⟨v,_,f,A ++ f'' ++ C,rfl,hm d v f r1 fun a m=>by simp [m],h2 (fun d v g hr hg=>hm d v g hr fun a m=>?_) hr,by simp⟩
  have:=hg a m
  simp at this ⊢
  rcases this with z | z
  ·exact .inr (.inl z)
  ·exact .inr (.inr z)
theorem SI.put {i:Nat}{H1:Hp}{d':D}{v':V}{f':List Addr} (I:SI K H0 B0 B H σ τ P F) (hi:i < τ.length) {A f C:List Addr} (eP:P=A ++ f ++ C)
  (put:∀ {B' H':Hp}{d':D}{v':V}{f':List Addr},(∀ d v g,Rep K B No H d v g->(∀ a ∈ g,a ∈ A ++ C)->Rep K B' No H' d v g)->Rep K B' No H' d' v' f'->eL K B' H' (τ.set i (some d')) (σ.set i (some v')) (A ++ f' ++ C))
  (kp:mK H H1 f) (r:Rep K B No H1 d' v' f') (nd:f'.Nodup) (own:∀ a ∈ f',a ∈ f ∨ (B a=none/\H0 a=none/\H a=none/\¬ F a) ∨ (a ∉ P/\B a=none/\H0 a=none/\¬ F a)) :
  SI K H0 B0 B H1 (σ.set i (some v')) (τ.set i (some d')) (A ++ f' ++ C) F:=by
 have nd0:=I.nd
 rw [eP] at nd0
 have ndA:A.Nodup:=(nd0.sublist (by simp)).sublist (List.sublist_append_left A (f ++ C))
 have kb:∀ a o,B a=some o->a ∉ f:=fun a o e m=>by
  have:=(I.own a (by rw [eP]; simp [m])).1
  rw [e] at this; cases this
 have k0:∀ a o,H0 a=some o->a ∉ f:=fun a o e m=>by
  have:=(I.own a (by rw [eP]; simp [m])).2.1
  rw [e] at this; cases this
 have kf:∀ a,F a->a ∉ f:=fun a e m=>(I.own a (by rw [eP]; simp [m])).2.2 e
 have notin:∀ a ∈ f',a ∉ A/\a ∉ C:=fun a m=>by
  rcases own a m with q | q | q
  ·rw [List.append_assoc,List.nodup_append] at nd0
   obtain ⟨n1,n2,n3⟩:=nd0
   rw [List.nodup_append] at n2
   exact ⟨fun z=>n3 a z a (by simp [q]) rfl,fun z=>n2.2.2 a q a z rfl⟩
  ·exact ⟨fun z=>I.stands (a:=a) (by rw [eP]; simp [z]) q.2.2.1,fun z=>I.stands (a:=a) (by rw [eP]; simp [z]) q.2.2.1⟩
  ·exact ⟨fun z=>q.1 (by rw [eP]; simp [z]),fun z=>q.1 (by rw [eP]; simp [z])⟩
 refine ⟨fun a o e=>kp.keep a o (I.bh a o e) (kb a o e),fun a o e=>kp.keep a o (I.h0 a o e) (k0 a o e),I.b0,I.nb,?_,?_,fun a m=>?_,fun a m=>⟨(I.fr a m).1,fun z=>?_⟩⟩
 ·refine put (fun d v g hr hg=>hr.keep kp fun a m z=>?_) r
  have h1:=hg a m
  rw [List.append_assoc,List.nodup_append] at nd0
  obtain ⟨n1,n2,n3⟩:=nd0
  rw [List.nodup_append] at n2
  rcases List.mem_append.mp h1 with q | q
  ·exact n3 a q a (by simp [z]) rfl
  ·exact n2.2.2 a z a q rfl
 ·rw [List.append_assoc,List.nodup_append] at nd0 ⊢
  obtain ⟨n1,n2,n3⟩:=nd0
  rw [List.nodup_append] at n2
  refine ⟨n1,List.nodup_append.mpr ⟨nd,n2.2.1,fun a ha b hb e=>?_⟩,fun a ha b hb e=>?_⟩
  ·subst e; exact (notin a ha).2 hb
  ·subst e
   rcases List.mem_append.mp hb with q | q
   ·exact (notin a q).1 ha
   ·exact n3 a ha a (by simp [q]) rfl
 ·rcases List.mem_append.mp m with q | q
  ·rcases List.mem_append.mp q with q | q
   ·exact I.own a (by rw [eP]; simp [q])
   ·rcases own a q with q | q | q
    ·exact I.own a (by rw [eP]; simp [q])
    ·exact ⟨q.1,q.2.1,q.2.2.2⟩
    ·exact ⟨q.2.1,q.2.2.1,q.2.2.2⟩
  ·exact I.own a (by rw [eP]; simp [q])
 ·obtain ⟨o,e⟩:=Option.ne_none_iff_exists'.mp (I.fr a m).2
  rw [kp.keep a o e (kf a m)] at z
  cases z
theorem mK.same {f:List Addr} (h:∀ a ∈ f,∃ o,H a=some o/\qO o):mK H H f:=⟨fun _ _ h _=>h,h⟩
theorem f9 (A f C:List Addr):∀ a ∈ f,a ∈ A ++ f ++ C:=fun a m=>by simp [m]
theorem SI.set {d:D}{v:V}{fp:List Addr} (i:Nat) (I:SI K H0 B0 B H σ τ P F) (r:Rep K B No H d v fp) (k:gQ H0 B H P F fp):∃ P',SI K H0 B0 B H (σ.set i (some v)) (τ.set i (some d)) P' F/\∀ a ∈ P',a ∈ P ∨ a ∈ fp:=by
 by_cases hi:i < τ.length
 ·obtain ⟨A,f,C,e,h1,h2⟩:=I.rep.cut hi
  refine ⟨_,I.put hi e h2 (mK.same fun a m=>I.rep.own a (by rw [e]; exact f9 A f C a m)) r k.nd fun a m=>.inr (.inr ?_),fun a m=>?_⟩
  ·obtain ⟨a1,a2,a3,a4,a5⟩:=k.own a m
   exact ⟨a4,a1,a2,a5⟩
  ·rw [e]; simp at m ⊢; rcases m with m | m | m <;> simp [m]
 ·have e1:τ.set i (some d)=τ:=List.set_eq_of_length_le (by omega)
  have e2:σ.set i (some v)=σ:=List.set_eq_of_length_le (by rw [<- I.rep.length]; omega)
  rw [e1,e2]
  exact ⟨P,I,fun a m=>.inl m⟩
def jo (i:Nat) (τ:SD) (d:D):Fl:=if d.aE=true then .bad else .nx (τ.set i (some d))
def bf (i:Nat) (f:SD->Res D) (τ:SD):Fl:=(f τ).nV τ (jo i τ)
theorem bL {i:Nat}{x:Str}{pos':Pos} (hN:X.N.Nodup) (hi:X.N[i]?=some x) (hx:Loc X.env.scope x) (he:PE X e (tM X.K Y fe)) (hs:swapsWith e (some (.Name x pos')) pos.line X.env=pure false:=by rfl) (hf:X.fn x=true ∨ X.env.scope.names.lookup x=some .local:=by first | exact .inl rfl | exact .inr rfl) :
  PS X (.Assign [.Name x pos'] e pos) (mw X.K Y (bf i fe)) :=
 PS.imp (E9 hN hi hx he hs hf) fun E σ H hq=>ex7 hq fun H0 B0 B τ P I h=>p6 I h fun d v H1 B1 fp _ I1 _ _ r1 k1 h1=>by
  unfold jo at h1
  split at h1
  ·exact h1.elim
  ·rename_i hb
   obtain ⟨P',I',_⟩:=I1.set i (r1.iT (by simpa using hb)) k1
   exact h1 B1 H1 _ P' ⟨I',aw.refl _,nU.refl _⟩
def cI (js:List Nat) (τ:SD):SD:=js.foldl (fun t j=>match t[j]? with | some (some d)=>t.set j (some d.aG) | _=>t) τ
theorem SI.Jt (j:Nat) {d:D} (I:SI K H0 B0 B H σ τ P No) (hd:τ[j]?=some (some d)):∃ B' P',aw B B'/\SI K H0 B0 B' H σ (τ.set j (some d.aG)) P' No:=by
 have hi:j < τ.length:=(List.getElem?_eq_some_iff.mp hd).1
 obtain ⟨A,f,C,e,h1,h2⟩:=I.rep.cut hi
 obtain ⟨v,e1,r1⟩:=h1 d hd
 have sB:aw B (atRest B H (· ∈ f)):=dO I.bh
 have nd0:=I.nd
 rw [e] at nd0
 have dis:∀ a ∈ A ++ C,a ∉ f:=fun a m z=>by
  rw [List.append_assoc,List.nodup_append] at nd0
  obtain ⟨n1,n2,n3⟩:=nd0
  rw [List.nodup_append] at n2
  rcases List.mem_append.mp m with q | q
  ·exact n3 a q a (by simp [z]) rfl
  ·exact n2.2.2 a z a q rfl
 have es:σ.set j (some v)=σ:=by
  refine List.ext_getElem? fun k=>?_
  by_cases hk:k=j
  ·subst hk
   rw [List.getElem?_set_self (List.getElem?_eq_some_iff.mp e1).1,e1]
  ·rw [List.getElem?_set_ne (Ne.symm hk)]
 have rr:=h2 (B' := atRest B H (· ∈ f)) (H' := H) (d' := d.aG) (v' := v) (f' := []) (fun d v g hr hg=>hr.mono (aw.refl _) sB fun _ x=>x) (r1.aG sB (fun a o s=>s.elim) fun a m o ho=>fQ m ho)
 rw [es] at rr
 refine ⟨atRest B H (· ∈ f),A ++ [] ++ C,sB,iF I.bh,I.h0,I.b0.trans sB,fun a n=>?_,rr,?_,fun a m=>?_,fun a m=>m.elim⟩
 ·by_cases m:a ∈ f
  ·exact .inr (I.own a (by rw [e]; exact f9 A f C a m)).2.1
  ·rw [ic m] at n; exact I.nb a n
 ·rw [List.append_nil]
  refine nd0.sublist ?_
  rw [List.append_assoc]
  exact List.Sublist.append (List.Sublist.refl _) (List.sublist_append_right _ _)
 ·rw [List.append_nil] at m
  obtain ⟨a1,a2,a3⟩:=I.own a (by rw [e]; rcases List.mem_append.mp m with q | q <;> simp [q])
  exact ⟨by rw [ic (dis a m)]; exact a1,a2,fun x=>x⟩
theorem SI.cI:∀ (js:List Nat) {B:Hp}{τ:SD}{P:List Addr},SI K H0 B0 B H σ τ P No->∃ B' P',aw B B'/\SI K H0 B0 B' H σ (DL.cI js τ) P' No
 | [],B,τ,P,I=>⟨B,P,aw.refl _,I⟩
 | j :: js,B,τ,P,I=>by
  unfold DL.cI
  rw [List.foldl_cons]
  cases e:τ[j]? with
  | none=>exact SI.cI js I
  | some o =>
   cases o with
   | none=>exact SI.cI js I
   | some d =>
    obtain ⟨B1,P1,s1,I1⟩:=I.Jt j e
    obtain ⟨B2,P2,s2,I2⟩:=SI.cI js I1
    exact ⟨B2,P2,s1.trans s2,I2⟩
def jB (js:List Nat) (g:SF) (τ:SD):Fl:=g (cI js τ)
theorem HJ (js:List Nat) (h:PS X st (mw X.K Y g)):PS X st (mw X.K Y (jB js g)):=PS.imp h fun E σ H hq=>ex7 hq fun H0 B0 B τ P I h=>by
 obtain ⟨B',P',s,I'⟩:=I.cI js
 exact ⟨H0,B0,B',_,P',I',eU.later h (lC.grow I' s (aw.refl _))⟩
def jc (τ:SD) (i:Nat):Option (List D):=match τ[i]? with | some (some (.lst .own xs))=>some xs | _=>none
theorem zd {τ:SD}{i:Nat}{xs:List D} (h:jc τ i=some xs):τ[i]?=some (some (.lst .own xs)):=by
 unfold jc at h
 split at h
 ·rename_i e; cases h; exact e
 ·cases h
theorem SI.Ju {i:Nat}{xs xs':List D}{gp:List Addr}{a:Addr}{vs vs':List V} (I:SI K H0 B0 B H σ τ P No) (hi:τ[i]?=some (some (.lst .own xs))) (ev:σ[i]?=some (some (.ref a)))
  (k:gQ H0 B H P No gp)
  (items:∀ f,H a=some (.lst vs)->aB K B No H xs vs f->∃ f',aB K B No H xs' vs' f'/\(∀ b ∈ f',b ∈ f ∨ b ∈ gp)/\(f.Nodup->(∀ b ∈ gp,b ∉ f)->f'.Nodup)) (hv:H a=some (.lst vs)) :
  ∃ P',lC K H0 B0 B H B (upd H a (.lst vs')) σ (τ.set i (some (.lst .own xs'))) P' := by
 have hi':i < τ.length:=(List.getElem?_eq_some_iff.mp hi).1
 obtain ⟨A,f,C,e,h1,h2⟩:=I.rep.cut hi'
 obtain ⟨v,e1,r1⟩:=h1 _ hi
 rw [ev] at e1
 cases e1
 obtain ⟨a',ws,g,ea,hq,rl,ef⟩:=r1
 cases ea
 rw [hv] at hq
 cases hq
 subst ef
 have nd0:=I.nd
 rw [e] at nd0
 have ndf:(a :: g).Nodup:=(nd0.sublist (List.sublist_append_left _ _)).sublist (List.sublist_append_right _ _)
 have gdis:∀ b ∈ gp,b ∉ a :: g:=fun b m z=>(k.own b m).2.2.2.1 (by rw [e]; exact f9 _ _ _ b z)
 obtain ⟨f',r',s',n'⟩:=items g hv rl
 obtain ⟨na,ng⟩:=List.nodup_cons.mp ndf
 have hna:a ∉ f' := fun m=>(s' a m).elim na fun z=>gdis a z List.mem_cons_self
 have es:σ.set i (some (.ref a))=σ:=by
  refine List.ext_getElem? fun k=>?_
  by_cases hk:k=i
  ·subst hk
   rw [List.getElem?_set_self (List.getElem?_eq_some_iff.mp ev).1,ev]
  ·rw [List.getElem?_set_ne (Ne.symm hk)]
 have kp:mK H (upd H a (.lst vs')) [a]:=⟨fun b o h n=>by rw [aZ (by simpa using n)]; exact h,fun b m=>by
  have:b=a:=by simpa using m
  subst this
  exact ⟨_,hv,trivial⟩⟩
 have kpf:mK H (upd H a (.lst vs')) (a :: g):=⟨fun b o h n=>kp.keep b o h (fun z=>n (List.mem_cons.mpr (.inl (List.mem_singleton.mp z)))),fun b m=>I.rep.own b (by rw [e]; exact f9 _ _ _ b m)⟩
 have key:=I.put (i:=i) (H1:=upd H a (.lst vs')) (d' := .lst .own xs') (v' := .ref a) (f' := a :: f') hi' e h2 kpf ⟨a,vs',f',rfl,bX,r'.keep kp fun b m=>by
   have:b ≠ a:=fun z=>hna (z ▸ m)
   simpa using this,rfl⟩ (List.nodup_cons.mpr ⟨hna,n' ng fun b m z=>gdis b m (List.mem_cons_of_mem _ z)⟩) fun b m=>?_
 ·rw [es] at key
  exact ⟨_,key,aw.refl _,fun b o h n=>kp.CC h n⟩
 ·rcases List.mem_cons.mp m with q | q
  ·exact .inl (by simp [q])
  ·rcases s' b q with z | z
   ·exact .inl (List.mem_cons_of_mem _ z)
   ·obtain ⟨a1,a2,a3,a4,a5⟩:=k.own b z
    exact .inr (.inr ⟨a4,a1,a2,a5⟩)
end
section
variable {K:PySem.W.Frag}{Y:XY}{H0 B0 B H:Hp}{σ:L2.St}{τ:SD}{P:List Addr}{F:Addr->Prop}{E:Ends}{X:Cx}{pos:Pos}{e c:Expr}{fe:SD->Res D}{gc:SD->Res Bool}
theorem SI.listAt {i:Nat}{xs:List D} (I:SI K H0 B0 B H σ τ P F) (h:τ[i]?=some (some (.lst .own xs))):∃ a vs,σ[i]?=some (some (.ref a))/\H a=some (.lst vs)/\xs.length=vs.length:=by
 obtain ⟨v,f,h1,h2,h3⟩:=I.rep.get h
 obtain ⟨a,vs,g,rfl,q,r,z⟩:=h2
 exact ⟨a,vs,h1,q,r.length⟩
def iG (i:Nat) (f:SD->Res D) (τ:SD):Fl:=match jc τ i with
 | some xs=>(f τ).nV τ fun d=>if d.aE=true then .bad else if xs.length < 16777216 then .nx (τ.set i (some (.lst .own (xs ++ [d])))) else .bad
 | none=>.bad
theorem xZ (i:Nat) {x:Str}{p1 apos cpos:Pos} (he:PE X e (tM X.K Y fe)) (hN:X.N[i]?=some x:=by rfl) (hv:Eg X.env.scope x:=by first | exact Or.inl rfl | exact Or.inr (Or.inl rfl) | exact Or.inr (Or.inr rfl)) (hd:(x == ("__debug__" : Str))=false:=by decide) (hcd:(x == ("__classdict__" : Str))=false:=by decide)
  (hbase:attributeBase (.Name x p1) "append" X.env (eval (.Name x p1) X.env)=eval (.Name x p1) X.env:=by rfl)
  (hfew:((backTo cpos (starEach [e] X.env)).all (fun x=>!x.1) && (backToKw cpos (keywordEach [] X.env)).all (fun x=>x.1.isSome)
   && decide ([e].length + ([]:List Keyword).length + (if ([]:List Keyword).isEmpty then 0 else 1) < 30))=true:=by rfl)
  (hline:(apos.endLine == cpos.line)=true:=by rfl) (hs:starEach [e] X.env=(false,eval e X.env) :: starEach [] X.env:=by rfl) (hplain:(backTo cpos (starEach [] X.env)).any (·.1)=false:=by rfl)
  (hsw:swapsWith (.Call (.Attribute (.Name x p1) "append" apos) [e] [] cpos) none pos.line X.env=pure false:=by rfl) :
  PS X (.Expr (.Call (.Attribute (.Name x p1) "append" apos) [e] [] cpos) pos) (mw X.K Y (iG i fe)):=by
 refine PS.imp (xH (Hl PySem.F.plainAttrs_list PySem.F.slot_list_append PySem.F.type_list_append rE (pJ hN hv hd hcd) (eZ he jW hs) hbase hfew hline hs hplain) hsw) fun E σ H hq=>ex7 hq fun H0 B0 B τ P I h=>?_
 unfold iG at h
 cases z:jc τ i with
 | none=>rw [z] at h; exact h.elim
 | some xs =>
  rw [z] at h
  have hi:=zd z
  obtain ⟨a,vs,ea,ha,hl⟩:=I.listAt hi
  refine ⟨.ref a,ea,.inl ⟨rfl,vs,gI.of ha⟩,p6 I h fun d v H1 B1 fp _ I1 s1 b1 r1 k1 h1=>?_⟩
  split at h1
  ·exact h1.elim
  ·rename_i hb
   split at h1
   ·rename_i hz
    have ha1:=s1 a _ ha
    refine ⟨a,vs,v,rfl,rfl,ha1,by rw [<- hl,sizeLine_eq]; exact hz,?_⟩
    obtain ⟨P',I'⟩:=I1.Ju (xs' := xs ++ [d]) (vs' := vs ++ [v]) hi ea k1 (fun f _ rl=>⟨f ++ fp,rl.append (aB.one (r1.iT (by simpa using hb))),fun b m=>List.mem_append.mp m,fun nf dis=>List.nodup_append.mpr ⟨nf,k1.nd,fun a ha b hb e=>dis b hb (e ▸ ha)⟩⟩) ha1
    exact h1 B1 _ σ P' I'
   ·exact h1.elim
structure FP (K:PySem.W.Frag) (J:It) (ds:List D) (B H:Hp):Prop where
 go:∀ B' H' i d,aw B B'->aw B' H'->nU H H'->ds[i]?=some d->J.go i H'
 yI:∀ B' H' i d x H'',aw B B'->aw B' H'->nU H H'->ds[i]?=some d->J.yI i H' x H''->aw H' H''/\Rep K B' No H'' d x []
 stop:∀ B' H',aw B B'->aw B' H'->nU H H'->J.stop ds.length H'
def HL (K:PySem.W.Frag) (J:It) (ds:List D) (fl:Bool) (B H:Hp) (P fp:List Addr):Prop :=
 ∀ Bx:Hp,aw B Bx->aw Bx H->(∀ a ∈ fp,∀ o,H a=some o->Bx a=some o)->(fl=true->∀ a ∈ P,∀ o,H a=some o->Bx a=some o)->FP K J (aH ds) Bx H
def AF (K:PySem.W.Frag) (Y:XY) (f:SD->Res (Bool × List D)):TI:=fun σ H R=>∃ H0 B0 B τ P F,SI K H0 B0 B H σ τ P F/\match f τ with
 | .ok (fl,ds)=>∀ J H' B' fp,SI K H0 B0 B' H' σ τ P F->aw H H'->aw B B'->gQ H0 B' H' P F fp->HL K J ds fl B' H' P fp->R J H'
 | .d9 C=>lW K Y H0 B0 B H σ τ P F C
 | .bad=>False
theorem PI.imp {tg it:Expr}{t t':TI} (h:PI X tg it t) (hi:∀ σ H R,t' σ H R->t σ H R):PI X tg it t' := fun pins s σ H R I hw=>h pins s σ H R I (hi σ H R hw)
def bI:D->Res (Bool × List D)
 | .lst t xs=>.ok ((D.lst t xs).aE,xs)
 | .tup xs=>.ok ((D.tup xs).aE,xs)
 | _=>.bad
def jQ (f:SD->Res D) (τ:SD):Res (Bool × List D):=(f τ).bind bI
theorem FQ {tg l:Expr}{tl:TE} (hl:PE X l tl):PI X tg l (fun σ H R=>tl σ H fun x H1=>(∃ a,x=.ref a/\(∃ xs,gI X.K H1 a xs)/\R (IQ X.K a) H1) ∨ ∃ a,x=.ref a/\(∃ xs,jR X.K H1 a xs)/\R (IS X.K a) H1):=by
 intro pins s σ H R I h
 refine fz (hl pins s σ H _ I h) fun v s1 hq5=>L2.ex5 hq5 fun x H1 I1 r1 q1=>?_
 rcases q1 with ⟨a,e,⟨xs,hq⟩,q⟩ | ⟨a,e,⟨xs,hq⟩,q⟩
 ·subst e
  cases r1
  obtain ⟨its,rv,p,hz⟩:=I1.list hq
  refine wpAny_pyIter_list p.isList ?_
  refine ⟨s1.heap.objs.size,[s1.heap.objs.size],_,_,H1,rfl,I1.kept (t' := s1.toks) fun b o e=>Heap.get?_push_of_some _ e,yO a _,⟨_,Heap.get?_push_size _ rfl,rfl,rfl⟩,fun b hb=>?_,q⟩
  have e:b=s1.heap.objs.size:=by simpa using hb
  subst e
  exact I1.sJ (Nat.le_refl _) (I1.hok.fresh (Nat.le_refl _))
 ·subst e
  cases r1
  obtain ⟨its,rv,p,hz⟩:=I1.tuple hq
  refine wpAny_pyIter_tuple (show s1.heap.IsTuple a its.toArray from p) ?_
  refine ⟨s1.heap.objs.size,[s1.heap.objs.size],_,_,H1,rfl,I1.kept (t' := s1.toks) fun b o e=>Heap.get?_push_of_some _ e,vX a _,⟨_,Heap.get?_push_size _ rfl,rfl,rfl⟩,fun b hb=>?_,q⟩
  have e:b=s1.heap.objs.size:=by simpa using hb
  subst e
  exact I1.sJ (Nat.le_refl _) (I1.hok.fresh (Nat.le_refl _))
theorem SI.HK {fp:List Addr} (I:SI K H0 B0 B H σ τ P F) (k:gQ H0 B H P F fp):SI K H0 B0 (atRest B H (· ∈ fp)) H σ τ P F/\aw B (atRest B H (· ∈ fp)):=by
 have sB:aw B (atRest B H (· ∈ fp)):=dO I.bh
 refine ⟨⟨iF I.bh,I.h0,I.b0.trans sB,fun a n=>?_,I.rep.mono (aw.refl _) sB,I.nd,fun a m=>?_,fun a m=>?_⟩,sB⟩
 ·by_cases m:a ∈ fp
  ·exact .inr (k.own a m).2.1
  ·rw [ic m] at n; exact I.nb a n
 ·obtain ⟨a1,a2,a3⟩:=I.own a m
  exact ⟨by rw [ic fun z=>(k.own a z).2.2.2.1 m]; exact a1,a2,a3⟩
 ·obtain ⟨a1,a2⟩:=I.fr a m
  exact ⟨by rw [ic fun z=>(k.own a z).2.2.2.2 m]; exact a1,a2⟩
mutual
theorem Rep.stay {B B' H H':Hp} (sB:aw B B') (im:nU H H'):∀ {d:D}{v:V}{fp:List Addr},fp=[]->Rep K B No H d v fp->Rep K B' No H' d v fp
 | .cY,_,_,_,h=>h
 | .bl _,_,_,_,h=>h
 | .int _,_,_,_,h=>h
 | .str _,_,_,_,h=>h
 | .exc _,_,_,_,h=>let ⟨⟨a,e,t,tb,u,h1⟩,r⟩:=h; ⟨⟨a,e,t,tb,u,im _ _ h1 (fun x=>x)⟩,r⟩
 | .tup xs,v,fp,ef,h=>by
  obtain ⟨a,vs,e,q,r⟩:=h
  exact ⟨a,vs,e,im _ _ q (fun x=>x),aB.stay sB im ef r⟩
 | .lst .own xs,v,fp,ef,h=>by obtain ⟨a,vs,f,e,q,r,z⟩:=h; rw [ef] at z; cases z
 | .lst .bor xs,v,fp,ef,h=>let ⟨a,vs,e,q,r,z⟩:=h; ⟨a,vs,e,.inr (eN sB (q.resolve_left fun y=>y.1)),aB.stay sB im rfl r,z⟩
 | .lst .aG xs,v,fp,ef,h=>let ⟨a,vs,e,q,r,z⟩:=h; ⟨a,vs,e,eN sB q,aB.stay sB im rfl r,z⟩
 | .dct .own kd ks xs,v,fp,ef,h=>by obtain ⟨a,vs,f,e,q,r,z⟩:=h; rw [ef] at z; cases z
 | .dct .bor kd ks xs,v,fp,ef,h=>let ⟨a,vs,e,q,r,z⟩:=h; ⟨a,vs,e,.inr ((q.resolve_left fun y=>y.1).mono sB),aB.stay sB im rfl r,z⟩
 | .dct .aG kd ks xs,v,fp,ef,h=>let ⟨a,vs,e,q,r,z⟩:=h; ⟨a,vs,e,q.mono sB,aB.stay sB im rfl r,z⟩
theorem aB.stay {B B' H H':Hp} (sB:aw B B') (im:nU H H'):∀ {ds:List D}{vs:List V}{fp:List Addr},fp=[]->aB K B No H ds vs fp->aB K B' No H' ds vs fp
 | [],_,_,_,h=>h
 | d :: ds,vs,fp,ef,h=>by
  obtain ⟨v,r,f,g,e,h1,h2,z⟩:=h
  rw [ef] at z
  obtain ⟨z1,z2⟩:=l3 z
  exact ⟨v,r,f,g,e,Rep.stay sB im z1 h1,aB.stay sB im z2 h2,by rw [ef,z1,z2]; rfl⟩
end
theorem mP {f:List Addr} (h:List.Sublist f []):f=[]:=List.sublist_nil.mp h
theorem AI {a:Addr}{ds:List D}{vs:List V} (q:gI K B a vs) (r:aB K B No H ds vs []):FP K (IQ K a) ds B H where
 go:=fun B' H' i d s1 s2 im e=>by
  obtain ⟨v,f,h1,_⟩:=r.get e
  exact ⟨vs,v,gk (eN (s1.trans s2) q),h1⟩
 yI:=fun B' H' i d x H'' s1 s2 im e y=>by
  obtain ⟨rfl,y⟩:=y
  obtain ⟨v,f,h1,h2,h3⟩:=r.get e
  have z:=y vs (gk (eN (s1.trans s2) q))
  rw [h1] at z
  cases z
  cases mP h3
  exact ⟨aw.refl _,h2.stay s1 im rfl⟩
 stop:=fun B' H' s1 s2 im=>⟨vs,gk (eN (s1.trans s2) q),by rw [r.length]; exact Nat.le_refl _⟩
theorem mQ {a:Addr}{vs:List V}{H':Hp} (im:nU H H') (q:jR K H a vs):jR K H' a vs:=by
 rcases q with (q | ⟨o,q⟩) | q
 ·exact .inl (.inl (im _ _ q (fun x=>x)))
 ·exact .inl (.inr ⟨o,im _ _ q (fun x=>x)⟩)
 ·exact .inr q
theorem Dm {a:Addr}{ds:List D}{vs:List V} (q:jR K H a vs) (r:aB K B No H ds vs []):FP K (IS K a) ds B H where
 go:=fun B' H' i d s1 s2 im e=>by
  obtain ⟨v,f,h1,_⟩:=r.get e
  exact ⟨vs,v,mQ im q,h1⟩
 yI:=fun B' H' i d x H'' s1 s2 im e y=>by
  obtain ⟨rfl,y⟩:=y
  obtain ⟨v,f,h1,h2,h3⟩:=r.get e
  have z:=y vs (mQ im q)
  rw [h1] at z
  cases z
  cases mP h3
  exact ⟨aw.refl _,h2.stay s1 im rfl⟩
 stop:=fun B' H' s1 s2 im=>⟨vs,mQ im q,by rw [r.length]; exact Nat.le_refl _⟩
theorem ze {lo:Int}{n:Nat}:FP K (GW lo n) ((List.range n).map fun k:Nat=>D.int (lo + k)) B H where
 go:=fun B' H' i d s1 s2 im e=>by
  have:=(List.getElem?_eq_some_iff.mp e).1
  show i < n
  simpa using this
 yI:=fun B' H' i d x H'' s1 s2 im e y=>by
  obtain ⟨rfl,rfl⟩:=y
  have hi:=(List.getElem?_eq_some_iff.mp e).1
  rw [List.length_map,List.length_range] at hi
  rw [List.getElem?_map,List.getElem?_range hi] at e
  cases e
  exact ⟨aw.refl _,rfl,rfl⟩
 stop:=fun B' H' s1 s2 im=>by
  show n <= _
  rw [List.length_map,List.length_range]
  exact Nat.le_refl _
theorem lE {Bx:Hp}{fp:List Addr}{d:D}{v:V} (r:Rep K B (· ∈ P) H d v fp) (sB:aw B Bx) (h1:∀ a ∈ fp,∀ o,H a=some o->Bx a=some o) (h2:d.aE=true->∀ a ∈ P,∀ o,H a=some o->Bx a=some o):Rep K Bx No H d.aG v []:=by
 by_cases hb:d.aE=true
 ·exact r.aG sB (fun a o s h=>h2 hb a s o h) h1
 ·exact (r.iT (by simpa using hb)).aG sB (fun a o s=>s.elim) h1
theorem nW {tg:Expr} (he:PE X e (tM X.K Y fe)):PI X tg e (AF X.K Y (jQ fe)):=by
 refine PI.imp (FQ he) fun σ H R hq=>ex8 hq fun H0 B0 B τ P F I h=>⟨H0,B0,B,τ,P,F,I,?_⟩
 cases z:fe τ with
 | d9 C=>simp only [jQ,z,Res.mJ] at h; exact h
 | bad=>simp only [jQ,z,Res.mH] at h
 | ok d =>
  simp only [jQ,z,Res.aQ] at h
  intro v H1 B1 fp I1 s1 b1 r1 k1
  cases d with
  | lst t xs =>
   simp only [bI] at h
   obtain ⟨a,vs,g,rfl,q,_⟩:=r1.lst I1
   refine .inl ⟨a,rfl,⟨vs,gk q⟩,h _ H1 _ fp I1 s1 b1 k1 fun Bx sB sH h1 h2=>?_⟩
   obtain ⟨a',ws,ea,q',rl,_⟩:Rep X.K Bx No H1 (D.lst .aG (aH xs)) (.ref a) []:=lE r1 sB h1 h2
   cases ea
   exact AI q' rl
  | tup xs =>
   simp only [bI] at h
   obtain ⟨a,vs,rfl,q,_⟩:=r1.tp
   refine .inr ⟨a,rfl,⟨vs,q⟩,h _ H1 _ fp I1 s1 b1 k1 fun Bx sB sH h1 h2=>?_⟩
   obtain ⟨a',ws,ea,q',rl⟩:Rep X.K Bx No H1 (D.tup (aH xs)) (.ref a) []:=lE r1 sB h1 h2
   cases ea
   exact Dm (jR.of q') rl
  | _=>exact h.elim
theorem aU (f:Nat->Int) (l:List Nat):aH (l.map fun k=>D.int (f k))=l.map fun k=>D.int (f k):=by
 induction l with
 | nil=>rfl
 | cons a r ih=>rw [List.map_cons,aH,ih]; rfl
def lD:List D->Res (Bool × List D)
 | [.int j]=>if -1000000000 <= j/\j <= 1000000000 then .ok (false,(List.range j.toNat).map fun k:Nat=>.int (0 + k)) else .bad
 | _=>.bad
def bo (f:SD->Res (List D)) (τ:SD):Res (Bool × List D):=(f τ).bind lD
theorem uS {fs:SD->Res (List D)}{R:It->Hp->Prop}:AF X.K Y (bo fs) σ H R->zS (pU X.K Y fs) σ H R:=by
 rintro ⟨H0,B0,B,τ,P,F,I,h⟩
 refine ⟨H0,B0,B,τ,P,F,I,?_⟩
 cases z:fs τ with
 | d9 C=>simp only [bo,z,Res.mJ] at h; exact h
 | bad=>simp only [bo,z,Res.mH] at h
 | ok ds =>
  simp only [bo,z,Res.aQ] at h
  intro vs H1 B1 fp I1 s1 b1 r1 k1
  cases y:lD ds with
  | d9 C=>exfalso; unfold lD at y; split at y <;> first | (split at y <;> cases y) | cases y
  | bad=>rw [y] at h; exact h.elim
  | ok es =>
   rw [y] at h
   unfold lD at y
   split at y
   ·split at y
    ·rename_i hc
     cases y
     obtain ⟨v,rfl,rfl,rfl⟩:=kH r1
     exact ⟨_,rfl,(by omega),(by omega),h _ H1 B1 [] I1 s1 b1 gQ.nil fun Bx _ _ _ _=>by rw [aU]; exact ze⟩
    ·cases y
   ·cases y
theorem eG {tg a:Expr}{fs:SD->Res (List D)}{p:Pos} (hg:Gl X "range") (hm:X.mg "range" = none) (ha:PA X [a] (pU X.K Y fs)) (hs:starEach [a] X.env=[(false,eval a X.env)]:=by rfl):PI X tg (.Call (.Name "range" p) [a] [] pos) (AF X.K Y (bo fs)) :=
 PI.imp (yL hg hm ha hs) fun σ H R h=>uS h
def cS (xs:List D):List D:=xs.mapIdx fun i d=>.tup [.int i,d]
def dm (f:SD->Res (List D)) (τ:SD):Res (Bool × List D):=(f τ).bind fun ds=>match ds with | [d]=>(bI d).map fun p=>(p.1,cS p.2) | _=>.bad
theorem uR (xs:List D):∀ (f:Nat->Nat),aH (xs.mapIdx fun i d=>D.tup [.int (f i),d])=(aH xs).mapIdx fun i d=>D.tup [.int (f i),d]:=by
 induction xs with
 | nil=>intro f; rfl
 | cons a r ih =>
  intro f
  rw [List.mapIdx_cons,aH,aH,List.mapIdx_cons]
  exact congrArg _ (ih fun i=>f (i + 1))
theorem nX (xs:List D):aH (cS xs)=cS (aH xs):=uR xs id
theorem uQ {src:Hp->List V->Prop}{ds:List D}{vs:List V} (r:aB K B No H ds vs []) (q:∀ B' H':Hp,aw B B'->aw B' H'->nU H H'->src H' vs):FP K (Iu src) (cS ds) B H where
 go:=fun B' H' i d s1 s2 im e=>by
  have hi:=(List.getElem?_eq_some_iff.mp e).1
  unfold cS at hi
  rw [List.length_mapIdx,r.length] at hi
  exact ⟨vs,vs[i],q B' H' s1 s2 im,List.getElem?_eq_getElem hi⟩
 yI:=fun B' H' i d x H'' s1 s2 im e y=>by
  obtain ⟨p,w,rfl,hp,rfl,hy⟩:=y
  have hi:=(List.getElem?_eq_some_iff.mp e).1
  unfold cS at hi e
  rw [List.length_mapIdx] at hi
  rw [List.getElem?_mapIdx,List.getElem?_eq_getElem hi] at e
  cases e
  have z:=hy vs (q B' H' s1 s2 im)
  obtain ⟨v,f,h1,h2,h3⟩:=r.get (List.getElem?_eq_getElem hi)
  rw [z] at h1
  cases h1
  cases mP h3
  have s:=ib (o := .tup [.int i,w]) hp
  exact ⟨s,p,[.int i,w],rfl,bX,.int i,[w],[],[],rfl,⟨rfl,rfl⟩,aB.one ((h2.stay s1 im rfl).mono s (aw.refl _) (fun _ x=>x)),rfl⟩
 stop:=fun B' H' s1 s2 im=>⟨vs,q B' H' s1 s2 im,by unfold cS; rw [List.length_mapIdx,r.length]; exact Nat.le_refl _⟩
theorem AG {elts:List Expr}{x1:Nat}{tp p:Pos}{l:Expr}{ta:TA} (hg:Gl X "enumerate") (hm:X.mg "enumerate" = none) (ha:PA X [l] ta) (hs:starEach [l] X.env=[(false,eval l X.env)]:=by rfl) :
  PI X (.Tuple elts x1 tp) (.Call (.Name "enumerate" p) [l] [] pos) (fun σ H R=>ta σ H fun vs H1=>(∃ a xs,vs=[.ref a]/\gI X.K H1 a xs/\R (Iu fun H xs=>gI X.K H a xs) H1) ∨ ∃ a xs,vs=[.ref a]/\jR X.K H1 a xs/\R (Iu fun H xs=>jR X.K H a xs) H1):=by
 intro pins s σ H R I h
 refine wpAny_Call_Name_kw (jT I hg hm (by decide +kernel:bootBuiltins "enumerate" = some (.type "enumerate")) ?_)
 refine PyProof.Rows.callWith_type1 (fz (ha pos pins s σ H _ I h) fun us s1 hq5=>L2.ex5 hq5 fun vs H1 I1 r1 q1=>?_) hs rfl
 rcases q1 with ⟨a,xs,rfl,hq,q⟩ | ⟨a,xs,rfl,hq,q⟩
 ·obtain ⟨u,rfl,ru⟩:=vals1 r1
  cases ru
  obtain ⟨its,rv,pl,hz⟩:=I1.list hq
  refine call_enumerate_list pl.isList fun h' e1 e2 e3 e4=>wpAny_pyIter_enum e1 ?_
  have I2:Inv X pins σ H1 { s1 with heap:=h' }:=I1.kept (t' := s1.toks) e4
  obtain ⟨o,c1,c2,c3⟩:=e2
  refine ⟨_,_,_,_,H1,rfl,I2,rG (src_list a s1.heap.objs.size) (Nat.succ_ne_self _),⟨⟨_,e1⟩,o,c1,c2,c3⟩,fun b hb=>?_,q⟩
  rcases List.mem_cons.mp hb with z | z
  ·subst z
   exact I1.sJ (Nat.le_succ _) (I1.hok.fresh (Nat.le_succ _))
  ·have z:b=s1.heap.objs.size:=by simpa using z
   subst z
   exact I1.sJ (Nat.le_refl _) (I1.hok.fresh (Nat.le_refl _))
 ·obtain ⟨u,rfl,ru⟩:=vals1 r1
  cases ru
  obtain ⟨its,rv,pl,hz⟩:=I1.tuple hq
  refine qN (jZ pl) fun h' e1 e2 e4=>wpAny_pyIter_enum e1 ?_
  have I2:Inv X pins σ H1 { s1 with heap:=h' }:=I1.kept (t' := s1.toks) e4
  obtain ⟨o,c1,c2,c3⟩:=e2
  refine ⟨_,_,_,_,H1,rfl,I2,rG (Df a s1.heap.objs.size) (Nat.succ_ne_self _),⟨⟨_,e1⟩,o,c1,c2,c3⟩,fun b hb=>?_,q⟩
  rcases List.mem_cons.mp hb with z | z
  ·subst z
   exact I1.sJ (Nat.le_succ _) (I1.hok.fresh (Nat.le_succ _))
  ·have z:b=s1.heap.objs.size:=by simpa using z
   subst z
   exact I1.sJ (Nat.le_refl _) (I1.hok.fresh (Nat.le_refl _))
theorem tq {elts:List Expr}{x1:Nat}{tp p:Pos}{l:Expr}{fs:SD->Res (List D)} (hg:Gl X "enumerate") (hm:X.mg "enumerate" = none) (ha:PA X [l] (pU X.K Y fs)) (hs:starEach [l] X.env=[(false,eval l X.env)]:=by rfl) :
  PI X (.Tuple elts x1 tp) (.Call (.Name "enumerate" p) [l] [] pos) (AF X.K Y (dm fs)):=by
 refine PI.imp (AG hg hm ha hs) fun σ H R hq=>ex8 hq fun H0 B0 B τ P F I h=>⟨H0,B0,B,τ,P,F,I,?_⟩
 cases z:fs τ with
 | d9 C=>simp only [dm,z,Res.mJ] at h; exact h
 | bad=>simp only [dm,z,Res.mH] at h
 | ok ds =>
  simp only [dm,z,Res.aQ] at h
  intro vs H1 B1 fp I1 s1 b1 r1 k1
  match ds,r1,h with
  | [d],r1,h =>
   obtain ⟨v,rfl,r1'⟩:=kH r1
   simp only at h
   cases d with
   | lst t xs =>
    simp only [bI,Res.Av] at h
    obtain ⟨a,vs,g,rfl,q,_⟩:=r1'.lst I1
    refine .inl ⟨a,vs,rfl,gk q,h _ H1 _ fp I1 s1 b1 k1 fun Bx sB sH h1 h2=>?_⟩
    obtain ⟨a',ws,ea,q',rl,_⟩:Rep X.K Bx No H1 (D.lst .aG (aH xs)) (.ref a) []:=lE r1' sB h1 h2
    cases ea
    rw [nX]
    exact uQ rl fun B' H' z1 z2 _=>gk (eN (z1.trans z2) q')
   | tup xs =>
    simp only [bI,Res.Av] at h
    obtain ⟨a,vs,rfl,q,_⟩:=r1'.tp
    refine .inr ⟨a,vs,rfl,q,h _ H1 _ fp I1 s1 b1 k1 fun Bx sB sH h1 h2=>?_⟩
    obtain ⟨a',ws,ea,q',rl⟩:Rep X.K Bx No H1 (D.tup (aH xs)) (.ref a) []:=lE r1' sB h1 h2
    cases ea
    rw [nX]
    exact uQ rl fun B' H' z1 z2 im=>mQ im (jR.of q')
   | _=>exact h.elim
  | [],r1,h=>exact h.elim
  | _ :: _ :: _,r1,h=>exact h.elim
abbrev x6:=D->SD->Option SD
def FT (K:PySem.W.Frag) (g:x6):TG:=fun v σ H Q=>∃ H0 B0 B τ P F d fp,SI K H0 B0 B H σ τ P F/\Rep K B No H d v fp/\gQ H0 B H P F fp/\match g d τ with
 | some τ'=>∀ H' σ' P',SI K H0 B0 B H' σ' τ' P' F->H'=H->Q σ' H'
 | none=>False
def gN (i:Nat) (d:D) (τ:SD):Option SD:=some (τ.set i (some d))
theorem PG.imp {tg:Expr}{t t':TG} (h:PG X tg t) (hi:∀ v σ H Q,t' v σ H Q->t v σ H Q):PG X tg t' := fun pins s σ H v u Q I r hw=>h pins s σ H v u Q I r (hi v σ H Q hw)
theorem eV {i:Nat}{x:Str} (hN:X.N.Nodup) (hi:X.N[i]?=some x) (hx:Loc X.env.scope x) (hf:X.fn x=true ∨ X.env.scope.names.lookup x=some .local:=by first | exact .inl rfl | exact .inr rfl):PG X (.Name x pos) (FT X.K (gN i)) :=
 PG.imp (xD hN hi hx hf) fun v σ H Q hq=>ex12 hq fun H0 B0 B τ P F d fp I r k h=>by
  obtain ⟨P',I',_⟩:=I.set i r k
  exact h H _ P' I' rfl
abbrev AH:=List D->SD->Option SD
def Dn (K:PySem.W.Frag) (g:AH):CH:=fun vs σ H Q=>∃ H0 B0 B τ P F ds fp,SI K H0 B0 B H σ τ P F/\aB K B No H ds vs fp/\gQ H0 B H P F fp/\match g ds τ with
 | some τ'=>∀ H' σ' P',SI K H0 B0 B H' σ' τ' P' F->H'=H->Q σ' H'
 | none=>False
def cB (ds:List D) (τ:SD):Option SD:=match ds with | []=>some τ | _=>none
def aM (i:Nat) (g:AH) (ds:List D) (τ:SD):Option SD:=match ds with | d :: r=>g r (τ.set i (some d)) | []=>none
theorem yR.imp {tgs:List Expr}{t t':CH} (h:yR X tgs t) (hi:∀ v σ H Q,t' v σ H Q->t v σ H Q):yR X tgs t' := fun pins s σ H v u Q I r hw=>h pins s σ H v u Q I r (hi v σ H Q hw)
theorem mj:yR X [] (Dn X.K cB):=yR.imp CJ fun vs σ H Q hq=>ex12 hq fun H0 B0 B τ P F ds fp I r k h=>by
 cases ds with
 | nil=>exact ⟨r.1,h H σ P I rfl⟩
 | cons d ds=>exact h.elim
theorem eO {i:Nat}{x:Str}{es:List Expr}{g:AH} (hN:X.N.Nodup) (hi:X.N[i]?=some x) (hx:Loc X.env.scope x) (h2:yR X es (Dn X.K g)) (hf:X.fn x=true ∨ X.env.scope.names.lookup x=some .local:=by first | exact .inl rfl | exact .inr rfl)
  (hs:(assignEach (.Name x pos :: es) X.env).map (·.2)=assign (.Name x pos) X.env :: (assignEach es X.env).map (·.2):=by rfl):yR X (.Name x pos :: es) (Dn X.K (aM i g)) :=
 yR.imp (zW (xD hN hi hx hf) h2 hs) fun vs σ H Q hq=>ex12 hq fun H0 B0 B τ P F ds fp I r k h=>by
  cases ds with
  | nil=>exact h.elim
  | cons d ds =>
   obtain ⟨v,w,f1,f2,rfl,r1,r2,rfl⟩:=r
   obtain ⟨P',I',s'⟩:=I.set i r1 k.left
   refine ⟨v,w,rfl,H0,B0,B,_,P',F,ds,f2,I',r2,⟨k.right.nd,fun a m=>?_⟩,h⟩
   obtain ⟨a1,a2,a3,a4,a5⟩:=k.right.own a m
   refine ⟨a1,a2,a3,fun z=>?_,a5⟩
   rcases s' a z with y | y
   ·exact a4 y
   ·exact (List.nodup_append.mp k.nd).2.2 a y a m rfl
def gT (n:Nat) (g:AH) (d:D) (τ:SD):Option SD:=match d with | .tup ds=>if ds.length=n then g ds τ else none | _=>none
theorem p8 {es:List Expr}{k:Nat}{g:AH}{n:Nat} (hc:X.calm=true) (h:yR X es (Dn X.K g))
  (hn:(assignEach es X.env).length=n:=by rfl) (hst:(assignEach es X.env).findIdx? (·.1)=none:=by rfl):PG X (.Tuple es k pos) (FT X.K (gT n g)) :=
 PG.imp (ER hc h hn hst) fun v σ H Q hq=>ex12 hq fun H0 B0 B τ P F d fp I r k h=>by
  cases d with
  | tup ds =>
   obtain ⟨a,vs,rfl,q,rl⟩:=r
   unfold gT at h
   by_cases hl:ds.length=n
   ·simp only [hl,if_true] at h
    exact ⟨a,vs,rfl,jR.of q,by rw [<- rl.length]; exact hl,H0,B0,B,τ,P,F,ds,fp,I,rl,k,h⟩
   ·simp only [hl,if_false] at h
  | _=>exact h.elim
def fK (tg:x6) (body:SF):List D->SF
 | [],τ=>.nx τ
 | d :: r,τ=>match tg d τ with
  | none=>.bad
  | some τ'=>match body τ' with
   | .nx t=>fK tg body r t
   | .ct t=>fK tg body r t
   | .bk t=>.nx t
   | o=>o
def cZ (js:List Nat) (it:SD->Res (Bool × List D)) (tg:x6) (body:SF) (τ:SD):Fl:=match it (cI js τ) with
 | .ok (false,ds)=>fK tg body (aH ds) (cI js τ)
 | .ok (true,_)=>.bad
 | .d9 C=>.ex C (cI js τ)
 | .bad=>.bad
theorem jD (js:List Nat) {tg iter:Expr}{body:List Stmt}{it:SD->Res (Bool × List D)}{tgd:x6}{g:SF} (hp:PassesOwn (model X.prog X.w) X.A X.env X.xe) (hc:X.calm=true) (hi:PI X tg iter (AF X.K Y it)) (hg:PG X tg (FT X.K tgd)) (hb:lY X body (mw X.K Y g))
  (hs:∀ x,foldedSetIterable iter X.env x=pure x:=by intro _; rfl):PS X (.For tg iter body [] pos) (mw X.K Y (cZ js it tgd g)):=by
 refine PS.imp (EY hp hc hi hg hb hs) fun E σ H hq=>ex7 hq fun H0 B0 B τ P I h=>?_
 obtain ⟨Bf,Pf,sf,If⟩:=I.cI js
 have h:eU X.K Y H0 B0 Bf H E (cZ js it tgd g τ):=eU.later h (lC.grow If sf (aw.refl _))
 unfold cZ at h
 refine ⟨H0,B0,Bf,_,Pf,No,If,?_⟩
 cases z:it (cI js τ) with
 | d9 C=>rw [z] at h; exact fun H1 B1 I1 s1 b1=>h B1 H1 σ Pf (lC.grow I1 b1 s1)
 | bad=>rw [z] at h; exact h.elim
 | ok q =>
  obtain ⟨fl,ds0⟩:=q
  rw [z] at h
  intro J H1 B1' fp I1' s1 b1' k1 JA
  cases fl with
  | true=>exact h.elim
  | false =>
  obtain ⟨I1,b2⟩:=I1'.HK k1
  have b1:=b1'.trans b2
  have J1:=JA _ b2 (iF I1'.bh) (fun a m o h=>fQ m h) (fun z=>Bool.noConfusion z)
  generalize atRest B1' H1 (· ∈ fp)=B1 at I1 b1 J1
  have h:eU X.K Y H0 B0 Bf H E (fK tgd g (aH ds0) (cI js τ)):=h
  generalize aH ds0=ds at h J1
  have h:eU X.K Y H0 B0 B1 H1 E (fK tgd g ds (cI js τ)):=eU.later h (lC.grow I1 b1 s1)
  refine ⟨fun i m σ' H'=>m=ds.length - i/\i <= ds.length/\∃ B' τ' P',lC X.K H0 B0 B1 H1 B' H' σ' τ' P'/\eU X.K Y H0 B0 B' H' E (fK tgd g (ds.drop i) τ'),⟨_,rfl,Nat.zero_le _,B1,_,Pf,lC.refl I1,h⟩,?_⟩
  rintro i m σ' H' ⟨rfl,hle,B',τ',P',a,gl⟩
  by_cases hlt:i < ds.length
  ·obtain ⟨d,hd⟩:∃ d,ds[i]?=some d:=⟨ds[i],List.getElem?_eq_getElem hlt⟩
   have hdrop:ds.drop i=d :: ds.drop (i + 1):=by
    rw [List.drop_eq_getElem_cons hlt]
    congr 1
    rw [List.getElem?_eq_getElem hlt] at hd
    exact Option.some.inj hd
   rw [hdrop] at gl
   unfold fK at gl
   refine .inr ⟨J1.go B' H' i d a.b a.si.bh a.CC hd,fun σ2 H2=>∃ B2 τ2 P2,lC X.K H0 B0 B1 H1 B2 H2 σ2 τ2 P2/\eU X.K Y H0 B0 B2 H2 E (fK tgd g (ds.drop (i + 1)) τ2),fun σ2 H2 w=>⟨_,by omega,rfl,hlt,w⟩,fun x H'' y=>?_⟩
   obtain ⟨sy,ry⟩:=J1.yI B' H' i d x H'' a.b a.si.bh a.CC hd y
   have Iy:=a.si.grow sy
   refine ⟨H0,B0,B',τ',P',No,d,[],Iy,ry,gQ.nil,?_⟩
   cases w:tgd d τ' with
   | none=>rw [w] at gl; exact gl.elim
   | some τ2 =>
    rw [w] at gl
    intro H3 σ3 P3 I3 e3
    subst e3
    have ay:lC X.K H0 B0 B' H' B' H3 σ3 τ2 P3:=⟨I3,aw.refl _,nU.of sy⟩
    refine ⟨H0,B0,B',τ2,P3,I3,?_⟩
    cases u:g τ2 with
    | nx t =>
     simp only [u] at gl
     exact fun B4 H4 σ4 P4 a4=>⟨B4,t,P4,(a.trans ay).trans a4,eU.later gl (ay.trans a4)⟩
    | ct t =>
     simp only [u] at gl
     exact fun B4 H4 σ4 P4 a4=>⟨B4,t,P4,(a.trans ay).trans a4,eU.later gl (ay.trans a4)⟩
    | bk t =>
     simp only [u] at gl
     exact fun B4 H4 σ4 P4 a4=>gl B4 H4 σ4 P4 (ay.trans a4)
    | rt d=>simp only [u] at gl; exact gl
    | ex C t=>simp only [u] at gl; exact fun B4 H4 σ4 P4 a4=>gl B4 H4 σ4 P4 (ay.trans a4)
    | bad=>simp only [u] at gl; exact gl
  ·have e:i=ds.length:=by omega
   subst e
   rw [List.drop_length] at gl
   exact .inl ⟨J1.stop B' H' a.b a.si.bh a.CC,gl B' H' σ' P' (lC.refl a.si)⟩
end
abbrev DF:=List D->Res D
def fV (K:PySem.W.Frag) (G:DF):Sp:=fun vs H Q _=>∃ B0 ds,aw B0 H/\aB K B0 No H ds vs []/\match G ds with
 | .ok d=>∀ B' H' v fp,oS K H B0 B' H' d v fp->Q v H'
 | .d9 _=>False
 | .bad=>False
def Res.IB (r:Res D):Res D:=match r with | .d9 _=>.bad | r=>r
@[simp] theorem Res.Jv (d:D):(Res.ok d).IB=.ok d:=rfl
def fC (G:DF) (ds:List D):Res D:=if aI ds=true then (G (aH ds)).IB.map D.bz else (G (aH ds)).IB
def aF (G:DF) (fs:SD->Res (List D)) (τ:SD):Res D:=(fs τ).bind (fC G)
section
variable {K:PySem.W.Frag}{Y:XY}{H0 B0 B H:Hp}{σ:L2.St}{τ:SD}{P:List Addr}{F:Addr->Prop}{X:Cx}{pos p:Pos}{e:Expr}{es:List Expr}{fs:SD->Res (List D)}
theorem SI.called {S:Addr->Prop}{fp:List Addr}{B' H':Hp}{d:D}{v:V}{fq:List Addr} (I:SI K H0 B0 B H σ τ P F) (k:gQ H0 B H P F fp) (hS:∀ a,S a->a ∈ P) (r:oS K H (atRest B H (fun a=>S a ∨ a ∈ fp)) B' H' d v fq) :
  ∃ B'',SI K H0 B0 B'' H' σ τ P F/\aw B B''/\gQ H0 B'' H' P F fq/\(∀ a o,B' a=some o->B'' a=some o ∨ (S a/\a ∈ P)):=by
 classical
 have sP:∀ a o,B a=some o->a ∉ P:=fun a o e m=>by
  have:=(I.own a m).1
  rw [e] at this; cases this
 have up:∀ a,B' a ≠ none->B a ≠ none ∨ S a ∨ a ∈ fp ∨ H a=none:=fun a n=>by
  rcases r.nb a n with q | q
  ·by_cases hs:S a ∨ a ∈ fp
   ·exact .inr (hs.elim .inl fun z=>.inr (.inl z))
   ·rw [ic hs] at q; exact .inl q
  ·exact .inr (.inr (.inr q))
 refine ⟨fun a=>if a ∈ P then none else B' a,?_,fun a o e=>?_,⟨r.nd,fun a m=>?_⟩,fun a o e=>?_⟩
 ·have sB:aw B (fun a=>if a ∈ P then none else B' a):=fun a o e=>by
   show (if a ∈ P then none else B' a)=some o
   rw [if_neg (sP a o e)]
   exact r.b0 a o (dO I.bh a o e)
  refine ⟨fun a o e=>?_,I.h0.trans r.h0,I.b0.trans sB,fun a n=>?_,I.rep.mono r.h0 sB,I.nd,fun a m=>?_,fun a m=>?_⟩
  ·have e:(if a ∈ P then none else B' a)=some o:=e
   split at e
   ·cases e
   ·exact r.bh a o e
  ·have n:(if a ∈ P then none else B' a) ≠ none:=n
   split at n
   ·exact absurd rfl n
   ·rename_i hp
    rcases up a n with q | q | q | q
    ·exact I.nb a q
    ·exact absurd (hS a q) hp
    ·exact .inr (k.own a q).2.1
    ·exact .inr (I.h0.free q)
  ·refine ⟨?_,(I.own a m).2⟩
   show (if a ∈ P then none else B' a)=none
   rw [if_pos m]
  ·obtain ⟨a1,a2⟩:=I.fr a m
   refine ⟨?_,fun z=>a2 (r.h0.free z)⟩
   show (if a ∈ P then none else B' a)=none
   split
   ·rfl
   ·rename_i hp
    cases e:B' a with
    | none=>rfl
    | some o =>
     exfalso
     rcases up a (by rw [e]; exact Option.some_ne_none _) with q | q | q | q
     ·exact q a1
     ·exact hp (hS a q)
     ·exact (k.own a q).2.2.2.2 m
     ·exact a2 q
 ·show (if a ∈ P then none else B' a)=some o
  rw [if_neg (sP a o e)]
  exact r.b0 a o (dO I.bh a o e)
 ·obtain ⟨a1,a2,a3⟩:=r.own a m
  obtain ⟨n1,n2,n3,n4⟩:=I.Ax a2
  refine ⟨?_,n2,a3,n3,n4⟩
  show (if a ∈ P then none else B' a)=none
  rw [if_neg n3]; exact a1
 ·by_cases hp:a ∈ P
  ·rcases up a (by rw [e]; exact Option.some_ne_none _) with q | q | q | q
   ·obtain ⟨o',e'⟩:=Option.ne_none_iff_exists'.mp q
    exact absurd hp (sP a o' e')
   ·exact .inr ⟨q,hp⟩
   ·exact absurd hp (k.own a q).2.2.2.1
   ·exact absurd q (I.stands hp)
  ·left
   show (if a ∈ P then none else B' a)=some o
   rw [if_neg hp]; exact e
theorem bO {k:Nat}{x:Str}{ps:List Str}{G:DF} (C:ir X.prog X.w X.K X.mg X.base k x ps (fV X.K G)) (hr:gh k X.A) (hg:Gl X x) (ha:PA X (e :: es) (pU X.K Y fs)) (hdb:(x == ("__debug__" : Str))=false:=by decide)
  (he:starEach (e :: es) X.env=(false,eval e X.env) :: starEach es X.env:=by rfl) (hpl:(backTo pos (starEach es X.env)).any (·.1)=false:=by rfl):PE X (.Call (.Name x p) (e :: es) [] pos) (tM X.K Y (aF G fs)):=by
 refine PE.imp (FF C hr hg ha hdb he hpl) fun σ H Q hq=>ex8 hq fun H0 B0 B τ P F I h=>pU.seq I h fun ds vs H1 B1 fp _ I1 s1 b1 r1 k1 h1=>?_
 rw [List.append_nil]
 unfold fC at h1
 split at h1
 ·refine ⟨atRest B1 H1 (fun a=>a ∈ P ∨ a ∈ fp),aH ds,iF I1.bh,r1.aG (dO I1.bh) (fun a o s h=>fQ (.inl s) h) (fun a m o h=>fQ (.inr m) h),?_⟩
  cases z:G (aH ds) with
  | d9 c=>rw [z] at h1; exact h1.elim
  | bad=>rw [z] at h1; exact h1.elim
  | ok d =>
   rw [z] at h1
   intro B' H' v fq r
   obtain ⟨B2,I2,s2,k2,hb⟩:=I1.called k1 (S:=fun a=>a ∈ P) (fun a s=>s) r
   exact h1 v H' B2 fq I2 r.h0 s2 (r.rep.bz r.bh fun a o e=>(hb a o e).imp id fun z=>z.2) k2
 ·rename_i hb
  have hb:aI ds=false:=by simpa using hb
  refine ⟨atRest B1 H1 (fun a=>False ∨ a ∈ fp),aH ds,iF I1.bh,(r1.iT hb).aG (dO I1.bh) (fun a o s=>s.elim) (fun a m o h=>fQ (.inr m) h),?_⟩
  cases z:G (aH ds) with
  | d9 c=>rw [z] at h1; exact h1.elim
  | bad=>rw [z] at h1; exact h1.elim
  | ok d =>
   rw [z] at h1
   intro B' H' v fq r
   obtain ⟨B2,I2,s2,k2,hb⟩:=I1.called k1 (S:=fun _=>False) (fun a s=>s.elim) r
   refine h1 v H' B2 fq I2 r.h0 s2 ?_ k2
   have sb:aw B' B2:=fun a o e=>(hb a o e).resolve_right fun z=>z.1
   exact r.rep.mono (aw.refl _) sb fun _ x=>x.elim
def Fl.out:Fl->Res D
 | .rt d=>.ok d
 | .nx _=>.ok .cY
 | .ex C _=>.d9 C
 | _=>.bad
def bZ (n N:Nat) (g:SF) (ds:List D):Res D:=if ds.length=n then (g (ds.map some ++ List.replicate (N - n) none)).out else .bad
theorem j3:∀ {ds:List D}{vs:List V} (m:Nat),aB K B No H ds vs []->eL K B H (ds.map some ++ List.replicate m none) (vs.map some ++ List.replicate m none) []
 | [],vs,m,r=>by
  obtain ⟨rfl,_⟩:=r
  induction m with
  | zero=>exact ⟨rfl,rfl⟩
  | succ m ih=>exact ⟨none,_,rfl,ih⟩
 | d :: ds,vs,m,r=>by
  obtain ⟨v,w,f1,f2,rfl,r1,r2,z⟩:=r
  obtain ⟨rfl,rfl⟩:=l3 z
  exact ⟨v,_,[],[],rfl,r1,j3 m r2,rfl⟩
theorem x8 {P:Program}{w:World}{mg:Str->Option Value}{base:Heap}{x:Str}{st:Stmt}{N ps:List Str}{k:Nat}{g:SF}{f:Addr}{fd:FuncData} (D:C7 K x x st f fd) (S:a9 N ps (aC st))
  (hbody:∀ (f:Addr) (cdv:Value) (A:Around) (outer:List Env) (s:Shared) (H:Hp),gh k (A.deeper (envOfC x (aC st) s.heap.objs.size f cdv)) ->
   lY (lV vQ P w K mg base N x (aC st) f cdv A outer s H E0).El (dY st) (mw K (fun _ _ _=>False) g)):nG P w K mg base vQ (k + 1) f fd ps (fV K (bZ ps.length N.length g)):=by
 refine D.ok S (fun vs H Q E h=>?_) fun cdv A outer s H vs Q E hr h=>?_
 ·obtain ⟨B0,ds,_,r,h⟩:=h
  rw [<- r.length]
  unfold bZ at h
  by_cases hl:ds.length=ps.length
  ·exact hl
  ·rw [if_neg hl] at h; exact h.elim
 ·obtain ⟨B0,ds,sB,r,h⟩:=h
  unfold bZ at h
  by_cases hl:ds.length=ps.length
  ·rw [if_pos hl] at h
   have e:L2.start N vs=vs.map some ++ List.replicate (N.length - ps.length) none:=by
    unfold L2.start
    rw [<- r.length,hl]
   refine ⟨_,hbody f cdv A outer s H hr,H,B0,B0,ds.map some ++ List.replicate (N.length - ps.length) none,[],⟨sB,aw.refl _,aw.refl _,fun a n=>.inl n,by rw [e]; exact j3 _ r,List.nodup_nil,(fun a m=>by cases m),fun a m=>m.elim⟩,?_⟩
   cases z:g (ds.map some ++ List.replicate (N.length - ps.length) none) with
   | rt d=>rw [z] at h; exact fun B' H' v fp q=>h B' H' v fp q
   | nx t =>
    rw [z] at h
    intro B' H' σ' P' a
    exact h B' H' .cY [] ⟨a.si.h0,a.si.b0,a.si.bh,a.si.nb,⟨rfl,rfl⟩,List.nodup_nil,fun a m=>by cases m⟩
   | bk t=>rw [z] at h; exact h.elim
   | ct t=>rw [z] at h; exact h.elim
   | ex C t=>rw [z] at h; exact h.elim
   | bad=>rw [z] at h; exact h.elim
  ·rw [if_neg hl] at h; exact h.elim
theorem FU {P:Program}{w:World}{mg:Str->Option Value}{base:Heap}{x:Str}{st:Stmt}{N ps:List Str}{k:Nat}{g:SF} (D:dR K mg x st ps) (S:a9 N ps (aC st))
  (hbody:∀ (f:Addr) (cdv:Value) (A:Around) (outer:List Env) (s:Shared) (H:Hp),gh k (A.deeper (envOfC x (aC st) s.heap.objs.size f cdv)) ->
   lY (lV vQ P w K mg base N x (aC st) f cdv A outer s H E0).El (dY st) (mw K (fun _ _ _=>False) g)):ir P w K mg base (k + 1) x ps (fV K (bZ ps.length N.length g)):=by
 obtain ⟨f,fd,F,hm,hb⟩:=D.ex
 exact ⟨f,fd,hm,F.kp,hb,x8 F S hbody⟩
end
mutual
def D.cU:D->Bool
 | .tup xs=>bT xs
 | .lst t xs=>decide (t=.own) || bT xs
 | .dct t _ _ vs=>decide (t=.own) || bT vs
 | _=>false
def bT:List D->Bool
 | []=>false
 | d :: r=>d.cU || bT r
end
mutual
theorem uT:∀ d:D,d.pure=true->d.cU=false
 | .cY,_=>rfl
 | .bl _,_=>rfl
 | .int _,_=>rfl
 | .str _,_=>rfl
 | .exc _,_=>rfl
 | .tup xs,h=>j4 xs h
 | .lst _ _,h=>by cases h
 | .dct _ _ _ _,h=>by cases h
theorem j4:∀ xs:List D,bc xs=true->bT xs=false
 | [],_=>rfl
 | d :: r,h=>by
  have h:(d.pure && bc r)=true:=h
  rw [Bool.and_eq_true] at h
  show (d.cU || bT r)=false
  rw [uT d h.1,j4 r h.2]
  rfl
end
section
variable {K:PySem.W.Frag}
mutual
theorem Rep.noOwn {B H:Hp}{S:Addr->Prop}:∀ {d:D}{v:V}{fp:List Addr},d.cU=false->Rep K B S H d v fp->fp=[]
 | .cY,_,_,_,h=>h.2
 | .bl _,_,_,_,h=>h.2
 | .int _,_,_,_,h=>h.2
 | .str _,_,_,_,h=>h.2
 | .exc _,_,_,_,h=>h.2
 | .tup xs,v,fp,p,h=>let ⟨a,vs,e,q,r⟩:=h; aB.noOwn (ds:=xs) p r
 | .lst .own xs,v,fp,p,h=>by simp [D.cU] at p
 | .lst .bor xs,v,fp,p,h=>let ⟨a,vs,e,q,r,z⟩:=h; z
 | .lst .aG xs,v,fp,p,h=>let ⟨a,vs,e,q,r,z⟩:=h; z
 | .dct .own kd ks xs,v,fp,p,h=>by simp [D.cU] at p
 | .dct .bor kd ks xs,v,fp,p,h=>let ⟨a,vs,e,q,r,z⟩:=h; z
 | .dct .aG kd ks xs,v,fp,p,h=>let ⟨a,vs,e,q,r,z⟩:=h; z
theorem aB.noOwn {B H:Hp}{S:Addr->Prop}:∀ {ds:List D}{vs:List V}{fp:List Addr},bT ds=false->aB K B S H ds vs fp->fp=[]
 | [],_,_,_,h=>h.2
 | d :: ds,vs,fp,p,h=>by
  obtain ⟨v,r,f,g,e,h1,h2,z⟩:=h
  have p:(d.cU || bT ds)=false:=p
  rw [Bool.or_eq_false_iff] at p
  rw [z,Rep.noOwn p.1 h1,aB.noOwn p.2 h2]
  rfl
end
def fE (τ:SD) (cap:List (Str × Nat)):SD:=cap.map fun p=>((τ[p.2]?).join).map D.aG
def c9 (τ:SD) (cap:List (Str × Nat)):Bool:=cap.any fun p=>match (τ[p.2]?).join with | some d=>d.cU | none=>false
def kI (tg:x6) (tt:SD->Res Bool) (elt:SD->Res D):List D->SD->Res (List D)
 | [],_=>.ok []
 | d :: r,τ=>match tg d τ with
  | none=>.bad
  | some τ'=>(tt τ').bind fun b=>if b=true then (elt τ').bind fun x=>if x.aE=true then .bad else (kI tg tt elt r τ').bind fun xs=>.ok (x :: xs) else kI tg tt elt r τ'
def bR (it:SD->Res (Bool × List D)) (tg:x6) (tt:SD->Res Bool) (elt:SD->Res D) (k:Nat) (cap:List (Str × Nat)) (τ:SD):Res D:=(it τ).bind fun q =>
 match kI tg tt elt (aH q.2) (List.replicate k none ++ fE τ cap) with
 | .ok xs=>if xs.length <= 16777216 then .ok (.lst .own (if (q.1 || c9 τ cap)=true then cN xs else xs)) else .bad
 | _=>.bad
variable {Y:XY}{H0 B0 B H:Hp}{σ:L2.St}{τ:SD}{P:List Addr}{F:Addr->Prop}{X:Cx}
theorem AJ {Bx:Hp} (I:SI K H0 B0 B H σ τ P F) (sB:aw B Bx) (cap:List (Str × Nat)) (hx:c9 τ cap=true->∀ a ∈ P,∀ o,H a=some o->Bx a=some o):eL K Bx H (fE τ cap) (pQ σ cap) []:=by
 induction cap with
 | nil=>exact ⟨rfl,rfl⟩
 | cons p r ih =>
  have ih:=ih fun z=>hx (by unfold c9 at z ⊢; rw [List.any_cons,z,Bool.or_true])
  unfold fE pQ at ih ⊢
  rw [List.map_cons,List.map_cons]
  cases e:(τ[p.2]?).join with
  | none=>exact ⟨_,_,rfl,ih⟩
  | some d =>
   have e':τ[p.2]?=some (some d):=by
    cases z:τ[p.2]? with
    | none=>rw [z] at e; cases e
    | some o=>rw [z] at e; exact congrArg some e
   obtain ⟨v,f,h1,h2,h3⟩:=I.rep.get e'
   refine ⟨v,_,[],[],?_,?_,ih,rfl⟩
   ·rw [h1]; rfl
   ·by_cases ho:d.cU=true
    ·have hc:c9 τ (p :: r)=true:=by
      unfold c9
      rw [List.any_cons,e]
      simp [ho]
     exact h2.aG sB (fun a o s=>s.elim) fun a m o h=>hx hc a (h3.subset m) o h
    ·have hf:=h2.noOwn (by simpa using ho)
     subst hf
     exact h2.aG sB (fun a o s=>s.elim) fun a m=>by cases m
theorem rM {Bx:Hp}:∀ (k:Nat) {τ:SD}{σ:L2.St},eL K Bx H τ σ []->eL K Bx H (List.replicate k none ++ τ) (List.replicate k none ++ σ) []
 | 0,_,_,h=>h
 | k + 1,_,_,h=>⟨none,_,rfl,rM k h⟩
theorem SI.FW {F':Addr->Prop}{a:Addr}{o o':HO} (I:SI K H0 B0 B H σ τ P F') (hF:F' a) (hH0:H0 a=none) (ha:H a=some o) (mu:qO o):SI K H0 B0 B (upd H a o') σ τ P F' := by
 have kp:mK H (upd H a o') [a]:=⟨fun b u h n=>by rw [aZ (by simpa using n)]; exact h,fun b m=>by
  have:b=a:=by simpa using m
  subst this
  exact ⟨o,ha,mu⟩⟩
 have kr:∀ {τ:SD}{σ:L2.St}{P:List Addr},(∀ b ∈ P,b ≠ a)->eL K B H τ σ P->eL K B (upd H a o') τ σ P:=by
  intro τ
  induction τ with
  | nil=>intro σ P _ h; exact h
  | cons q r ih =>
   intro σ P hp h
   cases q with
   | none=>obtain ⟨x,t,e,h⟩:=h; exact ⟨x,t,e,ih hp h⟩
   | some d =>
    obtain ⟨v,t,f,g,e,h1,h2,z⟩:=h
    subst z
    exact ⟨v,t,f,g,e,h1.keep kp fun b m=>by
     have:=hp b (List.mem_append_left _ m)
     simpa using this,ih (fun b m=>hp b (List.mem_append_right _ m)) h2,rfl⟩
 refine ⟨fun b u e=>?_,fun b u e=>?_,I.b0,I.nb,kr (fun b m z=>(I.own b m).2.2 (z ▸ hF)) I.rep,I.nd,I.own,fun b m=>⟨(I.fr b m).1,?_⟩⟩
 ·rw [aZ]
  ·exact I.bh b u e
  ·intro z; subst z; rw [(I.fr b hF).1] at e; cases e
 ·rw [aZ]
  ·exact I.h0 b u e
  ·intro z; subst z; rw [hH0] at e; cases e
 ·by_cases z:b=a
  ·subst z; rw [bX]; exact Option.some_ne_none _
  ·rw [aZ z]; exact (I.fr b m).2
abbrev Dp:XY:=fun _ _ _=>False
theorem aQ {α β:Type}{r:Res α}{f:α->Res β}{b:β} (h:r.bind f=.ok b):∃ a,r=.ok a/\f a=.ok b:=by
 cases r with
 | ok a=>exact ⟨a,rfl,h⟩
 | d9 C=>cases h
 | bad=>cases h
theorem nZ {it:SD->Res (Bool × List D)}{tgd:x6}{tt:SD->Res Bool}{elt:SD->Res D}{k:Nat}{cap:List (Str × Nat)}{Q:VK} (I:SI K H0 B0 B H σ τ P F) (h:Goal K Y H0 B0 B H σ τ P F Q (bR it tgd tt elt k cap τ)) :
  uG (AF K Y it) (FT K tgd) (l4 K Dp tt) (tM K Dp elt) k cap σ H Q:=by
 refine ⟨H0,B0,B,τ,P,F,I,?_⟩
 unfold bR at h
 cases z:it τ with
 | d9 C=>rw [z] at h; exact h
 | bad=>rw [z] at h; exact h
 | ok q =>
  obtain ⟨fl,ds⟩:=q
  rw [z] at h
  simp only [Res.aQ] at h
  intro J H1 B1 fp I1 s1 b1 k1 JA acc hacc
  have h:=Goal.later h s1 b1
  cases zc:kI tgd tt elt (aH ds) (List.replicate k none ++ fE τ cap) with
  | d9 C=>rw [zc] at h; exact h.elim
  | bad=>rw [zc] at h; exact h.elim
  | ok xs =>
   rw [zc] at h
   simp only at h
   by_cases hxl:xs.length <= 16777216
   ·rw [if_pos hxl] at h
    let S:Addr->Prop:=fun a=>(fl || c9 τ cap)=true/\a ∈ P
    let Bx:Hp:=atRest B1 H1 (fun a=>S a ∨ a ∈ fp)
    have sBx:aw B1 Bx:=dO I1.bh
    have uBx:aw Bx H1:=iF I1.bh
    have J1:FP K J (aH ds) Bx H1:=JA Bx sBx uBx (fun a m o e=>fQ (.inr m) e) (fun hf a m o e=>fQ (.inl ⟨by rw [hf]; rfl,m⟩) e)
    have c0:eL K Bx H1 (List.replicate k none ++ fE τ cap) (List.replicate k none ++ pQ σ cap) []:=rM k (AJ I1 sBx cap fun hc a m o e=>fQ (.inl ⟨by rw [hc,Bool.or_true],m⟩) e)
    have sacc:aw H1 (upd H1 acc (.lst [])):=ib hacc
    have C0:SI K H1 Bx Bx (upd H1 acc (.lst [])) (List.replicate k none ++ pQ σ cap) (List.replicate k none ++ fE τ cap) [] (fun a=>a=acc ∨ a ∈ ([]:List Addr)) :=
     ⟨uBx.trans sacc,sacc,aw.refl _,fun a n=>.inl n,c0.mono sacc (aw.refl _),List.nodup_nil,(fun a m=>by cases m),fun a m=>by
      have:a=acc:=m.elim id fun z=>by cases z
      subst this
      exact ⟨uBx.free hacc,by rw [bX]; exact Option.some_ne_none _⟩⟩
    refine ⟨fun i m τv ys H'=>m=(aH ds).length - i/\i <= (aH ds).length/\∃ B' τb Pb es fe rest,SI K H1 Bx B' H' τv τb Pb (fun a=>a=acc ∨ a ∈ fe)/\H' acc=some (.lst ys)/\aB K B' No H' es ys fe/\fe.Nodup /\
      (∀ a ∈ fe,H1 a=none/\a ≠ acc)/\kI tgd tt elt ((aH ds).drop i) τb=.ok rest/\xs=es ++ rest/\acc ∉ fe,⟨_,rfl,Nat.zero_le _,Bx,_,[],[],[],xs,C0,bX,⟨rfl,rfl⟩,List.nodup_nil,(fun a m=>by cases m),zc,rfl,by simp⟩,?_⟩
    rintro i m τv ys H' ⟨rfl,hle,B',τb,Pb,es,fe,rest,C,ha,re,ndf,own,ec,ex,hna⟩
    have im:nU H1 H' := nU.of C.h0
    by_cases hlt:i < (aH ds).length
    ·obtain ⟨d,hd⟩:∃ d,(aH ds)[i]?=some d:=⟨(aH ds)[i],List.getElem?_eq_getElem hlt⟩
     have hdrop:(aH ds).drop i=d :: (aH ds).drop (i + 1):=by
      rw [List.drop_eq_getElem_cons hlt]
      congr 1
      rw [List.getElem?_eq_getElem hlt] at hd
      exact Option.some.inj hd
     rw [hdrop] at ec
     unfold kI at ec
     refine .inr ⟨J1.go B' H' i d C.b0 C.bh im hd,fun x H'' y=>?_⟩
     obtain ⟨sy,ry⟩:=J1.yI B' H' i d x H'' C.b0 C.bh im hd y
     cases w:tgd d τb with
     | none=>rw [w] at ec; cases ec
     | some τ2 =>
      rw [w] at ec
      simp only at ec
      refine ⟨H1,Bx,B',τb,Pb,_,d,[],C.grow sy,ry,gQ.nil,?_⟩
      rw [w]
      intro H3 σ3 P3 I3 e3
      subst e3
      obtain ⟨b,eb,ec⟩:=aQ ec
      refine ⟨H1,Bx,B',τ2,P3,_,I3,?_⟩
      rw [eb]
      intro H4 B4 I4 s4 b4
      have re4:aB K B4 No H4 es ys fe:=re.mono (sy.trans s4) b4 fun _ x=>x
      have ha4:H4 acc=some (.lst ys):=s4 _ _ (sy _ _ ha)
      cases b with
      | false =>
       rw [if_neg Bool.false_ne_true] at ec ⊢
       exact ⟨_,by omega,rfl,hlt,B4,τ2,P3,es,fe,rest,I4,ha4,re4,ndf,own,ec,ex,hna⟩
      | true =>
       rw [if_pos rfl] at ec ⊢
       obtain ⟨x',ex',ec⟩:=aQ ec
       refine ⟨H1,Bx,B4,τ2,P3,_,I4,?_⟩
       rw [ex']
       intro v H5 B5 fv I5 s5 b5 r5 k5
       by_cases hb:x'.aE=true
       ·rw [if_pos hb] at ec; cases ec
       ·rw [if_neg hb] at ec
        obtain ⟨rest',er',ec⟩:=aQ ec
        cases ec
        have hb:x'.aE=false:=by simpa using hb
        have ha5:H5 acc=some (.lst ys):=s5 _ _ ha4
        have re5:aB K B5 No H5 es ys fe:=re4.mono s5 b5 fun _ x=>x
        have hlen:ys.length < sizeLine:=by
         rw [<- re.length,sizeLine_eq]
         have:=congrArg List.length ex
         simp at this
         omega
        refine ⟨ha5,hlen,_,by omega,rfl,hlt,?_⟩
        have Ih:=I5.hold k5
        have fdis:∀ a ∈ fv,a ∉ fe/\a ≠ acc:=fun a m=>⟨fun z=>(k5.own a m).2.2.2.2 (.inr z),fun z=>(k5.own a m).2.2.2.2 (.inl z)⟩
        have Ih2:SI K H1 Bx B5 H5 σ3 τ2 P3 (fun a=>a=acc ∨ a ∈ fe ++ fv):=Ih.uK fun a m=>by
         rcases m with m | m
         ·exact .inr (.inl m)
         ·rcases List.mem_append.mp m with m | m
          ·exact .inr (.inr m)
          ·exact .inl m
        have Iw:=Ih2.FW (o' := .lst (ys ++ [v])) (.inl rfl) hacc ha5 trivial
        have kp:mK H5 (upd H5 acc (.lst (ys ++ [v]))) [acc]:=⟨fun b u h n=>by rw [aZ (by simpa using n)]; exact h,fun b m=>by
         have:b=acc:=by simpa using m
         subst this
         exact ⟨_,ha5,trivial⟩⟩
        refine ⟨B5,τ2,P3,es ++ [x'],fe ++ fv,rest',Iw,bX,?_,List.nodup_append.mpr ⟨ndf,k5.nd,fun a h1 b h2 e=>(fdis b h2).1 (e ▸ h1)⟩,fun a m=>?_,er',by rw [ex]; simp,fun m=>?_⟩
        ·refine aB.append (re5.keep kp fun a m z=>?_) (aB.one ((r5.iT hb).keep kp fun a m z=>?_))
         ·have:a=acc:=by simpa using z
          exact hna (this ▸ m)
         ·have:a=acc:=by simpa using z
          exact (fdis a m).2 this
        ·rcases List.mem_append.mp m with m | m
         ·exact own a m
         ·exact ⟨(k5.own a m).2.1,(fdis a m).2⟩
        ·rcases List.mem_append.mp m with m | m
         ·exact hna m
         ·exact (fdis acc m).2 rfl
    ·have e:i=(aH ds).length:=by omega
     subst e
     rw [List.drop_length] at ec
     unfold kI at ec
     cases ec
     rw [List.append_nil] at ex
     subst ex
     refine .inl ⟨J1.stop B' H' C.b0 C.bh im,?_⟩
     have ro:oS K H1 Bx B' H' (.lst .own xs) (.ref acc) (acc :: fe):=⟨C.h0,C.b0,C.bh,C.nb,⟨acc,ys,fe,rfl,ha,re,rfl⟩,List.nodup_cons.mpr ⟨hna,ndf⟩,fun a m=>by
      rcases List.mem_cons.mp m with m | m
      ·subst m; exact ⟨(C.fr a (.inl rfl)).1,hacc,(C.fr a (.inl rfl)).2⟩
      ·exact ⟨(C.fr a (.inr m)).1,(own a m).1,(C.fr a (.inr m)).2⟩⟩
     obtain ⟨B2,I2,s2,k2,hb⟩:=I1.called k1 (S:=S) (fun a s=>s.2) ro
     by_cases hl:(fl || c9 τ cap)=true
     ·rw [if_pos hl] at h
      exact h (.ref acc) H' B2 _ I2 C.h0 s2 (ro.rep.bz ro.bh fun a o e=>(hb a o e).imp id fun z=>z.2) k2
     ·rw [if_neg hl] at h
      have sb:aw B' B2:=fun a o e=>(hb a o e).resolve_right fun z=>hl z.1.1
      exact h (.ref acc) H' B2 _ I2 C.h0 s2 (ro.rep.mono (aw.refl _) sb fun _ x=>x.elim) k2
   ·rw [if_neg hxl] at h; exact h.elim
variable {tg elt iter:Expr}{ifs:List Expr}{scope:Scope}{pos:Pos}{own:List Str}{cap:List (Str × Nat)}{it:SD->Res (Bool × List D)}{tgd:x6}{tt:SD->Res Bool}{fe:SD->Res D}
theorem ml (ok:iq X scope own cap) (hc:X.calm=true) (hi:PI X tg iter (AF X.K Y it)) (Bl:jf X scope own cap tg ifs elt (FT X.K tgd) (l4 X.K Dp tt) (tM X.K Dp fe)) (hs:∀ x,foldedSetIterable iter X.env x=pure x:=by intro _; rfl) :
  PE X (.ListComp elt [⟨tg,iter,ifs,0⟩] scope pos) (tM X.K Y (bR it tgd tt fe own.length cap)) :=
 PE.imp (De ok hc hi Bl hs) fun σ H Q hq=>ex8 hq fun H0 B0 B τ P F I h=>nZ I h
theorem nY {i:Nat}{y:Str}{py spos:Pos} (hN:X.N.Nodup) (hi':X.N[i]?=some y) (hy:Loc X.env.scope y) (ok:iq X scope own cap) (hc:X.calm=true) (hi:PI X tg iter (AF X.K Y it)) (Bl:jf X scope own cap tg ifs elt (FT X.K tgd) (l4 X.K Dp tt) (tM X.K Dp fe))
  (hsw:swapsWith (.ListComp elt [⟨tg,iter,ifs,0⟩] scope pos) (some (.Name y py)) spos.line X.env=pure true:=by rfl)
  (hf:X.fn y=true ∨ X.env.scope.names.lookup y=some .local:=by first | exact .inl rfl | exact .inr rfl) (hs:∀ x,foldedSetIterable iter X.env x=pure x:=by intro _; rfl) :
  PS X (.Assign [.Name y py] (.ListComp elt [⟨tg,iter,ifs,0⟩] scope pos) spos) (mw X.K Y (bf i (bR it tgd tt fe own.length cap))):=by
 refine PS.imp (wd hN hi' hy ok hc hi Bl hsw hf hs) fun E σ H hq=>ex7 hq fun H0 B0 B τ P I h=>?_
 have key:tM X.K Y (bR it tgd tt fe own.length cap) σ H (fun x H1=>pL i x σ H1 E.nx):=p6 I h fun d v H1 B1 fp _ I1 _ _ r1 k1 h1=>by
  unfold jo at h1
  split at h1
  ·exact h1.elim
  ·rename_i hb
   obtain ⟨P',I',_⟩:=I1.set i (r1.iT (by simpa using hb)) k1
   exact h1 B1 H1 _ P' ⟨I',aw.refl _,nU.refl _⟩
 obtain ⟨H0',B0',B',τ',P',F',I',h'⟩:=key
 exact nZ I' h'
def dG (_:SD):Res Bool := .ok true
theorem lF:Hx X [] (l4 X.K Y dG):=fun pins s σ H Q I ⟨H0,B0,B,τ,P,F,I',h⟩=>Dc pins s σ H Q I (h H B I' (aw.refl _) (aw.refl _))
theorem mR {c:Expr}{gc:SD->Res Bool} (h:PT X c (l4 X.K Y gc)):Hx X [c] (l4 X.K Y gc):=C9 h
end
section
variable {K:PySem.W.Frag}{Y:XY}{H0 B0 B H:Hp}{σ:L2.St}{τ:SD}{P:List Addr}{F:Addr->Prop}{X:Cx}{pos p:Pos}{e:Expr}{fe:SD->Res D}
def IC:D->String | .cY=>"NoneType" | .bl _=>"bool" | .int _=>"int" | .str _=>"str" | .tup _=>"tuple" | .lst _ _=>"list" | .dct _ _ _ _=>"dict" | .exc _=>""
def D.isExc:D->Bool | .exc _=>true | _=>false
theorem tw {T:String}:fJ X (.builtin "isinstance") (fun xs H Q=>∃ x t b,xs=[x,.ty T]/\(my X.K H x t ∨ (∃ a vs,x=.ref a/\jR X.K H a vs/\t=.type "tuple") ∨ (∃ a vs,x=.ref a/\gI X.K H a vs/\t=.type "list"))/\PySem.W.kitOne X.K t (.type T)=some b/\Q (.bl b) H):=by
 intro pins s σ H xs us Q I r h
 obtain ⟨x,t,b,rfl,ty,e,q⟩:=h
 obtain ⟨u,v,rfl,ru,rv⟩:=vals2 r
 cases rv
 rcases ty with ty | ⟨a,vs,rfl,hq,rfl⟩ | ⟨a,vs,rfl,hq,rfl⟩
 ·exact yM I ru ty e fun tk=>⟨.bl b,H,I.tok tk,rfl,q⟩
 ·cases ru
  obtain ⟨its,_,⟨o,h1,h2,_⟩,_⟩:=I.tuple hq
  exact PySem.W.kia_one PySem.W.kitx_tuple I.nD ⟨o,h1,h2⟩ e (fun z=>nomatch z) fun tk=>⟨.bl b,H,I.tok tk,rfl,q⟩
 ·cases ru
  obtain ⟨its,_,pl,_⟩:=I.list hq
  obtain ⟨o,h1,h2,_⟩:=pl.isList
  exact PySem.W.kia_one PySem.W.kitx_list I.nD ⟨o,h1,h2⟩ e (fun z=>nomatch z) fun tk=>⟨.bl b,H,I.tok tk,rfl,q⟩
theorem AK {d:D}{v:V}{f:List Addr} (I:SI K H0 B0 B H σ τ P F) (r:Rep K B (· ∈ P) H d v f) (ne:d.isExc=false):my K H v (.type (IC d)) ∨ (∃ a vs,v=.ref a/\jR K H a vs/\(Value.type (IC d))=.type "tuple") ∨ (∃ a vs,v=.ref a/\gI K H a vs/\(Value.type (IC d))=.type "list"):=by
 cases d with
 | cY=>rw [r.1]; exact .inl .cY
 | bl b=>rw [r.1]; exact .inl (.bl b)
 | int b=>rw [r.1]; exact .inl (.int b)
 | str b=>rw [r.1]; exact .inl (.str b)
 | exc _=>cases ne
 | tup xs=>obtain ⟨a,vs,rfl,q,_⟩:=r; exact .inr (.inl ⟨a,vs,rfl,jR.of q,rfl⟩)
 | lst t xs =>
  obtain ⟨a,vs,g,rfl,q,_⟩:=r.lst I
  exact .inr (.inr ⟨a,vs,rfl,q,rfl⟩)
 | dct t k ks xs =>
  have:∃ a vs,v=.ref a/\DictAt H a k ks vs:=by
   cases t with
   | own=>obtain ⟨a,vs,g,e,q,_⟩:=r; exact ⟨a,vs,e,q⟩
   | bor=>obtain ⟨a,vs,e,q,_⟩:=r; exact ⟨a,vs,e,q.elim (fun y=>y.2) fun y=>y.mono I.bh⟩
   | aG=>obtain ⟨a,vs,e,q,_⟩:=r; exact ⟨a,vs,e,q.mono I.bh⟩
  obtain ⟨a,vs,rfl,⟨_,kvs,q,_⟩ | ⟨_,kvs,q,_⟩⟩:=this
  ·exact .inl (.dK q)
  ·exact .inl (.dT q)
def rN:D->Bool | .bl _=>true | _=>false
def tD:D->Bool | .bl _=>true | .int _=>true | _=>false
def qH:D->Bool | .str _=>true | _=>false
def tu:D->Bool | .lst _ _=>true | _=>false
def j6:D->Bool | .tup _=>true | _=>false
def jF:D->Bool | .dct _ _ _ _=>true | _=>false
def n5 (T:String) (g:D->Bool):Prop := ∀ (K:PySem.W.Frag) (d:D),d.isExc=false->PySem.W.kitOne K (.type (IC d)) (.type T)=some (g d)
theorem n6:n5 "bool" rN:=fun K d h=>by cases d <;> first | rfl | cases h
theorem uU:n5 "int" tD:=fun K d h=>by cases d <;> first | rfl | cases h
theorem p9:n5 "str" qH:=fun K d h=>by cases d <;> first | rfl | cases h
theorem rO:n5 "list" tu:=fun K d h=>by cases d <;> first | rfl | cases h
theorem qa:n5 "tuple" j6:=fun K d h=>by cases d <;> first | rfl | cases h
def cX (g:D->Bool) (d:D):Res D:=if d.isExc=true then .bad else .ok (.bl (g d))
theorem iu {T:String}{g:D->Bool}{ty:Expr}{pt:Pos}{x:Str} (hI:n5 T g) (hg:Gl X "isinstance") (hm:X.mg "isinstance" = none) (he:PE X e (tM X.K Y fe)) (hgT:Gl X x) (hmT:X.mg x=none) (hbT:bootBuiltins x=some (.type T))
  (hs:starEach [e,.Name x pt] X.env=(false,eval e X.env) :: starEach [.Name x pt] X.env:=by rfl) (hs2:starEach [.Name x pt] X.env=(false,eval (.Name x pt) X.env) :: starEach [] X.env:=by rfl) (hpl:(backTo pos (starEach [.Name x pt] X.env)).any (·.1)=false:=by rfl) (hn:x ≠ "__name__" := by decide) (hdb:(x == ("__debug__" : Str))=false:=by decide) :
  PE X (.Call (.Name "isinstance" p) [e,.Name x pt] [] pos) (tM X.K Y (fH (cX g) fe)):=by
 refine PE.imp (kR (tw (T:=T)) hg hm (by decide +kernel) (eZ he (eZ (xC hgT hmT hbT (show RelV (.ty T) _ from rfl) hn hdb) jW hs2) hs) (he:=hs) (hpl:=hpl)) fun σ H Q hq=>ex8 hq fun H0 B0 B τ P F I h=>?_
 refine tM.seq (g:=cX g) I h fun d v H1 B1 fp _ I1 s1 b1 r1 k1 h1=>?_
 unfold cX at h1
 split at h1
 ·exact h1.elim
 ·rename_i hx
  have hx:d.isExc=false:=by simpa using hx
  exact ⟨v,_,_,rfl,AK I1 r1 hx,hI _ d hx,Out.here h1 I1 ⟨rfl,rfl⟩⟩
def intsOf:List D->Option (List Int)
 | []=>some []
 | .int i :: r=>(intsOf r).map (i :: ·)
 | _ :: _=>none
theorem j5 (ns:List Int):intsOf (ns.map D.int)=some ns:=by
 induction ns with
 | nil=>rfl
 | cons n r ih=>rw [List.map_cons,intsOf,ih]; rfl
theorem lH:∀ {xs:List D}{ns:List Int},intsOf xs=some ns->xs=ns.map D.int
 | [],ns,h=>by cases h; rfl
 | .int i :: r,ns,h=>by
  unfold intsOf at h
  cases e:intsOf r with
  | none=>rw [e] at h; cases h
  | some m=>rw [e] at h; cases h; rw [List.map_cons,<- lH e]
 | .cY :: _,_,h=>by cases h
 | .bl _ :: _,_,h=>by cases h
 | .str _ :: _,_,h=>by cases h
 | .tup _ :: _,_,h=>by cases h
 | .lst _ _ :: _,_,h=>by cases h
 | .dct _ _ _ _ :: _,_,h=>by cases h
 | .exc _ :: _,_,h=>by cases h
theorem lG {S:Addr->Prop}:∀ {ns:List Int}{vs:List V}{f:List Addr},aB K B S H (ns.map D.int) vs f->vs=ns.map V.int/\f=[]
 | [],vs,f,r=>r
 | n :: ns,vs,f,r=>by
  obtain ⟨v,w,f1,f2,rfl,⟨rfl,rfl⟩,r2,rfl⟩:=r
  obtain ⟨rfl,rfl⟩:=lG r2
  exact ⟨rfl,rfl⟩
theorem jE {S:Addr->Prop}:∀ (ns:List Int),aB K B S H (ns.map D.int) (ns.map V.int) []
 | []=>⟨rfl,rfl⟩
 | n :: ns=>⟨_,_,[],[],rfl,⟨rfl,rfl⟩,jE ns,rfl⟩
def sortI (ns:List Int):List Int:=ns.mergeSort (fun a b=>decide (a <= b))
theorem sortI_perm (ns:List Int):(sortI ns).Perm ns:=List.mergeSort_perm ns _
theorem fg (ns:List Int):(sortI ns).Pairwise (· <= ·):=by
 have h:=List.pairwise_mergeSort (le:=fun a b:Int=>decide (a <= b)) (fun a b c h1 h2=>by simp at *; omega) (fun a b=>by simp; omega) ns
 exact h.imp fun h=>by simpa using h
theorem gR:∀ {l m:List Int},l.Perm m->l.Pairwise (· <= ·)->m.Pairwise (· <= ·)->l=m
 | [],m,hp,_,_=>(List.Perm.nil_eq hp)
 | x :: r,m,hp,h1,h2=>by
  match m,hp,h2 with
  | [],hp,_=>exact absurd hp.length_eq (by simp)
  | y :: r',hp,h2 =>
   obtain ⟨a1,a2⟩:=List.pairwise_cons.mp h1
   obtain ⟨b1,b2⟩:=List.pairwise_cons.mp h2
   have e:x=y:=by
    have m1:x ∈ y :: r' := hp.mem_iff.mp List.mem_cons_self
    have m2:y ∈ x :: r:=hp.mem_iff.mpr List.mem_cons_self
    rcases List.mem_cons.mp m1 with q | q
    ·exact q
    ·rcases List.mem_cons.mp m2 with q' | q'
     ·exact q'.symm
     ·have:=b1 x q
      have:=a1 y q'
      omega
   subst e
   rw [gR ((List.perm_cons _).mp hp) a2 b2]
end
def kL:D->Option Key | .int i=>some (.inl i) | .str x=>some (.inr x) | _=>none
def ez:List D->Option (List Key)
 | []=>some []
 | d :: r=>(kL d).bind fun k=>(ez r).map (k :: ·)
def ie:D->Option KT
 | .int i=>some (.inl (.inl i))
 | .str x=>some (.inl (.inr x))
 | .tup ds=>(ez ds).map .inr
 | _=>none
def KT.kind:KT->Bool | .inl _=>false | .inr _=>true
def iB:List KT->List D->KT->Option D
 | k :: ks,d :: ds,q=>if k=q then some d else iB ks ds q
 | _,_,_=>none
def jG (ks:List KT) (q:KT):Bool:=ks.any fun k=>decide (k=q)
def qd (ks:List KT) (q:KT):List KT:=if jG ks q=true then ks else ks ++ [q]
def jg:List KT->List D->KT->D->List D
 | k :: ks,d :: ds,q,x=>(if k=q then x else d) :: jg ks ds q x
 | _,ds,_,_=>ds
def qb (ks:List KT) (ds:List D) (q:KT) (d:D):List D:=if jG ks q=true then jg ks ds q d else ds ++ [d]
section
variable {K:PySem.W.Frag}{Y:XY}{H0 B0 B H:Hp}{σ:L2.St}{τ:SD}{P:List Addr}{F:Addr->Prop}{X:Cx}{pos:Pos}
theorem Rep.dc (I:SI K H0 B0 B H σ τ P F) {t:Tg}{k:Bool}{ks:List KT}{xs:List D}{v:V}{f:List Addr} (r:Rep K B (· ∈ P) H (.dct t k ks xs) v f):∃ a vs g,v=.ref a/\DictAt H a k ks vs/\aB K B (· ∈ P) H xs vs g/\List.Sublist g f:=by
 cases t with
 | own =>
  obtain ⟨a,vs,g,e,q,r,z⟩:=r
  subst z
  exact ⟨a,vs,g,e,q,r,List.sublist_cons_self _ _⟩
 | bor =>
  obtain ⟨a,vs,e,q,r,z⟩:=r
  subst z
  exact ⟨a,vs,[],e,q.elim (fun y=>y.2) fun y=>y.mono I.bh,r,List.Sublist.refl _⟩
 | aG =>
  obtain ⟨a,vs,e,q,r,z⟩:=r
  subst z
  exact ⟨a,vs,[],e,q.mono I.bh,r.mono (aw.refl _) (aw.refl _) (fun _ x=>x.elim),List.Sublist.refl _⟩
theorem rP {S:Addr->Prop}:∀ {ds:List D}{k:List Key}{vs:List V}{f:List Addr},ez ds=some k->aB K B S H ds vs f->vs=k.map kV
 | [],k,vs,f,h,r=>by cases h; exact r.1
 | d :: ds,k,vs,f,h,r=>by
  obtain ⟨v,w,f1,f2,rfl,r1,r2,_⟩:=r
  unfold ez at h
  cases e1:kL d with
  | none=>rw [e1] at h; cases h
  | some q =>
   rw [e1] at h
   cases e2:ez ds with
   | none=>rw [e2] at h; cases h
   | some m =>
    rw [e2] at h
    cases h
    rw [rP e2 r2,List.map_cons]
    congr 1
    cases d <;> first | (cases e1; exact r1.1) | cases e1
theorem AM {S:Addr->Prop}{d:D}{k:Key}{v:V}{f:List Addr} (h:ie d=some (.inl k)) (r:Rep K B S H d v f):v=kV k:=by
 cases d with
 | int i=>cases h; exact r.1
 | str i=>cases h; exact r.1
 | tup ds =>
  have h:(ez ds).map Sum.inr=some (Sum.inl k):=h
  cases e:ez ds <;> rw [e] at h <;> cases h
 | _=>cases h
theorem AL {S:Addr->Prop}{d:D}{k:List Key}{v:V}{f:List Addr} (h:ie d=some (.inr k)) (r:Rep K B S H d v f):∃ b,v=.ref b/\H b=some (.tup (k.map kV)):=by
 cases d with
 | tup ds =>
  have h:(ez ds).map Sum.inr=some (Sum.inr k):=h
  cases e:ez ds with
  | none=>rw [e] at h; cases h
  | some m =>
   rw [e] at h
   cases h
   obtain ⟨a,vs,rfl,q,rl⟩:=r
   rw [rP e rl] at q
   exact ⟨a,rfl,q⟩
 | int i=>cases h
 | str i=>cases h
 | _=>cases h
theorem n8 {κ:Type} [DecidableEq κ] (ι:κ->KT) (inj:∀ a b,ι a=ι b->a=b) {S:Addr->Prop}:∀ {kvs:List (κ × V)}{xs:List D}{f:List Addr}{k:κ},aB K B S H xs (kvs.map (·.2)) f ->
  match iB (kvs.map fun p=>ι p.1) xs (ι k) with
  | some d=>∃ v g,mE kvs k=some v/\Rep K B S H d v g/\List.Sublist g f
  | none=>mE kvs k=none
 | [],xs,f,k,r=>by cases xs <;> rfl
 | p :: kvs,[],f,k,r=>by obtain ⟨h,_⟩:=r; cases h
 | p :: kvs,d :: ds,f,k,r=>by
  obtain ⟨v,w,f1,f2,e,r1,r2,rfl⟩:=r
  rw [List.map_cons] at e
  cases e
  rw [List.map_cons,iB]
  by_cases h:p.1=k
  ·rw [if_pos (congrArg ι h)]
   exact ⟨_,f1,mF h,r1,List.sublist_append_left _ _⟩
  ·rw [if_neg fun z=>h (inj _ _ z)]
   have ih:=n8 ι inj (k:=k) r2
   split at ih
   ·rename_i d' e'
    obtain ⟨v',g,h1,h2,h3⟩:=ih
    exact ⟨v',g,by rw [kW h]; exact h1,h2,h3.trans (List.sublist_append_right _ _)⟩
   ·rename_i e'
    rw [kW h]
    exact ih
theorem x9 {a:Addr}{k:Bool}{ks:List KT}{xs:List D}{vs:List V}{g:List Addr}{q:KT}{dk:D}{y:V}{f:List Addr} (hd:DictAt H a k ks vs) (r:aB K B (· ∈ P) H xs vs g) (hk:ie dk=some q) (rk:Rep K B (· ∈ P) H dk y f) (hq:q.kind=k) :
  match iB ks xs q with
  | some d=>∃ v g',l9 H a y (some v)/\Rep K B (· ∈ P) H d v g'/\List.Sublist g' g
  | none=>l9 H a y none:=by
 rcases hd with ⟨rfl,kvs,ha,rfl,rfl⟩ | ⟨rfl,kvs,ha,rfl,rfl⟩
 ·cases q with
  | inr q=>cases hq
  | inl q =>
   have ev:=AM hk rk
   subst ev
   have ih:=n8 Sum.inl (fun a b h=>Sum.inl.inj h) (k:=q) r
   split at ih
   ·rename_i d e
    rw [e]
    obtain ⟨v,g',h1,h2,h3⟩:=ih
    exact ⟨v,g',h1 ▸ l9.k ha,h2,h3⟩
   ·rename_i e
    rw [e]
    exact ih ▸ l9.k ha
 ·cases q with
  | inl q=>cases hq
  | inr q =>
   obtain ⟨b,rfl,hb⟩:=AL hk rk
   have ih:=n8 Sum.inr (fun a b h=>Sum.inr.inj h) (k:=q) r
   split at ih
   ·rename_i d e
    rw [e]
    obtain ⟨v,g',h1,h2,h3⟩:=ih
    exact ⟨v,g',h1 ▸ l9.t ha hb,h2,h3⟩
   ·rename_i e
    rw [e]
    exact ih ▸ l9.t ha hb
def gy (k:Bool) (_:SD):Res D := .ok (.dct .own k [] [])
theorem newDict {Q:VK}{k:Bool}{o:HO}{pa:Addr} (h:Out K H0 B0 B H σ τ P F Q (.dct .own k [] [])) (I:SI K H0 B0 B H σ τ P F) (hp:H pa=none) (ho:DictAt (upd H pa o) pa k [] []):Q (.ref pa) (upd H pa o):=by
 have s:=ib (o:=o) hp
 obtain ⟨n1,n2,n3,n4⟩:=I.Ax hp
 refine h (.ref pa) _ B [pa] (I.grow s) s (aw.refl _) ⟨pa,[],[],rfl,ho,⟨rfl,rfl⟩,rfl⟩ ⟨by simp,fun a m=>?_⟩
 have e:a=pa:=by simpa using m
 subst e
 exact ⟨n1,n2,(by rw [bX]; exact Option.some_ne_none _),n3,n4⟩
theorem ya:PE X (.Dict [] [] pos) (tM X.K Y (gy true)):=PE.imp Ai fun σ H Q ⟨H0,B0,B,τ,P,F,I,h⟩ p hp=>newDict h I hp (.inr ⟨rfl,[],bX,rfl,rfl⟩)
variable {o i:Expr}{fo fi:SD->Res D}
def gx (dd dk:D):Res D:=match dd with
 | .dct _ k ks vs=>match ie dk with
  | some q=>if q.kind=k then (match iB ks vs q with | some d=>.ok d | none=>.bad) else .bad
  | none=>.bad
 | _=>.bad
theorem FY (hu:X.A.units + 1 < cLine) (ho:PE X o (tM X.K Y fo)) (hi:PE X i (tM X.K Y fi)) (hs:FD i):PE X (.Subscript o i pos) (tM X.K Y (ah gx fo fi)) :=
 PE.imp (C6 hu ho hi hs) fun σ H Q hq=>ex8 hq fun H0 B0 B τ P F I h=>tM.qR I h fun d1 d2 v1 v2 H2 B2 f1 f2 _ _ I2 _ _ r1 r2 k h2=>by
  unfold gx at h2
  split at h2
  ·split at h2
   ·rename_i q hk
    split at h2
    ·rename_i hq
     obtain ⟨a,vs,g,rfl,hd,rl,sg⟩:=r1.dc I2
     have key:=x9 hd rl hk r2 hq
     split at key
     ·rename_i d e
      rw [e] at h2
      obtain ⟨v,g',k1,k2,k3⟩:=key
      exact ⟨a,v,rfl,k1,Out.pV h2 I2 k2 (k.left.sub (k3.trans sg))⟩
     ·rename_i e
      rw [e] at h2
      exact h2.elim
    ·exact h2.elim
   ·exact h2.elim
  ·exact h2.elim
def dQ (dd dk dz:D):Res D:=match dd with
 | .dct _ k ks vs=>match ie dk with
  | some q=>if q.kind=k then .ok ((iB ks vs q).getD dz) else .bad
  | none=>.bad
 | _=>.bad
def gz (a b c:SD->Res D) (τ:SD):Res D:=(a τ).bind fun x=>if jF x=true then (b τ).bind fun y=>(c τ).bind (dQ x y) else .bad
theorem FZ {a:Addr}{k:Bool}{ks:List KT}{vs:List V} (h:DictAt H a k ks vs):Ji H a:=by
 rcases h with ⟨_,kvs,h,_⟩ | ⟨_,kvs,h,_⟩
 ·exact .inl ⟨kvs,.inl h⟩
 ·exact .inr ⟨kvs,.inl h⟩
theorem Dq {e f:Expr}{fe ff:SD->Res D}{apos cpos:Pos} (hu:X.A.units + 1 < cLine) (ho:PE X o (tM X.K Y fo)) (he:PE X e (tM X.K Y fe)) (hf:PE X f (tM X.K Y ff)) (m:M2 X o "get" apos e f cpos):PE X (.Call (.Attribute o "get" apos) [e,f] [] cpos) (tM X.K Y (gz fo fe ff)):=by
 refine PE.imp (Aj hu ho he hf m) fun σ H Q hq=>ex8 hq fun H0 B0 B τ P F I h=>?_
 refine tM.seq (g:=fun x=>if jF x=true then (fe τ).bind fun y=>(ff τ).bind (dQ x y) else .bad) I h fun d1 v1 H1 B1 fp1 _ I1 s1 b1 r1 k1 h1=>?_
 by_cases hdc:jF d1=true
 ·rw [if_pos hdc] at h1
  cases d1 with
  | dct t k ks xs =>
   obtain ⟨a,vs,g,rfl,hd,rl,sg⟩:=r1.dc I1
   refine ⟨a,rfl,FZ hd,?_⟩
   have I1h:=I1.hold k1
   refine ⟨H0,B0,B1,τ,P,_,I1h,?_⟩
   cases z:fe τ with
   | d9 C=>rw [z] at h1; exact lW.later h1 (aw.refl _) (aw.refl _) fun a x=>.inr x
   | bad=>rw [z] at h1; exact h1
   | ok d2 =>
    rw [z] at h1
    intro v2 H2 B2 fp2 I2 s2 b2 r2 k2
    have I2h:=I2.hold k2
    refine ⟨H0,B0,B2,τ,P,_,I2h,?_⟩
    cases y:ff τ with
    | d9 C=>rw [y] at h1; exact lW.later h1 s2 b2 fun a x=>.inr (.inr x)
    | bad=>rw [y] at h1; exact h1
    | ok d3 =>
     rw [y] at h1
     intro v3 H3 B3 fp3 I3 s3 b3 r3 k3
     have I4:=I3.uK (F' := F) fun a x=>.inr (.inr x)
     have h4:Goal X.K Y H0 B0 B3 H3 σ τ P F Q (dQ (.dct t k ks xs) d2 d3):=Goal.later h1 (s2.trans s3) (b2.trans b3)
     have r14:=r1.mono (s2.trans s3) (b2.trans b3) fun _ x=>x
     have r24:=r2.mono s3 b3 fun _ x=>x
     have k3':gQ H0 B3 H3 P F fp3:=⟨k3.nd,fun a m=>let ⟨a1,a2,a3,a4,a5⟩:=k3.own a m; ⟨a1,a2,a3,a4,fun z=>a5 (.inr (.inr z))⟩⟩
     have k1':gQ H0 B3 H3 P F fp1:=⟨k1.nd,fun a m=>let ⟨_,a2,_,a4,a5⟩:=k1.own a m; ⟨(I3.fr a (.inr (.inl m))).1,a2,(I3.fr a (.inr (.inl m))).2,a4,a5⟩⟩
     simp only [dQ] at h4
     split at h4
     ·rename_i q hk
      split at h4
      ·rename_i hq
       obtain ⟨a',vs',g',e',hd',rl',sg'⟩:=r14.dc I4
       cases e'
       have key:=x9 hd' rl' hk r24 hq
       split at key
       ·rename_i d e
        rw [e] at h4
        obtain ⟨v,g'',q1,q2,q3⟩:=key
        exact ⟨some v,q1,Out.pV h4 I4 q2 (k1'.sub (q3.trans sg'))⟩
       ·rename_i e
        rw [e] at h4
        exact ⟨none,key,Out.pV h4 I4 r3 k3'⟩
      ·exact h4.elim
     ·exact h4.elim
  | _=>cases hdc
 ·rw [if_neg hdc] at h1; exact h1.elim
def eQ (τ:SD) (i:Nat):Option (Bool × List KT × List D):=match τ[i]? with | some (some (.dct .own k ks xs))=>some (k,ks,xs) | _=>none
theorem wm {τ:SD}{i:Nat}{k:Bool}{ks:List KT}{xs:List D} (h:eQ τ i=some (k,ks,xs)):τ[i]?=some (some (.dct .own k ks xs)):=by
 unfold eQ at h
 split at h
 ·rename_i e; cases h; exact e
 ·cases h
theorem uV {κ:Type} [DecidableEq κ] (ι:κ->KT) (inj:∀ a b,ι a=ι b->a=b) (k:κ):∀ kvs:List (κ × V),jG (kvs.map fun p=>ι p.1) (ι k)=kvs.any fun kv=>decide (kv.1=k)
 | []=>rfl
 | p :: r=>by
  have ih:=uV ι inj k r
  unfold jG at ih ⊢
  rw [List.map_cons,List.any_cons,List.any_cons,ih]
  congr 1
  by_cases h:p.1=k
  ·simp [h]
  ·rw [decide_eq_false h,decide_eq_false fun z=>h (inj _ _ z)]
theorem AN {κ:Type} [DecidableEq κ] (ι:κ->KT) (inj:∀ a b,ι a=ι b->a=b) {kvs:List (κ × V)}{xs:List D}{f fp:List Addr}{k:κ}{d:D}{v:V} (r:aB K B No H xs (kvs.map (·.2)) f) (rv:Rep K B No H d v fp) (hp:jG (kvs.map fun p=>ι p.1) (ι k)=true->d.pure=true) :
  qd (kvs.map fun p=>ι p.1) (ι k)=(putK kvs k v).map (fun p=>ι p.1)/\∃ f',aB K B No H (qb (kvs.map fun p=>ι p.1) xs (ι k) d) ((putK kvs k v).map (·.2)) f'/\(∀ b ∈ f',b ∈ f ∨ b ∈ fp)/\(f.Nodup->fp.Nodup->(∀ b ∈ fp,b ∉ f)->f'.Nodup):=by
 unfold qd qb putK
 rw [uV ι inj k kvs] at hp ⊢
 by_cases h:(kvs.any fun kv=>decide (kv.1=k))=true
 ·rw [if_pos h,if_pos h,if_pos h]
  have hpu:=hp h
  have hfp:fp=[]:=Dh.1 d hpu rv
  subst hfp
  refine ⟨?_,?_⟩
  ·rw [List.map_map]
   refine List.map_congr_left fun p _=>?_
   show _=ι (if p.1=k then (p.1,v) else p).1
   split <;> rfl
  ·have key:∀ {kvs:List (κ × V)}{xs:List D}{f:List Addr},aB K B No H xs (kvs.map (·.2)) f->∃ f',aB K B No H (jg (kvs.map fun p=>ι p.1) xs (ι k) d) ((kvs.map fun kv=>if kv.1=k then (kv.1,v) else kv).map (·.2)) f'/\List.Sublist f' f:=by
    intro kvs
    induction kvs with
    | nil=>intro xs f r; cases xs with
     | nil=>exact ⟨f,r,List.Sublist.refl _⟩
     | cons x xs=>obtain ⟨_,_,_,_,e,_⟩:=r; cases e
    | cons p kvs ih =>
     intro xs f r
     cases xs with
     | nil=>obtain ⟨e,_⟩:=r; cases e
     | cons x xs =>
      obtain ⟨u,w,f1,f2,e,r1,r2,rfl⟩:=r
      rw [List.map_cons] at e
      cases e
      obtain ⟨g,h1,h2⟩:=ih r2
      rw [List.map_cons,List.map_cons,List.map_cons,jg]
      by_cases hk:p.1=k
      ·rw [if_pos hk,if_pos (congrArg ι hk)]
       exact ⟨g,⟨v,_,[],g,rfl,rv,h1,rfl⟩,h2.trans (List.sublist_append_right _ _)⟩
      ·rw [if_neg hk,if_neg fun z=>hk (inj _ _ z)]
       exact ⟨f1 ++ g,⟨_,_,f1,g,rfl,r1,h1,rfl⟩,List.Sublist.append (List.Sublist.refl _) h2⟩
   obtain ⟨g,h1,h2⟩:=key r
   exact ⟨g,h1,fun b m=>.inl (h2.subset m),fun n _ _=>n.sublist h2⟩
 ·rw [if_neg h,if_neg h,if_neg h]
  refine ⟨by rw [List.map_append]; rfl,f ++ fp,?_,fun b m=>List.mem_append.mp m,fun n1 n2 n3=>List.nodup_append.mpr ⟨n1,n2,fun a ha b hb e=>n3 b hb (e ▸ ha)⟩⟩
  rw [List.map_append]
  exact r.append (aB.one rv)
theorem SI.HM {i:Nat}{k:Bool}{ks ks':List KT}{xs xs':List D}{gp:List Addr}{a:Addr}{o':HO} (I:SI K H0 B0 B H σ τ P No) (hi:τ[i]?=some (some (.dct .own k ks xs))) (ev:σ[i]?=some (some (.ref a))) (kv:gQ H0 B H P No gp) (mu:∃ o,H a=some o/\qO o)
  (items:∀ vs f,DictAt H a k ks vs->aB K B No H xs vs f->∃ vs' f',DictAt (upd H a o') a k ks' vs'/\aB K B No H xs' vs' f'/\(∀ b ∈ f',b ∈ f ∨ b ∈ gp)/\(f.Nodup->(∀ b ∈ gp,b ∉ f)->f'.Nodup)) :
  ∃ P',lC K H0 B0 B H B (upd H a o') σ (τ.set i (some (.dct .own k ks' xs'))) P' := by
 have hi':i < τ.length:=(List.getElem?_eq_some_iff.mp hi).1
 obtain ⟨A,f,C,e,h1,h2⟩:=I.rep.cut hi'
 obtain ⟨v,e1,r1⟩:=h1 _ hi
 rw [ev] at e1
 cases e1
 obtain ⟨a',ws,g,ea,hq,rl,ef⟩:=r1
 cases ea
 subst ef
 have nd0:=I.nd
 rw [e] at nd0
 have ndf:(a :: g).Nodup:=(nd0.sublist (List.sublist_append_left _ _)).sublist (List.sublist_append_right _ _)
 have gdis:∀ b ∈ gp,b ∉ a :: g:=fun b m z=>(kv.own b m).2.2.2.1 (by rw [e]; exact f9 _ _ _ b z)
 obtain ⟨vs',f',dq',r',s',n'⟩:=items ws g hq rl
 obtain ⟨na,ng⟩:=List.nodup_cons.mp ndf
 have hna:a ∉ f' := fun m=>(s' a m).elim na fun z=>gdis a z List.mem_cons_self
 have es:σ.set i (some (.ref a))=σ:=by
  refine List.ext_getElem? fun k=>?_
  by_cases hk:k=i
  ·subst hk
   rw [List.getElem?_set_self (List.getElem?_eq_some_iff.mp ev).1,ev]
  ·rw [List.getElem?_set_ne (Ne.symm hk)]
 have kp:mK H (upd H a o') [a]:=⟨fun b o h n=>by rw [aZ (by simpa using n)]; exact h,fun b m=>by
  have:b=a:=by simpa using m
  subst this
  exact mu⟩
 have kpf:mK H (upd H a o') (a :: g):=⟨fun b o h n=>kp.keep b o h (fun z=>n (List.mem_cons.mpr (.inl (List.mem_singleton.mp z)))),fun b m=>I.rep.own b (by rw [e]; exact f9 _ _ _ b m)⟩
 have key:=I.put (i:=i) (H1:=upd H a o') (d' := .dct .own k ks' xs') (v' := .ref a) (f' := a :: f') hi' e h2 kpf ⟨a,vs',f',rfl,dq',r'.keep kp fun b m=>by
   have:b ≠ a:=fun z=>hna (z ▸ m)
   simpa using this,rfl⟩ (List.nodup_cons.mpr ⟨hna,n' ng fun b m z=>gdis b m (List.mem_cons_of_mem _ z)⟩) fun b m=>?_
 ·rw [es] at key
  exact ⟨_,key,aw.refl _,fun b o h n=>kp.CC h n⟩
 ·rcases List.mem_cons.mp m with q | q
  ·exact .inl (by simp [q])
  ·rcases s' b q with z | z
   ·exact .inl (List.mem_cons_of_mem _ z)
   ·obtain ⟨a1,a2,a3,a4,a5⟩:=kv.own b z
    exact .inr (.inr ⟨a4,a1,a2,a5⟩)
def c5 (i:Nat) (fk fv:SD->Res D) (τ:SD):Fl:=(fv τ).nV τ fun d=>match eQ τ i with
 | some (k,ks,xs)=>(fk τ).nV τ fun dk=>match ie dk with
  | some q=>if q.kind=k/\d.aE=false/\ks.length < 16777216/\(jG ks q=true->d.pure=true) then .nx (τ.set i (some (.dct .own k (qd ks q) (qb ks xs q d)))) else .bad
  | none=>.bad
 | none=>.bad
theorem j7 (i:Nat) {x:Str}{p1 pos':Pos}{ke value:Expr}{fk fv:SD->Res D} (hu:X.A.units + 1 < cLine) (hk:PE X ke (tM X.K Y fk)) (hv:PE X value (tM X.K Y fv)) (hN:X.N[i]?=some x:=by rfl) (hvi:Eg X.env.scope x:=by first | exact Or.inl rfl | exact Or.inr (Or.inl rfl) | exact Or.inr (Or.inr rfl)) (hd:(x == ("__debug__" : Str))=false:=by decide) (hcd:(x == ("__classdict__" : Str))=false:=by decide)
  (hs:swapsWith value (some (.Subscript (.Name x p1) ke pos')) pos.line X.env=pure false:=by rfl):PS X (.Assign [.Subscript (.Name x p1) ke pos'] value pos) (mw X.K Y (c5 i fk fv)):=by
 refine PS.imp (C5 hu (pJ hN hvi hd hcd) hk hv hs) fun E σ H hq=>ex7 hq fun H0 B0 B τ P I h=>?_
 refine p6 I h fun d v H1 B1 fp _ I1 s1 b1 r1 k1 h1=>?_
 cases z:eQ τ i with
 | none=>rw [z] at h1; exact h1.elim
 | some t =>
  obtain ⟨k,ks,xs⟩:=t
  rw [z] at h1
  have hi:=wm z
  obtain ⟨w,f,e1,r2,sf⟩:=I1.rep.get hi
  obtain ⟨a,ws,g,rfl,dq,rl,ef⟩:=r2
  refine ⟨.ref a,e1,?_⟩
  refine ⟨H0,B0,B1,τ,P,_,I1.hold k1,?_⟩
  simp only at h1
  cases y:fk τ with
  | d9 C=>rw [y] at h1; exact fun H2 B2 I2 s2 b2=>h1 B2 H2 σ P (lC.grow (I2.uK fun _ x=>x.elim) b2 s2)
  | bad=>rw [y] at h1; exact h1
  | ok dk =>
   rw [y] at h1
   intro vk H2 B2 fq I2 s2 b2 rk kk
   have I3:SI X.K H0 B0 B2 H2 σ τ P No:=I2.uK fun _ x=>x.elim
   have h2:=eU.later h1 (lC.grow I3 b2 s2)
   simp only [Res.nV] at h2
   cases hkk:ie dk with
   | none=>rw [hkk] at h2; exact h2.elim
   | some q =>
    rw [hkk] at h2
    simp only at h2
    split at h2
    ·rename_i hc
     obtain ⟨c1,c2,c3,c4⟩:=hc
     have kv:gQ H0 B2 H2 P No fp:=⟨k1.nd,fun a m=>let ⟨_,a2,_,a4,a5⟩:=k1.own a m; ⟨(I2.fr a (.inl m)).1,a2,(I2.fr a (.inl m)).2,a4,a5⟩⟩
     have rd:=(r1.iT c2).mono s2 b2 fun _ x=>x
     have dq2:=dq.mono s2
     have rl2:=rl.mono s2 b2 fun _ x=>x
     have mu:∃ o,H2 a=some o/\qO o:=by
      rcases dq2 with ⟨_,kvs,q,_⟩ | ⟨_,kvs,q,_⟩
      ·exact ⟨_,q,trivial⟩
      ·exact ⟨_,q,trivial⟩
     rcases dq2 with ⟨rfl,kvs,ha,hks,hws⟩ | ⟨rfl,kvs,ha,hks,hws⟩
     ·cases q with
      | inr q=>cases c1
      | inl q =>
       have ev:=AM hkk rk
       subst ev
       subst hks hws
       obtain ⟨P',A'⟩:=I3.HM (o' := .dK (putK kvs q v)) (ks' := qd (kvs.map fun p=>Sum.inl p.1) (.inl q)) (xs' := qb (kvs.map fun p=>Sum.inl p.1) xs (.inl q) d) hi e1 kv mu fun vs f hda hr=>by
        rcases hda with ⟨_,kvs',q1,q2,q3⟩ | ⟨q0,_⟩
        ·rw [ha] at q1
         cases q1
         subst q3
         obtain ⟨p1,f',p2,p3,p4⟩:=AN Sum.inl (fun a b h=>Sum.inl.inj h) (k:=q) hr rd c4
         exact ⟨_,f',.inl ⟨rfl,_,bX,p1,rfl⟩,p2,p3,fun n1 n2=>p4 n1 kv.nd n2⟩
        ·cases q0
       exact ⟨a,_,rfl,uw.k ha (by rw [sizeLine_eq]; simpa using c3),h2 B2 _ σ P' A'⟩
     ·cases q with
      | inl q=>cases c1
      | inr q =>
       obtain ⟨b,rfl,hb⟩:=AL hkk rk
       subst hks hws
       obtain ⟨P',A'⟩:=I3.HM (o' := .dT (putK kvs q v)) (ks' := qd (kvs.map fun p=>Sum.inr p.1) (.inr q)) (xs' := qb (kvs.map fun p=>Sum.inr p.1) xs (.inr q) d) hi e1 kv mu fun vs f hda hr=>by
        rcases hda with ⟨q0,_⟩ | ⟨_,kvs',q1,q2,q3⟩
        ·cases q0
        ·rw [ha] at q1
         cases q1
         subst q3
         obtain ⟨p1,f',p2,p3,p4⟩:=AN Sum.inr (fun a b h=>Sum.inr.inj h) (k:=q) hr rd c4
         exact ⟨_,f',.inr ⟨rfl,_,bX,p1,rfl⟩,p2,p3,fun n1 n2=>p4 n1 kv.nd n2⟩
       exact ⟨a,_,rfl,uw.t ha hb (by rw [sizeLine_eq]; simpa using c3),h2 B2 _ σ P' A'⟩
    ·exact h2.elim
end
section
variable {P:Program}{w:World}{K:PySem.W.Frag}{mg:Str->Option Value}{base:Heap}
theorem Ds {x:Str}{st:Stmt}{ps:List Str}{k:Nat} (D:dR K mg x st ps):ir P w K mg base k x ps (fV K fun _=>.bad):=by
 obtain ⟨f,fd,F,hm,hb⟩:=D.ex
 exact ⟨f,fd,hm,F.kp,hb,fun vs H Q E h=>by obtain ⟨_,_,_,_,h⟩:=h; exact h.elim,fun A outer s H args us vs Q E hr he hbd hv h=>by obtain ⟨_,_,_,_,h⟩:=h; exact h.elim⟩
theorem dH {x:Str}{st:Stmt}{N ps:List Str}{k n m:Nat}{g:SF} (D:dR K mg x st ps) (S:a9 N ps (aC st)) (hn:ps.length=n) (hm:N.length=m)
  (hbody:∀ (f:Addr) (cdv:Value) (A:Around) (outer:List Env) (s:Shared) (H:Hp),gh k (A.deeper (envOfC x (aC st) s.heap.objs.size f cdv)) ->
   lY (lV vQ P w K mg base N x (aC st) f cdv A outer s H E0).El (dY st) (mw K (fun _ _ _=>False) g)):ir P w K mg base (k + 1) x ps (fV K (bZ n m g)):=by
 subst hn hm
 exact FU D S hbody
theorem AO {x:Str}{st:Stmt}{N ps:List Str}{k n m:Nat}{g:SF}{f:Addr}{fd:FuncData} (D:C7 K x x st f fd) (S:a9 N ps (aC st)) (hn:ps.length=n) (hm:N.length=m)
  (hbody:∀ (f:Addr) (cdv:Value) (A:Around) (outer:List Env) (s:Shared) (H:Hp),gh k (A.deeper (envOfC x (aC st) s.heap.objs.size f cdv)) ->
   lY (lV vQ P w K mg base N x (aC st) f cdv A outer s H E0).El (dY st) (mw K (fun _ _ _=>False) g)):nG P w K mg base vQ (k + 1) f fd ps (fV K (bZ n m g)):=by
 subst hn hm
 exact x8 D S hbody
theorem cV {h:Heap}{x:Str}{st:Stmt}{ps:List Str}{f:Addr}{oc:Value}{od an:Option Addr}{osl:Array (Option Value)}{kV doc pm cdv ct:Value} (KX:K.In h) (G:h.Ns mainGlobals mg) (a:PySem.W.nsIn K mainGlobals x=some (some (.ref f)))
  (l:K.lookup f=some ⟨oc,od,.func (PySem.W.fnOf x x (je st) (dY st) (aC st) .none kV doc pm an cdv ct),osl⟩) (c:PySem.W.codeIn K cdv x=true) (k:PySem.W.keepIn K (.ref f)=true)
  (hb:∀ (kV doc pm:Value) (an:Option Addr) (cdv ct:Value) (us:List Value),us.length=ps.length->bindArgs (PySem.W.fnOf x x (je st) (dY st) (aC st) .none kV doc pm an cdv ct) ⟨us,[]⟩=pure (ps.zip us)):dR K mg x st ps :=
 ⟨f,_,wa l c k,PySem.W.mg_of KX G a,(wa l c k).binds hb⟩
theorem F0 {G:DF}{H:Hp}{a:Addr}{ns:List Int} (hS:gI K H a (ns.map V.int)) (h:G [.lst .aG (ns.map D.int)]=.ok (.bl true)):fV K G [.ref a] H (fun v _=>v=.bl true) fun _ _ _=>False:=by
 refine ⟨H,[.lst .aG (ns.map D.int)],aw.refl _,aB.one ⟨a,_,rfl,hS,jE ns,rfl⟩,?_⟩
 rw [h]
 exact fun B' H' v fp r=>r.rep.1
end
theorem ao (ns:List Int):bc (ns.map D.int)=true:=dF fun d hd=>by obtain ⟨n,_,rfl⟩:=List.mem_map.mp hd; rfl
@[simp] theorem GY (ns:List Int):bQ (ns.map D.int)=ns.map D.int:=bK _ (ao ns)
@[simp] theorem aN (ns:List Int):aH (ns.map D.int)=ns.map D.int:=cR _ (ao ns)
@[simp] theorem AQ (ns:List Int):aI (ns.map D.int)=false:=bu _ (ao ns)
@[simp] theorem HN (ns:List Int):bT (ns.map D.int)=false:=j4 _ (ao ns)
@[simp] theorem F2 (ns:List Int):cN (ns.map D.int)=ns.map D.int:=ia _ (ao ns)
@[simp] theorem F7 (ns:List Int):cg (ns.map D.int)=ns.map D.int:=jC _ (AQ ns)
@[simp] theorem ints_map (ns:List Int):intsOf (ns.map D.int)=some ns:=j5 ns
@[simp] theorem F8 (τ:SD) (s:SF):(Fl.nx τ).andThen s=s τ:=rfl
@[simp] theorem F1 (d:D) (s:SF):(Fl.rt d).andThen s=.rt d:=rfl
@[simp] theorem F6 (τ:SD) (s:SF):(Fl.bk τ).andThen s=.bk τ:=rfl
@[simp] theorem F3 (τ:SD) (s:SF):(Fl.ct τ).andThen s=.ct τ:=rfl
@[simp] theorem F4 (C:PySem.Addr) (τ:SD) (s:SF):(Fl.ex C τ).andThen s=.ex C τ:=rfl
@[simp] theorem Ez (s:SF):Fl.bad.andThen s=.bad:=rfl
@[simp] theorem lJ (τ:SD) (d:D) (k:D->Fl):(Res.ok d).nV τ k=k d:=rfl
@[simp] theorem HQ (τ:SD) (C:PySem.Addr) (k:D->Fl):(Res.d9 C:Res D).nV τ k=.ex C τ:=rfl
@[simp] theorem HP (τ:SD) (k:D->Fl):(Res.bad:Res D).nV τ k=.bad:=rfl
@[simp] theorem mT (τ:SD) (d:Bool) (k:Bool->Fl):(Res.ok d).uP τ k=k d:=rfl
@[simp] theorem GZ (τ:SD) (C:PySem.Addr) (k:Bool->Fl):(Res.d9 C:Res Bool).uP τ k=.ex C τ:=rfl
@[simp] theorem GX (τ:SD) (k:Bool->Fl):(Res.bad:Res Bool).uP τ k=.bad:=rfl
@[simp] theorem ID:(Res.bad:Res D).IB=.bad:=rfl
@[simp] theorem Jy (d:D):(Fl.rt d).out=.ok d:=rfl
@[simp] theorem Jw (τ:SD):(Fl.nx τ).out=.ok .cY:=rfl
@[simp] theorem Jx (C:PySem.Addr) (τ:SD):(Fl.ex C τ).out=.d9 C:=rfl
@[simp] theorem IE:Fl.bad.out=.bad:=rfl
theorem ba {g:D->D->Res D}{a b:SD->Res D}{τ:SD}{x y:D} (ha:a τ=.ok x) (hb:b τ=.ok y):ah g a b τ=g x y:=by unfold ah; rw [ha,hb]; rfl
theorem Ey {c:SD->Res Bool}{a b:SF}{τ:SD}{t:Bool} (h:c τ=.ok t):dP c a b τ=if t=true then a τ else b τ:=by unfold dP; rw [h]; rfl
theorem dZ {n:Nat} (h:n <= 1000000000):lD [.int n]=.ok (false,(List.range n).map fun k:Nat=>.int k):=by
 have h1 : -1000000000 <= (n:Int)/\(n:Int) <= 1000000000:=by omega
 simp [lD,h1]
theorem aJ {a b:SF}{τ τ':SD} (h:a τ=.nx τ'):aD a b τ=b τ' := by unfold aD; rw [h]; rfl
theorem tE {a b:SF}{τ:SD} (Q:Fl->Prop) (τ':SD) (h:a τ=.nx τ') (k:Q (b τ')):Q (aD a b τ):=by rw [aJ h]; exact k
theorem bA {i:Nat}{e:SD->Res D}{τ:SD}{d:D} (h:e τ=.ok d) (hb:d.aE=false):bf i e τ=.nx (τ.set i (some d)):=by
 unfold bf jo
 rw [h,lJ,hb]
 rfl
theorem lI {i:Nat}{e:SD->Res D}{b:SF}{τ:SD} (Q:Fl->Prop) (d:D) (h:e τ=.ok d) (hb:d.aE=false) (k:Q (b (τ.set i (some d)))):Q (aD (bf i e) b τ):=tE Q _ (bA h hb) k
theorem rQ {c:SD->Res Bool}{i:Nat}{e:SD->Res D}{b:SF}{τ:SD} (Q:Fl->Prop) (Pd:D->Prop) (hc:∃ t,c τ=.ok t/\(t=true->∃ d,e τ=.ok d/\d.aE=false/\Pd d)) (h0:∃ d,τ[i]?=some (some d)/\Pd d) (k:∀ d,Pd d->Q (b (τ.set i (some d)))):Q (aD (dP c (bf i e) aR) b τ):=by
 obtain ⟨t,h1,h2⟩:=hc
 cases t with
 | true =>
  obtain ⟨d,h3,h4,h5⟩:=h2 rfl
  refine tE Q (τ.set i (some d)) ?_ (k d h5)
  unfold dP
  rw [h1,mT,if_pos rfl]
  exact bA h3 h4
 | false =>
  obtain ⟨d,h3,h5⟩:=h0
  have es:τ.set i (some d)=τ:=by
   refine List.ext_getElem? fun k=>?_
   by_cases hk:k=i
   ·subst hk
    rw [List.getElem?_set_self (List.getElem?_eq_some_iff.mp h3).1,h3]
   ·rw [List.getElem?_set_ne (Ne.symm hk)]
  refine tE Q (τ.set i (some d)) ?_ (k d h5)
  unfold dP
  rw [h1,mT,if_neg Bool.false_ne_true,es]
  rfl
theorem zh {c:SD->Res Bool}{a b:SF}{τ:SD} (Q:Fl->Prop) (hc:∃ t,c τ=.ok t/\(t=true->∃ d,a τ=.rt d/\Q (.rt d))/\(t=false->Q (b τ))):Q (aD (dP c a aR) b τ):=by
 obtain ⟨t,h1,h2,h3⟩:=hc
 cases t with
 | true =>
  obtain ⟨d,h4,h5⟩:=h2 rfl
  have:aD (dP c a aR) b τ=.rt d:=by
   unfold aD dP
   rw [h1,mT,if_pos rfl,h4]
   rfl
  rw [this]
  exact h5
 | false =>
  refine tE Q τ ?_ (h3 rfl)
  unfold dP
  rw [h1,mT,if_neg Bool.false_ne_true]
  rfl
theorem AR {α:Type}{xs:List α}{i:Int}{j:Nat}{v:α} (hi:i=j) (h:xs[j]?=some v):qM xs i=some v:=by subst hi; exact CW h
theorem yb {tg:x6}{body:SF} (st:Nat->SD):∀ {ds:List D} (i:Nat),(∀ j d,ds[j]?=some d->∃ τ',tg d (st (i + j))=some τ'/\body τ'=.nx (st (i + j + 1)))->fK tg body ds (st i)=.nx (st (i + ds.length))
 | [],i,_=>rfl
 | d :: r,i,h=>by
  obtain ⟨τ',h1,h2⟩:=h 0 d rfl
  unfold fK
  simp only [Nat.add_zero] at h1 h2
  rw [h1]
  simp only [h2]
  have ih:=yb st (ds:=r) (i + 1) fun j e he=>by
   have:=h (j + 1) e (by simpa using he)
   rw [show i + (j + 1)=i + 1 + j by omega] at this
   exact this
  rw [ih,List.length_cons]
  congr 2
  omega
theorem eW {tg:x6}{body:SF} (Pv:Nat->SD->Prop):∀ {ds:List D} (i:Nat) (τ:SD),Pv i τ->(∀ j d τ,ds[j]?=some d->Pv (i + j) τ->∃ τ' t,tg d τ=some τ'/\(body τ'=.nx t ∨ body τ'=.ct t)/\Pv (i + j + 1) t)->∃ t,fK tg body ds τ=.nx t/\Pv (i + ds.length) t
 | [],i,τ,h0,_=>⟨τ,rfl,h0⟩
 | d :: r,i,τ,h0,h=>by
  obtain ⟨τ',t,h1,h2,h3⟩:=h 0 d τ rfl h0
  have ih:=eW Pv (ds:=r) (i + 1) t h3 fun j e τ he hp=>by
   have:=h (j + 1) e τ (by simpa using he) (by rw [show i + (j + 1)=i + 1 + j by omega]; exact hp)
   rw [show i + (j + 1)=i + 1 + j by omega] at this
   exact this
  obtain ⟨u,h4,h5⟩:=ih
  refine ⟨u,?_,by rw [List.length_cons,show i + (r.length + 1)=i + 1 + r.length by omega]; exact h5⟩
  unfold fK
  rw [h1]
  rcases h2 with h2 | h2 <;> (simp only [h2]; exact h4)
theorem n9 {tt:SD->Res Bool}{elt:SD->Res D}{caps:SD} (p:D->Bool) (f:D->D):∀ {ds:List D} (o:Option D),(∀ d ∈ ds,tt (some d :: caps)=.ok (p d))->(∀ d ∈ ds,p d=true->elt (some d :: caps)=.ok (f d)/\(f d).aE=false)->kI (gN 0) tt elt ds (o :: caps)=.ok ((ds.filter p).map f)
 | [],o,_,_=>rfl
 | d :: r,o,ht,he=>by
  have ih:=n9 p f (ds:=r) (some d) (fun e m=>ht e (List.mem_cons_of_mem _ m)) fun e m=>he e (List.mem_cons_of_mem _ m)
  unfold kI
  simp only [gN,List.set_cons_zero]
  rw [ht d List.mem_cons_self]
  simp only [Res.aQ]
  by_cases hp:p d=true
  ·obtain ⟨h1,h2⟩:=he d List.mem_cons_self hp
   simp only [hp,if_true,h1,Res.aQ,h2,Bool.false_eq_true,if_false,ih]
   rw [List.filter_cons_of_pos hp,List.map_cons]
  ·simp only [hp,if_false,ih,Bool.false_eq_true]
   rw [List.filter_cons_of_neg hp]
theorem zg {elt:SD->Res D}{caps:SD} (f:D->D) {ds:List D} (o:Option D) (he:∀ d ∈ ds,elt (some d :: caps)=.ok (f d)/\(f d).aE=false):kI (gN 0) dG elt ds (o :: caps)=.ok (ds.map f):=by
 have:=n9 (tt:=dG) (fun _=>true) f o (fun d _=>rfl) fun d m _=>he d m
 rw [List.filter_eq_self.mpr fun _ _=>rfl] at this
 exact this
theorem wo {G:DF}{ds:List D}{d:D} (h:G (aH ds)=.ok d) (hp:d.pure=true):fC G ds=.ok d:=by
 unfold fC
 rw [h]
 split
 ·simp [pT d hp]
 ·rfl
theorem zj {G:DF}{ds:List D}{d:D} (h:G (aH ds)=.ok d) (hb:aI ds=false):fC G ds=.ok d:=by
 unfold fC
 rw [h,hb]
 rfl
theorem df {G:DF}{fs:SD->Res (List D)}{τ:SD}{ds:List D}{d:D} (ha:fs τ=.ok ds) (h:G (aH ds)=.ok d) (hp:d.pure=true):aF G fs τ=.ok d:=by
 unfold aF; rw [ha]; exact wo h hp
theorem c7 {G:DF}{fs:SD->Res (List D)}{τ:SD}{ds:List D}{d:D} (ha:fs τ=.ok ds) (h:G (aH ds)=.ok d) (hb:aI ds=false):aF G fs τ=.ok d:=by
 unfold aF; rw [ha]; exact zj h hb
theorem iQ {it:SD->Res (Bool × List D)}{elt:SD->Res D}{cap:List (PySem.Str × Nat)}{τ:SD}{fl:Bool}{ds:List D} (f:D->D) (hit:it τ=.ok (fl,ds)) (he:∀ d ∈ aH ds,elt (some d :: fE τ cap)=.ok (f d)/\(f d).pure=true) (hl:ds.length <= 16777216) :
  bR it (gN 0) dG elt 1 cap τ=.ok (.lst .own ((aH ds).map f)):=by
 have hp:bc ((aH ds).map f)=true:=dF fun d m=>by
  obtain ⟨x,hx,rfl⟩:=List.mem_map.mp m
  exact (he x hx).2
 have hl':((aH ds).map f).length <= 16777216:=by rw [List.length_map,sY,List.length_map]; exact hl
 have hc:kI (gN 0) dG elt (aH ds) (List.replicate 1 none ++ fE τ cap)=.ok ((aH ds).map f):=zg f none fun d m=>⟨(he d m).1,aX _ (he d m).2⟩
 unfold bR
 rw [hit,Res.aQ]
 simp only [hc,if_pos hl',ia _ hp,ite_self]
theorem mS {it:SD->Res (Bool × List D)}{tt:SD->Res Bool}{elt:SD->Res D}{cap:List (PySem.Str × Nat)}{τ:SD}{fl:Bool}{ds:List D} (p:D->Bool) (f:D->D) (hit:it τ=.ok (fl,ds)) (ht:∀ d ∈ aH ds,tt (some d :: fE τ cap)=.ok (p d)) (he:∀ d ∈ aH ds,p d=true->elt (some d :: fE τ cap)=.ok (f d)/\(f d).pure=true) (hl:ds.length <= 16777216) :
  bR it (gN 0) tt elt 1 cap τ=.ok (.lst .own (((aH ds).filter p).map f)):=by
 have hp:bc (((aH ds).filter p).map f)=true:=dF fun d m=>by
  obtain ⟨x,hx,rfl⟩:=List.mem_map.mp m
  obtain ⟨h1,h2⟩:=List.mem_filter.mp hx
  exact (he x h1 h2).2
 have hl':(((aH ds).filter p).map f).length <= 16777216:=by
  rw [List.length_map]
  refine Nat.le_trans (List.length_filter_le _ _) ?_
  rw [sY,List.length_map]; exact hl
 have hc:kI (gN 0) tt elt (aH ds) (List.replicate 1 none ++ fE τ cap)=.ok (((aH ds).filter p).map f):=n9 p f none ht fun d m hp=>⟨(he d m hp).1,aX _ (he d m hp).2⟩
 unfold bR
 rw [hit,Res.aQ]
 simp only [hc,if_pos hl',ia _ hp,ite_self]
theorem CS (n d a:Nat):HT.fZ n d (some (a:Int))=min a n:=by
 unfold HT.fZ
 have h:¬ (a:Int) < 0:=by omega
 simp only [h,if_false]
 omega
theorem F5 {α:Type} (xs:List α) (a:Nat):cut xs none (some (a:Int))=xs.take a:=by
 unfold cut
 rw [CS,show HT.fZ xs.length 0 none=0 from rfl,List.drop_zero,Nat.sub_zero]
 by_cases h:a <= xs.length
 ·rw [Nat.min_eq_left h]
 ·rw [Nat.min_eq_right (by omega),List.take_of_length_le (Nat.le_refl _),List.take_of_length_le (by omega)]
theorem gA {xs:List D} (h:bc xs=true):(D.lst .own xs).aE=false:=by
 show (false || aI xs)=false
 rw [bu xs h]; rfl
theorem bV {g:List D->Res D}{f:SD->Res (List D)}{τ:SD}{ds:List D} (h:f τ=.ok ds):eA g f τ=g ds:=by unfold eA; rw [h]; rfl
theorem av {f:SD->Res D}{g:SD->Res (List D)}{τ:SD}{d:D}{ds:List D} (h1:f τ=.ok d) (h2:g τ=.ok ds):aa f g τ=.ok (d :: ds):=by unfold aa; rw [h1,h2]; rfl
theorem bw {f:SD->Res D}{τ:SD}{d:D} (h1:f τ=.ok d):aa f ak τ=.ok [d]:=av h1 rfl
theorem dw {e:SD->Res D}{τ:SD}{d:D} (h:e τ=.ok d) (hb:d.aE=false):bE e τ=.rt d:=by unfold bE; rw [h,lJ,uO d hb]
theorem bC {i:Nat}{τ:SD}{d:D} (h:τ[i]?=some (some d)) (hp:d.pure=true):ae i τ=.ok d:=by unfold ae; rw [h]; simp [rH d hp]
theorem dI {i:Nat}{τ:SD}{xs:List D} (h:τ[i]?=some (some (.lst .aG xs))) (hp:bc xs=true):ae i τ=.ok (.lst .aG xs):=by unfold ae; rw [h]; simp [D.view,Tg.view,bK xs hp]
theorem iH {i:Nat}{τ:SD}{xs:List D} (h:τ[i]?=some (some (.lst .own xs))) (hp:bc xs=true):ae i τ=.ok (.lst .bor xs):=by unfold ae; rw [h]; simp [D.view,Tg.view,bK xs hp]
section
variable {K:PySem.W.Frag}{Y:XY}{H0 B0 B H:Hp}{σ:L2.St}{τ:SD}{P:List Addr}{F:Addr->Prop}{X:Cx}{pos:Pos}
def kM (xs ys:List D):List D:=List.zipWith (fun x y=>D.tup [x,y]) xs ys
def HR:List D->Res (Bool × List D)
 | [d,e]=>(bI d).bind fun p=>(bI e).bind fun q=>.ok (p.1 || q.1,kM p.2 q.2)
 | _=>.bad
def oh (f:SD->Res (List D)) (τ:SD):Res (Bool × List D):=(f τ).bind HR
theorem uX:∀ xs ys:List D,aH (kM xs ys)=kM (aH xs) (aH ys)
 | [],_=>rfl
 | _ :: _,[]=>rfl
 | x :: xs,y :: ys=>by
  show (D.tup [x,y]).aG :: aH (kM xs ys)=D.tup [x.aG,y.aG] :: kM (aH xs) (aH ys)
  rw [uX xs ys]
  rfl
theorem pj (xs ys:List D):(kM xs ys).length=min xs.length ys.length:=by simp [kM]
theorem AS {xs ys:List D}{i:Nat}{d:D} (h:(kM xs ys)[i]?=some d):∃ x y,xs[i]?=some x/\ys[i]?=some y/\d=.tup [x,y]:=by
 unfold kM at h
 rw [List.getElem?_zipWith] at h
 cases hx:xs[i]? with
 | none=>rw [hx] at h; cases h
 | some x =>
  cases hy:ys[i]? with
  | none=>rw [hx,hy] at h; cases h
  | some y =>
   rw [hx,hy] at h
   cases h
   exact ⟨x,y,rfl,rfl,rfl⟩
theorem Dt {src1 src2:Hp->List V->Prop}{ds es:List D}{vs ws:List V} (r:aB K B No H ds vs []) (r':aB K B No H es ws []) (q:∀ B' H':Hp,aw B B'->aw B' H'->nU H H'->src1 H' vs) (q':∀ B' H':Hp,aw B B'->aw B' H'->nU H H'->src2 H' ws):FP K (Iz src1 src2) (kM ds es) B H where
 go:=fun B' H' i d s1 s2 im e=>by
  obtain ⟨x,y,h1,h2,rfl⟩:=AS e
  obtain ⟨v,f,a1,_⟩:=r.get h1
  obtain ⟨w,g,a2,_⟩:=r'.get h2
  exact ⟨vs,v,ws,w,q B' H' s1 s2 im,a1,q' B' H' s1 s2 im,a2⟩
 yI:=fun B' H' i d x H'' s1 s2 im e y=>by
  obtain ⟨p,w1,w2,rfl,hp,rfl,hy1,hy2⟩:=y
  obtain ⟨dx,dy,h1,h2,rfl⟩:=AS e
  obtain ⟨v,f,a1,a2,a3⟩:=r.get h1
  obtain ⟨w,g,c1,c2,c3⟩:=r'.get h2
  have z1:=hy1 vs (q B' H' s1 s2 im)
  have z2:=hy2 ws (q' B' H' s1 s2 im)
  rw [z1] at a1
  cases a1
  rw [z2] at c1
  cases c1
  cases mP a3
  cases mP c3
  have s:=ib (o := .tup [w1,w2]) hp
  exact ⟨s,p,[w1,w2],rfl,bX,w1,[w2],[],[],rfl,(a2.stay s1 im rfl).mono s (aw.refl _) (fun _ x=>x),aB.one ((c2.stay s1 im rfl).mono s (aw.refl _) (fun _ x=>x)),rfl⟩
 stop:=fun B' H' s1 s2 im=>⟨vs,ws,q B' H' s1 s2 im,q' B' H' s1 s2 im,by
  have e1:=r.length
  have e2:=r'.length
  rw [pj]
  omega⟩
theorem uW {d:D}{fl:Bool}{xs:List D}{v:V}{f:List Addr} (hi:bI d=.ok (fl,xs)) (I:SI K H0 B0 B H σ τ P F) (r:Rep K B (· ∈ P) H d v f) :
  ∃ b a vs,v=.ref a/\As K b a H vs/\∀ Bx:Hp,aw B Bx->(∀ a ∈ f,∀ o,H a=some o->Bx a=some o)->(fl=true->∀ a ∈ P,∀ o,H a=some o->Bx a=some o)->∃ ws,aB K Bx No H (aH xs) ws []/\∀ B' H':Hp,aw Bx B'->aw B' H'->nU H H'->As K b a H' ws:=by
 cases d with
 | lst t ys =>
  cases hi
  obtain ⟨a,vs,g,rfl,q,_⟩:=r.lst I
  refine ⟨false,a,vs,rfl,q,fun Bx sB h1 h2=>?_⟩
  obtain ⟨a',ws,ea,q',rl,_⟩:Rep K Bx No H (D.lst .aG (aH xs)) (.ref a) []:=lE r sB h1 h2
  cases ea
  exact ⟨ws,rl,fun B' H' z1 z2 _=>eN (z1.trans z2) q'⟩
 | tup ys =>
  cases hi
  obtain ⟨a,vs,rfl,q,_⟩:=r.tp
  refine ⟨true,a,vs,rfl,q,fun Bx sB h1 h2=>?_⟩
  obtain ⟨a',ws,ea,q',rl⟩:Rep K Bx No H (D.tup (aH xs)) (.ref a) []:=lE r sB h1 h2
  cases ea
  exact ⟨ws,rl,fun B' H' z1 z2 im=>mQ im (jR.of q')⟩
 | _=>cases hi
theorem tF {elts:List Expr}{x1:Nat}{tp p:Pos}{l m:Expr}{fs:SD->Res (List D)} (hg:Gl X "zip") (hm:X.mg "zip" = none) (ha:PA X [l,m] (pU X.K Y fs)) (hs:starEach [l,m] X.env=[(false,eval l X.env),(false,eval m X.env)]:=by rfl) (hs2:starEach [m] X.env=[(false,eval m X.env)]:=by rfl) :
  PI X (.Tuple elts x1 tp) (.Call (.Name "zip" p) [l,m] [] pos) (AF X.K Y (oh fs)):=by
 refine PI.imp (FH hg hm ha hs hs2) fun σ H R hq=>ex8 hq fun H0 B0 B τ P F I h=>⟨H0,B0,B,τ,P,F,I,?_⟩
 cases z:fs τ with
 | d9 C=>simp only [oh,z,Res.mJ] at h; exact h
 | bad=>simp only [oh,z,Res.mH] at h
 | ok ds =>
  simp only [oh,z,Res.aQ] at h
  intro vs H1 B1 fp I1 s1 b1 r1 k1
  match ds,r1,h with
  | [d,e],r1,h =>
   obtain ⟨v,u,f1,f2,rfl,rfl,rd,re⟩:=AA r1
   simp only [HR] at h
   cases hd:bI d with
   | d9 C=>exfalso; cases d <;> cases hd
   | bad=>rw [hd] at h; exact h.elim
   | ok p =>
    obtain ⟨g1,xs⟩:=p
    rw [hd,Res.aQ] at h
    cases he:bI e with
    | d9 C=>exfalso; cases e <;> cases he
    | bad=>rw [he] at h; exact h.elim
    | ok p =>
     obtain ⟨g2,ys⟩:=p
     rw [he,Res.aQ] at h
     obtain ⟨c1,a1,vs1,rfl,q1,k2⟩:=uW hd I1 rd
     obtain ⟨c2,a2,ik,rfl,q2,k3⟩:=uW he I1 re
     refine ⟨c1,c2,a1,a2,vs1,ik,rfl,q1,q2,h _ H1 _ (f1 ++ f2) I1 s1 b1 k1 fun Bx sB sH h1 h2=>?_⟩
     obtain ⟨w1,rl1,m1⟩:=k2 Bx sB (fun a m=>h1 a (List.mem_append_left _ m)) fun t=>h2 (by rw [t]; rfl)
     obtain ⟨w2,rl2,m2⟩:=k3 Bx sB (fun a m=>h1 a (List.mem_append_right _ m)) fun t=>h2 (by rw [t]; simp)
     rw [uX]
     exact Dt rl1 rl2 m1 m2
  | [],r1,h=>exact h.elim
  | [_],r1,h=>exact h.elim
  | _ :: _ :: _ :: _,r1,h=>exact h.elim
end
section
variable {K:PySem.W.Frag}{Y:XY}{H0 B0 B H:Hp}{σ:L2.St}{τ:SD}{P:List Addr}{F:Addr->Prop}{X:Cx}{pos:Pos}{e:Expr}{fe:SD->Res D}
end
section
variable {K:PySem.W.Frag}{Y:XY}{X:Cx}{o e:Expr}{fo fe:SD->Res D}{apos cpos:Pos}
end
end DL
namespace XF
open PySem
def eX (cls:Value) (t:Addr) (tb:Value):Obj := { cls:=cls,data := .fields #[.ref t,tb,.none,.none,.bool false,.none] }
theorem Jz (cls:Value) (t:Addr) (tb x:Value):Obj.mapFields (·.setIfInBounds 1 x) (eX cls t tb)=eX cls t x:=rfl
structure Tr (B:Heap) (e:Addr) (cls:Value) (fl:Value) (h:Heap):Prop where
 ex:∃ (t T:Addr) (oT:Obj) (ts:Array Value),h.get? e=some (eX cls t (.ref T))/\B.get? T=none/\T ≠ e/\h.get? T=some oT/\oT.data=.fields ts/\ts[3]?=some fl
structure wt (B:Heap) (l:List Env) (e:Addr) (cls fl:Value) (h:Heap):Prop where
 st:B.StaysIn h
 new:B.get? e=none
 ff:h.FunFrames B l
 tr:Tr B e cls fl h
structure vR (fs:List Addr) (h h':Heap):Prop where
 up:h.UpToSlots h'
 ex:∀ b o,h.get? b=some o->∃ o',h'.get? b=some o'
 same:∀ b o,h.get? b=some o->b ∉ fs->(∀ vs,o.data ≠ .fields vs)->h'.get? b=some o
theorem vR.trans {fs:List Addr}{h h1 h2:Heap} (a:vR fs h h1) (b:vR fs h1 h2):vR fs h h2:=⟨a.up.trans b.up,fun c o q=>let ⟨o',z⟩:=a.ex c o q; b.ex c o' z,fun c o q n d=>b.same c o (a.same c o q n d) n d⟩
abbrev CD (l:List Env):List Addr:=l.filterMap (·.frame)
section
variable {M:Model}{A:Around}{E:Value->Shared->Prop}{s:Shared}{B:Heap}{env:Env}{outer:List Env}{L e t:Addr}{cls tb head:Value}{Q:Unit->Shared->Prop}
theorem F9 {fs:List Addr}{h h':Heap}{l:List Env} (f:h.FunFrames B l) (u:vR fs h h'):h'.FunFrames B l:=f.of_keeps fun b o q n=>let ⟨sl,z⟩:=u.up b o q n; ⟨_,z,rfl⟩
theorem entry {hn:Bool} (fr:A.frames=some (env :: outer)) (ff:s.heap.FunFrames B (env :: outer)) (fl:env.frame=some L) (ee:s.heap.get? e=some (eX cls t tb)) (st:B.StaysIn s.heap) (en:B.get? e=none)
  (k:∀ h',wt B (env :: outer) e cls (rawInt L) h'->vR (CD (env :: outer)) s.heap h'->Q () { s with heap:=h' }) :
  wpAny M A (do let a <- frameOf env; let pl <- entryPlaceOf L hn; let b <- EntryCells.newEntry head a .none (rawInt L) .none pl; setField (.ref e) 1 b) Q E s:=by
 have nfr:e ∉ (env :: outer).filterMap (·.frame):=fun m=>by
  obtain ⟨_,o,q,z⟩:=ff.mem m
  rw [ee] at q
  cases q
  exact z _ rfl
 refine wpAny_bind (wpAny_frameOf_fun fr ff fl fun g sg=>?_)
 refine wpAny_bind (wpAny_entryPlaceOf fun pl ip=>?_)
 unfold EntryCells.newEntry newFields
 refine wpAny_bind (wpAny_newObj_type ?_ (ip.sizeOk5 _ _ _ _ _))
 generalize hob:({ cls := .type "traceback",dict:=none,data := .fields ([head,Value.ref L,.none,rawInt L,.none] ++ (if pl.isEmpty then List.replicate 6 Value.none else pl)).toArray }:Obj)=ob
 have hdat:∃ ts,ob.data=.fields ts/\ts[3]?=some (rawInt L):=by
  rw [<- hob]
  exact ⟨_,rfl,by simp⟩
 have ge:g.get? e=some (eX cls t tb):=(sg.2.1 e nfr).trans ee
 have gst:B.StaysIn g:=fun b o q=>(sg.2.1 b fun m=>by rw [(ff.mem m).1] at q; cases q).trans (st b o q)
 have g2:(g.push ob).get? e=some (eX cls t tb):=Heap.get?_push_of_some _ ge
 refine wpAny_setField g2 rfl (Nat.le_of_ble_eq_true rfl) ?_
 have ne:g.objs.size ≠ e:=Nat.ne_of_gt (Heap.lt_size ge)
 have keep:∀ b o,b ≠ e->g.get? b=some o->((g.push ob).update e (Obj.mapFields (·.setIfInBounds 1 (Value.ref g.objs.size)))).get? b=some o:=fun b o n q=>by
  rw [Heap.get?_update_other _ _ (Ne.symm n)]
  exact Heap.get?_push_of_some _ q
 have ups:vR (CD (env :: outer)) s.heap ((g.push ob).update e (Obj.mapFields (·.setIfInBounds 1 (Value.ref g.objs.size)))):=⟨fun b o q n=>by
  obtain ⟨sl,z⟩:=sg.2.2 b o q
  exact ⟨sl,keep b _ (fun x=>by rw [x,ee] at q; cases q; exact n _ rfl) z⟩,fun b o q=>by
  by_cases x:b=e
  ·rw [x]
   exact ⟨_,Heap.get?_update_self _ g2 rfl⟩
  ·obtain ⟨sl,z⟩:=sg.2.2 b o q
   exact ⟨_,keep b _ x z⟩,fun b o q n d=>keep b o (fun x=>by rw [x,ee] at q; cases q; exact d _ rfl) ((sg.2.1 b n).trans q)⟩
 refine k _ ⟨fun b o q=>keep b o (fun x=>by rw [x,en] at q; cases q) (gst b o q),en,F9 ff ups,⟨t,g.objs.size,ob,hdat.choose,?_,gst.fresh,ne,?_,hdat.choose_spec.1,hdat.choose_spec.2⟩⟩ ups
 ·exact (Heap.get?_update_self _ g2 rfl).trans rfl
 ·rw [Heap.get?_update_other _ _ (Ne.symm ne)]
  exact Heap.get?_push_size g (by rw [<- hob]; rfl)
theorem mark {fs:List Addr}{x:Option Addr}{fl:Value}{l:List Env} (f:wt B l e cls fl s.heap) (k:∀ h',wt B l e cls (x.elim .none fun a=>rawInt a) h'->vR fs s.heap h'->Q () { s with heap:=h' }):wpAny M A (setFlight (.ref e) x) Q E s:=by
 obtain ⟨st,new,ff,⟨t,T,oT,ts,h1,h2,h3,h4,h5,h6⟩⟩:=f
 unfold setFlight
 refine wpAny_bind (wpAny_field h1 rfl (x := .ref T) rfl ?_)
 rw [if_pos (show (Value.ref T != Value.none)=true by simp)]
 have sz:3 < ts.size:=(Array.getElem?_eq_some_iff.mp h6).1
 refine wpAny_setField h4 h5 sz ?_
 have oth:∀ b,b ≠ T->∀ f,(s.heap.update T f).get? b=s.heap.get? b:=fun b n f=>Heap.get?_update_other _ _ (Ne.symm n)
 have nT:∀ b o,s.heap.get? b=some o->(∀ vs,o.data ≠ .fields vs)->b ≠ T:=fun b o q n z=>by
  rw [z,h4] at q
  cases q
  exact n ts h5
 refine k _ ⟨fun b o q=>(oth b (fun z=>by rw [z,h2] at q; cases q) _).trans (st b o q),new,ff.of_keeps fun b o q n=>⟨o,(oth b (nT b o q n) _).trans q,rfl⟩,⟨t,T,_,_,(oth e (Ne.symm h3) _).trans h1,h2,h3,Heap.get?_update_self _ h4 ?_,Obj.data_mapFields h5 _,by simp [sz]⟩⟩ ⟨fun b o q n=>⟨o.slots,(oth b (nT b o q n) _).trans q⟩,fun b o q=>?_,fun b o q n d=>?_⟩
 ·exact Obj.isFreed_of_fields (Obj.data_mapFields h5 _)
 ·by_cases x:b=T
  ·rw [x]
   exact ⟨_,Heap.get?_update_self _ h4 (Obj.isFreed_of_fields (Obj.data_mapFields h5 _))⟩
  ·exact ⟨o,(oth b x _).trans q⟩
 ·exact (oth b (nT b o q d) _).trans q
theorem note (fr:A.frames=some (env :: outer)) (fl:env.frame=some L) (f:wt B (env :: outer) e cls .none s.heap) (k:∀ h',wt B (env :: outer) e cls (rawInt L) h'->vR (CD (env :: outer)) s.heap h'->Q () { s with heap:=h' }):wpAny M A (noteFrame (.ref e) env) Q E s:=by
 obtain ⟨st,new,ff,⟨t,T,oT,ts,h1,h2,h3,h4,h5,h6⟩⟩:=f
 unfold noteFrame
 simp only [fl]
 refine wpAny_bind (wpAny_field h1 rfl (x := .ref T) rfl ?_)
 rw [if_pos (show (Value.ref T != Value.none)=true by simp)]
 refine wpAny_bind (wpAny_field h4 h5 h6 ?_)
 rw [if_neg (show ¬ ((Value.none == rawInt L)=true) by simp [rawInt])]
 have sz:3 < ts.size:=(Array.getElem?_eq_some_iff.mp h6).1
 refine wpAny_bind (wpAny_setField h4 h5 sz ?_)
 have oth:∀ b,b ≠ T->∀ f,(s.heap.update T f).get? b=s.heap.get? b:=fun b n f=>Heap.get?_update_other _ _ (Ne.symm n)
 have nT:∀ b o,s.heap.get? b=some o->(∀ vs,o.data ≠ .fields vs)->b ≠ T:=fun b o q n z=>by
  rw [z,h4] at q
  cases q
  exact n ts h5
 refine entry fr (ff.of_keeps fun b o q n=>⟨o,(oth b (nT b o q n) _).trans q,rfl⟩) fl ((oth e (Ne.symm h3) _).trans h1) (fun b o q=>(oth b (fun z=>by rw [z,h2] at q; cases q) _).trans (st b o q)) new fun h' f' u=>k h' f' ⟨fun b o q n=>u.up b o ((oth b (nT b o q n) _).trans q) n,fun b o q=>?_,fun b o q n d=>u.same b o ((oth b (nT b o q d) _).trans q) n d⟩
 by_cases x:b=T
 ·rw [x]
  exact u.ex T _ (Heap.get?_update_self _ h4 (Obj.isFreed_of_fields (Obj.data_mapFields h5 _)))
 ·exact u.ex b o ((oth b x _).trans q)
theorem rR (fr:A.frames=some (env :: outer)) (fl:env.frame=some L) (ff:s.heap.FunFrames B (env :: outer)) (ee:s.heap.get? e=some (eX cls t .none)) (st:B.StaysIn s.heap) (en:B.get? e=none)
  (k:∀ h',wt B (env :: outer) e cls (rawInt L) h'->vR (CD (env :: outer)) s.heap h'->Q () { s with heap:=h' }):wpAny M A (noteFrame (.ref e) env) Q E s:=by
 unfold noteFrame
 simp only [fl]
 refine wpAny_bind (wpAny_field ee rfl (x := .none) rfl ?_)
 rw [if_neg (by decide)]
 exact entry fr ff fl ee st en k
theorem wt.tail {fl:Value}{h:Heap} (f:wt B (env :: outer) e cls fl h):wt B outer e cls fl h:=⟨f.st,f.new,f.ff.2.2,f.tr⟩
theorem leave (fr:A.frames=some (env :: outer)) (fl:env.frame=some L) (f:wt B (env :: outer) e cls .none s.heap) (k:∀ h',wt B outer e cls .none h'->vR (CD (env :: outer)) s.heap h'->Q () { s with heap:=h' }):wpAny M A (leaving env (.ref e)) Q E s:=by
 unfold leaving
 exact wpAny_bind (note fr fl f fun h1 f1 u1=>mark (x:=none) f1 fun h2 f2 u2=>k h2 f2.tail (u1.trans u2))
theorem wu (fr:A.frames=some (env :: outer)) (fl:env.frame=some L) (ff:s.heap.FunFrames B (env :: outer)) (ee:s.heap.get? e=some (eX cls t .none)) (st:B.StaysIn s.heap) (en:B.get? e=none)
  (k:∀ h',wt B outer e cls .none h'->vR (CD (env :: outer)) s.heap h'->Q () { s with heap:=h' }):wpAny M A (leaving env (.ref e)) Q E s:=by
 unfold leaving
 exact wpAny_bind (rR fr fl ff ee st en fun h1 f1 u1=>mark (x:=none) f1 fun h2 f2 u2=>k h2 f2.tail (u1.trans u2))
end
end XF
namespace XF
open PySem PySem.Spec PyProof.Rows L2 DL
def AV (P:Program) (w:World):zR:=fun outer H s E e s'=>∃ (ea C:Addr) (B:Heap) (H':Hp),e=.ref ea/\s'.os=s.os/\AllBare s'.gens/\wt B outer ea (.ref C) .none s'.heap /\
 (∀ b o,s.heap.get? b=some o->H b=none->b ∉ frs outer->B.get? b=some o)/\jx P w H' B/\Un (frs outer) [] H H' s.heap s'.heap/\E (.ref C) none H'
structure Du (X:Cx) (pins:List (Addr × Obj)) (σ:L2.St) (H:Hp) (e C:Addr) (s:Shared):Prop where
 inv:Inv X pins σ H s
 fl:∃ B:Heap,B.StaysIn s.heap/\B.get? e=none/\s.heap.FunFrames B X.stack/\jx X.prog X.w H B /\
  (∀ b o,X.s₀.heap.get? b=some o->X.H₀ b=none->b ∉ X.fs->b ∉ X.ex->B.get? b=some o)/\(∀ p ∈ X.pn ++ pins,B.get? p.1=some p.2) /\
  ((∃ t,s.heap.get? e=some (eX (.ref C) t .none)) ∨ Tr B e (.ref C) .none s.heap)
def Gb (X:Cx) (Y:XY):Prop := ∀ (pins:List (Addr × Obj)) (σ:L2.St) (H:Hp) (e C:Addr) (s:Shared),Du X pins σ H e C s->Y C σ H->X.xe (.ref e) s
theorem EA {X:Cx}{pins:List (Addr × Obj)}{σ:L2.St}{H:Hp}{s:Shared} (I:Inv X pins σ H s) {b:Addr}{o:Obj} (q:X.s₀.heap.get? b=some o) (n:b ∉ X.fs):b ∉ frs X.stack:=fun m=>by
 rcases List.mem_cons.mp (I.nI b m) with z | z
 ·have h1:=Heap.lt_size q
  have h2:=I.ok.above
  exact absurd h1 (by rw [z]; exact Nat.not_lt.mpr h2)
 ·exact n z
theorem AU {X:Cx}{pins:List (Addr × Obj)}{σ:L2.St}{H:Hp}{s:Shared} (I:Inv X pins σ H s) {p:Addr × Obj} (hp:p ∈ X.pn ++ pins):p.1 ∉ frs X.stack:=fun m=>by
 obtain ⟨_,_,h1,h2,_⟩:=I.pin p hp
 rcases List.mem_cons.mp (I.nI _ m) with z | z
 ·exact h1 z
 ·exact h2 z
theorem zl {X:Cx}{pins:List (Addr × Obj)}{σ:L2.St}{H:Hp}{s s':Shared}{E:XK}{e:Value} (I:Inv X pins σ H s) (h:AV X.prog X.w X.stack H s E e s') :
  ∃ ea C H',e=.ref ea/\Du X pins σ H' ea C s'/\E (.ref C) none H' := by
 obtain ⟨ea,C,B,H',rfl,os,bare,fly,cov,hok,un,hE⟩:=h
 refine ⟨ea,C,H',rfl,⟨I.Eo os un (hok.kept fly.st) bare fun b z=>absurd z (by simp),B,fly.st,fly.new,fly.ff,hok,fun b o q n nf nx=>?_,fun p hp=>cov p.1 p.2 (I.pin p hp).1 (I.pin p hp).2.1 (AU I hp),.inr fly.tr⟩,hE⟩
 exact cov b o (I.base.keep b o q n nf nx) (I.base.free b o q n nx) (EA I q nf)
theorem wx {P:Program}{w:World}{K:PySem.W.Frag}{mg:Str->Option Value}{base:Heap}{N:List Str}{qual:Str}{scope:Scope}{f:Addr}{cd:Value}{A:Around}{outer:List Env}{s:Shared}{H:Hp}{E:XK}{pins:List (Addr × Obj)}{σ:L2.St}{H':Hp}{e C:Addr}{s':Shared}
  (c:Du (lV (AV P w) P w K mg base N qual scope f cd A outer s H E) pins σ H' e C s') (hE:E (.ref C) none H'):(lV (AV P w) P w K mg base N qual scope f cd A outer s H E).xe (.ref e) s' := by
 obtain ⟨I,B,st,new,ff,hok,cov,_,made⟩:=c
 show wpAny (model P w) (A.deeper (envOfC qual scope s.heap.objs.size f cd)) (leaving (envOfC qual scope s.heap.objs.size f cd) (.ref e)) (fun _ s''=>AV P w outer H s E (.ref e) s'') (fun e' s''=>AV P w outer H s E e' s'') s'
 have nil:∀ b:Addr,b ∉ ([]:List Addr):=fun b z=>by cases z
 have fin:∀ h',wt B outer e (.ref C) .none h'->vR (CD (envOfC qual scope s.heap.objs.size f cd :: outer)) s'.heap h'->AV P w outer H s E (.ref e) { s' with heap:=h' }:=fun h' fly u=>by
  refine ⟨e,C,B,H',rfl,I.os,I.bare,fly,fun b o q n nf=>cov b o q n nf (nil b),hok,⟨fun b o q n nf _=>fly.st _ _ (cov b o q n nf (nil b)),fun b o q n m _=>?_,fun b o q n z=>I.base.free b o q n z,fun b o q z=>?_,I.base.tups,I.base.lU,I.base.nJ⟩,hE⟩
  ·obtain ⟨sl,z⟩:=I.base.slot b o q n m (nil b)
   have ff2:s'.heap.FunFrames B outer:=ff.2.2
   obtain ⟨_,o',q',nd⟩:=ff2.mem m
   rw [z] at q'
   cases q'
   obtain ⟨sl',z'⟩:=u.up b _ z nd
   exact ⟨sl',z'⟩
  ·obtain ⟨o',z'⟩:=I.base.there b o q z
   exact u.ex b o' z'
 rcases made with ⟨t,he⟩ | tr
 ·exact wu I.ok.frames rfl ff he st new fin
 ·exact leave I.ok.frames rfl ⟨st,new,ff,tr⟩ fin
abbrev JB (E:XK):XY:=fun C _ H'=>E (.ref C) none H'
theorem Dw {P:Program}{w:World}{K:PySem.W.Frag}{mg:Str->Option Value}{base:Heap}{N:List Str}{qual:Str}{scope:Scope}{f:Addr}{cd:Value}{A:Around}{outer:List Env}{s:Shared}{H:Hp}{E:XK} :
  Gb (lV (AV P w) P w K mg base N qual scope f cd A outer s H E) (JB E):=fun _ _ _ _ _ _ c h=>wx c h
def tG (K:PySem.W.Frag) (G:DF):Sp:=fun vs H Q E=>∃ B0 ds,aw B0 H/\aB K B0 No H ds vs []/\match G ds with
 | .ok d=>∀ B' H' v fp,oS K H B0 B' H' d v fp->Q v H'
 | .d9 C=>∀ H',aw H H'->E (.ref C) none H'
 | .bad=>False
structure kN (P:Program) (w:World) (K:PySem.W.Frag) (mg:Str->Option Value) (base:Heap) (k:Nat) (x:Str) (ps:List Str) (sp:Sp):Prop where
 ex:∃ f fd,mg x=some (.ref f)/\PySem.W.keepIn K (.ref f)=true/\Binds K fd ps []/\nG P w K mg base (AV P w) k f fd ps sp
def rS (G:DF) (ds:List D):Res D:=if aI ds=true then (G (aH ds)).map D.bz else G (aH ds)
def dg (G:DF) (fs:SD->Res (List D)) (τ:SD):Res D:=(fs τ).bind (rS G)
section
variable {K:PySem.W.Frag}{Y:XY}{H0 B0 B H:Hp}{σ:L2.St}{τ:SD}{P:List Addr}{F:Addr->Prop}{X:Cx}{pos p:Pos}{e:Expr}{es:List Expr}{fs:SD->Res (List D)}
theorem Dv {k:Nat}{f:Addr}{fd:FuncData}{ps:List Str}{sp:Sp}{E:XK}{pins:List (Addr × Obj)}{s:Shared}{Q:VK}{us:List Value}{vs:List V} (hx:Gb X Y) (hE:∀ C H',E (.ref C) none H'->Y C σ H') (F:nG X.prog X.w X.K X.mg X.base (AV X.prog X.w) k f fd ps sp) (hr:gh k X.A) (hb:Binds X.K fd ps [])
  (I:Inv X pins σ H s) (r:Vals vs us) (h:sp vs H Q E):wpAny (model X.prog X.w) X.A (call (.ref f) us) (EP X pins σ Q) X.xe s:=by
 have hl:us.length=ps.length:=by rw [<- r.length]; exact F.len _ _ _ _ h
 have hb' := hb s us I.nD (by rw [List.append_nil]; exact hl)
 rw [List.append_nil] at hb'
 refine wpAny_call (codeAny_mono (F.run X.A X.stack s H ⟨us,[]⟩ us vs Q E hr I.Fb hb' r h) fun r s' hq=>?_)
 cases r with
 | error e =>
  obtain ⟨ea,C,H',rfl,c,hE'⟩:=zl I hq
  exact hx _ _ _ _ _ _ c (hE C H' hE')
 | ok fl =>
  cases fl with
  | ret u=>exact I.after hq
  | next=>exact False.elim hq
  | brk=>exact False.elim hq
  | cont=>exact False.elim hq
theorem jr {k:Nat}{x:Str}{ps:List Str}{G:DF} (hx:Gb X Y) (C:kN X.prog X.w X.K X.mg X.base k x ps (tG X.K G)) (hr:gh k X.A) (hg:Gl X x) (ha:PA X (e :: es) (pU X.K Y fs)) (hdb:(x == ("__debug__" : Str))=false:=by decide)
  (he:starEach (e :: es) X.env=(false,eval e X.env) :: starEach es X.env:=by rfl) (hpl:(backTo pos (starEach es X.env)).any (·.1)=false:=by rfl):PE X (.Call (.Name x p) (e :: es) [] pos) (tM X.K Y (dg G fs)):=by
 obtain ⟨f,fd,hm,hk,hb,Fn⟩:=C.ex
 intro pins s σ H Q J ⟨H0,B0,B,τ,P,F,I,h⟩
 have hq:pU X.K Y fs σ H (fun vs H1=>tG X.K G vs H1 Q (fun c _ H'=>∃ C,c=.ref C/\Y C σ H')):=pU.seq I h fun ds vs H1 B1 fp _ I1 s1 b1 r1 k1 h1=>by
  unfold rS at h1
  split at h1
  ·refine ⟨atRest B1 H1 (fun a=>a ∈ P ∨ a ∈ fp),aH ds,iF I1.bh,r1.aG (dO I1.bh) (fun a o s h=>fQ (.inl s) h) (fun a m o h=>fQ (.inr m) h),?_⟩
   cases z:G (aH ds) with
   | d9 c=>rw [z] at h1; exact fun H' sm=>⟨c,rfl,h1 H' B1 (I1.grow sm) sm (aw.refl _)⟩
   | bad=>rw [z] at h1; exact h1.elim
   | ok d =>
    rw [z] at h1
    intro B' H' v fq r
    obtain ⟨B2,I2,s2,k2,hb⟩:=I1.called k1 (S:=fun a=>a ∈ P) (fun a s=>s) r
    exact h1 v H' B2 fq I2 r.h0 s2 (r.rep.bz r.bh fun a o e=>(hb a o e).imp id fun z=>z.2) k2
  ·rename_i hb
   have hb:aI ds=false:=by simpa using hb
   refine ⟨atRest B1 H1 (fun a=>False ∨ a ∈ fp),aH ds,iF I1.bh,(r1.iT hb).aG (dO I1.bh) (fun a o s=>s.elim) (fun a m o h=>fQ (.inr m) h),?_⟩
   cases z:G (aH ds) with
   | d9 c=>rw [z] at h1; exact fun H' sm=>⟨c,rfl,h1 H' B1 (I1.grow sm) sm (aw.refl _)⟩
   | bad=>rw [z] at h1; exact h1.elim
   | ok d =>
    rw [z] at h1
    intro B' H' v fq r
    obtain ⟨B2,I2,s2,k2,hb⟩:=I1.called k1 (S:=fun _=>False) (fun a s=>s.elim) r
    refine h1 v H' B2 fq I2 r.h0 s2 ?_ k2
    have sb:aw B' B2:=fun a o e=>(hb a o e).resolve_right fun z=>z.1
    exact r.rep.mono (aw.refl _) sb fun _ x=>x.elim
 refine wpAny_Call_Name_kw (ly J hg hm ?_ hdb)
 refine PySem.W.callWith_K (h₀:=X.base) J.ok.mod.ES hk (fz (ha pos pins s σ H _ J hq) fun us s1 hq5=>L2.ex5 hq5 fun vs H1 I1 r q=>⟨I1.nD,?_⟩) he hpl
 exact Dv hx (fun C H' z=>by obtain ⟨C',e,y⟩:=z; cases e; exact y) Fn hr hb I1 r q
theorem j8 {P:Program}{w:World}{mg:Str->Option Value}{base:Heap}{x:Str}{st:Stmt}{N ps:List Str}{k n m:Nat}{g:SF} (D:dR K mg x st ps) (S:a9 N ps (aC st)) (hn:ps.length=n) (hm:N.length=m)
  (hbody:∀ (f:Addr) (cdv:Value) (A:Around) (outer:List Env) (s:Shared) (H:Hp) (E:XK),gh k (A.deeper (envOfC x (aC st) s.heap.objs.size f cdv))->Gb (lV (AV P w) P w K mg base N x (aC st) f cdv A outer s H E) (JB E) ->
   lY (lV (AV P w) P w K mg base N x (aC st) f cdv A outer s H E) (dY st) (mw K (JB E) g)):kN P w K mg base (k + 1) x ps (tG K (bZ n m g)):=by
 subst hn hm
 obtain ⟨f,fd,Fn,hmg,hb⟩:=D.ex
 refine ⟨f,fd,hmg,Fn.kp,hb,?_⟩
 obtain ⟨oc,od,kV,doc,pm,an,cdv,ct,osl,rfl,lk,hcd⟩:=Fn.ex
 refine Ef lk hcd S (fun vs H Q E h=>?_) fun A outer s H vs Q E hr h=>?_
 ·obtain ⟨B0,ds,_,r,h⟩:=h
  rw [<- r.length]
  unfold bZ at h
  by_cases hl:ds.length=ps.length
  ·exact hl
  ·rw [if_neg hl] at h; exact h.elim
 ·obtain ⟨B0,ds,sB,r,h⟩:=h
  unfold bZ at h
  by_cases hl:ds.length=ps.length
  ·rw [if_pos hl] at h
   have e:L2.start N vs=vs.map some ++ List.replicate (N.length - ps.length) none:=by
    unfold L2.start
    rw [<- r.length,hl]
   refine ⟨_,hbody f cdv A outer s H E hr Dw,H,B0,B0,ds.map some ++ List.replicate (N.length - ps.length) none,[],⟨sB,aw.refl _,aw.refl _,fun a n=>.inl n,by rw [e]; exact j3 _ r,List.nodup_nil,(fun a m=>by cases m),fun a m=>m.elim⟩,?_⟩
   cases z:g (ds.map some ++ List.replicate (N.length - ps.length) none) with
   | rt d=>rw [z] at h; exact fun B' H' v fp q=>h B' H' v fp q
   | nx t =>
    rw [z] at h
    intro B' H' σ' P' a
    exact h B' H' .cY [] ⟨a.si.h0,a.si.b0,a.si.bh,a.si.nb,⟨rfl,rfl⟩,List.nodup_nil,fun a m=>by cases m⟩
   | bk t=>rw [z] at h; exact h.elim
   | ct t=>rw [z] at h; exact h.elim
   | ex C t=>rw [z] at h; exact fun B' H' σ' P' a=>h H' a.si.h0
   | bad=>rw [z] at h; exact h.elim
  ·rw [if_neg hl] at h; exact h.elim
end
abbrev gJ:List Value := [.type "ValueError",.type "Exception",.type "BaseException",.type "object"]
def mroIn (K:PySem.W.Frag) (C:Addr):Option (List Value):=match K.lookup C with
 | some ⟨_,_,.cls cd,_⟩=>some cd.mro
 | _=>none
structure fL (K:PySem.W.Frag) (mg:Str->Option Value) (x:Str) (C:Addr) (bm:List Value):Prop where
 mg:mg x=some (.ref C)
 ex:PySem.W.excIn K C gJ "ValueError.__new__" = true
 mro:mroIn K C=some (.ref C :: bm)
structure Ga (h:Heap) (C:Addr) (bm:List Value):Prop where
 ob:∃ N nm q bs hdct sn sub ab col dd k0 k1 k2 k3 k5 mN,h.get? C=some (excClassObj nm q C N bs bm hdct sn sub ab col dd k0 k1 k2 k3 k5 "ValueError.__new__")/\h.Ns N mN/\mN "__init__" = none/\OwnTail h gJ bm
theorem fL.obj {K:PySem.W.Frag}{mg:Str->Option Value}{x:Str}{C:Addr}{bm:List Value}{h:Heap} (c:fL K mg x C bm) (X:K.In h):Ga h C bm:=by
 obtain ⟨_,q,m⟩:=c
 unfold PySem.W.excIn at q
 split at q
 ·rename_i dd cd sl ho
  split at q
  ·rename_i C' bm' k0 k1 k2 k3 n k5 hm hs
   simp only [Bool.and_eq_true,beq_iff_eq,Bool.not_eq_true'] at q
   obtain ⟨⟨⟨⟨⟨rfl,rfl⟩,hdel⟩,ht⟩,hok⟩,hni⟩:=q
   obtain ⟨nm,bs,mro,ns,qn,hd,sn,sub,ab,col,del⟩:=cd
   dsimp only at hm hdel hok hni
   subst hm hdel
   have hsl:sl = #[k0,k1,k2,k3,some (.builtin "ValueError.__new__"),k5]:=by
    obtain ⟨l⟩:=sl
    simp only at hs
    rw [hs]
   subst hsl
   have e:bm'=bm:=by
    unfold mroIn at m
    rw [ho] at m
    simpa using m
   subst e
   exact ⟨ns,nm,qn,bs,hd,sn,sub,ab,col,dd,k0,k1,k2,k3,k5,_,X _ _ ho,.of_isNs (PySem.W.isNs_of_in X hok),PySem.W.nsMap_none_of_in X hok hni,PySem.W.tail_of_in X ht⟩
  ·cases q
 ·cases q
def jq (C:Addr) (τ:SD):Fl := .ex C τ
theorem zk {X:Cx}{pins:List (Addr × Obj)}{σ:L2.St}{H:Hp}{s:Shared}{h':Heap}{e C:Addr}{vs:List Value} (I:Inv X pins σ H s) (m:Heap.MadeExcOf s.heap h' e (.ref C) vs):Du X pins σ H e C { s with heap:=h' }:=by
 obtain ⟨t,ht,_,_⟩:=m.there
 have hin:∀ env ∈ X.stack,∀ a,env.frame=some a->a ∈ frs X.stack:=fun env he a ha=>List.mem_filterMap.mpr ⟨env,he,ha⟩
 have st:(PySem.W.hideAll s.heap (frs X.stack)).StaysIn h' := fun b o q=>m.keeps b o (PySem.W.of_hideAll _ q)
 refine ⟨I.kept (t' := s.toks) m.keeps,PySem.W.hideAll s.heap (frs X.stack),st,?_,?_,fun a o q=>?_,fun b o q n nf nx=>?_,fun p hp=>PySem.W.hideAll_get _ (I.pin p hp).1 (AU I hp),.inl ⟨t,ht⟩⟩
 ·cases q:(PySem.W.hideAll s.heap (frs X.stack)).get? e with
  | none=>rfl
  | some o=>have:=PySem.W.of_hideAll _ q; rw [m.new] at this; cases this
 ·exact (PySem.W.funFrames_hide I.stack hin).of_keeps fun b o q _=>⟨o,m.keeps b o q,rfl⟩
 ·refine (I.hok a o q).stay (fun b u hb z=>PySem.W.hideAll_get _ z fun hm=>?_) (fun _ z=>z) fun _ _ z=>z
  have f:=I.sL b hm
  rcases hb with rfl | hb
  ·rw [q] at f; cases f
  ·rw [hb] at f; cases f
 ·exact PySem.W.hideAll_get _ (I.base.keep b o q n nf nx) (EA I q nf)
theorem j9 {X:Cx}{Y:XY}{x m:Str}{C:Addr}{bm:List Value}{np cpos pos cp:Pos}{j:Nat} (hx:Gb X Y) (c:fL X.K X.mg x C bm) (hc:X.calm=true) (hg:Gl X x) (hdb:(x == ("__debug__" : Str))=false:=by decide)
  (he:starEach [.Constant (.str m) j cp] X.env=(false,eval (.Constant (.str m) j cp) X.env) :: starEach [] X.env:=by rfl) (hpl:(backTo cpos (starEach [] X.env)).any (·.1)=false:=by rfl) :
  PS X (.Raise (some (.Call (.Name x np) [.Constant (.str m) j cp] [] cpos)) none pos) (mw X.K Y (jq C)):=by
 intro pins s σ H D I ⟨H0,B0,B,τ,P,J,h⟩
 obtain ⟨N,nm,q,bs,hdct,sn,sub,ab,col,dd,k0,k1,k2,k3,k5,mN,hC,hN,hni,T⟩:=(c.obj I.mod.ES).ob
 have pl:(backTo cpos (starEach [.Constant (.str m) j cp] X.env)).any (·.1)=false:=by
  rw [he]
  show (false || (backTo cpos (starEach [] X.env)).any (·.1))=false
  rw [hpl]; rfl
 refine wpAny_Raise_call_subT (C:=C) (nm:=nm) (q:=q) (N:=N) (bs:=bs) (bm:=bm) (hdct:=hdct) (sn:=sn) (sub:=sub) (ab:=ab) (col:=col) (dd:=dd) (k0:=k0) (k1:=k1) (k2:=k2) (k3:=k3) (k5:=k5) F.excBase_ValueError (mN:=mN) (T.hasType F.excBase_ValueError.hasBase) (I.ok.hd hc) pl hni (ly I hg c.mg ⟨rfl,?_⟩ hdb)
 rw [he]
 refine Calls.evalArgs_plain (Calls.spliced_cons ?_)
 refine @Calls.Constant_str _ _ _ _ _ m j cp _ (Calls.spliced_nil ?_)
 refine ⟨rfl,Nat.le_of_ble_eq_true rfl,I.bk _ _ hC,hN.keeps I.bk,T.keeps I.bk,fun h' e mk=>?_⟩
 exact hx pins σ H e C _ (zk (I.tok _) mk) (h B H σ P (lC.refl J))
end XF
namespace XF
open PySem
theorem qS:entryFor table "proto.unchain" = some Builtin.«proto.unchain» := entryFor_of_tree (by kernel_rfl)
section
variable {prog:Program}{w:World}{A:Around}{E:Value->Shared->Prop}{s:Shared}
theorem zm {α:Type}{ea e t:Addr}{C tb:Value}{oe:Obj}{vs:Array Value}{Q:α->Shared->Prop} (hh:A.handled=some (.ref ea)) (ha:s.heap.get? ea=some (eX C t tb)) (ne:ea ≠ e) (he:s.heap.get? e=some oe) (hd:oe.data=.fields vs) (hz:2 < vs.size)
  (k:E (.ref e) { s with heap:=s.heap.update e (Obj.mapFields (·.setIfInBounds 2 (.ref ea))) }):wpAny (model prog w) A (raiseNew (.ref e):Sem α) Q E s:=by
 unfold raiseNew
 refine wpAny_bind (wpAny_handled ?_)
 rw [hh]
 have b:(Value.ref ea != Value.ref e)=true:=by simpa using ne
 dsimp only
 rw [if_pos b]
 have go:wpAny (model prog w) A (runValue (.builtin "proto.unchain" ⟨[.ref e,.ref ea,.ref ea,.bool false],[]⟩)) (fun _ s'=>s'=s) E s:=by
  refine wpAny_runValue (codeAny_builtin qS ?_)
  unfold Builtin.«proto.unchain»
  refine wpAny_bind (wpAny_field ha rfl (x := .none) rfl ?_)
  rw [if_pos (by decide)]
  exact wpAny_pure rfl
 have st:wpAny (model prog w) A (updateField e 2 (.ref ea)) (fun _ s'=>E (.ref e) s') E s:=wpAny_setField (x := .ref ea) he hd hz k
 refine wpAny_bind (wpAny_holding (wpAny_mono go (fun _ s' q=>?_) fun _ _ z=>z))
 subst q
 exact wpAny_bind (wpAny_mono st (fun _ _ q=>wpAny_throw q) fun _ _ z=>z)
theorem wy {it ea t:Addr}{x left step:Int}{C tb:Value}{Q:Option Value->Shared->Prop} (hh:A.handled=some (.ref ea)) (ha:s.heap.get? ea=some (eX C t tb)) (hi:IsRangeIter s.heap it x left step) (hl:left <= 0)
  (k:∀ h',(∀ b o,b ≠ it->s.heap.get? b=some o->h'.get? b=some o)->Q none { s with heap:=h' }):wpAny (model prog w) A (pyNext (.ref it)) Q E s:=by
 have ty:s.TypeIs (.ref it) "range_iterator" := ⟨_,hi,rfl⟩
 unfold pyNext
 refine wpAny_bind (wpAny_attempt (wpAny_callSpecial?_slot (name:=Str.ofString "__next__") ty F.slot_range_iterator_next (wpAny_call_entry F.slot_range_iterator_next ty F.entry_range_iterator_next ?_ (F.args_range_iterator_next_1 _))))
 show wpAny _ _ (field (.ref it) 0 >>= _) _ _ s
 refine wpAny_bind (wpAny_field hi rfl (x:=rawInt x) rfl (wpAny_bind (wpAny_field hi rfl (x:=rawInt left) rfl (wpAny_bind (wpAny_field hi rfl (x:=rawInt step) rfl ?_)))))
 show wpAny _ _ (if left <= 0 then _ else _) _ _ s
 rw [if_pos hl]
 refine wpAny_bind (wpAny_rule (wpAny_bind ?_))
 show wpAny _ _ (newExc (.type "StopIteration") [] >>= _) _ _ _
 refine wpAny_bind ?_
 simp only [newExc,newTuple]
 refine wpAny_bind (wpAny_newObj_type ?_ (by size_fits))
 refine wpAny_bind (m:=firstArgMember _ _) (wpAny_of_eq (a:=Value.none) (by first | rfl | (simp only [firstArgMember]; rfl)) ?_)
 refine wpAny_newObj_type ?_ (by size_fits)
 have lt:=Heap.lt_size ha
 refine zm (show A.in1.handled=some (.ref ea) from hh) (Heap.get?_push_of_some _ (Heap.get?_push_of_some _ ha)) (Nat.ne_of_lt (by rw [Heap.size_push]; exact Nat.lt_succ_of_lt lt)) (Heap.get?_push_size _ rfl) rfl (Nat.le_of_ble_eq_true rfl) ?_
 refine wpAny_bind (wpAny_isInstance (T := "StopIteration") (b:=true) ⟨_,Heap.get?_update_self _ (Heap.get?_push_size _ rfl) rfl,rfl⟩ isSubtype_stop ?_)
 refine wpAny_pure (k _ fun b o _ q=>?_)
 have lb:=Heap.lt_size q
 rw [Heap.get?_update_other _ _ (fun z=>by rw [Heap.size_push] at z; exact absurd lb (by rw [<- z]; exact Nat.not_lt.mpr (Nat.le_succ _)))]
 exact Heap.get?_push_of_some _ (Heap.get?_push_of_some _ q)
end
end XF
namespace XF
open PySem PySem.Spec PyProof.Rows L2 DL
def Known (X:Cx):Prop := ∃ (ea:Addr) (C:Value) (t:Addr) (tb:Value) (u:HO),X.A.handled=some (.ref ea)/\X.H₀ ea=some (.aG (eX C t tb) u)
theorem Known.obj {X:Cx}{pins:List (Addr × Obj)}{σ:L2.St}{H:Hp}{s:Shared} (k:Known X) (I:Inv X pins σ H s):∃ ea C t tb,X.A.handled=some (.ref ea)/\s.heap.get? ea=some (eX C t tb):=by
 obtain ⟨ea,C,t,tb,u,h1,h2⟩:=k
 obtain ⟨e,_⟩:=I.hok ea _ (I.base.lU ea _ u h2)
 exact ⟨ea,C,t,tb,h1,e⟩
theorem Known.comp {X:Cx}{pins:List (Addr × Obj)}{σ:L2.St}{scope:Scope}{cs:List (Str × Addr)}{C:Addr}{N:List Str}{s0:Shared}{H0:Hp}{fp:List Addr} (k:Known X) (I:Inv X pins σ H0 s0):Known (iS X scope cs C N s0 H0 fp):=by
 obtain ⟨ea,C,t,tb,u,h1,h2⟩:=k
 exact ⟨ea,C,t,tb,u,h1,I.base.lU ea _ u h2⟩
theorem uY {P:Program}{w:World}{K:PySem.W.Frag}{tg:Expr} (it:Addr) (lo:Int) (n:Nat):xx Known P w K tg (GW lo n) [it] it (fun i h=>IsRangeIter h it (lo + (i:Nat) * 1) ((n:Int) - (i:Nat)) 1) where
 mem:=by simp
 obj:=(jU (P:=P) (w:=w) (K:=K) (tg:=tg) it lo n).obj
 keep:=(jU (P:=P) (w:=w) (K:=K) (tg:=tg) it lo n).keep
 item:=by
  intro X hP hw hK _ i pins s σ H E I hf st hg
  subst hP hw hK
  have hg:i < n:=hg
  obtain ⟨f0,f1,f2,f3,f4,f5⟩:=hf it (by simp)
  refine wpAny_pyNext_range_item st (by omega) fun h' st' sb=>?_
  have I1:Inv X pins σ H { s with heap:=h',toks:=s.toks + 1 }:=I.turned (fun b o hb e=>(sb.2 b hb).trans e) f0 f1 f3 f4 f5
  have st2:IsRangeIter h' it (lo + ((i + 1:Nat):Int) * 1) ((n:Int) - ((i + 1:Nat):Int)) 1:=by
   have e1:lo + ((i + 1:Nat):Int) * 1=lo + (i:Int) * 1 + 1:=by omega
   have e2:(n:Int) - ((i + 1:Nat):Int)=(n:Int) - (i:Int) - 1:=by omega
   rw [e1,e2]
   exact st'
  refine ⟨_,rfl,xF (s := { s with heap:=h',toks:=s.toks + 1 }) (n := "range_iterator") st2 rfl rfl (by decide) ⟨.int (lo + i),H,I1,⟨s.toks,?_⟩,⟨rfl,rfl⟩,st2,fun b hb=>(hf b hb).1⟩⟩
  rw [Int.mul_one]
 done:=by
  intro X hP hw hK hc i pins s σ H E I hf st hg
  subst hP hw hK
  have hg:n <= i:=hg
  obtain ⟨f0,f1,f2,f3,f4,f5⟩:=hf it (by simp)
  obtain ⟨ea,C,t,tb,hh,ho⟩:=Known.obj hc I
  exact wy hh ho st (by omega) fun h' eb=>⟨rfl,I.turned (t' := s.toks) (fun b o hb e=>eb b o hb e) f0 f1 f3 f4 f5⟩
 self:=(jU (P:=P) (w:=w) (K:=K) (tg:=tg) it lo n).self
section
variable {X:Cx}{tg:Expr}
theorem zo {pins:List (Addr × Obj)}{σ:L2.St}{H:Hp}{s:Shared}{R:It->Hp->Prop}{E:Value->Shared->Prop}{lo hi:Int}{t u v:Tok}{tk:Nat} (I:Inv X pins σ H s) (h1 : -(2 ^ 62) <= lo) (h2:lo < 2 ^ 62) (h3 : -(2 ^ 62) <= hi) (h4:hi < 2 ^ 62)
  (q:R (GW lo (hi - lo).toNat) H):wpAny (model X.prog X.w) X.A (pyIter (.ref s.heap.objs.size)) (Hy Known X pins σ tg R) E { s with heap:=s.heap.push { cls := .type "range",data := .fields #[.int lo t,.int hi u,.int 1 v] },toks:=tk }:=by
 refine wpAny_pyIter_range (IsRange.new ..) (small_one h1 h2 h3 h4) ?_
 have I1:Inv X pins σ H { s with heap:=s.heap.push { cls := .type "range",data := .fields #[.int lo t,.int hi u,.int 1 v] },toks:=tk }:=I.kept fun b o e=>Heap.get?_push_of_some _ e
 refine ⟨(s.heap.push { cls := .type "range",data := .fields #[.int lo t,.int hi u,.int 1 v] }).objs.size,[(s.heap.push { cls := .type "range",data := .fields #[.int lo t,.int hi u,.int 1 v] }).objs.size],_,_,H,rfl,
  I1.kept (t' := tk) fun b o e=>Heap.get?_push_of_some _ e,uY _ lo (hi - lo).toNat,?_,fun b hb=>?_,q⟩
 ·have e1:lo + ((0:Nat):Int) * 1=lo:=by simp
  have e2:(((hi - lo).toNat:Nat):Int) - ((0:Nat):Int)=Builtin.Range.rangeSize lo hi 1:=by rw [rangeSize_one]; split <;> omega
  show IsRangeIter _ _ (lo + ((0:Nat):Int) * 1) ((((hi - lo).toNat:Nat):Int) - ((0:Nat):Int)) 1
  rw [e1,e2]
  exact Heap.get?_push_size _ rfl
 ·have e:b=(s.heap.push { cls := .type "range",data := .fields #[.int lo t,.int hi u,.int 1 v] }).objs.size:=by simpa using hb
  subst e
  exact I1.sJ (Nat.le_refl _) (I1.hok.fresh (Nat.le_refl _))
theorem wC {a:Expr}{ta:TA}{p pos:Pos} (hg:Gl X "range") (hm:X.mg "range" = none) (ha:PA X [a] ta) (hs:starEach [a] X.env=[(false,eval a X.env)]:=by rfl):Dd Known X tg (.Call (.Name "range" p) [a] [] pos) (zS ta):=by
 intro pins s σ H R I h
 refine Call_ (jT I hg hm boot_range (PyProof.Rows.callWith_type1 (fz (ha pos pins s σ H _ I h) fun us s1 hq5=>L2.ex5 hq5 fun vs H1 I1 r1 q1=>?_) hs rfl))
 obtain ⟨j,e,q1,q2,q⟩:=q1
 subst e
 cases r1 with
 | cons r rr =>
  cases rr
  obtain ⟨t,rfl⟩:=r
  exact call_range_1 (zo I1 (by omega) (by omega) q1 q2 (by simpa using q))
end
section
variable {K:PySem.W.Frag}{Y:XY}{X:Cx}{tg elt iter:Expr}{ifs:List Expr}{scope:Scope}{pos:Pos}{own:List Str}{cap:List (Str × Nat)}{it:SD->Res (Bool × List D)}{tgd:x6}{tt:SD->Res Bool}{fe:SD->Res D}
theorem Dd.imp {cm:Cx->Prop}{t t':TI} (h:Dd cm X tg iter t) (hi:∀ σ H R,t' σ H R->t σ H R):Dd cm X tg iter t' := fun pins s σ H R I hw=>h pins s σ H R I (hi σ H R hw)
theorem wB {a:Expr}{fs:SD->Res (List D)}{p:Pos} (hg:Gl X "range") (hm:X.mg "range" = none) (ha:PA X [a] (pU X.K Y fs)) (hs:starEach [a] X.env=[(false,eval a X.env)]:=by rfl):Dd Known X tg (.Call (.Name "range" p) [a] [] pos) (AF X.K Y (bo fs)) :=
 Dd.imp (wC hg hm ha hs) fun σ H R h=>uS h
theorem wz {i:Nat}{y:Str}{py spos:Pos} (hk:Known X) (hN:X.N.Nodup) (hi':X.N[i]?=some y) (hy:Loc X.env.scope y) (ok:iq X scope own cap) (hi:Dd Known X tg iter (AF X.K Y it)) (Bl:jf X scope own cap tg ifs elt (FT X.K tgd) (l4 X.K Dp tt) (tM X.K Dp fe))
  (hsw:swapsWith (.ListComp elt [⟨tg,iter,ifs,0⟩] scope pos) (some (.Name y py)) spos.line X.env=pure true:=by rfl)
  (hf:X.fn y=true ∨ X.env.scope.names.lookup y=some .local:=by first | exact .inl rfl | exact .inr rfl) (hs:∀ x,foldedSetIterable iter X.env x=pure x:=by intro _; rfl) :
  PS X (.Assign [.Name y py] (.ListComp elt [⟨tg,iter,ifs,0⟩] scope pos) spos) (mw X.K Y (bf i (bR it tgd tt fe own.length cap))):=by
 refine PS.imp (oN (cm:=Known) hN hi' hy ok (fun _ _ _ _ _ _ _ _ I=>hk.comp I) hi Bl hsw hf hs) fun E σ H hq=>ex7 hq fun H0 B0 B τ P I h=>?_
 have key:tM X.K Y (bR it tgd tt fe own.length cap) σ H (fun x H1=>pL i x σ H1 E.nx):=p6 I h fun d v H1 B1 fp _ I1 _ _ r1 k1 h1=>by
  unfold jo at h1
  split at h1
  ·exact h1.elim
  ·rename_i hb
   obtain ⟨P',I',_⟩:=I1.set i (r1.iT (by simpa using hb)) k1
   exact h1 B1 H1 _ P' ⟨I',aw.refl _,nU.refl _⟩
 obtain ⟨H0',B0',B',τ',P',F',I',h'⟩:=key
 exact nZ I' h'
end
abbrev rT (k:Nat) (A:Around):Prop:=gh k { A with handled:=none }
def EC (P:Program) (w:World) (K:PySem.W.Frag) (mg:Str->Option Value) (base:Heap) (N:List Str) (qual:Str) (scope:Scope) (f:Addr) (cd:Value) (A:Around) (outer:List Env) (s:Shared) (H:Hp):Cx :=
 { lV vQ P w K mg base N qual scope f cd A outer s H E0 with calm:=false,xe:=fun _ _=>False }
structure EB (P:Program) (w:World) (K:PySem.W.Frag) (mg:Str->Option Value) (base:Heap) (k:Nat) (f:Addr) (fd:FuncData) (ps:List Str) (sp:Sp):Prop where
 len:∀ vs H Q E,sp vs H Q E->vs.length=ps.length
 run:∀ (A:Around) (outer:List Env) (s:Shared) (H:Hp) (args:Args) (us:List Value) (vs:List V) (Q:VK),rT k A->(∃ (ea:Addr) (C:Value) (t:Addr) (tb:Value) (u:HO),A.handled=some (.ref ea)/\H ea=some (.aG (eX C t tb) u)) ->
  vS P w K mg base A outer s H->BindsTo s fd args (ps.zip us)->Vals vs us->sp vs H Q E0->codeAny (model P w) A (.call (.ref f) args) (CR vQ outer P w H s Q E0) s
theorem wA {P:Program}{w:World}{K:PySem.W.Frag}{mg:Str->Option Value}{base:Heap}{N ps:List Str}{qual:Str}{scope:Scope}{f:Addr}{cd:Value}{A:Around}{outer:List Env}{s s1:Shared}{H:Hp}{us:List Value}{vs:List V}
  (S:a9 N ps scope) (e0:vS P w K mg base A outer s H) (hl:vs.length=ps.length) (r:Vals vs us)
  (x:InCallC s s.heap.objs.size (bindL (envOfC qual scope s.heap.objs.size f cd).kindOf (ps.zip us) fun _=>none) (cellsFrom (s.heap.objs.size + 1) scope.names []) (bindC (envOfC qual scope s.heap.objs.size f cd).kindOf (ps.zip us) fun _=>none) s1) :
  Inv (EC P w K mg base N qual scope f cd A outer s H) [] (L2.start N vs) H s1:=by
 have e0':vS P w K mg base { A with handled:=none } outer s H:=⟨e0.frames,e0.mod,e0.bs,e0.xE,e0.jS,e0.zQ,e0.hok,e0.bare⟩
 have I:=rm (CX:=vQ) (E:=E0) (qual:=qual) (f:=f) (cd:=cd) (A := { A with handled:=none }) S rfl e0' hl r x
 exact ⟨⟨I.ok.mod,I.ok.kind,I.ok.glob,I.ok.blt,I.ok.above,I.ok.inj,I.ok.has,I.ok.Cz,(fun z=>by cases z),I.ok.frames,I.ok.CG,I.ok.Em,I.ok.bs,I.ok.xE,I.ok.qJ,I.ok.qK,I.ok.jS,I.ok.zQ⟩,I.os,I.bare,I.base,I.loc,I.cell,I.free,I.gi,I.pin,I.hok,I.len⟩
theorem Gd {P:Program}{w:World}{K:PySem.W.Frag}{mg:Str->Option Value}{base:Heap}{k:Nat}{f:Addr}{name qual:Str}{params:Arguments}{body:List Stmt}{scope:Scope}{dV kV doc pm cdv ct oc:Value}{an od:Option Addr}
  {osl:Array (Option Value)}{N ps:List Str}{sp:Sp} (lk:K.lookup f=some ⟨oc,od,.func (PySem.W.fnOf name qual params body scope dV kV doc pm an cdv ct),osl⟩) (hcd:PySem.W.codeIn K cdv qual=true) (S:a9 N ps scope)
  (len:∀ vs H Q E,sp vs H Q E->vs.length=ps.length)
  (hbody:∀ (A:Around) (outer:List Env) (s:Shared) (H:Hp) (vs:List V) (Q:VK),rT k (A.deeper (envOfC qual scope s.heap.objs.size f cdv))->Known (EC P w K mg base N qual scope f cdv A outer s H)->sp vs H Q E0 ->
   ∃ t,lY (EC P w K mg base N qual scope f cdv A outer s H) body t/\t { nx:=fun _ H'=>Q .cY H',rt:=Q } (L2.start N vs) H) :
  EB P w K mg base (k + 1) f (PySem.W.fnOf name qual params body scope dV kV doc pm an cdv ct) ps sp:=by
 refine ⟨len,fun A outer s H args us vs Q hr hkn e0 hb r hsp=>?_⟩
 have hl:=len _ _ _ _ hsp
 have KX:K.In s.heap:=e0.mod.ES.keeps fun b o e=>(e0.bs b o e).1
 have lim:s.heap.NoLimit:=e0.mod.nolimit.keeps fun b o e=>(e0.bs b o e).1
 have hkind:∀ y ∈ ps.zip us,scope.names.lookup y.1=some .local ∨ (scope.names.lookup y.1=some .cell/\((cellsFrom (s.heap.objs.size + 1) scope.names []).lookup y.1).isSome=true):=fun ⟨n,v⟩ hy=>by
  rcases S.par n (List.of_mem_zip hy).1 with q | q
  ·exact .inl q
  ·exact .inr ⟨q,PySem.W.cellsFrom_some _ _ _ (.inl q)⟩
 refine codeAny_call_function (show A.depth < recursionLimit from hr.depth) (KX _ _ lk) rfl S.co S.gen rfl (PySem.W.codeRec_of KX hcd) (hb _ _ _ _ ?_)
 refine wpAny_newFunctionEnv_cells S.kind hkind fun env he s1 x=>?_
 subst he
 refine ⟨lim.keeps x.toInCall.keep,codeAny_func ?_⟩
 have kn:Known (EC P w K mg base N qual scope f cdv A outer s H):=hkn
 obtain ⟨t,ht,hq⟩:=hbody A outer s H vs Q (hr.deeper _) kn hsp
 have I:Inv (EC P w K mg base N qual scope f cdv A outer s H) [] (L2.start N vs) H s1:=wA S e0 hl r x
 refine wpAny_mono (ht [] s1 (L2.start N vs) H _ I hq) (fun fl s' hs=>?_) fun e s' hs=>hs.elim
 have fin:∀ {σ':L2.St}{H':Hp}{v:V}{u:Value},Inv (EC P w K mg base N qual scope f cdv A outer s H) [] σ' H' s'->RelV v u->Q v H'->CE outer P w H s Q u s' :=
  fun {σ' H' v u} J rv q=>⟨v,H',J.os,J.bare,J.base,J.hok,rv,q⟩
 cases fl with
 | ret u =>
  obtain ⟨v,σ',H',J,rv,q⟩:=hs
  exact fin J rv q
 | next =>
  obtain ⟨σ',H',J,q⟩:=hs
  exact fin (v:=V.cY) (u:=Value.none) J rfl q
 | brk =>
  obtain ⟨_,_,_,q⟩:=hs
  exact False.elim q
 | cont =>
  obtain ⟨_,_,_,q⟩:=hs
  exact False.elim q
structure AW (P:Program) (w:World) (K:PySem.W.Frag) (mg:Str->Option Value) (base:Heap) (k:Nat) (x:Str) (ps:List Str) (sp:Sp):Prop where
 ex:∃ f fd,mg x=some (.ref f)/\PySem.W.keepIn K (.ref f)=true/\Binds K fd ps []/\EB P w K mg base k f fd ps sp
theorem Dy {P:Program}{w:World}{K:PySem.W.Frag}{mg:Str->Option Value}{base:Heap}{x:Str}{st:Stmt}{N ps:List Str}{k n m:Nat}{g:SF} (D:dR K mg x st ps) (S:a9 N ps (aC st)) (hn:ps.length=n) (hm:N.length=m)
  (hbody:∀ (f:Addr) (cdv:Value) (A:Around) (outer:List Env) (s:Shared) (H:Hp),rT k (A.deeper (envOfC x (aC st) s.heap.objs.size f cdv))->Known (EC P w K mg base N x (aC st) f cdv A outer s H) ->
   lY (EC P w K mg base N x (aC st) f cdv A outer s H) (dY st) (mw K Dp g)):AW P w K mg base (k + 1) x ps (fV K (bZ n m g)):=by
 subst hn hm
 obtain ⟨f,fd,Fn,hmg,hb⟩:=D.ex
 refine ⟨f,fd,hmg,Fn.kp,hb,?_⟩
 obtain ⟨oc,od,kV,doc,pm,an,cdv,ct,osl,rfl,lk,hcd⟩:=Fn.ex
 refine Gd lk hcd S (fun vs H Q E h=>?_) fun A outer s H vs Q hr kn h=>?_
 ·obtain ⟨B0,ds,_,r,h⟩:=h
  rw [<- r.length]
  unfold bZ at h
  by_cases hl:ds.length=ps.length
  ·exact hl
  ·rw [if_neg hl] at h; exact h.elim
 ·obtain ⟨B0,ds,sB,r,h⟩:=h
  unfold bZ at h
  by_cases hl:ds.length=ps.length
  ·rw [if_pos hl] at h
   have e:L2.start N vs=vs.map some ++ List.replicate (N.length - ps.length) none:=by
    unfold L2.start
    rw [<- r.length,hl]
   refine ⟨_,hbody f cdv A outer s H hr kn,H,B0,B0,ds.map some ++ List.replicate (N.length - ps.length) none,[],⟨sB,aw.refl _,aw.refl _,fun a n=>.inl n,by rw [e]; exact j3 _ r,List.nodup_nil,(fun a m=>by cases m),fun a m=>m.elim⟩,?_⟩
   cases z:g (ds.map some ++ List.replicate (N.length - ps.length) none) with
   | rt d=>rw [z] at h; exact fun B' H' v fp q=>h B' H' v fp q
   | nx t =>
    rw [z] at h
    intro B' H' σ' P' a
    exact h B' H' .cY [] ⟨a.si.h0,a.si.b0,a.si.bh,a.si.nb,⟨rfl,rfl⟩,List.nodup_nil,fun a m=>by cases m⟩
   | bk t=>rw [z] at h; exact h.elim
   | ct t=>rw [z] at h; exact h.elim
   | ex C t=>rw [z] at h; exact h.elim
   | bad=>rw [z] at h; exact h.elim
  ·rw [if_neg hl] at h; exact h.elim
end XF
namespace XF
open PySem
def Ge (h:Heap) (C:Addr) (bm:List Value):Prop := ∃ N nm q bs hdct sn sub ab col dd k0 k1 k2 k3 k5 newId,h.get? C=some (excClassObj nm q C N bs bm hdct sn sub ab col dd k0 k1 k2 k3 k5 newId)
section
variable {M:Model}{A:Around}{E:Value->Shared->Prop}{h:Heap}{g:Array GenState}{d:Drawn}{t:Nat}{os:OsState}{e C D:Addr}{oe:Obj}{bm bn:List Value}{Q:Bool->Shared->Prop}
theorem takes (hC:Ge h C bm) (hD:Ge h D bn) (he:h.get? e=some oe) (hc:oe.cls=.ref C) (hb:bn.contains (.type "BaseException")=true) (hq:Q ((Value.ref C :: bm).contains (.ref D)) ⟨h,g,d,t,os⟩):wpAny M A (excMatches (.ref e) (.ref D)) Q E ⟨h,g,d,t,os⟩:=by
 obtain ⟨N,nm,q,bs,hdct,sn,sub,ab,col,dd,k0,k1,k2,k3,k5,newId,hC⟩:=hC
 obtain ⟨N',nm',q',bs',hdct',sn',sub',ab',col',dd',k0',k1',k2',k3',k5',newId',hD⟩:=hD
 have hcB:(Value.ref D :: bn).contains (.type "BaseException")=true:=by rw [List.contains_cons,hb,Bool.or_true]
 have f:=tc_notTuple
 generalize hr:(Value.ref C :: bm).contains (.ref D)=r at hq
 unfold excMatches
 repeat (first | (with_reducible refine wpAny_loadPart_at he ?_; rw [hc]) | with_reducible refine wpAny_loadPart_at hD ?_ | (with_reducible refine wpAny_isSubtype_exc hD ?_; rw [hcB]) | (with_reducible refine wpAny_isSubtype_exc hC ?_; rw [hr]) | wp_step)
 cases r <;> (wp_walk; exact hq)
end
end XF
namespace XF
open PySem PySem.Spec PyProof.Rows L2 DL
theorem Gh {P:Program}{w:World}{H:Hp}{h:Heap}{a:Addr}{o:HO} (x:di P w H h a o):∃ u,h.get? a=some u:=by
 cases o with
 | lst xs=>obtain ⟨_,_,_,_,e⟩:=x; exact ⟨_,e⟩
 | tup xs=>obtain ⟨_,_,_,_,e⟩:=x; exact ⟨_,e⟩
 | dK kvs=>obtain ⟨_,_,_,_,o,_,_,e,_⟩:=x; exact ⟨_,e⟩
 | dT kvs=>obtain ⟨_,_,_,_,o,_,_,e,_⟩:=x; exact ⟨_,e⟩
 | set S n=>obtain ⟨o,_,_,_,e,_⟩:=x; exact ⟨_,e⟩
 | ins C dx fs=>obtain ⟨_,_,_,e,_⟩:=x; exact ⟨_,e⟩
 | own y=>obtain ⟨_,e⟩:=x; exact ⟨_,e⟩
 | xd fs=>obtain ⟨_,⟨_,_,_,e,_⟩,_⟩:=x; exact ⟨_,e⟩
 | Ip lo hi=>obtain ⟨_,_,_,e⟩:=x; exact ⟨_,e⟩
 | aG ob u=>obtain ⟨e,_⟩:=x; exact ⟨_,e⟩
 | Eh ps=>exact ⟨_,(show h.get? a=some _ from x)⟩
 | met f y=>exact ⟨_,(show h.get? a=some _ from x)⟩
 | ext φ=>obtain ⟨_,⟨_,e⟩,_⟩:=x; exact ⟨_,e⟩
section
variable {X:Cx}{pins:List (Addr × Obj)}{σ:L2.St}{H:Hp}{e C:Addr}{B:Heap}{s:Shared}
theorem yd {fs:List Addr}{h h':Heap} (u:vR fs h h') {c:Addr}{v:Option Value} (q:h.IsCell c v):h'.IsCell c v:=by
 obtain ⟨o,ho,hd⟩:=q
 obtain ⟨sl,z⟩:=u.up c o ho fun vs y=>by rw [hd] at y; cases y
 exact ⟨_,z,hd⟩
theorem yc {h':Heap}{fs:List Addr} (I:Inv X pins σ H s) (hok:jx X.prog X.w H B) (cov:∀ b o,X.s₀.heap.get? b=some o->X.H₀ b=none->b ∉ X.fs->b ∉ X.ex->B.get? b=some o) (pin:∀ p ∈ X.pn ++ pins,B.get? p.1=some p.2)
  (st:B.StaysIn h') (u:vR fs s.heap h'):Inv X pins σ H { s with heap:=h' }:=by
 refine ⟨I.ok,I.os,I.bare,⟨fun b o q n hb hx=>st _ _ (cov b o q n hb hx),fun b o q n hb hx=>?_,I.base.free,fun b o q hx=>?_,I.base.tups,I.base.lU,I.base.nJ⟩,?_,fun x c q=>?_,I.free,I.gi,fun p hp=>⟨st _ _ (pin p hp),(I.pin p hp).2⟩,hok.kept st,I.len⟩
 ·obtain ⟨sl,z⟩:=I.base.slot b o q n hb hx
  obtain ⟨_,o',q',nd⟩:=I.ok.jS.mem hb
  rw [q] at q'
  cases q'
  obtain ⟨sl',z'⟩:=u.up b _ z nd
  exact ⟨sl',z'⟩
 ·obtain ⟨o',z⟩:=I.base.there b o q hx
  exact u.ex b o' z
 ·obtain ⟨m,hn,hl⟩:=I.loc
  refine ⟨m,u.up.ns hn,fun i x v a1 a2 a3=>?_⟩
  obtain ⟨w,r,l⟩:=hl i x v a1 a2 a3
  refine ⟨w,r,?_⟩
  rcases l with l | ⟨k,c,hc,q⟩
  ·exact .inl l
  ·exact .inr ⟨k,c,hc,yd u q⟩
 ·obtain ⟨v,z⟩:=I.cell x c q
  exact ⟨v,yd u z⟩
theorem zp {t:Addr}{tb:Value} (I:Inv X pins σ H s) (hok:jx X.prog X.w H B) (cov:∀ b o,X.s₀.heap.get? b=some o->X.H₀ b=none->b ∉ X.fs->b ∉ X.ex->B.get? b=some o) (pin:∀ p ∈ X.pn ++ pins,B.get? p.1=some p.2)
  (st:B.StaysIn s.heap) (new:B.get? e=none) (he:s.heap.get? e=some (eX (.ref C) t tb)) (hex:e ∉ X.ex):H e=none/\Inv X pins σ (upd H e (.aG (eX (.ref C) t tb) (.own e))) s:=by
 have hn:H e=none:=by
  cases q:H e with
  | none=>rfl
  | some o =>
   obtain ⟨u,z⟩:=Gh (hok e o q)
   rw [new] at z
   cases z
 have nfs:e ∉ X.fs:=fun m=>by
  obtain ⟨_,o,q,nd⟩:=I.jS.mem m
  rw [he] at q
  cases q
  exact nd _ rfl
 have nL:X.env.locals ≠ e:=fun z=>by
  obtain ⟨m,⟨o,es,ep,ho,hd,_⟩,_⟩:=I.loc
  rw [z,he] at ho
  cases ho
  cases hd
 have ne:∀ b o,H b=some o->b ≠ e:=fun b o q z=>by rw [z,hn] at q; cases q
 refine ⟨hn,I.ok,I.os,I.bare,⟨I.base.keep,I.base.slot,fun b o q n hx=>?_,I.base.there,fun b xs q=>?_,fun b o u q=>?_,fun b ps q=>?_⟩,I.loc,I.cell,?_,fun x c q=>?_,fun p hp=>?_,fun b o q=>?_,I.len⟩
 ·by_cases z:b=e
  ·exfalso
   subst z
   by_cases hb:b ∈ X.fs
   ·exact nfs hb
   ·have:=cov b o q n hb hx
    rw [new] at this
    cases this
  ·rw [aZ z]
   exact I.base.free b o q n hx
 ·have z:=I.base.tups b xs q
  rw [aZ (ne b _ z)]
  exact z
 ·have z:=I.base.lU b o u q
  rw [aZ (ne b _ z)]
  exact z
 ·obtain ⟨more,z⟩:=I.base.nJ b ps q
  exact ⟨more,by rw [aZ (ne b _ z)]; exact z⟩
 ·rw [aZ nL]
  exact I.free
 ·rw [aZ fun z=>?_]
  ·exact I.gi x c q
  ·obtain ⟨v,o,ho,hd⟩:=I.cell x c q
   rw [z,he] at ho
   cases ho
   cases hd
 ·obtain ⟨h1,h2,h3⟩:=I.pin p hp
  refine ⟨h1,?_,h3⟩
  rw [aZ fun z=>?_]
  ·exact h2
  ·have:=pin p hp
   rw [z,new] at this
   cases this
 ·by_cases z:b=e
  ·subst z
   rw [bX] at q
   cases q
   exact ⟨he,_,he⟩
  ·rw [aZ z] at q
   exact (I.hok b o q).stay (fun c v _ y=>y) (fun c y=>by rw [aZ (ne c _ y)]; exact y) fun c xs y=>by rw [aZ (ne c _ y)]; exact y
theorem wD {h':Heap}{tk:Nat}{m':Str->Option Value} (I:Inv X pins σ H s) (hn:h'.Ns X.env.locals m') (sb:Heap.SameBut X.env.locals s.heap h'):Inv X pins (List.replicate X.N.length none) H { s with heap:=h',toks:=tk }:=by
 have k:∀ b o,b ≠ X.env.locals->s.heap.get? b=some o->h'.get? b=some o:=fun b o n q=>(sb.2 b n).trans q
 have neL:∀ b o,X.s₀.heap.get? b=some o->b ≠ X.env.locals:=fun b o q=>Nat.ne_of_lt (Nat.lt_of_lt_of_le (Heap.lt_size q) I.ok.above)
 refine ⟨I.ok,I.os,I.bare,⟨fun b o q n hb hx=>k b o (neL b o q) (I.base.keep b o q n hb hx),fun b o q n hb hx=>?_,I.base.free,fun b o q hx=>?_,I.base.tups,I.base.lU,I.base.nJ⟩,⟨m',hn,fun i x v a1 a2 a3=>?_⟩,fun x c q=>?_,I.free,I.gi,fun p hp=>?_,fun b o q=>?_,by simp⟩
 ·obtain ⟨sl,z⟩:=I.base.slot b o q n hb hx
  exact ⟨sl,k b _ (neL b o q) z⟩
 ·obtain ⟨o',z⟩:=I.base.there b o q hx
  exact ⟨o',k b o' (neL b o q) z⟩
 ·rw [List.getElem?_replicate] at a2
  split at a2 <;> cases a2
 ·obtain ⟨v,o,ho,hd⟩:=I.cell x c q
  exact ⟨v,o,k c o (I.Ei x c q) ho,hd⟩
 ·obtain ⟨h1,h2,h3,h4⟩:=I.pin p hp
  exact ⟨k _ _ h3 h1,h2,h3,h4⟩
 ·refine (I.hok b o q).stay (fun c v hc y=>k c v (fun z=>?_) y) (fun _ y=>y) fun _ _ y=>y
  have f:=I.free
  rw [<- z] at f
  rcases hc with rfl | hc
  ·rw [q] at f; cases f
  ·rw [hc] at f; cases f
end
abbrev HU (X:Cx) (pn:List (Addr × Obj)) (W:Value->Shared->Prop):Cx := { X with pn:=pn,xe:=W }
theorem Gf {X:Cx}{pins:List (Addr × Obj)}{σ:L2.St}{H:Hp}{s:Shared}{W:Value->Shared->Prop} (I:Inv X pins σ H s):Inv (HU X (X.pn ++ pins) W) [] σ H s :=
 ⟨⟨I.ok.mod,I.ok.kind,I.ok.glob,I.ok.blt,I.ok.above,I.ok.inj,I.ok.has,I.ok.Cz,I.ok.hd,I.ok.frames,I.ok.CG,I.ok.Em,I.ok.bs,I.ok.xE,I.ok.qJ,I.ok.qK,I.ok.jS,I.ok.zQ⟩,I.os,I.bare,I.base,I.loc,I.cell,I.free,I.gi,fun p hp=>I.pin p (by simpa using hp),I.hok,I.len⟩
theorem mU {X:Cx}{pins pins':List (Addr × Obj)}{σ:L2.St}{H:Hp}{s:Shared}{W:Value->Shared->Prop} (I:Inv (HU X (X.pn ++ pins) W) pins' σ H s):Inv X pins σ H s :=
 ⟨⟨I.ok.mod,I.ok.kind,I.ok.glob,I.ok.blt,I.ok.above,I.ok.inj,I.ok.has,I.ok.Cz,I.ok.hd,I.ok.frames,I.ok.CG,I.ok.Em,I.ok.bs,I.ok.xE,I.ok.qJ,I.ok.qK,I.ok.jS,I.ok.zQ⟩,I.os,I.bare,I.base,I.loc,I.cell,I.free,I.gi,fun p hp=>I.pin p (List.mem_append_left _ hp),I.hok,I.len⟩
abbrev HS (X:Cx) (e:Addr):Cx := { X with A:=X.A.mark (some (.ref e)),calm:=false,xe:=fun _ _=>False }
theorem AY {X:Cx}{pins:List (Addr × Obj)}{σ:L2.St}{H:Hp}{s:Shared} (e:Addr) (I:Inv X pins σ H s):Inv (HS X e) pins σ H s :=
 ⟨⟨I.ok.mod,I.ok.kind,I.ok.glob,I.ok.blt,I.ok.above,I.ok.inj,I.ok.has,I.ok.Cz,(fun z=>by cases z),I.ok.frames,I.ok.CG,I.ok.Em,I.ok.bs,I.ok.xE,I.ok.qJ,I.ok.qK,I.ok.jS,I.ok.zQ⟩,I.os,I.bare,I.base,I.loc,I.cell,I.free,I.gi,I.pin,I.hok,I.len⟩
theorem AX {X:Cx}{pins:List (Addr × Obj)}{σ:L2.St}{H:Hp}{s:Shared}{e:Addr} (ok:X.Ok) (I:Inv (HS X e) pins σ H s):Inv X pins σ H s :=
 ⟨ok,I.os,I.bare,I.base,I.loc,I.cell,I.free,I.gi,I.pin,I.hok,I.len⟩
def l5 (g:SF) (ug:Addr->Bool) (G:DF) (τ:SD):Fl:=match g τ with
 | .ex C _=>if ug C=true then (match G [.exc C] with | .ok d=>.rt d | _=>.bad) else .bad
 | r=>r
theorem Ga.cls {h:Heap}{C:Addr}{bm:List Value} (x:Ga h C bm):Ge h C bm:=by
 obtain ⟨N,nm,q,bs,hdct,sn,sub,ab,col,dd,k0,k1,k2,k3,k5,mN,hC,_⟩:=x.ob
 exact ⟨N,nm,q,bs,hdct,sn,sub,ab,col,dd,k0,k1,k2,k3,k5,_,hC⟩
theorem Dz {X:Cx}{e C t:Addr}{tb:Value}{u:HO}{k i:Nat}{y n p:Str}{G:DF}{p1 p2 cp:Pos} (Cw:AW X.prog X.w X.K X.mg X.base k y [p] (fV X.K G)) (hr:rT k X.A) (hgy:Gl X y) (hi:X.N[i]?=some n) (hv:Eg X.env.scope n) (hdb:(y == ("__debug__" : Str))=false) (hd:(n == ("__debug__" : Str))=false) (hcd:(n == ("__classdict__" : Str))=false)
  (he:starEach [.Name n p2] X.env=(false,eval (.Name n p2) X.env) :: starEach [] X.env) (hpl:(backTo cp (starEach [] X.env)).any (·.1)=false) :
  PE (HS X e) (.Call (.Name y p1) [.Name n p2] [] cp) (fun σ H Q=>σ[i]?=some (some (.ref e))/\H e=some (.aG (eX (.ref C) t tb) u)/\fV X.K G [.ref e] H Q E0):=by
 obtain ⟨f,fd,hm,hk,hb,Fn⟩:=Cw.ex
 intro pins s σ H Q J ⟨h1,h2,h3⟩
 refine wpAny_Call_Name_kw (ly J hgy hm ?_ hdb)
 have ha:PA (HS X e) [.Name n p2] _:=eZ (pJ (X:=HS X e) (i:=i) (pos:=p2) hi hv hd hcd) jW he
 refine PySem.W.callWith_K (h₀:=X.base) J.ok.mod.ES hk (fz (ha cp pins s σ H (fun vs H1=>vs=[.ref e]/\H1=H) J ⟨.ref e,h1,rfl,rfl⟩) fun us s1 hq5=>L2.ex5 hq5 fun vs H1 J1 r q=>⟨J1.nD,?_⟩) he hpl
 obtain ⟨rfl,rfl⟩:=q
 have hl:us.length=[p].length:=by rw [<- r.length]; rfl
 have hb' := hb s1 us J1.nD (by rw [List.append_nil]; exact hl)
 rw [List.append_nil] at hb'
 refine wpAny_call (codeAny_mono (Fn.run (X.A.mark (some (.ref e))) X.stack s1 H1 ⟨us,[]⟩ us [.ref e] Q hr ⟨e,.ref C,t,tb,u,rfl,h2⟩ J1.Fb hb' r h3) fun r s' hq=>?_)
 cases r with
 | error e=>exact hq.elim
 | ok fl =>
  cases fl with
  | ret u=>exact J1.after hq
  | next=>exact False.elim hq
  | brk=>exact False.elim hq
  | cont=>exact False.elim hq
theorem Gg {X:Cx}{Y:XY}{body:List Stmt}{x n y p:Str}{np p1 p2 cp hpos rpos pos:Pos}{g:SF}{i k:Nat}{NE:Addr}{bn:List Value}{ug:Addr->Bool}{G:DF}
  (hb:∀ (pn:List (Addr × Obj)) (W:Value->Shared->Prop) (Y':XY),Gb (HU X pn W) Y'->lY (HU X pn W) body (mw X.K Y' g))
  (c:fL X.K X.mg x NE bn) (hIn:∀ C,ug C=true->∃ nm bm,fL X.K X.mg nm C bm/\(Value.ref C :: bm).contains (.ref NE)=true)
  (Cw:AW X.prog X.w X.K X.mg X.base k y [p] (fV X.K G)) (hr:rT k X.A) (hN:X.N.Nodup) (hi:X.N[i]?=some n) (hn:X.env.scope.names.lookup n=some .local) (hgx:Gl X x:=by rfl) (hgy:Gl X y:=by rfl)
  (hst:X.stack=X.env :: X.outer:=by rfl) (hfr:X.env.frame=some X.env.locals:=by rfl) (hex:X.ex=[]:=by rfl) (hkf:X.env.scope.kind=.function:=by rfl)
  (hdx:(x == ("__debug__" : Str))=false:=by decide) (hdb:(y == ("__debug__" : Str))=false:=by decide) (hd:(n == ("__debug__" : Str))=false:=by decide) (hcd:(n == ("__classdict__" : Str))=false:=by decide)
  (he:starEach [.Name n p2] X.env=(false,eval (.Name n p2) X.env) :: starEach [] X.env:=by rfl) (hpl:(backTo cp (starEach [] X.env)).any (·.1)=false:=by rfl) :
  PS X (.Try body [.ExceptHandler (some (.Name x np)) (some n) [.Return (some (.Call (.Name y p1) [.Name n p2] [] cp)) rpos] hpos] [] [] pos) (mw X.K Y (l5 g ug G)):=by
 intro pins s σ H D I ⟨H0,B0,B,τ,P,J,h⟩
 refine wpAny_Try_except ?_
 have main:Gb (HU X (X.pn ++ pins) fun e s₁=>wpAny (model X.prog X.w) X.A (noteFrame e X.env) (fun _ s₂=>wpAny (model X.prog X.w) X.A (setFlight e none) (fun _ s₃=>wpAny (model X.prog X.w) X.A (handleBy e X.env [.ExceptHandler (some (.Name x np)) (some n) [.Return (some (.Call (.Name y p1) [.Name n p2] [] cp)) rpos] hpos]) (SP X pins D) X.xe s₃) X.xe s₂) X.xe s₁)
   (fun C σ' H'=>∃ t B' P',lC X.K H0 B0 B H B' H' σ' t P'/\g τ=.ex C t):=by
  rintro pins' σ' H' e C s' ⟨I',Bh,st,new,ff,hok,cov,pin,made⟩ ⟨t,B',P',aft,hg⟩
  unfold l5 at h
  rw [hg] at h
  have h:eU X.K Y H0 B0 B H D (if ug C=true then (match G [.exc C] with | .ok d=>.rt d | _=>.bad) else .bad):=h
  split at h
  ·rename_i hc
   cases zG:G [.exc C] with
   | d9 c=>rw [zG] at h; exact h.elim
   | bad=>rw [zG] at h; exact h.elim
   | ok d =>
    rw [zG] at h
    have Ix:=mU I'
    have cov':∀ b o,X.s₀.heap.get? b=some o->X.H₀ b=none->b ∉ X.fs->b ∉ X.ex->Bh.get? b=some o:=cov
    have pin':∀ p ∈ X.pn ++ pins,Bh.get? p.1=some p.2:=fun p hp=>pin p (List.mem_append_left _ hp)
    have ff':s'.heap.FunFrames Bh (X.env :: X.outer):=by rw [<- hst]; exact ff
    have fr:X.A.frames=some (X.env :: X.outer):=by rw [<- hst]; exact Ix.ok.frames
    have rest:∀ h1,wt Bh (X.env :: X.outer) e (.ref C) (rawInt X.env.locals) h1->vR (CD (X.env :: X.outer)) s'.heap h1 ->
      wpAny (model X.prog X.w) X.A (setFlight (.ref e) none) (fun _ s₃=>wpAny (model X.prog X.w) X.A (handleBy (.ref e) X.env [.ExceptHandler (some (.Name x np)) (some n) [.Return (some (.Call (.Name y p1) [.Name n p2] [] cp)) rpos] hpos]) (SP X pins D) X.xe s₃) X.xe { s' with heap:=h1 }:=by
     intro h1 f1 u1
     refine mark (fs:=CD (X.env :: X.outer)) (x:=none) f1 fun h2 f2 u2=>?_
     have u02:=u1.trans u2
     have I2:=yc Ix hok cov' pin' f2.st u02
     obtain ⟨ta,T,oT,ts,he2,_⟩:=f2.tr.ex
     refine wpAny_handleBy_cons (codeAny_handlers_test (ly (AY e I2) hgx c.mg ?_ hdx)) (by intro q; cases q)
     obtain ⟨nm,bm,cC,hcon⟩:=hIn C hc
     refine takes (cC.obj I2.nD).cls (c.obj I2.nD).cls he2 rfl ?_ ?_
     ·obtain ⟨_,_,_,_,_,_,_,_,_,_,_,_,_,_,_,_,_,_,_,T⟩:=(c.obj I2.nD).ob
      exact T.hasType F.excBase_ValueError.hasBase
     ·rw [hcon]
      refine codeAny_handlers_suite_as ?_
      refine mark (fs:=CD (X.env :: X.outer)) (x:=none) f2 fun h3 f3 u3=>?_
      have I3:=yc Ix hok cov' pin' f3.st (u02.trans u3)
      obtain ⟨ta3,T3,oT3,ts3,he3,_⟩:=f3.tr.ex
      obtain ⟨hHe,I4⟩:=zp I3 hok cov' pin' f3.st f3.new he3 (by rw [hex]; exact fun z=>by cases z)
      generalize hH4:upd H' e (.aG (eX (.ref C) ta3 (.ref T3)) (.own e))=H4 at I4
      have h4e:H4 e=some (.aG (eX (.ref C) ta3 (.ref T3)) (.own e)):=by rw [<- hH4]; exact bX
      have s34:aw H' H4:=by rw [<- hH4]; exact ib hHe
      refine pM I4 hN hi (.inl hn) (show RelV (.ref e) (.ref e) from rfl) (fun s5 I5=>?_) (.inr hn)
      have len5:i < σ'.length:=by rw [Ix.len]; exact (List.getElem?_eq_some_iff.mp hi).1
      have q5:(σ'.set i (some (V.ref e)))[i]?=some (some (.ref e)):=List.getElem?_set_self len5
      have hsp:fV X.K G [.ref e] H4 (fun v H5=>∃ B5 fp,oS X.K H4 B' B5 H5 d v fp) E0:=by
       refine ⟨B',[.exc C],aft.si.bh.trans s34,aB.one ⟨⟨e,rfl,ta3,.ref T3,.own e,h4e⟩,rfl⟩,?_⟩
       rw [zG]
       exact fun B5 H5 v fp r=>⟨B5,fp,r⟩
      have run:=xA (vV (pos:=rpos) (Dz (e:=e) (C:=C) (t:=ta3) (tb := .ref T3) (u := .own e) (p1:=p1) (p2:=p2) (cp:=cp) Cw hr hgy hi (.inl hn) hdb hd hcd he hpl)) pins s5 (σ'.set i (some (.ref e))) H4 { nx:=fun _ _=>False,rt:=fun v H5=>∃ B5 fp,oS X.K H4 B' B5 H5 d v fp } (AY e I5) ⟨q5,h4e,hsp⟩
      refine wpAny_mono run (fun f s6 hf=>?_) fun _ _ z=>z.elim
      cases f with
      | next=>obtain ⟨_,_,_,z⟩:=hf; exact z.elim
      | brk=>obtain ⟨_,_,_,z⟩:=hf; exact z.elim
      | cont=>obtain ⟨_,_,_,z⟩:=hf; exact z.elim
      | ret u6 =>
       obtain ⟨v,σ6,H6,I6,rv,B5,fp,r⟩:=hf
       have I6' := AX Ix.ok I6
       obtain ⟨m6,hn6,_⟩:=I6'.loc
       refine wpAny_nameGoes (show X.env.kindOf n=some .local from hn) hn6 (by rw [hkf]; rfl) fun h7 m7 hn7 sb=>?_
       refine ⟨v,_,H6,wD I6' hn7 sb,rv,h B5 H6 v fp ⟨aft.si.h0.trans (s34.trans r.h0),aft.si.b0.trans r.b0,r.bh,fun a na=>?_,r.rep,r.nd,fun a ha=>?_⟩⟩
       ·rcases r.nb a na with z | z
        ·exact aft.si.nb a z
        ·exact .inr (aft.si.h0.free (s34.free z))
       ·obtain ⟨z1,z2,z3⟩:=r.own a ha
        exact ⟨z1,aft.si.h0.free (s34.free z2),z3⟩
    rcases made with ⟨t0,h0⟩ | tr
    ·exact rR fr hfr ff' h0 st new rest
    ·exact note fr hfr ⟨st,new,ff',tr⟩ rest
  ·exact h.elim
 have go:=hb _ _ _ main [] s σ H D (Gf I) ⟨H0,B0,B,τ,P,J,by
  unfold l5 at h
  cases z:g τ with
  | nx t=>rw [z] at h; exact h
  | bk t=>rw [z] at h; exact h
  | ct t=>rw [z] at h; exact h
  | rt d=>rw [z] at h; exact h
  | ex C t=>exact fun B' H' σ' P' a=>⟨t,B',P',a,rfl⟩
  | bad=>rw [z] at h; exact h⟩
 refine wpAny_mono go (fun f s1 q=>?_) fun _ _ z=>z
 cases f with
 | next=>obtain ⟨σ',H',I',q⟩:=q; exact wpAny_execs_nil ⟨σ',H',mU I',q⟩
 | brk=>obtain ⟨σ',H',I',q⟩:=q; exact ⟨σ',H',mU I',q⟩
 | cont=>obtain ⟨σ',H',I',q⟩:=q; exact ⟨σ',H',mU I',q⟩
 | ret u=>obtain ⟨v,σ',H',I',r,q⟩:=q; exact ⟨v,σ',H',mU I',r,q⟩
end XF
namespace XF
open PySem PySem.W PySem.Spec PyProof.Rows
structure kO (K:Frag) (C:Addr):Prop where
 ga:findIn K (.ref C) "__getattribute__" = some (some (.builtin "BaseException.__getattribute__"))
 gt:findIn K (.ref C) "__getattr__" = some none
 fo:findObj K C none "__class__" = some (.bind (.builtin "getset_descriptor.__get__") (.builtin "object.__class__"))
 mo:PySem.W.mroIn K C (.type "object")=some true
 mb:PySem.W.mroIn K C (.type "BaseException")=some true
 cl:(clsIn K C).isSome=true
section
variable {prog:Program}{w:World}{A:Around}{E:Value->Shared->Prop}{s:Shared}{K:Frag}{x C:Addr}{ox:Obj}
theorem zq (k:kO K C) {Q:Option Value->Shared->Prop} (X:K.In s.heap) (I:PySem.W.InstAt s.heap x ox C none) (h:Q (some (.ref C)) { s with toks:=s.toks + 1 }):wpAny (model prog w) A (getAttr? (.ref x) "__class__") Q E s:=by
 obtain ⟨hh,g,d,t,os⟩:=s
 have L0:=I.type (M:=model prog w)
 have L1:=looks_findIn (M:=model prog w) X k.ga
 have L2:=looks_findIn (M:=model prog w) X k.gt
 unfold getAttr? getAttrBy? getAttrBy
 refine wpAny_bind (wpAny_mkText (wpAny_bind (wpAny_attempt (wpAny_holding (wpAny_bind (L0.at (wpAny_bind (L1.at ?_))))))))
 have hx:(onTheHeap (Value.ref C) && Value.builtin "BaseException.__getattribute__" == Value.builtin "object.__getattribute__")=false:=by
  rw [show (Value.builtin "BaseException.__getattribute__" == Value.builtin "object.__getattribute__")=false by decide +kernel]
  exact Bool.and_false _
 simp only [hx,Bool.false_eq_true,if_false]
 unfold getAttrByItsOwn hookBefore callGetattribute
 rw [if_pos (show onTheHeap (Value.ref C)=true from rfl)]
 refine wpAny_bind (L2.at (wpAny_bind (wpAny_attempt (wpAny_holding ?_))))
 rw [if_neg (by simp)]
 unfold boundAndCalled
 rw [F.excAttr_ValueError.ga.bind (.ref x)]
 refine wpAny_bind (wpAny_pure ?_)
 show wpAny _ _ (call (.builtin "BaseException.__getattribute__") [.ref x,.str (Str.ofString "__class__") t]) _ _ _
 have LI:Looks (model prog w) hh (isInstance (.ref x) (.type "BaseException")) true:=L0.andThen (looks_mroIn X k.mb)
 have LF:=looks_find (M:=model prog w) X I k.fo
 have hk:builtinKind "BaseException.__getattribute__" = some .slot:=by decide +kernel
 have hsplit:splitId "BaseException.__getattribute__" = some ("BaseException","__getattribute__"):=by decide +kernel
 have ha:=F.args_bexc_ga (.ref x) (.str (Str.ofString "__class__") t)
 refine wpAny_call (codeAny_call_builtin F.excAttr_ValueError.ga.plain F.entry_bexc_ga ?_)
 simp only [checkBuiltinCall,hk,hsplit]
 refine wpAny_bind (LI.at ?_)
 have get:wpAny (model prog w) A.in1 (Builtin.«object.__getattribute__» ⟨[.ref x,.str (Str.ofString "__class__") t],[]⟩) (fun fin s'=>fin=.done (.ret (.ref C))/\s'=⟨hh,g,d,t + 1,os⟩) (fun _ _=>False) ⟨hh,g,d,t + 1,os⟩:=by
  refine wpAny_bind (wpAny_pure (wpAny_bind (wpAny_pure (wpAny_bind (L0.at (wpAny_bind (LF.at ?_)))))))
  show wpAny _ _ (holding [_] (call (.builtin "getset_descriptor.__get__") [.builtin "object.__class__",.ref x,.ref C]) >>= ret) _ _ _
  exact wpAny_bind (wpAny_holding (wpAny_call (class_get (s:=⟨hh,g,d,t + 1,os⟩) (od:=none) X I k.mo (wpAny_pure ⟨rfl,rfl⟩))))
 rw [if_neg (by simp)]
 refine wpAny_of_eq (a:=()) ?_ (wpAny_mono get (fun fin s' z=>?_) fun _ _ z=>z.elim)
 ·unfold argsOk at ha
  revert ha
  generalize Manifest.signature? "BaseException.__getattribute__" = sg
  cases sg <;> exact id
 ·obtain ⟨rfl,rfl⟩:=z
  exact handed_on rfl (wpAny_pure h)
theorem uZ {t:Addr}{tb:Value} (k:kO K C):KitX K (.ref x) (.ref C) (fun h=>h.get? x=some (eX (.ref C) t tb)) where
 ty:=fun _ _ _ e=>(Looks.ld e).andThen .now
 it:=fun _ _ X _=>by
  have hc:=k.cl
  unfold clsIn at hc
  split at hc
  ·rename_i c' d' cd' sl' ho
   intro A' Q' E' s' kk q
   unfold isType loadHead
   exact wpAny_bind (wpAny_loadPart (kk _ _ (X _ _ ho)) (wpAny_pure q))
  ·cases hc
 ne:=fun h tp dd its n sl X htp=>by
  have hc:=k.cl
  refine Bool.eq_false_iff.mpr fun q=>?_
  have e:C=tp:=Value.ref.inj (beq_iff_eq.mp q)
  subst e
  unfold clsIn at hc
  split at hc
  ·rename_i c' d' cd' sl' ho
   have z:=(X _ _ ho).symm.trans htp
   cases z
  ·cases hc
 ca:=fun X e h=>zq k X ⟨e,rfl,rfl,trivial⟩ h
end
end XF
namespace XF
open PySem PySem.Spec PyProof.Rows L2 DL
section
variable {K:PySem.W.Frag}{Y:XY}{H0 B0 B H:Hp}{σ:L2.St}{τ:SD}{P:List Addr}{F:Addr->Prop}{X:Cx}{pos p pt:Pos}{e:Expr}{fe:SD->Res D}
theorem qe {cv:V}{c:Value} (hc:∀ u,RelV cv u->u=c):fJ X (.builtin "isinstance") (fun xs H Q=>∃ a C t tb u b,xs=[.ref a,cv]/\H a=some (.aG (eX (.ref C) t tb) u)/\kO X.K C/\PySem.W.kitOne X.K (.ref C) c=some b/\Q (.bl b) H):=by
 intro pins s σ H xs us Q I r h
 obtain ⟨a,C,t,tb,u,b,rfl,hH,k,e,q⟩:=h
 obtain ⟨u1,u2,rfl,r1,r2⟩:=vals2 r
 cases r1
 have r2:=hc _ r2
 subst r2
 obtain ⟨ho,_⟩:=I.hok a _ hH
 exact PySem.W.kia_one (uZ k) I.nD ho e (fun z=>nomatch z) fun tk=>⟨.bl b,H,I.tok tk,rfl,q⟩
theorem rV:∀ {cs:List Addr}{us:List Value},Vals (cs.map V.ref) us->us=cs.map Value.ref
 | [],us,r=>by cases r; rfl
 | c :: cs,us,r=>by
  cases r with
  | cons h t=>rw [rV t]; cases h; rfl
theorem u0 {cs:List Addr}:fJ X (.builtin "isinstance") (fun xs H Q=>∃ a tp C t tb u b,xs=[.ref a,.ref tp]/\H tp=some (.tup (cs.map V.ref))/\H a=some (.aG (eX (.ref C) t tb) u)/\kO X.K C/\PySem.W.kitAny X.K (.ref C) (cs.map Value.ref)=some b/\Q (.bl b) H):=by
 intro pins s σ H xs us Q I r h
 obtain ⟨a,tp,C,t,tb,u,b,rfl,hT,hH,k,e,q⟩:=h
 obtain ⟨u1,u2,rfl,r1,r2⟩:=vals2 r
 cases r1
 cases r2
 obtain ⟨ho,_⟩:=I.hok a _ hH
 obtain ⟨_,its,rv,n,hits⟩:=(show di X.prog X.w H s.heap tp (.tup (cs.map V.ref)) from I.hok tp _ hT)
 have:=rV rv
 subst this
 exact PySem.W.kia_tup (uZ k) I.nD ho hits e (fun z=>nomatch z) fun tk=>⟨.bl b,H,I.tok tk,rfl,q⟩
def cH (L:List Addr) (p:Addr->Bool):D->Res D
 | .exc C=>if L.contains C=true then .ok (.bl (p C)) else .bad
 | _=>.bad
theorem wF {d:D}{v:V}{f:List Addr}{L:List Addr}{q:Addr->Bool}{Q:VK} (r:Rep K B (· ∈ P) H d v f) (h:Goal K Y H0 B0 B H σ τ P F Q (cH L q d)) :
  ∃ a C t tb u,v=.ref a/\H a=some (.aG (eX (.ref C) t tb) u)/\L.contains C=true/\Goal K Y H0 B0 B H σ τ P F Q (.ok (.bl (q C))):=by
 cases d with
 | exc C =>
  obtain ⟨⟨a,rfl,t,tb,u,hH⟩,_⟩:=r
  have h:Goal K Y H0 B0 B H σ τ P F Q (if L.contains C=true then .ok (.bl (q C)) else .bad):=h
  by_cases hc:L.contains C=true
  ·rw [if_pos hc] at h
   exact ⟨a,C,t,tb,u,rfl,hH,hc,h⟩
  ·rw [if_neg hc] at h
   exact h.elim
 | _=>exact h.elim
theorem iI {x:Str}{D:Addr}{L:List Addr}{q:Addr->Bool} (hL:∀ C,L.contains C=true->kO X.K C/\PySem.W.kitOne X.K (.ref C) (.ref D)=some (q C)) (hg:Gl X "isinstance") (hm:X.mg "isinstance" = none) (he:PE X e (tM X.K Y fe)) (hgT:Gl X x) (hmT:X.mg x=some (.ref D))
  (hs:starEach [e,.Name x pt] X.env=(false,eval e X.env) :: starEach [.Name x pt] X.env:=by rfl) (hs2:starEach [.Name x pt] X.env=(false,eval (.Name x pt) X.env) :: starEach [] X.env:=by rfl) (hpl:(backTo pos (starEach [.Name x pt] X.env)).any (·.1)=false:=by rfl) (hdb:(x == ("__debug__" : Str))=false:=by decide) :
  PE X (.Call (.Name "isinstance" p) [e,.Name x pt] [] pos) (tM X.K Y (fH (cH L q) fe)):=by
 refine PE.imp (kR (qe (cv := .ref D) (c := .ref D) fun u r=>r) hg hm (by decide +kernel) (eZ he (eZ (sI hgT hmT (show RelV (.ref D) _ from rfl) hdb) jW hs2) hs) (he:=hs) (hpl:=hpl)) fun σ H Q hq=>ex8 hq fun H0 B0 B τ P F I h=>?_
 refine tM.seq (g:=cH L q) I h fun d v H1 B1 fp _ I1 s1 b1 r1 k1 h1=>?_
 obtain ⟨a,C,t,tb,u,rfl,hH,hc,h2⟩:=wF r1 h1
 obtain ⟨k,e⟩:=hL C hc
 exact ⟨a,C,t,tb,u,_,rfl,hH,k,e,Out.here h2 I1 ⟨rfl,rfl⟩⟩
theorem A0 {x:Str}{T:String}{L:List Addr}{q:Addr->Bool} (hL:∀ C,L.contains C=true->kO X.K C/\PySem.W.kitOne X.K (.ref C) (.type T)=some (q C)) (hg:Gl X "isinstance") (hm:X.mg "isinstance" = none) (he:PE X e (tM X.K Y fe)) (hgT:Gl X x) (hmT:X.mg x=none) (hbT:bootBuiltins x=some (.type T))
  (hs:starEach [e,.Name x pt] X.env=(false,eval e X.env) :: starEach [.Name x pt] X.env:=by rfl) (hs2:starEach [.Name x pt] X.env=(false,eval (.Name x pt) X.env) :: starEach [] X.env:=by rfl) (hpl:(backTo pos (starEach [.Name x pt] X.env)).any (·.1)=false:=by rfl) (hn:x ≠ "__name__" := by decide) (hdb:(x == ("__debug__" : Str))=false:=by decide) :
  PE X (.Call (.Name "isinstance" p) [e,.Name x pt] [] pos) (tM X.K Y (fH (cH L q) fe)):=by
 refine PE.imp (kR (qe (cv := .ty T) (c := .type T) fun u r=>r) hg hm (by decide +kernel) (eZ he (eZ (xC hgT hmT hbT (show RelV (.ty T) _ from rfl) hn hdb) jW hs2) hs) (he:=hs) (hpl:=hpl)) fun σ H Q hq=>ex8 hq fun H0 B0 B τ P F I h=>?_
 refine tM.seq (g:=cH L q) I h fun d v H1 B1 fp _ I1 s1 b1 r1 k1 h1=>?_
 obtain ⟨a,C,t,tb,u,rfl,hH,hc,h2⟩:=wF r1 h1
 obtain ⟨k,e⟩:=hL C hc
 exact ⟨a,C,t,tb,u,_,rfl,hH,k,e,Out.here h2 I1 ⟨rfl,rfl⟩⟩
def IF (X:Cx) (es:List Expr) (cs:List Addr):Prop:=PA X es (fun σ H Q=>Q (cs.map V.ref) H)
theorem DA:IF X [] []:=jW
theorem jH {x:Str}{D:Addr}{np:Pos}{es:List Expr}{cs:List Addr} (hg:Gl X x) (hm:X.mg x=some (.ref D)) (h:IF X es cs) (hdb:(x == ("__debug__" : Str))=false:=by decide) (hs:starEach (.Name x np :: es) X.env=(false,eval (.Name x np) X.env) :: starEach es X.env:=by rfl):IF X (.Name x np :: es) (D :: cs) :=
 fun pos pins s σ H Q I hq=>eZ (sI hg hm (show RelV (.ref D) _ from rfl) hdb) h hs pos pins s σ H Q I hq
theorem AZ {es:List Expr}{cs:List Addr}{x1:Nat}{L:List Addr}{q:Addr->Bool} (hL:∀ C,L.contains C=true->kO X.K C/\PySem.W.kitAny X.K (.ref C) (cs.map Value.ref)=some (q C)) (hg:Gl X "isinstance") (hm:X.mg "isinstance" = none) (he:PE X e (tM X.K Y fe)) (hc:IF X es cs) (hlen:cs.length <= 100)
  (hs:starEach [e,.Tuple es x1 pt] X.env=(false,eval e X.env) :: starEach [.Tuple es x1 pt] X.env:=by rfl) (hs2:starEach [.Tuple es x1 pt] X.env=(false,eval (.Tuple es x1 pt) X.env) :: starEach [] X.env:=by rfl) (hpl:(backTo pos (starEach [.Tuple es x1 pt] X.env)).any (·.1)=false:=by rfl) :
  PE X (.Call (.Name "isinstance" p) [e,.Tuple es x1 pt] [] pos) (tM X.K Y (fH (cH L q) fe)):=by
 refine PE.imp (kR (u0 (cs:=cs)) hg hm (by decide +kernel) (eZ he (eZ (zZ (x1:=x1) hc) jW hs2) hs) (he:=hs) (hpl:=hpl)) fun σ H Q hq=>ex8 hq fun H0 B0 B τ P F I h=>?_
 refine tM.seq (g:=cH L q) I h fun d v H1 B1 fp _ I1 s1 b1 r1 k1 h1=>?_
 obtain ⟨a,C,t,tb,u,rfl,hH,hc,h2⟩:=wF r1 h1
 obtain ⟨k,e⟩:=hL C hc
 refine ⟨by rw [List.length_map,sizeLine_eq]; omega,fun tp htp=>?_⟩
 have s:=ib (o := .tup (cs.map V.ref)) htp
 exact ⟨a,tp,C,t,tb,u,_,rfl,bX,s _ _ hH,k,e,Out.here (Out.later h2 s (aw.refl _)) (I1.grow s) ⟨rfl,rfl⟩⟩
end
section
variable {K:PySem.W.Frag}{mg:Str->Option Value}{x y:Str}{C D NE:Addr}{bm bd:List Value}
theorem fL.look (c:fL K mg x C bm):∃ dd cd sl,K.lookup C=some ⟨.type "type",dd,.cls cd,sl⟩/\cd.mro=.ref C :: bm:=by
 obtain ⟨_,q,m⟩:=c
 unfold PySem.W.excIn at q
 split at q
 ·rename_i dd cd sl ho
  refine ⟨dd,cd,sl,ho,?_⟩
  unfold mroIn at m
  rw [ho] at m
  simpa using m
 ·cases q
theorem ye (c:fL K mg x C bm) (v:Value):PySem.W.subIn K (.ref C) v=some ((Value.ref C :: bm).contains v):=by
 obtain ⟨dd,cd,sl,ho,hm⟩:=c.look
 show (PySem.W.clsIn K C).bind _=_
 unfold PySem.W.clsIn
 rw [ho]
 show (if cd.mro.isEmpty=true then none else some (cd.mro.contains v))=_
 rw [hm]
 rfl
theorem yf (c:fL K mg x C bm) (d:fL K mg y D bd):PySem.W.kitOne K (.ref C) (.ref D)=some ((Value.ref C :: bm).contains (.ref D)):=by
 obtain ⟨dd,cd,sl,ho,hm⟩:=d.look
 unfold PySem.W.kitOne
 split
 ·rename_i q
  rw [beq_iff_eq] at q
  rw [q]
  simp
 ·unfold PySem.W.kitCls
  have h1:((PySem.W.clsIn K D).isSome && PySem.W.typeIn K (.ref D) == some (.type "type"))=true:=by
   have e1:PySem.W.typeIn K (.ref D)=some (.type "type"):=by
    show (K.lookup D).map (·.cls)=_
    rw [ho]
    rfl
   have e2:(PySem.W.clsIn K D).isSome=true:=by
    unfold PySem.W.clsIn
    rw [ho]
    rfl
   rw [e1,e2]
   rfl
  show (if ((PySem.W.clsIn K D).isSome && PySem.W.typeIn K (.ref D) == some (.type "type"))=true then PySem.W.subIn K (.ref C) (.ref D) else none)=_
  rw [if_pos h1,ye c]
theorem Gi (c:fL K mg x C bm) (h:bm.contains (.type "ValueError")=true):PySem.W.kitOne K (.ref C) (.type "ValueError")=some true:=by
 unfold PySem.W.kitOne
 rw [if_neg (by simp)]
 unfold PySem.W.kitCls
 show (if PySem.W.kitMeta "ValueError" = true then PySem.W.subIn K (.ref C) (.type "ValueError") else none)=_
 rw [if_pos (by kernel_rfl),ye c,List.contains_cons,h,Bool.or_true]
end
theorem Gj {k:Nat}{A:Around} (r:gh k A):rT k A:=⟨rfl,r.dp,r.un⟩
end XF
namespace SR
open PySem
abbrev tK (xs:Array Nat):Prop:=xs.toList.Pairwise (· < ·)
theorem pq {xs:Array Nat} (h:tK xs) {i j:Nat}{a b:Nat} (hi:xs[i]?=some a) (hj:xs[j]?=some b) (hij:i < j):a < b:=by
 rw [<- Array.getElem?_toList] at hi hj
 obtain ⟨h1,e1⟩:=List.getElem?_eq_some_iff.mp hi
 obtain ⟨h2,e2⟩:=List.getElem?_eq_some_iff.mp hj
 rw [<- e1,<- e2]
 exact List.pairwise_iff_getElem.mp h i j h1 h2 hij
theorem tH {xs:Array Nat}{j:Nat} (hr:tK xs):∀ (fuel lo hi:Nat),lo <= hi->hi <= xs.size->hi - lo <= fuel->(∀ (i a:Nat),xs[i]?=some a->i < lo->a < j)->(∀ (i a:Nat),xs[i]?=some a->hi <= i->j <= a) ->
  SetTable.below.go xs j fuel lo hi <= xs.size/\(∀ (i a:Nat),xs[i]?=some a->i < SetTable.below.go xs j fuel lo hi->a < j)/\(∀ (i a:Nat),xs[i]?=some a->SetTable.below.go xs j fuel lo hi <= i->j <= a)
 | 0,lo,hi,h1,h2,h3,h4,h5=>by
  have e:lo=hi:=by omega
  subst e
  exact ⟨h2,h4,h5⟩
 | fuel + 1,lo,hi,h1,h2,h3,h4,h5=>by
  unfold SetTable.below.go
  by_cases hlt:lo < hi
  ·rw [if_pos hlt]
   have hm:(lo + hi) / 2 < hi:=by omega
   have hm2:lo <= (lo + hi) / 2:=by omega
   have hs:(lo + hi) / 2 < xs.size:=by omega
   have hg:xs[(lo + hi) / 2]?=some xs[(lo + hi) / 2]:=Array.getElem?_eq_getElem hs
   have hd:xs.getD ((lo + hi) / 2) j=xs[(lo + hi) / 2]:=by rw [Array.getD_eq_getD_getElem?,hg]; rfl
   show (if xs.getD ((lo + hi) / 2) j < j then SetTable.below.go xs j fuel ((lo + hi) / 2 + 1) hi else SetTable.below.go xs j fuel lo ((lo + hi) / 2)) <= _/\_
   by_cases hc:xs.getD ((lo + hi) / 2) j < j
   ·simp only [if_pos hc]
    refine tH hr fuel _ _ (by omega) h2 (by omega) (fun i a ha hi'=>?_) h5
    rcases Nat.lt_or_ge i ((lo + hi) / 2) with q | q
    ·have:=pq hr ha hg q
     rw [hd] at hc
     omega
    ·have e:i=(lo + hi) / 2:=by omega
     subst e
     rw [hg] at ha
     cases ha
     rw [hd] at hc
     exact hc
   ·simp only [if_neg hc]
    refine tH hr fuel _ _ hm2 (by omega) (by omega) h4 (fun i a ha hi'=>?_)
    rw [hd] at hc
    rcases Nat.lt_or_ge ((lo + hi) / 2) i with q | q
    ·have:=pq hr hg ha q
     omega
    ·have e:i=(lo + hi) / 2:=by omega
     subst e
     rw [hg] at ha
     cases ha
     omega
  ·rw [if_neg hlt]
   have e:lo=hi:=by omega
   subst e
   exact ⟨h2,h4,h5⟩
theorem mq {xs:Array Nat} (hr:tK xs) (j:Nat):SetTable.below xs j <= xs.size/\(∀ (i a:Nat),xs[i]?=some a->i < SetTable.below xs j->a < j)/\(∀ (i a:Nat),xs[i]?=some a->SetTable.below xs j <= i->j <= a) :=
 tH hr xs.size 0 xs.size (Nat.zero_le _) (Nat.le_refl _) (Nat.le_refl _) (fun _ _ _ h=>absurd h (Nat.not_lt_zero _)) fun i a ha h=>by
  have:=(Array.getElem?_eq_some_iff.mp ha).1
  omega
theorem A2 {xs:Array Nat} (hr:tK xs) {j:Nat} (hn:xs[SetTable.below xs j]? ≠ some j):tK (SetTable.insertAt xs (SetTable.below xs j) j):=by
 obtain ⟨h1,h2,h3⟩:=mq hr j
 unfold tK
 rw [SetTable.toList_insertAt]
 have hr':xs.toList.Pairwise (· < ·):=hr
 rw [<- List.take_append_drop (SetTable.below xs j) xs.toList] at hr'
 obtain ⟨p1,p2,p3⟩:=List.pairwise_append.mp hr'
 have lo:∀ a ∈ xs.toList.take (SetTable.below xs j),a < j:=fun a ha=>by
  obtain ⟨i,hi,e⟩:=List.getElem_of_mem ha
  rw [List.length_take] at hi
  rw [List.getElem_take] at e
  exact h2 i a (by rw [<- Array.getElem?_toList,<- e]; exact List.getElem?_eq_getElem (by omega)) (by omega)
 have hi:∀ a ∈ xs.toList.drop (SetTable.below xs j),j < a:=fun a ha=>by
  obtain ⟨i,hi,e⟩:=List.getElem_of_mem ha
  rw [List.length_drop] at hi
  rw [List.getElem_drop] at e
  have hg:xs[SetTable.below xs j + i]?=some a:=by rw [<- Array.getElem?_toList,<- e]; exact List.getElem?_eq_getElem (by omega)
  have g:=h3 _ a hg (Nat.le_add_right _ _)
  rcases Nat.lt_or_eq_of_le g with g | g
  ·exact g
  ·subst g
   rcases Nat.eq_zero_or_pos i with z | z
   ·subst z; exact absurd hg hn
   ·have hg0:xs[SetTable.below xs j]?=some (xs[SetTable.below xs j]'(by simp at hi; omega)):=Array.getElem?_eq_getElem _
    have l:=pq hr hg0 hg (by omega)
    have g0:=h3 _ _ hg0 (Nat.le_refl _)
    omega
 refine List.pairwise_append.mpr ⟨p1,List.pairwise_cons.mpr ⟨hi,p2⟩,fun a ha b hb=>?_⟩
 rcases List.mem_cons.mp hb with rfl | hb
 ·exact lo a ha
 ·exact Nat.lt_trans (lo a ha) (hi b hb)
structure Good (led:Bool) (t:SetTable):Prop where
 led:t.led=led
 rise:tK t.place
 JC:t.dummies = #[]
theorem wG (led:Bool):Good led (SetTable.fresh 0 0 led):=⟨rfl,List.Pairwise.nil,rfl⟩
theorem kc {led:Bool}{t:SetTable} (g:Good led t) (n:Nat):Good led (t.standIn n):=⟨g.led,by
 show (Array.range n).toList.Pairwise (· < ·)
 rw [Array.toList_range]
 exact List.pairwise_lt_range,rfl⟩
theorem wI {led:Bool}{t:SetTable} (g:Good led t):Good led { t with plain:=false }:=⟨g.led,g.rise,g.JC⟩
theorem yg (j:Nat):SetTable.has #[] j=false:=by
 unfold SetTable.has
 simp
theorem qT {led:Bool}{t:SetTable} (g:Good led t) (j:Nat):t.slot j ≠ .dummy:=by
 unfold SetTable.slot
 rw [g.JC,yg]
 simp only [Bool.false_eq_true,if_false]
 split <;> simp
theorem wJ {t:SetTable}{j:Nat} (h:t.slot j=.empty):t.place[SetTable.below t.place j]? ≠ some j:=fun e=>by
 unfold SetTable.slot at h
 simp only [e,beq_self_eq_true,if_true] at h
 cases h
theorem qf {led:Bool}{t:SetTable} (g:Good led t) {h:Int}:∀ (fuel:Nat) (p:SetTable.Probe) (j:Nat) (d:Option Nat),p.dummy=none->SetTable.probe.go t (fun _=>h + 1) h fuel p=some (.empty j d)->d=none/\t.slot j=.empty
 | 0,p,j,d,_,e=>by unfold SetTable.probe.go at e; cases e
 | fuel + 1,p,j,d,hp,e=>by
  unfold SetTable.probe.go at e
  cases z:t.slot p.j with
  | empty =>
   rw [z] at e
   simp only [Option.some.injEq,SetTable.Met.empty.injEq] at e
   exact ⟨e.2.symm.trans hp,e.1 ▸ z⟩
  | dummy=>exact absurd z (qT g p.j)
  | live i =>
   rw [z] at e
   have hne:(h + 1 == h)=false:=by
    rw [beq_eq_false_iff_ne]
    omega
   simp only [hne,Bool.false_eq_true,if_false] at e
   refine qf g fuel (t.advance p) j d ?_ e
   unfold SetTable.advance
   split
   ·exact hp
   ·exact hp
theorem zr {led:Bool}{t:SetTable} (g:Good led t) {h:Int}{j:Nat}{b:Bool} (e:t.freeSlot h=some (j,b)):t.slot j=.empty:=by
 unfold SetTable.freeSlot at e
 split at e
 ·rename_i j' d hp
  obtain ⟨rfl,hs⟩:=qf g _ _ j' d rfl hp
  simp only [Option.getD_none,Option.isSome_none,Option.some.injEq,Prod.mk.injEq] at e
  exact e.1 ▸ hs
 ·cases e
theorem A1 {led:Bool}{t:SetTable} (g:Good led t) {j:Nat} (h:t.slot j=.empty):Good led (t.put j).1:=by
 refine ⟨g.led,A2 g.rise (wJ h),?_⟩
 show (if SetTable.has t.dummies j=true then SetTable.eraseAt t.dummies (SetTable.below t.dummies j) else t.dummies) = #[]
 rw [g.JC,yg]
 rfl
theorem A3 {led:Bool}{t:SetTable} (g:Good led t) (es:Array (Int × Value)) (h:Int) (x:Value):Good led (layNew t es h x).2.1:=by
 unfold layNew
 split
 ·rename_i slot b e
  show Good led ((t.put slot).1.orStandIn _)
  have gp:=A1 g (zr g e)
  unfold SetTable.orStandIn
  split
  ·exact gp
  ·exact kc gp _
 ·exact kc g _
theorem zt (n:Nat) (f:Nat->Option Nat):(((List.range n).filterMap fun j=>(f j).map (j,·)).map (·.1)).Pairwise (· < ·):=by
 have hs:(((List.range n).filterMap fun j=>(f j).map (j,·)).map (·.1)).Sublist (List.range n):=by
  induction List.range n with
  | nil=>exact List.Sublist.slnil
  | cons a r ih =>
   cases e:f a with
   | none=>rw [List.filterMap_cons_none (by rw [e]; rfl)]; exact ih.cons a
   | some b=>rw [List.filterMap_cons_some (b:=(a,b)) (by rw [e]; rfl)]; exact ih.cons₂ a
 exact List.pairwise_lt_range.sublist hs
theorem wH {led:Bool}{t:SetTable} (g:Good led t) (es:Array (Int × Value)) (w:Nat):Good led (relayAll t es w).2.1:=by
 unfold relayAll
 split
 ·rename_i t' order e
  dsimp only
  split
  ·unfold SetTable.relaid SetTable.laid at e
   simp only [Option.bind_eq_bind,Option.bind_eq_some_iff] at e
   obtain ⟨owner,_,e⟩:=e
   simp only [Option.pure_def,Option.some.injEq,Prod.mk.injEq] at e
   obtain ⟨e,_⟩:=e
   subst e
   exact ⟨g.led,by simpa [tK] using zt _ fun j=>owner.getD j none,rfl⟩
  ·exact kc g _
 ·exact kc g _
end SR
namespace SR
open PySem PySem.Spec PyProof.Rows
section
variable {prog:Program}{w:World}{A:Around}{E:Value->Shared->Prop}{s:Shared}{led:Bool}
def jt (prog:Program) (w:World) (led:Bool) (h:Heap) (a:Addr) (S:Int->Bool) (n:Nat):Prop :=
 ∃ o es ep t,h.get? a=some o/\o.ExactSet/\o.data=.set es ep t/\ElemsOf (intKind prog w) es.toList/\(∀ k,S k=true ↔ ∃ e ∈ es.toList,(intKind prog w).is k e.2=true)
  /\ es.size < scanBound/\t.fits es.size=true/\es.size=n/\Good led t
theorem jt.store {h:Heap}{a:Addr}{o:Obj}{es es':Array (Int × Value)}{ep:Nat}{t t':SetTable}{S':Int->Bool} (ho:h.get? a=some o) (hex:o.ExactSet) (hd:o.data=.set es ep t)
  (hel:ElemsOf (intKind prog w) es'.toList) (hmem:∀ k,S' k=true ↔ ∃ e ∈ es'.toList,(intKind prog w).is k e.2=true) (hb:es'.size < scanBound) (hf:t'.fits es'.size=true) (g:Good led t') :
  (h.update a (Obj.putSet es' t')).get? a=some { o with data := .set es' (ep + 1) t' }/\jt prog w led (h.update a (Obj.putSet es' t')) a S' es'.size:=by
 obtain ⟨hg,_⟩:=SetOf_store (knd:=intKind prog w) ho hex hd hel hmem hb hf
 exact ⟨hg,_,es',ep + 1,t',hg,hex,rfl,hel,hmem,hb,hf,rfl,g⟩
theorem A4 {gw:Bool->Sem Unit} (hg:∀ (b:Bool) (s₁:Shared) (Q':Unit->Shared->Prop),Q' () s₁->wpAny (model prog w) A (gw b) Q' E s₁)
  {a:Addr}{o:Obj}{es es1:Array (Int × Value)}{ep:Nat}{t t2:SetTable}{S':Int->Bool} (ho:s.heap.get? a=some o) (hex:o.ExactSet) (hd:o.data=.set es ep t)
  (hel1:ElemsOf (intKind prog w) es1.toList) (hmem1:∀ k',S' k'=true ↔ ∃ e ∈ es1.toList,(intKind prog w).is k' e.2=true)
  (hb1:es1.size < scanBound) (hf2:t2.fits es1.size=true) (g2:Good led t2) {wasDummy:Bool}{R:Option Bool->Shared->Prop}
  (h:∀ h',Heap.SameBut a s.heap h'->jt prog w led h' a S' es1.size->R (some true) { s with heap:=h' }) :
  wpAny (model prog w) A (do
    storeSet a es1 t2
    if (!wasDummy && t2.tooFull)=true then do
      gw (relayAll t2 es1 (SetTable.grown es1.size)).2.2
      storeSet a (relayAll t2 es1 (SetTable.grown es1.size)).1 (relayAll t2 es1 (SetTable.grown es1.size)).2.1
      pure (some true)
     else pure (some true)) R E s:=by
 refine wpAny_bind (wpAny_storeSet_of ho hd ?_ (fits_of_scanBound hb1))
 obtain ⟨ho1,hS1⟩:=jt.store (prog:=prog) (w:=w) (led:=led) ho hex hd hel1 hmem1 hb1 hf2 g2
 have hsb1:=Heap.SameBut.update s.heap a (Obj.putSet es1 t2)
 split
 ·have hp:=relayAll_perm t2 es1 (SetTable.grown es1.size)
  have hfr:=relayAll_fits t2 es1 (SetTable.grown es1.size)
  have gr:=wH g2 es1 (SetTable.grown es1.size)
  have hsz:(relayAll t2 es1 (SetTable.grown es1.size)).1.size=es1.size:=by rw [<- Array.length_toList,hp.length_eq,Array.length_toList]
  have hb2:(relayAll t2 es1 (SetTable.grown es1.size)).1.size < scanBound:=by rw [hsz]; exact hb1
  refine wpAny_bind (hg _ _ _ (wpAny_bind (wpAny_storeSet_of ho1 rfl ?_ (fits_of_scanBound hb2))))
  obtain ⟨_,hS2⟩:=jt.store (prog:=prog) (w:=w) (led:=led) ho1 hex rfl (hel1.perm hp) (fun k'=>(hmem1 k').trans ⟨fun ⟨e,he,q⟩=>⟨e,hp.mem_iff.mpr he,q⟩,fun ⟨e,he,q⟩=>⟨e,hp.mem_iff.mp he,q⟩⟩) hb2 hfr gr
  rw [hsz] at hS2
  exact wpAny_pure (h _ (hsb1.trans (Heap.SameBut.update _ a _)) hS2)
 ·exact wpAny_pure (h _ hsb1 hS1)
theorem HV {a:Addr}{S:Int->Bool}{n:Nat}{k:Int}{x:Value}{Q:Bool->Shared->Prop} (hkey:(intKind prog w).is k x=true) (hsc:x.scannable=true) (hS:jt prog w led s.heap a S n) (hroom:n + 1 < scanBound)
  (h:∀ h',Heap.SameBut a s.heap h'->jt prog w led h' a (fun k'=>S k' || decide (k'=k)) (if S k then n else n + 1)->Q (!S k) { s with heap:=h' }) :
  wpAny (model prog w) A (setAddHashed a x ((intKind prog w).hash k)) Q E s:=by
 obtain ⟨o,es,ep,t,ho,hex,hd,hel,hmem,hb,hf,hn,g⟩:=hS
 have hb1:es.size + 1 < scanBound:=by rw [hn]; exact hroom
 unfold setAddHashed setAddHashedIn
 refine wpAny_holding (wpAny_bind (wpAny_setState_of ho hd hf ?_))
 dsimp only
 rw [byScan_of hsc hb hel]
 simp only [↓reduceIte]
 unfold setAddByScan
 refine wpAny_bind (wpAny_bind (wpAny_rule (wpAny_bind (wpAny_setScan_of hkey ho hd hf hel ?_))))
 cases hr:List.findIdx? (fun e=>(intKind prog w).is k e.2) es.toList with
 | some j =>
  dsimp only
  obtain ⟨hj,hpj,_⟩:=List.findIdx?_eq_some_iff_getElem.mp hr
  have hSk:S k=true:=(hmem k).mpr ⟨es.toList[j],List.getElem_mem hj,hpj⟩
  refine wpAny_pure (wpAny_pure ?_)
  have e:s = { s with heap:=s.heap }:=by cases s; rfl
  have:=h s.heap (Heap.SameBut.refl a s.heap) ⟨o,es,ep,t,ho,hex,hd,hel,fun k'=>by
   rw [Bool.or_eq_true,decide_eq_true_eq,<- hmem k']
   exact ⟨fun hk=>hk.elim id (fun e=>e ▸ hSk),.inl⟩,hb,hf,by rw [hSk]; exact hn,g⟩
  rw [hSk] at this
  rw [e]
  exact this
 | none =>
  dsimp only
  have hSk:S k=false:=by
   cases hk:S k with
   | false=>rfl
   | true=>obtain ⟨e,he,hp⟩:=(hmem k).mp hk; have:=List.findIdx?_eq_none_iff.mp hr e he; rw [hp] at this; exact Bool.noConfusion this
  have hgw:∀ (b:Bool) {s₁:Shared}{Q':Unit->Shared->Prop},Q' () s₁->wpAny (model prog w) A (match b with | true=>rule "set.scan.the-table-gave-way" | false=>pure ()) Q' E s₁ :=
   fun b s₁ Q' hq=>by cases b <;> first | exact wpAny_pure hq | exact wpAny_rule hq
  have hperm:=layNew_perm t es ((intKind prog w).hash k) x
  have hfits:=layNew_fits t es ((intKind prog w).hash k) x
  have g1:=A3 g es ((intKind prog w).hash k) x
  generalize hL:layNew t es ((intKind prog w).hash k) x=L at hperm hfits g1 ⊢
  obtain ⟨es1,t1,wasDummy,gave⟩:=L
  dsimp only at hperm hfits g1 ⊢
  rw [Array.toList_push] at hperm
  have hel1:ElemsOf (intKind prog w) es1.toList:=(hel.push hkey hsc).perm hperm
  have hmem1:∀ k',(S k' || decide (k'=k))=true ↔ ∃ e ∈ es1.toList,(intKind prog w).is k' e.2=true:=mem_push_iff hkey hmem hperm
  have hsz1:es1.size=n + 1:=by rw [<- Array.length_toList,hperm.length_eq,List.length_append,Array.length_toList,hn]; rfl
  have hb1':es1.size < scanBound:=by rw [hsz1]; exact hroom
  refine wpAny_bind (hgw _ ?_)
  have hend:∀ h',Heap.SameBut a s.heap h'->jt prog w led h' a (fun k'=>S k' || decide (k'=k)) es1.size->Q true { s with heap:=h' }:=by
   intro h' hsb hS'; have:=h h' hsb; rw [hSk] at this; rw [hsz1] at hS'; exact this hS'
  split
  ·refine wpAny_bind ?_
   rw [hashByValue_scannable 8 hsc]
   refine wpAny_pure ?_
   refine A4 (led:=led) ?_ ho hex hd hel1 hmem1 hb1' ?_ ?_ ?_
   ·intro b s₁ Q' hq; cases b <;> first | exact wpAny_pure hq | exact wpAny_rule hq
   ·split
    ·exact hfits
    ·exact SetTable.fits_plain_off hfits
   ·split
    ·exact g1
    ·exact wI g1
   ·intro h' hsb hS'; dsimp only; exact wpAny_pure (hend h' hsb hS')
  ·refine wpAny_bind (wpAny_pure ?_)
   simp only [↓reduceIte]
   refine A4 (led:=led) ?_ ho hex hd hel1 hmem1 hb1' hfits g1 ?_
   ·intro b s₁ Q' hq; cases b <;> first | exact wpAny_pure hq | exact wpAny_rule hq
   ·intro h' hsb hS'; dsimp only; exact wpAny_pure (hend h' hsb hS')
theorem jt.congr {h:Heap}{a:Addr}{S S':Int->Bool}{n n':Nat} (hS:jt prog w led h a S n) (e:∀ k,S k=S' k) (en:n=n'):jt prog w led h a S' n' := by
 have:S=S' := funext e
 subst this en
 exact hS
theorem jt.keep {h h':Heap}{a:Addr}{S:Int->Bool}{n:Nat} (hS:jt prog w led h a S n) (hk:∀ o,h.get? a=some o->h'.get? a=some o):jt prog w led h' a S n:=by
 obtain ⟨o,es,ep,t,ho,rest⟩:=hS
 exact ⟨o,es,ep,t,hk o ho,rest⟩
theorem DB (led:Bool) {h:Heap}{a:Addr} (ho:h.get? a=some { cls := .type "set",dict:=none,data := .set #[] 0 (.fresh 0 0 led) }):jt prog w led h a (fun _=>false) 0 :=
 ⟨_,#[],0,_,ho,⟨rfl,rfl,rfl⟩,rfl,fun e he=>by simp at he,fun k=>by simp,by decide,rfl,rfl,wG led⟩
end
section
variable {prog:Program}{w:World}{A:Around}{R:Result->Shared->Prop}{I:Addr}{fp wr:List Addr}{G:Array GenState->Array GenState->Prop}{n:Nat}{P:Nat->Value->Prop}{St:Nat->Shared->Prop}{led:Bool}
theorem Gk (W:WalksS prog w A.in1 I fp wr G n P St) (S:Addr) (hSf:S ∉ fp) (val:Nat->Int) (hval:∀ i v,P i v->∃ t,v=.int (val i) t) (hb:n + 1 < scanBound) :
  ∀ (k i:Nat) (s:Shared),n - i=k->i <= n->St i s->jt prog w led s.heap S (fun k'=>(firstMet val i).any (· == k')) (firstMet val i).length ->
   (∀ s',Moved (S :: wr) G s s'->jt prog w led s'.heap S (fun k'=>(firstMet val n).any (· == k')) (firstMet val n).length->R (.ok (.ret .none)) s') ->
   codeAny (model prog w) A (.builtin "set.update.loop" ⟨[.ref S,.ref I],[]⟩) R s:=by
 have hSw:S ∉ wr:=fun h=>hSf (W.sub _ h)
 have hsub:∀ b ∈ wr,b ∈ S :: wr:=fun b hb=>List.mem_cons_of_mem _ hb
 intro k
 induction k with
 | zero =>
  intro i s hk hi hst hS hR
  have hin:i=n:=by omega
  subst hin
  refine codeAny_builtin F.entry_set_update_loop ?_
  rw [Around.under_plainId F.plain_set_update_loop _]
  show wpAny _ A.in1 (pyNext (.ref I) >>= _) _ _ s
  refine wpAny_bind (W.done s _ _ hst fun s' hm=>?_)
  exact wpAny_pure (hR s' (hm.mono hsub) (hS.keep fun o ho=>hm.heap S _ hSw ho))
 | succ k ih =>
  intro i s hk hi hst hS hR
  have hlt:i < n:=by omega
  refine codeAny_builtin F.entry_set_update_loop ?_
  rw [Around.under_plainId F.plain_set_update_loop _]
  show wpAny _ A.in1 (pyNext (.ref I) >>= _) _ _ s
  refine wpAny_bind (W.item i s _ _ hlt hst fun v s' hP hst' hm=>?_)
  obtain ⟨t,rfl⟩:=hval i v hP
  have hS' := hS.keep (h' := s'.heap) fun o ho=>hm.heap S _ hSw ho
  show wpAny _ A.in1 (holding [Value.int (val i) t] (setAdd S (.int (val i) t)) >>= _) _ _ s'
  refine wpAny_bind (wpAny_holding ?_)
  unfold setAdd
  refine wpAny_holding (wpAny_bind ((intKind prog w).pyHash (k:=val i) (intKind_is _ _ _ _) ?_))
  have hroom:(firstMet val i).length + 1 < scanBound:=by have:=firstMet_length_le val i; omega
  refine HV (s := { s' with toks:=s'.toks + 1 }) (intKind_is _ _ _ _) rfl hS' hroom fun h' hsb hS2=>?_
  have hSi:jt prog w led h' S (fun k'=>(firstMet val (i + 1)).any (· == k')) (firstMet val (i + 1)).length:=hS2.congr (fun k'=>by rw [firstMet_succ,step_any]) (by rw [firstMet_succ,step_length])
  refine wpAny_pure ⟨plainId_quiet F.plain_set_update_loop _,ih (i + 1) _ (by omega) hlt (W.frame _ s' _ _ hst' (Nat.le_succ _) fun b hb o e=>?_) hSi fun s'' hm'' hS''=>?_⟩
  ·rw [hsb.2 b (fun h:b=S=>hSf (by rw [<- h]; exact hb))]; exact e
  ·refine hR s'' (Moved.trans W.gtrans ((hm.mono hsub).then_heap (Nat.le_succ _) fun b o hb e=>?_) hm'') hS''
   rw [hsb.2 b (fun h:b=S=>hb (by rw [h]; exact List.mem_cons_self))]; exact e
end
def qU (w:World):Bool := !w.params.followText "set-order"
abbrev zu (w:World):Obj:=⟨.type "set",none,.set #[] 0 (.fresh 0 0 (qU w)),#[]⟩
section
variable {prog:Program}{w:World}{A:Around}{E:Value->Shared->Prop}{s:Shared}
theorem HW (a:Value) {R:Value->Shared->Prop} (h:R (.ref s.heap.objs.size) { s with heap:=s.heap.push (zu w) }):codeAny (model prog w) A (.call (.builtin "set.__new__") ⟨[.type "set",a],[]⟩) (wants R E) s:=by
 have self:=sub_set_self
 refine codeAny_of_tree (wpAny_bind (wpAny_of_eq (F.newCall_set_1 a) (wpAny_pure ⟨plainId_quiet F.plain_set_new _,codeAny_builtin F.entry_set_new ?_⟩)))
 rw [Around.under_plainId F.plain_set_new _]
 unfold Builtin.«set.__new__» Builtin.Frozenset.newClass
 cases s
 dsimp only
 wp_walk
 exact wpAny_askSetting (wpAny_pure (wpAny_bind (wpAny_alloc (wpAny_pure (wpAny_pure h)))))
abbrev Made (prog:Program) (w:World) (s:Shared) (ns:List Int) (n:Nat) (S:Addr) (s':Shared):Prop := ∃ h' tk,s' = { s with heap:=h',toks:=tk }/\jt prog w (qU w) h' S (fun k=>(firstMet (fun i=>ns.getD i 0) n).any (· == k)) (firstMet (fun i=>ns.getD i 0) n).length/\∀ b o,b ≠ S->s.heap.get? b=some o->h'.get? b=some o
theorem Gm {l S:Addr}{items:Array Value}{ns:List Int} (hh:A.handled=none) (hl:s.heap.IsList l items) (hi:IntsAre items.toList ns) (hb:items.size + 1 < scanBound) (hS:s.heap.get? S=some (zu w)) (ne:l ≠ S) :
  codeAny (model prog w) A (.call (.builtin "set.__init__") ⟨[.ref S,.ref l],[]⟩) (wants (fun r s'=>r=.none/\Made prog w s ns items.size S s') E) s:=by
 have hT:s.TypeIs (.ref S) "set" := ⟨_,hS,rfl⟩
 refine codeAny_call_builtin F.called_set.init.plain F.entry_set_init (check_set_init_1 hT ?_)
 obtain ⟨⟨c,dc,dt,sl⟩,g1,g2,n,g3⟩:=id hl
 simp only at g2 g3
 subst g2 g3
 have x1:=F.sub_list_set
 have x2:=F.sub_list_frozenset
 have x3:(Value.type "list" == Value.type "dict")=false:=by decide
 unfold Builtin.«set.__init__» noKeywords Builtin.Frozenset.updateFrom
 generalize hI:pyIter=It
 wp_walk
 subst hI
 refine wpAny_pyIter_list hl (wpAny_bind (wpAny_runValue ?_))
 have lS:S < s.heap.objs.size:=Heap.lt_size hS
 have ll:l < s.heap.objs.size:=Heap.lt_size g1
 refine Gk (led:=qU w) ((Walks.list (by simp [hh]) _ l (Nat.ne_of_lt ll) items).toS) S (by simp [Nat.ne_of_lt lS,ne.symm]) (fun i=>ns.getD i 0) (fun i v e=>IntsAre.int_at hi i v (by rw [Array.getElem?_toList]; exact e)) hb (items.size - 0) 0 _ (by omega) (Nat.zero_le _)
  ⟨⟨_,Heap.get?_push_size _ rfl,rfl,rfl⟩,hl.push _⟩ ((DB (qU w) (Heap.get?_push_of_some _ hS)).congr (fun _=>rfl) rfl) ?_
 rintro ⟨h',g',d',tk',os'⟩ hm hG
 have e1:g'=s.gens:=hm.gens
 have e2:d'=s.drawn:=hm.drawn
 have e3:os'=s.os:=hm.os
 subst e1 e2 e3
 refine wpAny_pure (wpAny_pure ⟨rfl,h',tk',rfl,hG,fun b o nb e=>hm.heap b o ?_ (Heap.get?_push_of_some _ e)⟩)
 simp [nb,Nat.ne_of_lt (Heap.lt_size e)]
theorem wK {l:Addr}{items:Array Value}{ns:List Int}{Q:Value->Shared->Prop} (hh:A.handled=none) (hl:s.heap.IsList l items) (hi:IntsAre items.toList ns) (hb:items.size + 1 < scanBound)
  (h:∀ (h':Heap) (tk:Nat),jt prog w (qU w) h' s.heap.objs.size (fun k=>(firstMet (fun i=>ns.getD i 0) items.size).any (· == k)) (firstMet (fun i=>ns.getD i 0) items.size).length->(∀ b o,b < s.heap.objs.size->s.heap.get? b=some o->h'.get? b=some o)->Q (.ref s.heap.objs.size) { s with heap:=h',toks:=tk }) :
  wpAny (model prog w) A (call (.type "set") [.ref l]) Q E s:=by
 have T:=F.called_set
 obtain ⟨m1,m2,m3⟩:=T.mro
 have m4:=T.made
 have m5:=T.sub
 have m6:=T.notType
 have m7:=T.canCreate
 have m8:=F.typeCall_set_1 (.ref l)
 refine wpAny_call (codeAny_of_tree (wpAny_pure ⟨Code.quiet_builtin _ (by decide +kernel),codeAny_builtin F.entry_type_call ?_⟩))
 rw [Around.under_plain (weight_type_call_type "set" [.ref l] []) rfl]
 repeat (any_goals (first | assumption | wp_step))
 refine codeAny_mono (HW (.ref l) (E:=E) (R:=fun x s'=>x=.ref s.heap.objs.size/\s' = { s with heap:=s.heap.push (zu w) }) ⟨rfl,rfl⟩) fun r1 s1 q1=>?_
 rcases r1 with e | fl
 ·exact q1
 cases fl with
 | ret x =>
  obtain ⟨rfl,rfl⟩:=q1
  have gS:(s.heap.push (zu w)).get? s.heap.objs.size=some (zu w):=Heap.get?_push_size _ rfl
  have y1:=T.init.lookup
  have y2:=T.init.bind (.ref s.heap.objs.size)
  have y3:Shared.TypeIs { s with heap:=s.heap.push (zu w) } (.ref s.heap.objs.size) "set" := ⟨_,gS,rfl⟩
  repeat (any_goals (first | assumption | wp_step))
  obtain ⟨ol,g1,_⟩:=id hl
  refine codeAny_mono (Gm (E:=E) (ns:=ns) (by simp [hh]) (hl.push _) hi hb gS (Nat.ne_of_lt (Heap.lt_size g1))) fun r2 s2 q2=>?_
  rcases r2 with e | fl
  ·exact q2
  cases fl with
  | ret x =>
   obtain ⟨rfl,h',tk,rfl,hG,hk⟩:=q2
   repeat (any_goals (first | assumption | wp_step))
   exact h _ _ hG fun b o lb e=>hk b o (Nat.ne_of_lt lb) (Heap.get?_push_of_some _ e)
  | _=>exact q2.elim
 | _=>exact q1.elim
end
theorem qh:entryFor table "set.__iter__" = some Builtin.«frozenset.__iter__» :=
 entryFor_alias (id' := "frozenset.__iter__") (by kernel_rfl) rfl (by decide +kernel) (by kernel_rfl)
theorem bU:Slot "set_iterator" "__next__" "set_iterator.__next__" :=
 .of (owner := "set_iterator") (n := "__next__") (by rw [typeLookup_type,builtinLookup_eq_fast]; kernel_rfl) (by decide +kernel) (by decide +kernel) (by decide +kernel)
  (by first | exact .inl (by decide +kernel) | exact .inr (by decide +kernel)) (by rw [isSubtype_type]; kernel_rfl)
theorem gU:entryFor table "set_iterator.__next__" = some Builtin.«set_iterator.__next__» := entryFor_of_tree (by kernel_rfl)
theorem iJ (a:Value):argsOk "set_iterator.__next__" ⟨[a],[]⟩:=by unfold argsOk; kernel_rfl
section
variable {prog:Program}{w:World}{A:Around}{E:Value->Shared->Prop}{s:Shared}
theorem iV {α:Type}:∀ (l:List α) (i:Nat) (h:i < l.length),(l[i] :: l.eraseIdx i).Perm l
 | [],i,h=>absurd h (Nat.not_lt_zero _)
 | a :: l,0,_=>List.Perm.refl _
 | a :: l,i + 1,h=>by
  have hi:i < l.length:=by simpa using h
  have ih:=iV l i hi
  show (l[i] :: a :: l.eraseIdx i).Perm (a :: l)
  exact (List.Perm.swap a l[i] _).trans (List.Perm.cons a ih)
theorem wL {M:Model}{src:Source}{n:Nat}{Q:Nat->Shared->Prop} (hn:n ≠ 0) (h:∀ (i:Nat) d,i < n->Q i { s with drawn:=d }):wpAny M A (choose src n) Q E s:=fun Γ p hΓ =>
 ⟨hn,h _ _ (Nat.mod_lt _ (Nat.pos_of_ne_zero hn))⟩
theorem u4 {M:Model}{α:Type}:∀ (n:Nat) (xs:List α) (s:Shared) (Q:List α->Shared->Prop),xs.length=n->(∀ ys d,ys.Perm xs->Q ys { s with drawn:=d })->wpAny M A (drawOrder n xs) Q E s
 | 0,xs,s,Q,hl,h=>by
  have e:xs=[]:=List.length_eq_zero_iff.mp hl
  subst e
  unfold drawOrder
  have:=h [] s.drawn (List.Perm.refl _)
  exact wpAny_pure this
 | n + 1,[],s,Q,hl,h=>by simp at hl
 | n + 1,x :: r,s,Q,hl,h=>by
  unfold drawOrder
  refine wpAny_bind (wL (by simp) fun i d hi=>?_)
  have hg:(x :: r)[i]?=some ((x :: r)[i]):=List.getElem?_eq_getElem hi
  simp only [hg]
  refine wpAny_bind (u4 n ((x :: r).eraseIdx i) _ _ (by rw [List.length_eraseIdx_of_lt hi,hl]; rfl) fun ys d' hp=>?_)
  exact wpAny_pure (h _ d' ((List.Perm.cons _ hp).trans (iV _ _ hi)))
theorem yh {α:Type} (next:Nat->Nat):∀ (fuel k:Nat) (left:List α) (out:Array α),left.length=fuel->∃ l:List α,l.Perm left/\(pickOrder.go next fuel k left out).toList=out.toList ++ l
 | 0,k,left,out,hl=>by
  have e:left=[]:=List.length_eq_zero_iff.mp hl
  subst e
  exact ⟨[],List.Perm.refl _,by unfold pickOrder.go; simp⟩
 | fuel + 1,k,left,out,hl=>by
  have hpos:0 < left.length:=by omega
  have hi:next k % left.length < left.length:=Nat.mod_lt _ hpos
  have hg:left[next k % left.length]?=some (left[next k % left.length]):=List.getElem?_eq_getElem hi
  obtain ⟨l,hp,e⟩:=yh next fuel (k + 1) (left.eraseIdx (next k % left.length)) (out.push (left[next k % left.length])) (by rw [List.length_eraseIdx_of_lt hi,hl]; rfl)
  refine ⟨left[next k % left.length] :: l,(List.Perm.cons _ hp).trans (iV _ _ hi),?_⟩
  unfold pickOrder.go
  rw [hg]
  show (pickOrder.go next fuel (k + 1) (left.eraseIdx (next k % left.length)) (out.push (left[next k % left.length]))).toList=_
  rw [e,Array.toList_push,List.append_assoc]
  rfl
theorem oj {α:Type} (next:Nat->Nat) (xs:Array α):(pickOrder next xs).toList.Perm xs.toList:=by
 obtain ⟨l,hp,e⟩:=yh next xs.size 0 xs.toList #[] (by simp)
 unfold pickOrder
 rw [e]
 simpa using hp
variable {a it:Addr}{o:Obj}{es:Array (Int × Value)}{ep:Nat}{t:SetTable}
theorem mV {M:Model}{Q:Bool->Shared->Prop} (h:Q (M.w.params.followText "set-order") s):wpAny M A setsByText Q E s:=by
 unfold setsByText
 exact wpAny_bind (wpAny_askSetting (wpAny_pure h))
theorem A5 (hby:w.params.followText "set-order" = true) (ho:s.heap.get? a=some o) (hd:o.data=.set es ep t) (hf:t.fits es.size=true) {slot i:Nat}{Q:Option (Value × Nat)->Shared->Prop}
  (h:Q (((pickOrder (w.params.setOrder a ep) es)[i]?).map fun e=>(e.2,slot)) s):wpAny (model prog w) A (setNext a slot i ep) Q E s:=by
 unfold setNext
 refine wpAny_bind (wpAny_setState_of ho hd hf ?_)
 dsimp only
 refine wpAny_bind (mV ?_)
 rw [show (model prog w).w.params.followText "set-order" = true from hby]
 simp only [↓reduceIte,bne_self_eq_false,Bool.false_eq_true]
 refine wpAny_bind ?_
 unfold setWalk
 refine wpAny_bind (wpAny_setState_of ho hd hf ?_)
 dsimp only
 refine wpAny_bind (mV ?_)
 rw [show (model prog w).w.params.followText "set-order" = true from hby]
 simp only [↓reduceIte]
 exact wpAny_bind (wpAny_askSetting (wpAny_pure (wpAny_pure h)))
theorem A6 (hby:w.params.followText "set-order" = false) (hdr:(!t.plain && decide (es.size > 1))=false) (hled:t.led=true) (ho:s.heap.get? a=some o) (hd:o.data=.set es ep t) (hf:t.fits es.size=true) {slot i:Nat}{Q:Option (Value × Nat)->Shared->Prop}
  (h:Q (match es[SetTable.below t.place slot]?,t.place[SetTable.below t.place slot]? with | some (_,x),some j=>some (x,j + 1) | _,_=>none) s):wpAny (model prog w) A (setNext a slot i ep) Q E s:=by
 unfold setNext
 refine wpAny_bind (wpAny_setState_of ho hd hf ?_)
 dsimp only
 refine wpAny_bind (mV ?_)
 rw [show (model prog w).w.params.followText "set-order" = false from hby]
 simp only [Bool.false_eq_true,↓reduceIte]
 split
 ·rename_i hx
  have hx':(!t.plain && decide (es.size > 1))=true:=hx
  rw [hdr] at hx'
  cases hx'
 ·refine wpAny_bind ?_
  show wpAny _ _ (if (!t.led && !es.isEmpty)=true then unsupported "set:maker-not-led" else pure ()) _ _ _
  rw [hled,if_neg (by simp)]
  exact wpAny_pure (wpAny_pure h)
abbrev qg (first:Value) (i:Nat) (a:Addr) (n ep:Nat):Obj := { cls := .type "set_iterator",dict:=none,data := .fields #[first,.int i 0,.ref a,.int n 0,.int ep 0],slots := #[] }
theorem rX {slot i nx:Nat}{x:Value}{Q:Option Value->Shared->Prop} (hit:s.heap.get? it=some (qg (.int slot 0) i a es.size ep)) (ho:s.heap.get? a=some o) (hd:o.data=.set es ep t) (hf:t.fits es.size=true)
  (hn:∀ (A':Around) (E':Value->Shared->Prop) (Q':Option (Value × Nat)->Shared->Prop),Q' (some (x,nx)) s->wpAny (model prog w) A' (setNext a slot i ep) Q' E' s)
  (hQ:∀ h',h'.get? it=some (qg (.int nx 0) (i + 1) a es.size ep)->Heap.SameBut it s.heap h'->Q (some x) { s with heap:=h' }):wpAny (model prog w) A (pyNext (.ref it)) Q E s:=by
 have hT:s.TypeIs (.ref it) "set_iterator" := ⟨_,hit,rfl⟩
 unfold pyNext
 refine wpAny_bind (wpAny_attempt (wpAny_callSpecial?_slot (name:=Str.ofString "__next__") hT bU (wpAny_call_entry bU hT gU ?_ (iJ _))))
 unfold Builtin.«set_iterator.__next__» slotArgs
 simp only [List.isEmpty_nil,Bool.not_true,Bool.false_eq_true,↓reduceIte,List.length_nil,bne_self_eq_false]
 refine wpAny_bind (wpAny_pure ?_)
 dsimp only
 refine wpAny_bind (wpAny_fieldsOf hit rfl ?_)
 dsimp only
 refine wpAny_bind (wpAny_setEntries_of ho hd hf ?_)
 simp only [bne_self_eq_false,Bool.false_eq_true,↓reduceIte]
 rw [Int.toNat_natCast,Int.toNat_natCast,Int.toNat_natCast]
 refine wpAny_bind (hn _ _ _ ?_)
 dsimp only
 refine wpAny_bind (wpAny_setField_rec hit (by simp) fun h1 e1 sb1=>?_)
 refine wpAny_bind (wpAny_setField_rec (s := { s with heap:=h1 }) e1 (by simp) fun h2 e2 sb2=>?_)
 refine wpAny_pure ⟨_,rfl,wpAny_pure (hQ h2 ?_ (sb1.trans sb2))⟩
 rw [e2]
 simp [rawInt,qg]
theorem kJ:isSubtype (.type "StopIteration") (.type "StopIteration")=pure true:=by rw [isSubtype_type]; kernel_rfl
theorem rW {slot i:Nat}{Q:Option Value->Shared->Prop} (hh:A.handled=none) (hit:s.heap.get? it=some (qg (.int slot 0) i a es.size ep)) (ho:s.heap.get? a=some o) (hd:o.data=.set es ep t) (hf:t.fits es.size=true)
  (hn:∀ (A':Around) (E':Value->Shared->Prop) (Q':Option (Value × Nat)->Shared->Prop),Q' none s->wpAny (model prog w) A' (setNext a slot i ep) Q' E' s)
  (hQ:∀ h',Heap.ExtBut it s.heap h'->Q none { s with heap:=h' }):wpAny (model prog w) A (pyNext (.ref it)) Q E s:=by
 have hT:s.TypeIs (.ref it) "set_iterator" := ⟨_,hit,rfl⟩
 unfold pyNext
 refine wpAny_bind (wpAny_attempt (wpAny_callSpecial?_slot (name:=Str.ofString "__next__") hT bU (wpAny_call_entry bU hT gU ?_ (iJ _))))
 unfold Builtin.«set_iterator.__next__» slotArgs
 simp only [List.isEmpty_nil,Bool.not_true,Bool.false_eq_true,↓reduceIte,List.length_nil,bne_self_eq_false]
 refine wpAny_bind (wpAny_pure ?_)
 dsimp only
 refine wpAny_bind (wpAny_fieldsOf hit rfl ?_)
 dsimp only
 refine wpAny_bind (wpAny_setEntries_of ho hd hf ?_)
 simp only [bne_self_eq_false,Bool.false_eq_true,↓reduceIte]
 rw [Int.toNat_natCast,Int.toNat_natCast,Int.toNat_natCast]
 refine wpAny_bind (hn _ _ _ ?_)
 dsimp only
 refine wpAny_bind (wpAny_setField hit rfl (by simp) ?_)
 show wpAny _ _ (newExc (.type "StopIteration") [] >>= _) _ _ _
 refine wpAny_bind ?_
 simp only [newExc,newTuple]
 refine wpAny_bind (wpAny_newObj_type ?_ (by size_fits))
 refine wpAny_bind (m:=firstArgMember _ _) (wpAny_of_eq (a:=Value.none) (by first | rfl | (simp only [firstArgMember]; rfl)) ?_)
 refine wpAny_newObj_type ?_ (by size_fits)
 simp only [raiseNew]
 refine wpAny_bind (wpAny_handled ?_)
 rw [show A.in1.handled=none from hh]
 refine wpAny_bind (wpAny_pure (wpAny_throw ?_))
 refine wpAny_bind (wpAny_isInstance (T := "StopIteration") (b:=true) ⟨_,Heap.get?_push_size _ rfl,rfl⟩ kJ ?_)
 exact wpAny_pure (hQ _ (((Heap.SameBut.update ..).extBut.push _).push _))
theorem zv {i p:Nat}{T:Addr}{ps:Array Value}{x:Value}{Q:Option Value->Shared->Prop} (hit:s.heap.get? it=some (qg (.ref T) i a es.size ep)) (ho:s.heap.get? a=some o) (hd:o.data=.set es ep t) (hf:t.fits es.size=true)
  (hp:s.heap.IsTuple T ps) (hpi:ps[i]?=some (.int p 0)) (hx:(es[p]?).map (·.2)=some x)
  (hQ:∀ h',h'.get? it=some (qg (.ref T) (i + 1) a es.size ep)->Heap.SameBut it s.heap h'->Q (some x) { s with heap:=h' }):wpAny (model prog w) A (pyNext (.ref it)) Q E s:=by
 have hT:s.TypeIs (.ref it) "set_iterator" := ⟨_,hit,rfl⟩
 obtain ⟨ot,hot,_,nt,hdt⟩:=hp
 unfold pyNext
 refine wpAny_bind (wpAny_attempt (wpAny_callSpecial?_slot (name:=Str.ofString "__next__") hT bU (wpAny_call_entry bU hT gU ?_ (iJ _))))
 unfold Builtin.«set_iterator.__next__» slotArgs
 simp only [List.isEmpty_nil,Bool.not_true,Bool.false_eq_true,↓reduceIte,List.length_nil,bne_self_eq_false]
 refine wpAny_bind (wpAny_pure ?_)
 dsimp only
 refine wpAny_bind (wpAny_fieldsOf hit rfl ?_)
 dsimp only
 refine wpAny_bind (wpAny_setEntries_of ho hd hf ?_)
 simp only [bne_self_eq_false,Bool.false_eq_true,↓reduceIte]
 refine wpAny_bind (wpAny_seqItems hot hdt ?_)
 dsimp only
 rw [Int.toNat_natCast,hpi]
 dsimp only
 rw [Int.toNat_natCast,Int.toNat_natCast]
 refine wpAny_bind ?_
 unfold setNextDrawn
 refine wpAny_bind (wpAny_setState_of ho hd hf ?_)
 simp only [bne_self_eq_false,Bool.false_eq_true,↓reduceIte]
 cases he:es[p]? with
 | none=>rw [he] at hx; cases hx
 | some e =>
  rw [he] at hx
  simp only [Option.map_some,Option.some.injEq] at hx
  subst hx
  dsimp only
  refine wpAny_pure ?_
  refine wpAny_bind (wpAny_setField_rec hit (by simp) fun h1 e1 sb1=>?_)
  refine wpAny_pure ⟨_,rfl,wpAny_pure (hQ h1 ?_ sb1)⟩
  rw [e1]
  simp [rawInt,qg]
theorem zw {i:Nat}{T:Addr}{ps:Array Value}{Q:Option Value->Shared->Prop} (hh:A.handled=none) (hit:s.heap.get? it=some (qg (.ref T) i a es.size ep)) (ho:s.heap.get? a=some o) (hd:o.data=.set es ep t) (hf:t.fits es.size=true)
  (hp:s.heap.IsTuple T ps) (hpi:ps[i]?=none)
  (hQ:∀ h',Heap.ExtBut it s.heap h'->Q none { s with heap:=h' }):wpAny (model prog w) A (pyNext (.ref it)) Q E s:=by
 have hT:s.TypeIs (.ref it) "set_iterator" := ⟨_,hit,rfl⟩
 obtain ⟨ot,hot,_,nt,hdt⟩:=hp
 unfold pyNext
 refine wpAny_bind (wpAny_attempt (wpAny_callSpecial?_slot (name:=Str.ofString "__next__") hT bU (wpAny_call_entry bU hT gU ?_ (iJ _))))
 unfold Builtin.«set_iterator.__next__» slotArgs
 simp only [List.isEmpty_nil,Bool.not_true,Bool.false_eq_true,↓reduceIte,List.length_nil,bne_self_eq_false]
 refine wpAny_bind (wpAny_pure ?_)
 dsimp only
 refine wpAny_bind (wpAny_fieldsOf hit rfl ?_)
 dsimp only
 refine wpAny_bind (wpAny_setEntries_of ho hd hf ?_)
 simp only [bne_self_eq_false,Bool.false_eq_true,↓reduceIte]
 refine wpAny_bind (wpAny_seqItems hot hdt ?_)
 dsimp only
 rw [Int.toNat_natCast,hpi]
 dsimp only
 refine wpAny_bind (wpAny_setField_rec hit (by simp) fun h1 e1 sb1=>?_)
 refine wpAny_bind (wpAny_setField (s := { s with heap:=h1 }) e1 rfl (by simp) ?_)
 show wpAny _ _ (newExc (.type "StopIteration") [] >>= _) _ _ _
 refine wpAny_bind ?_
 simp only [newExc,newTuple]
 refine wpAny_bind (wpAny_newObj_type ?_ (by size_fits))
 refine wpAny_bind (m:=firstArgMember _ _) (wpAny_of_eq (a:=Value.none) (by first | rfl | (simp only [firstArgMember]; rfl)) ?_)
 refine wpAny_newObj_type ?_ (by size_fits)
 simp only [raiseNew]
 refine wpAny_bind (wpAny_handled ?_)
 rw [show A.in1.handled=none from hh]
 refine wpAny_bind (wpAny_pure (wpAny_throw ?_))
 refine wpAny_bind (wpAny_isInstance (T := "StopIteration") (b:=true) ⟨_,Heap.get?_push_size _ rfl,rfl⟩ kJ ?_)
 exact wpAny_pure (hQ _ (((sb1.trans (Heap.SameBut.update ..)).extBut.push _).push _))
end
theorem mW:Slot "set_iterator" "__iter__" "set_iterator.__iter__" :=
 .of (owner := "set_iterator") (n := "__iter__") (by rw [typeLookup_type,builtinLookup_eq_fast]; kernel_rfl) (by decide +kernel) (by decide +kernel) (by decide +kernel)
  (by first | exact .inl (by decide +kernel) | exact .inr (by decide +kernel)) (by rw [isSubtype_type]; kernel_rfl)
theorem qV:entryFor table "set_iterator.__iter__" = some Builtin.«dict_keyiterator.__iter__» := entryFor_alias (id' := "dict_keyiterator.__iter__") (by kernel_rfl) rfl (by decide +kernel) (by kernel_rfl)
theorem tN (a:Value):argsOk "set_iterator.__iter__" ⟨[a],[]⟩:=by unfold argsOk; kernel_rfl
section
variable {prog:Program}{w:World}{A:Around}{E:Value->Shared->Prop}{s:Shared}{a I:Addr}{o:Obj}{es:Array (Int × Value)}{ep:Nat}{t:SetTable}
theorem tL {h:s.TypeIs (.ref I) "set_iterator"}{Q:Value->Shared->Prop} (hQ:Q (.ref I) s):wpAny (model prog w) A (pyIter (.ref I)) Q E s:=by
 refine wpAny_pyIter_slot h mW (wpAny_call_entry mW h qV ?_ (tN _))
 show wpAny _ _ (ret (.ref I)) _ _ s
 exact wpAny_pure ⟨_,rfl,"set_iterator",_,h,bU.lookup,hQ⟩
theorem Gq (hby:w.params.followText "set-order" = true) (hh:A.handled=none) (hne:a ≠ I) (hd:o.data=.set es ep t) (hf:t.fits es.size=true) :
  Walks prog w A I [I,a] [I] es.size (fun i v=>((pickOrder (w.params.setOrder a ep) es).toList.map (·.2))[i]?=some v) (fun i h=>h.get? I=some (qg (.int (0:Nat) 0) i a es.size ep)/\h.get? a=some o) where
 sub:=fun b hb=>by simp at hb; simp [hb]
 frame:=fun _ _ _ st hk=>⟨hk I (by simp) _ st.1,hk a (by simp) _ st.2⟩
 item:=fun i s Q E hi st hQ=>by
  have hl:=(oj (w.params.setOrder a ep) es).length_eq
  simp only [Array.length_toList] at hl
  have hg:(pickOrder (w.params.setOrder a ep) es)[i]?=some ((pickOrder (w.params.setOrder a ep) es)[i]'(by omega)):=Array.getElem?_eq_getElem _
  refine rX (slot:=0) (nx:=0) (x:=((pickOrder (w.params.setOrder a ep) es)[i]'(by omega)).2) st.1 st.2 hd hf (fun A' E' Q' q=>A5 hby st.2 hd hf (by rw [hg]; exact q)) fun h' e1 sb=>?_
  refine hQ _ h' s.toks ?_ ⟨e1,?_⟩ fun b o' hb e=>?_
  ·rw [List.getElem?_map,Array.getElem?_toList,hg]; rfl
  ·rw [sb.2 a hne]; exact st.2
  ·rw [sb.2 b (fun z=>hb (by simp [z]))]; exact e
 done:=fun s Q E st hQ=>by
  have hl:=(oj (w.params.setOrder a ep) es).length_eq
  simp only [Array.length_toList] at hl
  refine rW (slot:=0) hh st.1 st.2 hd hf (fun A' E' Q' q=>A5 hby st.2 hd hf (by rw [Array.getElem?_eq_none (by omega)]; exact q)) fun h' he=>?_
  exact hQ h' s.toks fun b o hb e=>he b o (fun h=>hb (by simp [h])) e
 self:=fun _ s _ _ st hQ=>tL (h:=⟨_,st.1,rfl⟩) hQ
def oU (t:SetTable):Nat->Nat
 | 0=>0
 | i + 1=>t.place.getD i 0 + 1
theorem qi (hr:tK t.place):∀ i,i <= t.place.size->SetTable.below t.place (oU t i)=i
 | 0,_=>by
  obtain ⟨h1,h2,h3⟩:=mq hr 0
  show SetTable.below t.place 0=0
  rcases Nat.eq_zero_or_pos (SetTable.below t.place 0) with z | z
  ·exact z
  ·have:=h2 0 _ (Array.getElem?_eq_getElem (by omega)) z
   omega
 | i + 1,hi=>by
  have hg:t.place[i]?=some (t.place[i]'(by omega)):=Array.getElem?_eq_getElem _
  have hgd:t.place.getD i 0=t.place[i]'(by omega):=by rw [Array.getD_eq_getD_getElem?,hg]; rfl
  obtain ⟨h1,h2,h3⟩:=mq hr (oU t (i + 1))
  have es:oU t (i + 1)=t.place[i]'(by omega) + 1:=by show t.place.getD i 0 + 1=_; rw [hgd]
  rw [es] at h1 h2 h3 ⊢
  rcases Nat.lt_trichotomy (SetTable.below t.place (t.place[i]'(by omega) + 1)) (i + 1) with z | z | z
  ·have:=h3 i _ hg (by omega)
   omega
  ·exact z
  ·have hg':t.place[i + 1]?=some (t.place[i + 1]'(by omega)):=Array.getElem?_eq_getElem _
   have l:=h2 (i + 1) _ hg' z
   have r:=pq hr hg hg' (by omega)
   omega
theorem Gn (hby:w.params.followText "set-order" = false) (hdr:(!t.plain && decide (es.size > 1))=false) (g:Good true t) (hh:A.handled=none) (hne:a ≠ I) (hd:o.data=.set es ep t) (hf:t.fits es.size=true) :
  Walks prog w A I [I,a] [I] es.size (fun i v=>(es.toList.map (·.2))[i]?=some v) (fun i h=>i <= es.size/\h.get? I=some (qg (.int (oU t i:Nat) 0) i a es.size ep)/\h.get? a=some o) where
 sub:=fun b hb=>by simp at hb; simp [hb]
 frame:=fun _ _ _ st hk=>⟨st.1,hk I (by simp) _ st.2.1,hk a (by simp) _ st.2.2⟩
 item:=fun i s Q E hi st hQ=>by
  have hp:t.place.size=es.size:=by
   unfold SetTable.fits at hf
   simp only [Bool.and_eq_true,beq_iff_eq] at hf
   exact hf.1
  have hb:=qi g.rise i (by omega)
  have hg:es[i]?=some (es[i]'hi):=Array.getElem?_eq_getElem _
  have hgp:t.place[i]?=some (t.place[i]'(by omega)):=Array.getElem?_eq_getElem _
  have hgd:t.place.getD i 0=t.place[i]'(by omega):=by rw [Array.getD_eq_getD_getElem?,hgp]; rfl
  refine rX (slot:=oU t i) (nx:=oU t (i + 1)) (x:=(es[i]'hi).2) st.2.1 st.2.2 hd hf (fun A' E' Q' q=>A6 hby hdr g.led st.2.2 hd hf (by
   rw [hb,hg,hgp]
   have:oU t (i + 1)=t.place[i]'(by omega) + 1:=by show t.place.getD i 0 + 1=_; rw [hgd]
   rw [this] at q
   exact q)) fun h' e1 sb=>?_
  refine hQ _ h' s.toks ?_ ⟨hi,e1,?_⟩ fun b o' hb e=>?_
  ·rw [List.getElem?_map,Array.getElem?_toList,hg]; rfl
  ·rw [sb.2 a hne]; exact st.2.2
  ·rw [sb.2 b (fun z=>hb (by simp [z]))]; exact e
 done:=fun s Q E st hQ=>by
  have hp:t.place.size=es.size:=by
   unfold SetTable.fits at hf
   simp only [Bool.and_eq_true,beq_iff_eq] at hf
   exact hf.1
  have hb:=qi g.rise es.size (by omega)
  refine rW (slot:=oU t es.size) hh st.2.1 st.2.2 hd hf (fun A' E' Q' q=>A6 hby hdr g.led st.2.2 hd hf (by rw [hb,Array.getElem?_eq_none (Nat.le_refl _)]; exact q)) fun h' he=>?_
  exact hQ h' s.toks fun b o hb e=>he b o (fun h=>hb (by simp [h])) e
 self:=fun _ s _ _ st hQ=>tL (h:=⟨_,st.2.1,rfl⟩) hQ
def DC (es:Array (Int × Value)) (ps:List Nat):List Value:=ps.map fun p=>((es[p]?).map (·.2)).getD .none
theorem Gp {T:Addr}{ps:List Nat} (hps:ps.Perm (List.range es.size)) (hh:A.handled=none) (hne:a ≠ I) (hnT:T ≠ I) (hd:o.data=.set es ep t) (hf:t.fits es.size=true) :
  Walks prog w A I [I,a,T] [I] es.size (fun i v=>(DC es ps)[i]?=some v) (fun i h=>h.get? I=some (qg (.ref T) i a es.size ep)/\h.get? a=some o/\h.IsTuple T (ps.map fun p:Nat=>Value.int p 0).toArray) where
 sub:=fun b hb=>by simp at hb; simp [hb]
 frame:=fun _ _ _ st hk=>⟨hk I (by simp) _ st.1,hk a (by simp) _ st.2.1,st.2.2.at fun o e=>hk T (by simp) o e⟩
 item:=fun i s Q E hi st hQ=>by
  have hl:ps.length=es.size:=by rw [hps.length_eq,List.length_range]
  have hpi:ps[i]?=some (ps[i]'(by omega)):=List.getElem?_eq_getElem _
  have hpm:ps[i]'(by omega) < es.size:=List.mem_range.mp (hps.mem_iff.mp (List.getElem_mem _))
  have hg:es[ps[i]'(by omega)]?=some (es[ps[i]'(by omega)]'hpm):=Array.getElem?_eq_getElem _
  refine zv (p:=ps[i]'(by omega)) (x:=(es[ps[i]'(by omega)]'hpm).2) st.1 st.2.1 hd hf st.2.2 (by rw [<- Array.getElem?_toList,List.toList_toArray,List.getElem?_map,hpi]; rfl) (by rw [hg]; rfl) fun h' e1 sb=>?_
  refine hQ _ h' s.toks ?_ ⟨e1,?_,?_⟩ fun b o' hb e=>?_
  ·unfold DC
   rw [List.getElem?_map,hpi,Option.map_some,hg]; rfl
  ·rw [sb.2 a hne]; exact st.2.1
  ·exact st.2.2.at fun o e=>by rw [sb.2 T hnT]; exact e
  ·rw [sb.2 b (fun z=>hb (by simp [z]))]; exact e
 done:=fun s Q E st hQ=>by
  have hl:ps.length=es.size:=by rw [hps.length_eq,List.length_range]
  refine zw hh st.1 st.2.1 hd hf st.2.2 (by rw [<- Array.getElem?_toList,List.toList_toArray,List.getElem?_eq_none (by rw [List.length_map]; omega)]) fun h' he=>?_
  exact hQ h' s.toks fun b o hb e=>he b o (fun h=>hb (by simp [h])) e
 self:=fun _ s _ _ st hQ=>tL (h:=⟨_,st.1,rfl⟩) hQ
theorem zx {ps:List Nat} (hps:ps.Perm (List.range es.size)):(DC es ps).Perm (es.toList.map (·.2)):=by
 unfold DC
 refine (hps.map _).trans ?_
 refine List.Perm.of_eq ?_
 refine List.ext_getElem (by simp) fun i h1 h2=>?_
 have hi:i < es.size:=by simpa using h1
 simp [hi]
end
theorem DE:typeLookup (.type "set") "__len__" = pure (some (.builtin "set.__len__")):=by rw [typeLookup_type,builtinLookup_eq_fast]; kernel_rfl
section
variable {prog:Program}{w:World}{A:Around}{E:Value->Shared->Prop}{s:Shared}{a:Addr}{o:Obj}{es:Array (Int × Value)}{ep:Nat}{t:SetTable}
theorem Gr (ho:s.heap.get? a=some o) (hex:o.ExactSet) (hd:o.data=.set es ep t) (hf:t.fits es.size=true) (g:Good (qU w) t) (hb:es.size < scanBound) {Q:Value->Shared->Prop}
  (hQ:∀ (I:Addr) (fp:List Addr) (ord:List Value) (St:Nat->Heap->Prop) (h':Heap) d,(∀ A':Around,A'.handled=none->Walks prog w A' I fp [I] es.size (fun i v=>ord[i]?=some v) St)->ord.Perm (es.toList.map (·.2))->St 0 h' ->
   (∀ b ∈ fp,b=a ∨ s.heap.objs.size <= b)->s.heap.objs.size <= I->(∀ b o,s.heap.get? b=some o->h'.get? b=some o)->Q (.ref I) { s with heap:=h',drawn:=d }):wpAny (model prog w) A (pyIter (.ref a)) Q E s:=by
 have hT:s.TypeIs (.ref a) "set" := ⟨o,ho,hex.1⟩
 have hal:a < s.heap.objs.size:=Heap.lt_size ho
 have hsl:sizeLine=16777216:=sizeLine_eq
 refine wpAny_pyIter_slot hT F.slot_set_iter (wpAny_call_entry F.slot_set_iter hT qh ?_ (F.args_set_iter_1 _))
 unfold Builtin.«frozenset.__iter__» Builtin.Frozenset.slot0 slotArgs
 simp only [List.isEmpty_nil,Bool.not_true,Bool.false_eq_true,↓reduceIte,bind_assoc,List.length_nil,bne_self_eq_false]
 unfold Builtin.Frozenset.addrOf Builtin.Frozenset.sizeOf
 refine wpAny_bind (wpAny_pure ?_)
 dsimp only
 refine wpAny_bind (wpAny_pure ?_)
 refine wpAny_bind (wpAny_bind (wpAny_setEntries_of ho hd hf (wpAny_pure ?_)))
 refine wpAny_bind ?_
 unfold setDrawn
 refine wpAny_bind (wpAny_setState_of ho hd hf ?_)
 dsimp only
 refine wpAny_bind (mV (wpAny_pure ?_))
 have ep_any:∀ (s1:Shared) (Q':Nat->Shared->Prop),s1.heap.get? a=some o->Q' ep s1->wpAny (model prog w) A.in1 (setEpoch a) Q' E s1:=fun s1 Q' h1 q=>by
  unfold setEpoch
  exact wpAny_bind (wpAny_setState_of h1 hd hf (wpAny_pure q))
 cases hby:w.params.followText "set-order" with
 | true =>
  rw [show (model prog w).w.params.followText "set-order" = true from hby]
  simp only [Bool.not_true,Bool.false_and,Bool.false_eq_true,↓reduceIte]
  refine wpAny_bind (wpAny_pure ?_)
  refine wpAny_bind (ep_any _ _ ho ?_)
  refine wpAny_bind (wpAny_newObj_type (wpAny_pure ⟨_,rfl,"set_iterator",_,⟨_,Heap.get?_push_size _ rfl,rfl⟩,bU.lookup,?_⟩))
  refine hQ s.heap.objs.size [s.heap.objs.size,a] _ _ _ s.drawn (fun A' hh=>Gq (prog:=prog) (I:=s.heap.objs.size) (o:=o) hby hh (Nat.ne_of_lt hal) hd hf) ((oj _ es).map _) ⟨Heap.get?_push_size _ rfl,Heap.get?_push_of_some _ ho⟩ (fun b hbm=>?_) (Nat.le_refl _) fun b o e=>Heap.get?_push_of_some _ e
  rcases List.mem_cons.mp hbm with rfl | hbm
  ·exact .inr (Nat.le_refl _)
  ·rcases List.mem_cons.mp hbm with rfl | hbm
   ·exact .inl rfl
   ·cases hbm
 | false =>
  rw [show (model prog w).w.params.followText "set-order" = false from hby]
  have gl:Good true t:=by
   have e:qU w=true:=by unfold qU; rw [hby]; rfl
   rw [e] at g
   exact g
  cases hdr:(!t.plain && decide (es.size > 1)) with
  | false =>
   refine wpAny_ite_split (fun hc=>?_) (fun _=>?_)
   ·have hc':(!false && (!t.plain && decide (es.size > 1)))=true:=hc
    rw [hdr] at hc'
    cases hc'
   refine wpAny_bind (wpAny_pure ?_)
   refine wpAny_bind (ep_any _ _ ho ?_)
   refine wpAny_bind (wpAny_newObj_type (wpAny_pure ⟨_,rfl,"set_iterator",_,⟨_,Heap.get?_push_size _ rfl,rfl⟩,bU.lookup,?_⟩))
   refine hQ s.heap.objs.size [s.heap.objs.size,a] _ _ _ s.drawn (fun A' hh=>Gn (prog:=prog) (I:=s.heap.objs.size) (o:=o) hby hdr gl hh (Nat.ne_of_lt hal) hd hf) (List.Perm.refl _) ⟨Nat.zero_le _,Heap.get?_push_size _ rfl,Heap.get?_push_of_some _ ho⟩ (fun b hbm=>?_) (Nat.le_refl _) fun b o e=>Heap.get?_push_of_some _ e
   rcases List.mem_cons.mp hbm with rfl | hbm
   ·exact .inr (Nat.le_refl _)
   ·rcases List.mem_cons.mp hbm with rfl | hbm
    ·exact .inl rfl
    ·cases hbm
  | true =>
   refine wpAny_ite_split (fun _=>?_) (fun hc=>?_)
   ·refine wpAny_bind (u4 es.size (List.range es.size) s _ (List.length_range) fun ps d hps=>?_)
    have hpl:ps.length=es.size:=by rw [hps.length_eq,List.length_range]
    simp only [newTuple]
    refine wpAny_bind (wpAny_newObj_type ?_ ?_)
    ·refine wpAny_bind (ep_any _ _ (Heap.get?_push_of_some _ ho) ?_)
     refine wpAny_bind (wpAny_newObj_type (wpAny_pure ⟨_,rfl,"set_iterator",_,⟨_,Heap.get?_push_size _ rfl,rfl⟩,bU.lookup,?_⟩))
     refine hQ _ [_,a,s.heap.objs.size] _ _ _ d (fun A' hh=>Gp (prog:=prog) (w:=w) (o:=o) (T:=s.heap.objs.size) hps hh ?_ ?_ hd hf) (zx hps) ⟨Heap.get?_push_size _ rfl,Heap.get?_push_of_some _ (Heap.get?_push_of_some _ ho),?_⟩ (fun b hbm=>?_) ?_ fun b o e=>Heap.get?_push_of_some _ (Heap.get?_push_of_some _ e)
     ·rw [Heap.size_push]; exact Nat.ne_of_lt (Nat.lt_succ_of_lt hal)
     ·rw [Heap.size_push]; exact Nat.ne_of_lt (Nat.lt_succ_self _)
     ·exact ⟨_,Heap.get?_push_of_some _ (Heap.get?_push_size _ rfl),rfl,0,rfl⟩
     ·rcases List.mem_cons.mp hbm with rfl | hbm
      ·right; rw [Heap.size_push]; exact Nat.le_succ _
      ·rcases List.mem_cons.mp hbm with rfl | hbm
       ·exact .inl rfl
       ·rcases List.mem_cons.mp hbm with rfl | hbm
        ·exact .inr (Nat.le_refl _)
        ·cases hbm
     ·rw [Heap.size_push]; exact Nat.le_succ _
    ·show (ps.map fun (i:Nat)=>rawInt i).toArray.size <= sizeLine
     rw [List.size_toArray,List.length_map,hpl]
     unfold scanBound at hb
     omega
   ·exact absurd (show (!false && (!t.plain && decide (es.size > 1)))=true by rw [hdr]; rfl) hc
theorem A8 (hT:s.TypeIs (.ref a) "set") {Q:Bool->Shared->Prop} (h:Q false s):wpAny (model prog w) A (Builtin.List.listLengthHint (.ref a)) Q E s:=by
 unfold Builtin.List.listLengthHint
 refine wpAny_bind (wpAny_specialOf hT DE ?_)
 generalize hid:("set.__len__" : String)=id0
 wp_delta
 rw [show splitId id0=some ("set","__len__") from by subst hid; decide +kernel]
 subst hid
 refine wpAny_bind (wpAny_isInstance (T := "set") (b:=true) hT (by rw [isSubtype_type]; kernel_rfl) ?_)
 refine wpAny_ite_split (fun hab=>absurd hab (by decide)) (fun _=>?_)
 refine wpAny_ite_split (fun _=>?_) (fun hab=>absurd (by decide +kernel) hab)
 refine wpAny_bind (wpAny_typeOf hT ?_)
 exact wpAny_pure h
theorem A7 {ord:List Value}{acc:Array Value}{n:Nat} (h:ItemsOf (fun i v=>ord[i]?=some v) acc n) (hn:ord.length=n):acc.toList=ord:=by
 refine List.ext_getElem? fun i=>?_
 rcases Nat.lt_or_ge i n with q | q
 ·have hi:i < acc.size:=by rw [h.1]; exact q
  have e:acc[i]?=some acc[i]:=Array.getElem?_eq_getElem hi
  rw [Array.getElem?_toList,e,h.2 i _ e]
 ·rw [List.getElem?_eq_none (by rw [Array.length_toList,h.1]; exact q),List.getElem?_eq_none (by omega)]
theorem zy (hh:A.handled=none) (ho:s.heap.get? a=some o) (hex:o.ExactSet) (hd:o.data=.set es ep t) (hf:t.fits es.size=true) (g:Good (qU w) t) (hb:es.size < scanBound) {Q:List Value->Shared->Prop}
  (hQ:∀ (vs:List Value) (h':Heap) (tk:Nat) d,vs.Perm (es.toList.map (·.2))->(∀ b o,s.heap.get? b=some o->h'.get? b=some o)->s.heap.objs.size <= h'.objs.size->Q vs { s with heap:=h',toks:=tk,drawn:=d }):wpAny (model prog w) A (collect (.ref a)) Q E s:=by
 have hal:a < s.heap.objs.size:=Heap.lt_size ho
 have hn:es.size <= sizeLine:=fits_of_scanBound hb
 unfold collect
 refine wpAny_bind (wpAny_runValue (codeAny_builtin F.entry_proto_collect ?_))
 rw [Around.under_plainId F.plain_proto_collect _]
 show wpAny _ A.in1 (newList [] >>= fun l=>again (.builtin "list.__iadd__" ⟨[l,.ref a],[]⟩)) _ _ s
 refine wpAny_bind (wpAny_newObj_type ?_)
 refine wpAny_pure ⟨plainId_quiet F.plain_list_iadd _,codeAny_builtin F.entry_list_iadd ?_⟩
 rw [Around.under_plainId F.plain_list_iadd _]
 have ho1:(s.heap.push { cls := .type "list",data := .seq ([]:List Value).toArray }).get? a=some o:=Heap.get?_push_of_some _ ho
 show wpAny _ A.in1 (Builtin.List.listExtendWith (.ref s.heap.objs.size) (.ref a) (.ref s.heap.objs.size)) _ _ _
 unfold Builtin.List.listExtendWith
 refine wpAny_bind (wpAny_typeOf (T := "set") ⟨o,ho1,hex.1⟩ ?_)
 have h1:Builtin.List.listSameRef (.ref s.heap.objs.size) (.ref a)=false:=by simp [Builtin.List.listSameRef,Nat.ne_of_gt hal]
 have h2:(Value.type "set" == Value.type "list")=false:=by decide
 have h3:(Value.type "set" == Value.type "tuple")=false:=by decide
 simp only [h1,h2,h3,Bool.or_false,Bool.false_eq_true,if_false]
 refine wpAny_bind (Gr (s := { s with heap:=s.heap.push { cls := .type "list",data := .seq ([]:List Value).toArray } }) ho1 hex hd hf g hb fun I fp ord St hp d W hord hst hfp hI kp=>?_)
 have hS0:hp.get? s.heap.objs.size=some { cls := .type "list",data := .seq ([]:List Value).toArray }:=kp _ _ (Heap.get?_push_size _ rfl)
 have hsz:s.heap.objs.size + 1 <= I:=by
  have:(s.heap.push { cls := .type "list",data := .seq ([]:List Value).toArray }).objs.size <= I:=hI
  rw [Heap.size_push] at this
  exact this
 refine wpAny_bind (wpAny_holding (A8 ⟨o,kp _ _ ho1,hex.1⟩ ?_))
 refine wpAny_ite_split (fun _=>?_) (fun hc=>absurd (by decide +kernel) hc)
 refine wpAny_bind (wpAny_rule ?_)
 refine wpAny_bind ?_
 show wpAny _ _ (updateSeq s.heap.objs.size (·.push .none) >>= fun _=>updateSeq s.heap.objs.size (·.pop)) _ _ _
 refine wpAny_bind (wpAny_updateSeq hS0 rfl ?_)
 have hS₂:=Heap.get?_update_self (Obj.mapSeq (·.push Value.none)) hS0 rfl
 refine wpAny_updateSeq hS₂ rfl ?_
 have hS₃:=Heap.get?_update_self (Obj.mapSeq (·.pop)) hS₂ rfl
 have oth:∀ b o,b ≠ s.heap.objs.size->hp.get? b=some o->((hp.update s.heap.objs.size (Obj.mapSeq (·.push Value.none))).update s.heap.objs.size (Obj.mapSeq (·.pop))).get? b=some o :=
  fun b o hb e=>(Heap.get?_update_other _ _ (Ne.symm hb)).trans ((Heap.get?_update_other _ _ (Ne.symm hb)).trans e)
 have WS:=(W A.in1 hh).toS
 have hSf:s.heap.objs.size ∉ fp:=fun hm=>by
  rcases hfp _ hm with z | z
  ·exact absurd z (Nat.ne_of_gt hal)
  ·have z:(s.heap.push { cls := .type "list",data := .seq ([]:List Value).toArray }).objs.size <= s.heap.objs.size:=z
   rw [Heap.size_push] at z
   exact absurd z (Nat.not_succ_le_self _)
 have hol:ord.length=es.size:=by rw [hord.length_eq,List.length_map,Array.length_toList]
 refine wpAny_pure ⟨plainId_quiet F.plain_extend_loop _,codeAny_extend_loopS WS hn _ hSf _ es.size 0 _ _ _ rfl (Nat.zero_le _)
  (WS.frame 0 ({ s with heap:=hp,drawn:=d }:Shared) _ s.toks hst (Nat.le_refl _) fun b hb o e=>oth b o (fun h=>hSf (h ▸ hb)) e) hS₃ (ItemsOf.nil _) fun s' acc' c' hm hS' hacc=>?_⟩
 show wpAny _ A (load s.heap.objs.size >>= _) _ _ s'
 refine wpAny_bind (wpAny_load hS' ?_)
 refine wpAny_pure ?_
 rw [A7 hacc hol]
 obtain ⟨h',g',d',tk',os'⟩:=s'
 have eg:g'=s.gens:=hm.gens
 have ed:d'=d:=hm.drawn
 have eo:os'=s.os:=hm.os
 subst eg ed eo
 refine hQ ord h' tk' _ hord (fun b o' e=>hm.heap b o' (fun z=>?_) (oth b o' (Nat.ne_of_lt (Heap.lt_size e)) (kp b o' (Heap.get?_push_of_some _ e)))) (Nat.le_of_lt (Heap.lt_size hS'))
 rcases List.mem_cons.mp z with z | z
 ·exact absurd z (Nat.ne_of_lt (Heap.lt_size e))
 ·have z:b=I:=by simpa using z
  have l:=Nat.lt_of_lt_of_le (Heap.lt_size e) (Nat.le_of_succ_le hsz)
  rw [z] at l
  exact absurd l (Nat.lt_irrefl _)
end
theorem yi:∀ (vs:List Value),(∀ v ∈ vs,∃ k t,v=.int k t)->∃ ns:List Int,IntsAre vs ns/\ns.length=vs.length/\∀ k,k ∈ ns ↔ ∃ t,Value.int k t ∈ vs
 | [],_=>⟨[],.nil,rfl,fun k=>by simp⟩
 | v :: vs,h=>by
  obtain ⟨k,t,rfl⟩:=h v List.mem_cons_self
  obtain ⟨ns,h1,h2,h3⟩:=yi vs fun v hv=>h v (List.mem_cons_of_mem _ hv)
  refine ⟨k :: ns,.cons k t h1,by rw [List.length_cons,List.length_cons,h2],fun k'=>?_⟩
  constructor
  ·intro m
   rcases List.mem_cons.mp m with rfl | m
   ·exact ⟨t,List.mem_cons_self⟩
   ·obtain ⟨t',q⟩:=(h3 k').mp m
    exact ⟨t',List.mem_cons_of_mem _ q⟩
  ·rintro ⟨t',m⟩
   rcases List.mem_cons.mp m with e | m
   ·cases e; exact List.mem_cons_self
   ·exact List.mem_cons_of_mem _ ((h3 k').mpr ⟨t',m⟩)
section
variable {prog:Program}{w:World}{A:Around}{E:Value->Shared->Prop}{s:Shared}{a:Addr}
theorem Ba (hh:A.handled=none) {S:Int->Bool}{n:Nat} (hS:jt prog w (qU w) s.heap a S n) (h64:n < 64) {Q:Value->Shared->Prop}
  (h:∀ (out:Array Value) (ns':List Int) (h':Heap) (tk:Nat) d (q:Addr),IntsAre out.toList ns'->ns'.Pairwise (· <= ·)->(∀ k,k ∈ ns' ↔ S k=true)->ns'.length=n->(∀ b o,s.heap.get? b=some o->h'.get? b=some o)->s.heap.objs.size <= q ->
   (∃ e,h'.get? q=some (seqObj "list" out e))->Q (.ref q) { s with heap:=h',toks:=tk,drawn:=d }) :
  wpAny (model prog w) A (call (.builtin "sorted") [.ref a]) Q E s:=by
 obtain ⟨o,es,ep,t,ho,hex,hd,hel,hmem,hb,hf,hn,g⟩:=hS
 refine Calls.call_function_entry kind_sorted plain_sorted entry_sorted (args_sorted1 _) ?_
 unfold Builtin.«sorted»
 refine wpAny_bind (m:=checkCount "sorted" 1 1 _) (wpAny_pure ?_)
 refine wpAny_bind (zy (A:=A.in1) hh ho hex hd hf g hb fun vs h1 tk d hp kp hsz=>?_)
 have hvl:vs.length=n:=by rw [hp.length_eq,List.length_map,Array.length_toList,hn]
 obtain ⟨ns,hI,hnl,hnm⟩:=yi vs fun v hv=>by
  obtain ⟨e,he,rfl⟩:=List.mem_map.mp (hp.mem_iff.mp hv)
  obtain ⟨⟨k,hk,_⟩,_⟩:=hel e he
  obtain ⟨t',q⟩:=Value.isInt_shape hk
  exact ⟨k,t',q⟩
 refine wpAny_bind (wpAny_newList ?_ (by rw [hvl,sizeLine_eq]; omega))
 have hoL:(h1.push (seqObj "list" vs.toArray 0)).get? h1.objs.size=some (seqObj "list" vs.toArray 0):=Heap.get?_push_size _ rfl
 show wpAny _ _ _ _ _ ({ s with heap:=h1.push (seqObj "list" vs.toArray 0),toks:=tk,drawn:=d }:Shared)
 refine wpAny_bind (wpAny_holding (wpAny_call_entry slot_list_sort ⟨_,hoL,rfl⟩ entry_list_sort (list_sort_tree hoL hI (by omega) fun out ns' a1 a2 a3=>⟨_,rfl,?_⟩) (args_list_sort _)))
 have ge:∀ b o,s.heap.get? b=some o->b < h1.objs.size:=fun b o e=>Heap.lt_size (kp b o e)
 refine wpAny_pure ⟨_,rfl,h out ns' _ tk d h1.objs.size a1 a3 (fun k=>?_) (by rw [a2.length_eq,hnl,hvl]) (fun b o e=>?_) ?_ (sortedHeap_at hoL)⟩
 ·rw [a2.mem_iff,hnm,hmem]
  constructor
  ·rintro ⟨t',m⟩
   obtain ⟨e,he,q⟩:=List.mem_map.mp (hp.mem_iff.mp m)
   exact ⟨e,he,by rw [q]; exact intKind_is _ _ _ _⟩
  ·rintro ⟨e,he,q⟩
   obtain ⟨t',q⟩:=Value.isInt_shape q
   exact ⟨t',hp.mem_iff.mpr (List.mem_map.mpr ⟨e,he,q⟩)⟩
 ·have hlt:=ge b o e
  have hne:b ≠ h1.objs.size:=Nat.ne_of_lt hlt
  have sh:(sortedHeap (h1.push (seqObj "list" vs.toArray 0)) h1.objs.size vs out).get? b=(h1.push (seqObj "list" vs.toArray 0)).get? b:=sortedHeap_old hne (by rw [size_push']; exact Nat.lt_succ_of_lt hlt)
  show (sortedHeap (h1.push (seqObj "list" vs.toArray 0)) h1.objs.size vs out).get? b=some o
  rw [sh]
  exact Heap.get?_push_of_some _ (kp b o e)
 ·exact hsz
end
end SR
namespace L2
open PySem PySem.Spec PyProof.Rows
theorem u7:∀ (ns acc:List Int),acc.Nodup->(ns.foldl step_dedup acc).Nodup
 | [],acc,h=>h
 | x :: r,acc,h=>by
  rw [List.foldl_cons]
  refine u7 r _ ?_
  unfold step_dedup
  split
  ·exact h
  ·rename_i hx
   rw [List.nodup_append]
   refine ⟨h,List.nodup_cons.mpr ⟨List.not_mem_nil,List.nodup_nil⟩,fun a ha b hb z=>hx ?_⟩
   have e:b=x:=by simpa using hb
   rw [List.any_eq_true]
   exact ⟨a,ha,by rw [z,e]; simp⟩
theorem Gs (ns:List Int) (k:Int):(dd ns).any (· == k)=true ↔ k ∈ dd ns:=by
 rw [List.any_eq_true]
 constructor
 ·rintro ⟨x,hx,e⟩
  have e:x=k:=by simpa using e
  exact e ▸ hx
 ·intro h
  exact ⟨k,h,by simp⟩
theorem yj:∀ (d ks:List Int),d.Nodup->(∀ k ∈ d,k ∈ ks)->ks.length <= d.length->ks.Perm d
 | [],ks,_,_,hl=>by
  have e:ks=[]:=List.length_eq_zero_iff.mp (Nat.le_zero.mp hl)
  subst e
  exact List.Perm.refl _
 | x :: r,ks,hn,hm,hl=>by
  have hx:=hm x List.mem_cons_self
  have hp:=List.perm_cons_erase hx
  have hn' := List.nodup_cons.mp hn
  have ih:=yj r (ks.erase x) hn'.2 (fun k hk=>(List.mem_erase_of_ne (fun z:k=x=>hn'.1 (z ▸ hk))).mpr (hm k (List.mem_cons_of_mem _ hk))) (by
   have:=hp.length_eq
   rw [List.length_cons] at this hl
   omega)
  exact hp.trans (List.Perm.cons x ih)
theorem Inv.A9 {X:Cx}{pins:List (Addr × Obj)}{σ:L2.St}{H:Hp}{s:Shared} (I:Inv X pins σ H s) (d):Inv X pins σ H { s with drawn:=d } :=
 ⟨I.ok,I.os,I.bare,I.base,I.loc,I.cell,I.free,I.gi,I.pin,I.hok,I.len⟩
section
variable {X:Cx}{x y:Str}{p p2 pos pos2:Pos}{e:Expr}{te:TE}
theorem tO (hc:X.calm=true) (hg:Gl X x) (hm:X.mg x=none) (hv:bootBuiltins x=some (.builtin "sorted")) (hg2:Gl X y) (hm2:X.mg y=none) (hv2:bootBuiltins y=some (.type "set")) (he:PE X e te)
  (hn:x ≠ "__name__" := by decide) (hdb:(x == ("__debug__" : Str))=false:=by decide) (hn2:y ≠ "__name__" := by decide) (hdb2:(y == ("__debug__" : Str))=false:=by decide)
  (hst:starEach [.Call (.Name y p2) [e] [] pos2] X.env=(false,eval (.Call (.Name y p2) [e] [] pos2) X.env) :: starEach [] X.env:=by rfl) (hst2:starEach [e] X.env=(false,eval e X.env) :: starEach [] X.env:=by rfl) :
  PE X (.Call (.Name x p) [.Call (.Name y p2) [e] [] pos2] [] pos) (fun σ H Q=>Ej te G7 σ H fun vs H1=>∃ a ns,vs=[.ref a]/\gI X.K H1 a (ns.map V.int)/\ns.length < 64 /\
   ∀ (q:Addr) (ns':List Int),H1 q=none->ns'.Perm (dd ns)->ns'.Pairwise (· <= ·)->Q (.ref q) (upd H1 q (.lst (ns'.map V.int)))):=by
 intro pins s σ H Q I h
 refine wpAny_Call_Name_kw (jT I hg hm hv ?_ hn hdb)
 refine PyProof.Rows.callWith_builtin1 (e := .Call (.Name y p2) [e] [] pos2) (rest := []) ?_ hst rfl
 rw [hst]
 show wpAny _ _ (spliced ((false,eval (.Call (.Name y p2) [e] [] pos2) X.env) :: [])) _ _ s
 refine Calls.spliced_cons ?_
 refine wpAny_Call_Name_kw (jT I hg2 hm2 hv2 ?_ hn2 hdb2)
 refine PyProof.Rows.callWith_type1 (e:=e) (rest := []) (fz (eZ he jW hst2 pos2 pins s σ H _ I h) fun us s1 hq5=>L2.ex5 hq5 fun vs H1 I1 r1 q1=>?_) hst2 rfl
 obtain ⟨a,ns,rfl,hq,hl,q⟩:=q1
 obtain ⟨u,rfl,ru⟩:=r1.one
 cases ru
 obtain ⟨its,rv,pl,hz⟩:=I1.list hq
 have hlen:=rv.length
 rw [List.length_map] at hlen
 have hsz:its.toArray.size=ns.length:=by rw [List.size_toArray,hlen]
 refine SR.wK (I1.ok.hd hc) pl.isList (by simpa using intsAre_of rv) (by show its.toArray.size + 1 < 4096; omega) fun h2 tk2 hs2 kp2=>?_
 rw [hsz] at hs2
 refine Calls.spliced_nil ?_
 have hdl:(dd ns).length <= ns.length:=PyProof.Rows.firstMet_length_le _ _
 refine SR.Ba (s := { s1 with heap:=h2,toks:=tk2 }) (I1.ok.hd hc) hs2 (show (dd ns).length < 64 by omega) fun out ns' h3 tk3 d q' a1 a2 a3 a4 k3 g3 a5=>?_
 obtain ⟨ep,e5⟩:=a5
 have hpm:ns'.Perm (dd ns):=yj (dd ns) ns' (u7 _ [] List.nodup_nil) (fun k hk=>(a3 k).mpr ((Gs ns k).mpr hk)) (by rw [a4]; exact Nat.le_refl _)
 have hge:s1.heap.objs.size <= q' := by
  obtain ⟨o,es,ep',t,ho,_⟩:=hs2
  exact Nat.le_trans (Nat.le_of_lt (Heap.lt_size ho)) g3
 refine ⟨.ref q',_,(I1.laid (t' := tk3) (fun b o z=>k3 b o (kp2 b o (Heap.lt_size z) z)) hge ?_).A9 d,rfl,q q' ns' (I1.hok.fresh hge) hpm a2⟩
 refine ⟨?_,out.toList,ep,jz a1,by rw [Array.toArray_toList]; exact e5⟩
 rw [List.length_map,a4]
 exact Nat.le_trans (Nat.le_of_lt (show (dd ns).length < 64 by omega)) (by decide)
end
end L2
namespace DL
open PySem PySem.Spec PyProof.Rows L2
section
variable {K:PySem.W.Frag}{Y:XY}{X:Cx}{pos pos2 p p2:Pos}{e:Expr}{fe:SD->Res D}{x y:Str}
def qj:D->Res D
 | .lst _ xs=>match intsOf xs with | some ns=>if ns.length < 64 then .ok (.lst .own ((sortI (dd ns)).map D.int)) else .bad | none=>.bad
 | _=>.bad
theorem u5 (hc:X.calm=true) (hg:Gl X x) (hm:X.mg x=none) (hv:bootBuiltins x=some (.builtin "sorted")) (hg2:Gl X y) (hm2:X.mg y=none) (hv2:bootBuiltins y=some (.type "set")) (he:PE X e (tM X.K Y fe))
  (hn:x ≠ "__name__" := by decide) (hdb:(x == ("__debug__" : Str))=false:=by decide) (hn2:y ≠ "__name__" := by decide) (hdb2:(y == ("__debug__" : Str))=false:=by decide)
  (hst:starEach [.Call (.Name y p2) [e] [] pos2] X.env=(false,eval (.Call (.Name y p2) [e] [] pos2) X.env) :: starEach [] X.env:=by rfl) (hst2:starEach [e] X.env=(false,eval e X.env) :: starEach [] X.env:=by rfl) :
  PE X (.Call (.Name x p) [.Call (.Name y p2) [e] [] pos2] [] pos) (tM X.K Y (fH qj fe)) :=
 PE.imp (tO hc hg hm hv hg2 hm2 hv2 he hn hdb hn2 hdb2 hst hst2) fun σ H Q hq=>ex8 hq fun H0 B0 B τ P F I h=>tM.seq I h fun d v H1 B1 f _ I1 _ _ r1 k h1=>by
  cases d with
  | lst t xs =>
   obtain ⟨a,ws,g,rfl,q,l,s⟩:=r1.lst I1
   have h3:Goal X.K Y H0 B0 B1 H1 σ τ P F Q (match intsOf xs with | some ns=>if ns.length < 64 then .ok (.lst .own ((sortI (dd ns)).map D.int)) else .bad | none=>.bad):=h1
   cases e:intsOf xs with
   | none=>rw [e] at h3; exact h3.elim
   | some ns =>
    rw [e] at h3
    simp only at h3
    split at h3
    ·rename_i hl
     have ex:=lH e
     subst ex
     obtain ⟨rfl,rfl⟩:=lG l
     refine ⟨a,ns,rfl,gk q,hl,fun p ns' hp h1 h2=>?_⟩
     have e2:ns'=sortI (dd ns):=gR (h1.trans (sortI_perm (dd ns)).symm) h2 (fg (dd ns))
     subst e2
     exact Out.uM h3 I1 (jE _) gQ.nil hp
    ·exact h3.elim
  | _=>exact h1.elim
end
end DL
namespace SR
open PySem PySem.Spec PyProof.Rows
section
variable {prog:Program}{w:World}{A:Around}{E:Value->Shared->Prop}{s:Shared}{a:Addr}{vs:List Value}
theorem u9 (ht:IsTup s.heap a vs.toArray) (hl:vs.length < 64) {Q:List Value->Shared->Prop}
  (hQ:∀ h':Heap,(∀ b o,s.heap.get? b=some o->h'.get? b=some o)->s.heap.objs.size <= h'.objs.size->Q vs { s with heap:=h' }):wpAny (model prog w) A (collect (.ref a)) Q E s:=by
 obtain ⟨o,ho,hc,n,hd⟩:=ht
 have hal:a < s.heap.objs.size:=Heap.lt_size ho
 unfold collect
 refine wpAny_bind (wpAny_runValue (codeAny_builtin F.entry_proto_collect ?_))
 rw [Around.under_plainId F.plain_proto_collect _]
 show wpAny _ A.in1 (newList [] >>= fun l=>again (.builtin "list.__iadd__" ⟨[l,.ref a],[]⟩)) _ _ s
 refine wpAny_bind (wpAny_newObj_type ?_)
 refine wpAny_pure ⟨plainId_quiet F.plain_list_iadd _,codeAny_builtin F.entry_list_iadd ?_⟩
 rw [Around.under_plainId F.plain_list_iadd _]
 have ho1:(s.heap.push { cls := .type "list",data := .seq ([]:List Value).toArray }).get? a=some o:=Heap.get?_push_of_some _ ho
 have hS0:(s.heap.push { cls := .type "list",data := .seq ([]:List Value).toArray }).get? s.heap.objs.size=some { cls := .type "list",data := .seq ([]:List Value).toArray }:=Heap.get?_push_size _ rfl
 show wpAny _ A.in1 (Builtin.List.listExtendWith (.ref s.heap.objs.size) (.ref a) (.ref s.heap.objs.size)) _ _ _
 unfold Builtin.List.listExtendWith
 refine wpAny_bind (wpAny_typeOf (T := "tuple") ⟨o,ho1,hc⟩ ?_)
 have h3:(Value.type "tuple" == Value.type "tuple")=true:=by decide
 simp only [h3,Bool.or_true,if_true]
 refine wpAny_bind (listItems_at ho1 hd ?_)
 refine wpAny_bind (listItems_at hS0 rfl ?_)
 have h4:(([]:List Value).toArray).isEmpty=true:=rfl
 simp only [h4,Bool.not_true,Bool.false_and,Bool.false_eq_true,if_false]
 refine wpAny_bind ?_
 show wpAny _ _ (updateSeq s.heap.objs.size (· ++ vs.toArray)) _ _ _
 refine wpAny_updateSeq hS0 rfl ?_ (by simp) (by simp [sizeLine_eq]; omega)
 have hS₂:=Heap.get?_update_self (Obj.mapSeq (· ++ vs.toArray)) hS0 rfl
 refine wpAny_pure ?_
 show wpAny _ A (load s.heap.objs.size >>= _) _ _ _
 refine wpAny_bind (wpAny_load hS₂ ?_)
 refine wpAny_pure ?_
 have e:((([]:List Value).toArray) ++ vs.toArray).toList=vs:=by simp
 show Q ((([]:List Value).toArray) ++ vs.toArray).toList _
 rw [e]
 refine hQ _ (fun b u hb=>?_) ?_
 ·have hne:b ≠ s.heap.objs.size:=Nat.ne_of_lt (Heap.lt_size hb)
  exact (Heap.get?_update_other _ _ (Ne.symm hne)).trans (Heap.get?_push_of_some _ hb)
 ·exact Nat.le_of_lt (Heap.lt_size hS₂)
theorem wM {ns:List Int} (ht:IsTup s.heap a vs.toArray) (hI:IntsAre vs ns) (hl:vs.length < 64) {Q:Value->Shared->Prop}
  (h:∀ (out:Array Value) (ns':List Int) (h':Heap) (q:Addr),IntsAre out.toList ns'->ns'.Perm ns->ns'.Pairwise (· <= ·)->(∀ b o,s.heap.get? b=some o->h'.get? b=some o)->s.heap.objs.size <= q ->
   (∃ e,h'.get? q=some (seqObj "list" out e))->Q (.ref q) { s with heap:=h' }) :
  wpAny (model prog w) A (call (.builtin "sorted") [.ref a]) Q E s:=by
 refine Calls.call_function_entry kind_sorted plain_sorted entry_sorted (args_sorted1 _) ?_
 unfold Builtin.«sorted»
 refine wpAny_bind (m:=checkCount "sorted" 1 1 _) (wpAny_pure ?_)
 refine wpAny_bind (u9 (A:=A.in1) ht hl fun h1 kp hsz=>?_)
 refine wpAny_bind (wpAny_newList ?_ (by rw [sizeLine_eq]; omega))
 have hoL:(h1.push (seqObj "list" vs.toArray 0)).get? h1.objs.size=some (seqObj "list" vs.toArray 0):=Heap.get?_push_size _ rfl
 show wpAny _ _ _ _ _ ({ s with heap:=h1.push (seqObj "list" vs.toArray 0) }:Shared)
 refine wpAny_bind (wpAny_holding (wpAny_call_entry slot_list_sort ⟨_,hoL,rfl⟩ entry_list_sort (list_sort_tree hoL hI (by omega) fun out ns' a1 a2 a3=>⟨_,rfl,?_⟩) (args_list_sort _)))
 have ge:∀ b o,s.heap.get? b=some o->b < h1.objs.size:=fun b o e=>Heap.lt_size (kp b o e)
 refine wpAny_pure ⟨_,rfl,h out ns' _ h1.objs.size a1 a2 a3 (fun b o e=>?_) hsz (sortedHeap_at hoL)⟩
 have hlt:=ge b o e
 have hne:b ≠ h1.objs.size:=Nat.ne_of_lt hlt
 have sh:(sortedHeap (h1.push (seqObj "list" vs.toArray 0)) h1.objs.size vs out).get? b=(h1.push (seqObj "list" vs.toArray 0)).get? b:=sortedHeap_old hne (by rw [Heap.size_push]; exact Nat.lt_succ_of_lt hlt)
 show (sortedHeap (h1.push (seqObj "list" vs.toArray 0)) h1.objs.size vs out).get? b=some o
 rw [sh]
 exact Heap.get?_push_of_some _ (kp b o e)
end
end SR
namespace L2
open PySem PySem.Spec PyProof.Rows
section
variable {X:Cx}
theorem mX:fJ X (.builtin "sorted") (fun xs H Q=>∃ (a:Addr) (ns:List Int),xs=[.ref a]/\(gI X.K H a (ns.map V.int) ∨ jR X.K H a (ns.map V.int))/\ns.length < 64/\∀ (p:Addr) (ns':List Int),H p=none->ns'.Perm ns->ns'.Pairwise (· <= ·)->Q (.ref p) (upd H p (.lst (ns'.map V.int)))):=by
 intro pins s σ H xs us Q I r h
 obtain ⟨a,ns,rfl,hq,hl,q⟩:=h
 rcases hq with hq | hq
 ·exact uH pins s σ H _ us Q I r ⟨a,ns,rfl,hq,hl,q⟩
 obtain ⟨u,rfl,ru⟩:=vals1 r
 cases ru
 obtain ⟨its,rv,pt,hz⟩:=I.tuple hq
 have hi:=intsAre_of rv
 have hlen:=rv.length
 rw [List.length_map] at hlen
 refine SR.wM pt hi (by omega) fun out ns' h' p a1 a2 a3 kp hp he=>?_
 obtain ⟨e,he⟩:=he
 refine ⟨.ref p,_,I.laid (t' := s.toks) kp hp ?_,rfl,q _ ns' (I.hok.fresh hp) a2 a3⟩
 refine ⟨?_,out.toList,e,jz a1,by rw [Array.toArray_toList]; exact he⟩
 rw [List.length_map,a2.length_eq]
 exact Nat.le_trans (Nat.le_of_lt hl) (by decide)
end
end L2
namespace DL
open PySem PySem.Spec PyProof.Rows L2
section
variable {K:PySem.W.Frag}{Y:XY}
def fM:List D->Res D
 | [.lst _ xs]=>match intsOf xs with | some ns=>if ns.length < 64 then .ok (.lst .own ((sortI ns).map D.int)) else .bad | none=>.bad
 | [.tup xs]=>match intsOf xs with | some ns=>if ns.length < 64 then .ok (.lst .own ((sortI ns).map D.int)) else .bad | none=>.bad
 | _=>.bad
theorem rY:oR K Y (fun xs H Q=>∃ (a:Addr) (ns:List Int),xs=[.ref a]/\(gI K H a (ns.map V.int) ∨ jR K H a (ns.map V.int))/\ns.length < 64/\∀ (p:Addr) (ns':List Int),H p=none->ns'.Perm ns->ns'.Pairwise (· <= ·)->Q (.ref p) (upd H p (.lst (ns'.map V.int)))) fM:=by
 intro H0 B0 B H σ τ P F ds vs f Q I r k h
 unfold fM at h
 split at h
 ·obtain ⟨v,rfl,r'⟩:=kH r
  obtain ⟨a,ws,g,rfl,q,l,s⟩:=r'.lst I
  split at h
  ·rename_i ns e
   split at h
   ·rename_i hl
    have ex:=lH e
    subst ex
    obtain ⟨rfl,rfl⟩:=lG l
    refine ⟨a,ns,rfl,.inl (gk q),hl,fun p ns' hp h1 h2=>?_⟩
    have e2:ns'=sortI ns:=gR (h1.trans (sortI_perm ns).symm) h2 (fg ns)
    subst e2
    exact Out.uM h I (jE _) gQ.nil hp
   ·exact h.elim
  ·exact h.elim
 ·obtain ⟨v,rfl,r'⟩:=kH r
  obtain ⟨a,ws,rfl,q,l⟩:=Rep.tp r'
  split at h
  ·rename_i ns e
   split at h
   ·rename_i hl
    have ex:=lH e
    subst ex
    obtain ⟨rfl,rfl⟩:=lG l
    refine ⟨a,ns,rfl,.inr q,hl,fun p ns' hp h1 h2=>?_⟩
    have e2:ns'=sortI ns:=gR (h1.trans (sortI_perm ns).symm) h2 (fg ns)
    subst e2
    exact Out.uM h I (jE _) gQ.nil hp
   ·exact h.elim
  ·exact h.elim
 ·exact h.elim
def k7:D->D->Res D
 | .tup xs,.tup ys=>if xs ≠ []/\xs.length + ys.length <= 16777216 then .ok (.tup (xs ++ ys)) else .bad
 | _,_=>.bad
theorem Bb:qQ K Y (Ag K) k7:=by
 intro H0 B0 B H σ τ P F d1 d2 x y f1 f2 Q I r1 r2 k h
 unfold k7 at h
 split at h
 ·obtain ⟨a,vs,rfl,q1,l1⟩:=Rep.tp r1
  obtain ⟨b,ws,rfl,q2,l2⟩:=Rep.tp r2
  split at h
  ·rename_i hl
   obtain ⟨n1,hl⟩:=hl
   refine ⟨_,_,_,_,rfl,rfl,q1,q2,fun z=>n1 (l1.jd.mp z),by rw [<- l1.length,<- l2.length]; exact Et hl,fun z=>?_,fun _ p hp=>?_⟩
   ·have e:=l2.jd.mp z
    subst e
    have h2:Out K H0 B0 B H σ τ P F Q (.tup (_ ++ [])):=h
    rw [List.append_nil] at h2
    exact Out.pV h2 I r1 k.left
   ·exact Out.fU h I (l1.append l2) k hp
  ·exact h.elim
 ·exact h.elim
end
end DL
namespace KL
open PySem PySem.Spec PyProof.Rows L2 DL XF
def top (i:Nat):Stmt:=PySem.Challenge.pw_modulewood_k03_nets_changed.main.body.getD i (.Pass ⟨0,0,0,0⟩)
structure Txt (K:PySem.W.Frag) (mg:Str->Option Value) (ca:Str->Addr):Prop where
 tQ:mg "ValueError" = none
 wR:mg "bool" = none
 k9:mg "enumerate" = none
 ED:mg "int" = none
 aO:mg "isinstance" = none
 fD:mg "len" = none
 qp:mg "list" = none
 EE:mg "max" = none
 HX:mg "min" = none
 gD:mg "range" = none
 HY:mg "set" = none
 qm:mg "sorted" = none
 Bc:mg "str" = none
 gE:mg "tuple" = none
 yn:mg "zip" = none
 qW:∃ t,mg "MOST_PLACES" = some (.int 24 t)
 wQ:fL K mg "NetError" (ca "NetError") gJ
 mY:fL K mg "NoNet" (ca "NoNet") (.ref (ca "NetError") :: gJ)
 DJ:kO K (ca "NoNet")
 lK:fL K mg "NoPlace" (ca "NoPlace") (.ref (ca "NetError") :: gJ)
 zz:kO K (ca "NoPlace")
 ji:fL K mg "SamePlace" (ca "SamePlace") (.ref (ca "NetError") :: gJ)
 vm:kO K (ca "SamePlace")
 ym:fL K mg "Twice" (ca "Twice") (.ref (ca "NetError") :: gJ)
 pA:fL K mg "Taken" (ca "Taken") (.ref (ca "NetError") :: gJ)
 DI:kO K (ca "Taken")
 jh:fL K mg "NoColours" (ca "NoColours") (.ref (ca "NetError") :: gJ)
 vn:kO K (ca "NoColours")
 pw:fL K mg "NoSet" (ca "NoSet") (.ref (ca "NetError") :: gJ)
 DH:kO K (ca "NoSet")
 oV:fL K mg "NoParting" (ca "NoParting") (.ref (ca "NetError") :: gJ)
 rZ:fL K mg "NoGroup" (ca "NoGroup") (.ref (ca "NetError") :: gJ)
 r6:fL K mg "TooMany" (ca "TooMany") (.ref (ca "NetError") :: gJ)
 ve:fL K mg "NoDeed" (ca "NoDeed") (.ref (ca "NetError") :: gJ)
 vf:fL K mg "Unlike" (ca "Unlike") (.ref (ca "NetError") :: gJ)
 vh:fL K mg "NoText" (ca "NoText") (.ref (ca "NetError") :: gJ)
 yl:fL K mg "NoRow" (ca "NoRow") (.ref (ca "NetError") :: gJ)
 vg:fL K mg "NoName" (ca "NoName") (.ref (ca "NetError") :: gJ)
def leaf (ca:Str->Addr):List Addr := [ca "NoNet",ca "NoPlace",ca "SamePlace",ca "Taken",ca "NoColours",ca "NoSet"]
def kQ (ca:Str->Addr) (x:Str) (C:Addr):Bool:=(Value.ref C :: .ref (ca "NetError") :: gJ).contains (.ref (ca x))
def vc (ca:Str->Addr) (xs:List Str) (C:Addr):Bool:=xs.any fun x=>kQ ca x C
def ug (ca:Str->Addr) (C:Addr):Bool:=(leaf ca).contains C
section
variable {K:PySem.W.Frag}{mg:Str->Option Value}{ca:Str->Addr}
theorem yk (T:Txt K mg ca):∀ C,(leaf ca).contains C=true->∃ x,fL K mg x C (.ref (ca "NetError") :: gJ)/\kO K C:=by
 intro C h
 unfold leaf at h
 simp only [List.contains_cons,List.contains_nil,Bool.or_false,Bool.or_eq_true,beq_iff_eq] at h
 rcases h with rfl | rfl | rfl | rfl | rfl | rfl
 ·exact ⟨_,T.mY,T.DJ⟩
 ·exact ⟨_,T.lK,T.zz⟩
 ·exact ⟨_,T.ji,T.vm⟩
 ·exact ⟨_,T.pA,T.DI⟩
 ·exact ⟨_,T.jh,T.vn⟩
 ·exact ⟨_,T.pw,T.DH⟩
theorem hin (T:Txt K mg ca):∀ C,ug ca C=true->∃ nm bm,fL K mg nm C bm/\(Value.ref C :: bm).contains (.ref (ca "NetError"))=true:=fun C h=>by
 obtain ⟨x,c,_⟩:=yk T C h
 exact ⟨x,_,c,by simp⟩
theorem DM (T:Txt K mg ca) {y:Str}{D:Addr}{bd:List Value} (d:fL K mg y D bd):∀ C,(leaf ca).contains C=true->kO K C/\PySem.W.kitOne K (.ref C) (.ref D)=some ((Value.ref C :: .ref (ca "NetError") :: gJ).contains (.ref D)):=fun C h=>by
 obtain ⟨x,c,k⟩:=yk T C h
 exact ⟨k,yf c d⟩
theorem J4 (T:Txt K mg ca):∀ C,(leaf ca).contains C=true->kO K C/\PySem.W.kitOne K (.ref C) (.type "ValueError")=some true:=fun C h=>by
 obtain ⟨x,c,k⟩:=yk T C h
 exact ⟨k,Gi c (by simp [gJ])⟩
theorem J5 (T:Txt K mg ca) (xs:List Str) (hx:∀ x ∈ xs,∃ bd,fL K mg x (ca x) bd):∀ C,(leaf ca).contains C=true->kO K C/\PySem.W.kitAny K (.ref C) ((xs.map ca).map Value.ref)=some (vc ca xs C):=fun C h=>by
 obtain ⟨x,c,k⟩:=yk T C h
 refine ⟨k,?_⟩
 induction xs with
 | nil=>rfl
 | cons y r ih =>
  obtain ⟨bd,d⟩:=hx y List.mem_cons_self
  have ih:=ih fun z hz=>hx z (List.mem_cons_of_mem _ hz)
  have e:=yf c d
  show (match PySem.W.kitOne K (.ref C) (.ref (ca y)) with | some true=>some true | some false=>PySem.W.kitAny K (.ref C) ((r.map ca).map Value.ref) | none=>none)=some (kQ ca y C || vc ca r C)
  rw [e]
  cases q:(Value.ref C :: .ref (ca "NetError") :: gJ).contains (.ref (ca y)) with
  | true=>show some true=some (kQ ca y C || vc ca r C); rw [show kQ ca y C=true from q,Bool.true_or]
  | false=>show PySem.W.kitAny K (.ref C) ((r.map ca).map Value.ref)=some (kQ ca y C || vc ca r C); rw [show kQ ca y C=false from q,Bool.false_or,ih]
end
section
variable {P:Program}{w:World}{K:PySem.W.Frag}{mg:Str->Option Value}{base:Heap}{ca:Str->Addr}
abbrev fT:Stmt:=top 18
theorem om:a9 ["places","place"] ["places","place"] (aC fT):=⟨rfl,rfl,rfl,by decide +kernel,rfl,by decide +kernel,by decide +kernel⟩
def dB (ca:Str->Addr):SF:=dP (eT (ah (inD true) (ae 1) (ae 0))) (jq (ca "NoPlace")) aR
def aL (ca:Str->Addr):DF:=bZ 2 2 (dB ca)
theorem ou (T:Txt K mg ca)  (F:dR K mg "require_place" fT ["places","place"]):kN P w K mg base 1 "require_place" ["places","place"] (tG K (aL ca)):=j8 (k:=0) (n:=2) (m:=2) (g:=dB ca) F om rfl rfl fun f cdv A outer s H E hr hx=>by
 have hu:=dU hr
 exact az (dh (aY jX (yT true) (qv 1) (qv 0) (by with_unfolding_all rfl))
    (az (j9 hx T.lK rfl rfl))
    (bj))
abbrev gY:Stmt:=top 19
theorem ql:a9 ["places","one","other"] ["places","one","other"] (aC gY):=⟨rfl,rfl,rfl,by decide +kernel,rfl,by decide +kernel,by decide +kernel⟩
def c6 (ca:Str->Addr):SF:=aD (dW (dg (aL ca) (aa (ae 0) (aa (ae 1) ak)))) (aD (dW (dg (aL ca) (aa (ae 0) (aa (ae 2) ak)))) (dP (eT (ah fG (ae 1) (ae 2))) (jq (ca "SamePlace")) aR))
def ck (ca:Str->Addr):DF:=bZ 3 3 (c6 ca)
theorem qo (T:Txt K mg ca) (C_require_place:kN P w K mg base 1 "require_place" ["places","place"] (tG K (aL ca))) (F:dR K mg "require_two" gY ["places","one","other"]):kN P w K mg base 2 "require_two" ["places","one","other"] (tG K (ck ca)):=j8 (k:=1) (n:=3) (m:=3) (g:=c6 ca) F ql rfl rfl fun f cdv A outer s H E hr hx=>by
 have hu:=dU hr
 exact aq (p7 (jr hx C_require_place (hr.mono (by decide)) rfl (af (qv 0) (af (qv 1) aj))))
    (aq (p7 (jr hx C_require_place (hr.mono (by decide)) rfl (af (qv 0) (af (qv 2) aj))))
    (az (dh (aY dD gn (qv 1) (qv 2) (bb _))
    (az (j9 hx T.ji rfl rfl))
    (bj))))
abbrev gX:Stmt:=top 20
theorem k8:a9 ["places","some","place"] ["places","some"] (aC gX):=⟨rfl,rfl,rfl,by decide +kernel,rfl,by decide +kernel,by decide +kernel⟩
def cJ (ca:Str->Addr):SF:=dW (dg (aL ca) (aa (ae 0) (aa (ae 2) ak)))
def fN (ca:Str->Addr):SF:=aD (cZ [1] (jQ (ae 1)) (gN 2) ((cJ ca))) (aD (dP (eT (ah fG (eA cG (aa (ae 1) ak)) (eC (.int 0)))) (jq (ca "NoSet")) aR) (bE (fH qj (ae 1))))
def cu (ca:Str->Addr):DF:=bZ 2 3 (fN ca)
theorem qk (T:Txt K mg ca) (C_require_place:kN P w K mg base 1 "require_place" ["places","place"] (tG K (aL ca))) (F:dR K mg "checked_set" gX ["places","some"]):kN P w K mg base 2 "checked_set" ["places","some"] (tG K (cu ca)):=j8 (k:=1) (n:=2) (m:=3) (g:=fN ca) F k8 rfl rfl fun f cdv A outer s H E hr hx=>by
 have hu:=dU hr
 exact aq (jD [1] PassesOwn.leaving rfl (nW (qv 1)) (eV (i:=2) k8.nd rfl (by first | exact Or.inl rfl | exact Or.inr rfl))
    (az (p7 (jr hx C_require_place (hr.mono (by decide)) rfl (af (qv 0) (af (qv 2) aj))))))
    (aq (dh (aY dD gn (bM bD fB rfl T.fD PySem.boot_len (af (qv 1) aj)) ai (bb _))
    (az (j9 hx T.pw rfl rfl))
    (bj))
    (az (bJ (u5 rfl rfl T.qm (by decide +kernel) rfl T.HY (by decide +kernel) (qv 1)))))
abbrev tP:Stmt:=top 23
theorem DK:a9 ["one","other"] ["one","other"] (aC tP):=⟨rfl,rfl,rfl,by decide +kernel,rfl,by decide +kernel,by decide +kernel⟩
def Bd:SF:=bE (tm (eT (ah HC (ae 0) (ae 1))) (eA cO (aa (ae 0) (aa (ae 1) ak))) (eA cO (aa (ae 1) (aa (ae 0) ak))))
def gB:DF:=bZ 2 2 (Bd)
theorem DG (T:Txt K mg ca)  (F:dR K mg "pair" tP ["one","other"]):ir P w K mg base 1 "pair" ["one","other"] (fV K (gB)):=dH (k:=0) (n:=2) (m:=2) (g:=Bd) F DK rfl rfl fun f cdv A outer s H hr=>by
 have hu:=dU hr
 exact az (bJ (Js (aY Ek HB (qv 0) (qv 1) (bb _)) (f7 (af (qv 0) (af (qv 1) aj))) (f7 (af (qv 1) (af (qv 0) aj)))))
abbrev iL:Stmt:=top 24
theorem eK:a9 ["net","colours","place","row","ahead","tint"] ["net"] (aC iL):=⟨rfl,rfl,rfl,by decide +kernel,rfl,by decide +kernel,by decide +kernel⟩
def fS:SF:=c5 1 (aF gB (aa (ae 2) (aa (ae 4) ak))) (ae 5)
def eB:SF:=cZ [0,3] (oh (aa (ah aP (ae 0) (eC (.int 0))) (aa (ae 3) ak))) (gT 2 (aM 4 (aM 5 cB))) fS
def ki:SF:=aD (bf 1 (gy true)) (aD (cZ [0] (oh (aa (ah aP (ae 0) (eC (.int 0))) (aa (ah aP (ae 0) (eC (.int 1))) ak))) (gT 2 (aM 2 (aM 3 cB))) eB) (dM 1))
def bN:DF:=bZ 1 6 (ki)
theorem qY (T:Txt K mg ca) (C_pair:ir P w K mg base 1 "pair" ["one","other"] (fV K gB)) (F:dR K mg "colours_of" iL ["net"]):ir P w K mg base 2 "colours_of" ["net"] (fV K (bN)):=dH (k:=1) (n:=1) (m:=6) (g:=ki) F eK rfl rfl fun f cdv A outer s H hr=>by
 have hu:=dU hr
 exact aq (bL (i:=1) eK.nd rfl (by first | exact Or.inl rfl | exact Or.inr rfl) ya)
    (aq (jD [0] PassesOwn.never rfl (tF rfl T.yn (af (aS au aT (qv 0) ai (fun _ _=>rfl)) (af (aS au aT (qv 0) ai (fun _ _=>rfl)) aj))) (p8 rfl (eO (i:=2) eK.nd rfl (by first | exact Or.inl rfl | exact Or.inr rfl) (eO (i:=3) eK.nd rfl (by first | exact Or.inl rfl | exact Or.inr rfl) mj)))
    (az (jD [0,3] PassesOwn.never rfl (tF rfl T.yn (af (aS au aT (qv 0) ai (fun _ _=>rfl)) (af (qv 3) aj))) (p8 rfl (eO (i:=4) eK.nd rfl (by first | exact Or.inl rfl | exact Or.inr rfl) (eO (i:=5) eK.nd rfl (by first | exact Or.inl rfl | exact Or.inr rfl) mj)))
    (az (j7 1 hu (bO C_pair (hr.mono (by decide)) rfl (af (qv 2) (af (qv 4) aj))) (qv 5))))))
    (az (p5 1)))
abbrev kg:Stmt:=top 25
theorem ig:a9 ["places","colours","rising","rows","i","place"] ["places","colours"] (aC kg):=⟨rfl,rfl,rfl,by decide +kernel,rfl,by decide +kernel,by decide +kernel⟩
def gZ:SD->Res D:=gz (ae 1) (aF gB (aa (ae 2) (aa (ae 0) ak))) (eC (.int 0))
def fO:SF:=iG 3 (eA cF (aa (bR (jQ (dS (ae 2) lA (eP (ae 4)))) (gN 0) dG gZ 1 [("colours",1),("place",5)]) ak))
def kh:SF:=aD (bf 2 (eA fM (aa (ae 0) ak))) (aD (bf 3 (eA eS ak)) (aD (cZ [2] (dm (aa (ae 2) ak)) (gT 2 (aM 4 (aM 5 cB))) fO) (bE (eA cO (aa (eA cF (aa (ae 2) ak)) (aa (eA cF (aa (ae 3) ak)) ak))))))
def bH:DF:=bZ 2 6 (kh)
theorem vj (T:Txt K mg ca) (C_pair:ir P w K mg base 1 "pair" ["one","other"] (fV K gB)) (F:dR K mg "net_with" kg ["places","colours"]):ir P w K mg base 2 "net_with" ["places","colours"] (fV K (bH)):=dH (k:=1) (n:=2) (m:=6) (g:=kh) F ig rfl rfl fun f cdv A outer s H hr=>by
 have hu:=dU hr
 exact aq (bL (i:=2) ig.nd rfl (by first | exact Or.inl rfl | exact Or.inr rfl) (bM mX rY rfl T.qm (by decide +kernel) (af (qv 0) aj)))
    (aq (bL (i:=3) ig.nd rfl (by first | exact Or.inl rfl | exact Or.inr rfl) (kG aj))
    (aq (jD [2] PassesOwn.never rfl (tq rfl T.k9 (af (qv 2) aj)) (p8 rfl (eO (i:=4) ig.nd rfl (by first | exact Or.inl rfl | exact Or.inr rfl) (eO (i:=5) ig.nd rfl (by first | exact Or.inl rfl | exact Or.inr rfl) mj)))
    (az (xZ 3 (eu cL iE rfl T.gE (by decide +kernel) (af (ml (own := ["ahead"]) (cap := [("colours",1),("place",5)]) (dJ _ rfl _ rfl (by kernel_rfl)) rfl (nW (lB (qv 2) mO (j2 (qv 4)))) ⟨fun _ _ _ _ _=>eV (i:=0) (show (["ahead","colours","place"]:List Str).Nodup by decide +kernel) rfl (by first | exact Or.inl rfl | exact Or.inr rfl),fun _ _ _ _ _=>lF,fun _ _ _ _ _=>Dq hu (qv 1) (bO C_pair (hr.mono (by decide)) rfl (af (qv 2) (af (qv 0) aj))) ai ⟨rfl,rfl,rfl,rfl⟩⟩) aj)))))
    (az (bJ (f7 (af (eu cL iE rfl T.gE (by decide +kernel) (af (qv 2) aj)) (af (eu cL iE rfl T.gE (by decide +kernel) (af (qv 3) aj)) aj)))))))
abbrev iN:Stmt:=top 26
theorem l6:a9 ["net","one","other","colour","colours"] ["net","one","other","colour"] (aC iN):=⟨rfl,rfl,rfl,by decide +kernel,rfl,by decide +kernel,by decide +kernel⟩
def iK (ca:Str->Addr):SF:=aD (dW (dg (ck ca) (aa (ah aP (ae 0) (eC (.int 0))) (aa (ae 1) (aa (ae 2) ak))))) (aD (bf 4 (aF bN (aa (ae 0) ak))) (aD (c5 4 (aF gB (aa (ae 1) (aa (ae 2) ak))) (ae 3)) (bE (aF bH (aa (ah aP (ae 0) (eC (.int 0))) (aa (ae 4) ak))))))
def gC (ca:Str->Addr):DF:=bZ 4 5 (iK ca)
theorem qX (T:Txt K mg ca) (C_require_two:kN P w K mg base 2 "require_two" ["places","one","other"] (tG K (ck ca))) (C_pair:ir P w K mg base 1 "pair" ["one","other"] (fV K gB)) (C_colours_of:ir P w K mg base 2 "colours_of" ["net"] (fV K bN)) (C_net_with:ir P w K mg base 2 "net_with" ["places","colours"] (fV K bH)) (F:dR K mg "recoloured" iN ["net","one","other","colour"]):kN P w K mg base 3 "recoloured" ["net","one","other","colour"] (tG K (gC ca)):=j8 (k:=2) (n:=4) (m:=5) (g:=iK ca) F l6 rfl rfl fun f cdv A outer s H E hr hx=>by
 have hu:=dU hr
 exact aq (p7 (jr hx C_require_two (hr.mono (by decide)) rfl (af (aS au aT (qv 0) ai (fun _ _=>rfl)) (af (qv 1) (af (qv 2) aj)))))
    (aq (bL (i:=4) l6.nd rfl (by first | exact Or.inl rfl | exact Or.inr rfl) (bO C_colours_of (hr.mono (by decide)) rfl (af (qv 0) aj)))
    (aq (j7 4 hu (bO C_pair (hr.mono (by decide)) rfl (af (qv 1) (af (qv 2) aj))) (qv 3))
    (az (bJ (bO C_net_with (hr.mono (by decide)) rfl (af (aS au aT (qv 0) ai (fun _ _=>rfl)) (af (qv 4) aj)))))))
abbrev iM:Stmt:=top 27
theorem gW:a9 ["net","place","colours","known","other","tint"] ["net","place","colours"] (aC iM):=⟨rfl,rfl,rfl,by decide +kernel,rfl,by decide +kernel,by decide +kernel⟩
def eE (ca:Str->Addr):SF:=c5 3 (aF gB (aa (ae 1) (aa (ae 4) ak))) (ae 5)
def fj (ca:Str->Addr):SF:=aD (dP (eT (ah Iv (eA cG (aa (ah aP (ae 0) (eC (.int 0))) ak)) (eC (.int 24)))) (jq (ca "NoNet")) aR) (aD (dP (eT (ah (inD false) (ae 1) (ah aP (ae 0) (eC (.int 0))))) (jq (ca "Taken")) aR) (aD (dP (eT (ah nS (eA cG (aa (ae 2) ak)) (eA cG (aa (ah aP (ae 0) (eC (.int 0))) ak)))) (jq (ca "NoColours")) aR) (aD (bf 3 (aF bN (aa (ae 0) ak))) (aD (cZ [0,2] (oh (aa (ah aP (ae 0) (eC (.int 0))) (aa (ae 2) ak))) (gT 2 (aM 4 (aM 5 cB))) ((eE ca))) (bE (aF bH (aa (ah bP (eA dj (aa (ah aP (ae 0) (eC (.int 0))) ak)) (eA eS (aa (ae 1) ak))) (aa (ae 3) ak))))))))
def d7 (ca:Str->Addr):DF:=bZ 3 6 (fj ca)
theorem qZ (T:Txt K mg ca) (C_pair:ir P w K mg base 1 "pair" ["one","other"] (fV K gB)) (C_colours_of:ir P w K mg base 2 "colours_of" ["net"] (fV K bN)) (C_net_with:ir P w K mg base 2 "net_with" ["places","colours"] (fV K bH)) (F:dR K mg "with_place" iM ["net","place","colours"]):kN P w K mg base 3 "with_place" ["net","place","colours"] (tG K (d7 ca)):=j8 (k:=2) (n:=3) (m:=6) (g:=fj ca) F gW rfl rfl fun f cdv A outer s H E hr hx=>by
 have hu:=dU hr
 exact aq (dh (aY G9 Jp (bM bD fB rfl T.fD PySem.boot_len (af (aS au aT (qv 0) ai (fun _ _=>rfl)) aj)) (FI rfl T.qW) (bb _))
    (az (j9 hx T.mY rfl rfl))
    (bj))
    (aq (dh (aY nK (yT false) (qv 1) (aS au aT (qv 0) ai (fun _ _=>rfl)) (by with_unfolding_all rfl))
    (az (j9 hx T.pA rfl rfl))
    (bj))
    (aq (dh (aY pI wg (bM bD fB rfl T.fD PySem.boot_len (af (qv 2) aj)) (bM bD fB rfl T.fD PySem.boot_len (af (aS au aT (qv 0) ai (fun _ _=>rfl)) aj)) (bb _))
    (az (j9 hx T.jh rfl rfl))
    (bj))
    (aq (bL (i:=3) gW.nd rfl (by first | exact Or.inl rfl | exact Or.inr rfl) (bO C_colours_of (hr.mono (by decide)) rfl (af (qv 0) aj)))
    (aq (jD [0,2] PassesOwn.leaving rfl (tF rfl T.yn (af (aS au aT (qv 0) ai (fun _ _=>rfl)) (af (qv 2) aj))) (p8 rfl (eO (i:=4) gW.nd rfl (by first | exact Or.inl rfl | exact Or.inr rfl) (eO (i:=5) gW.nd rfl (by first | exact Or.inl rfl | exact Or.inr rfl) mj)))
    (az (j7 3 hu (bO C_pair (hr.mono (by decide)) rfl (af (qv 1) (af (qv 4) aj))) (qv 5))))
    (az (bJ (bO C_net_with (hr.mono (by decide)) rfl (af (aK aV cz (eu jY wj rfl T.qp (by decide +kernel) (af (aS au aT (qv 0) ai (fun _ _=>rfl)) aj)) (kG (af (qv 1) aj))) (af (qv 3) aj)))))))))
abbrev fR:Stmt:=top 28
theorem jJ:a9 ["net","place","others"] ["net","place"] (aC fR):=⟨rfl,rfl,rfl,by decide +kernel,rfl,by decide +kernel,by decide +kernel⟩
def fW (ca:Str->Addr):SD->Res Bool:=eT (ah nS (ae 0) (ae 1))
def fX (ca:Str->Addr):SD->Res D:=ae 0
def eF (ca:Str->Addr):SF:=aD (dW (dg (aL ca) (aa (ah aP (ae 0) (eC (.int 0))) (aa (ae 1) ak)))) (aD (bf 2 (bR (jQ (ah aP (ae 0) (eC (.int 0)))) (gN 0) ((fW ca)) ((fX ca)) 1 [("place",1)])) (aD (dP (eT (ah fG (eA cG (aa (ae 2) ak)) (eC (.int 0)))) (jq (ca "NoNet")) aR) (bE (aF bH (aa (ae 2) (aa (aF bN (aa (ae 0) ak)) ak))))))
def dC (ca:Str->Addr):DF:=bZ 2 3 (eF ca)
theorem oq (T:Txt K mg ca) (C_require_place:kN P w K mg base 1 "require_place" ["places","place"] (tG K (aL ca))) (C_colours_of:ir P w K mg base 2 "colours_of" ["net"] (fV K bN)) (C_net_with:ir P w K mg base 2 "net_with" ["places","colours"] (fV K bH)) (F:dR K mg "without_place" fR ["net","place"]):kN P w K mg base 3 "without_place" ["net","place"] (tG K (dC ca)):=j8 (k:=2) (n:=2) (m:=3) (g:=eF ca) F jJ rfl rfl fun f cdv A outer s H E hr hx=>by
 have hu:=dU hr
 exact aq (p7 (jr hx C_require_place (hr.mono (by decide)) rfl (af (aS au aT (qv 0) ai (fun _ _=>rfl)) (af (qv 1) aj))))
    (aq (nY (i:=2) jJ.nd rfl (by first | exact Or.inl rfl | exact Or.inr rfl) (own := ["other"]) (cap := [("place",1)]) (dJ _ rfl _ rfl (by kernel_rfl)) rfl (nW (aS au aT (qv 0) ai (fun _ _=>rfl))) ⟨fun _ _ _ _ _=>eV (i:=0) (show (["other","place"]:List Str).Nodup by decide +kernel) rfl (by first | exact Or.inl rfl | exact Or.inr rfl),fun _ _ _ _ _=>mR (aY pI wg (qv 0) (qv 1) (bb _)),fun _ _ _ _ _=>qv 0⟩)
    (aq (dh (aY dD gn (bM bD fB rfl T.fD PySem.boot_len (af (qv 2) aj)) ai (bb _))
    (az (j9 hx T.mY rfl rfl))
    (bj))
    (az (bJ (bO C_net_with (hr.mono (by decide)) rfl (af (qv 2) (af (bO C_colours_of (hr.mono (by decide)) rfl (af (qv 0) aj)) aj)))))))
abbrev lL:Stmt:=top 29
theorem wN:a9 ["net","some"] ["net","some"] (aC lL):=⟨rfl,rfl,rfl,by decide +kernel,rfl,by decide +kernel,by decide +kernel⟩
def lM (ca:Str->Addr):SF:=bE (aF bH (aa (dg (cu ca) (aa (ah aP (ae 0) (eC (.int 0))) (aa (ae 1) ak))) (aa (aF bN (aa (ae 0) ak)) ak)))
def jI (ca:Str->Addr):DF:=bZ 2 2 (lM ca)
theorem wO (T:Txt K mg ca) (C_checked_set:kN P w K mg base 2 "checked_set" ["places","some"] (tG K (cu ca))) (C_colours_of:ir P w K mg base 2 "colours_of" ["net"] (fV K bN)) (C_net_with:ir P w K mg base 2 "net_with" ["places","colours"] (fV K bH)) (F:dR K mg "part_of" lL ["net","some"]):kN P w K mg base 3 "part_of" ["net","some"] (tG K (jI ca)):=j8 (k:=2) (n:=2) (m:=2) (g:=lM ca) F wN rfl rfl fun f cdv A outer s H E hr hx=>by
 have hu:=dU hr
 exact az (bJ (bO C_net_with (hr.mono (by decide)) rfl (af (jr hx C_checked_set (hr.mono (by decide)) rfl (af (aS au aT (qv 0) ai (fun _ _=>rfl)) (af (qv 1) aj))) (af (bO C_colours_of (hr.mono (by decide)) rfl (af (qv 0) aj)) aj))))
abbrev s_Lcell:Stmt:=top 31
theorem sc_Lcell:a9 ["_law_script","_law_k"] ["_law_script","_law_k"] (aC s_Lcell):=⟨rfl,rfl,rfl,by decide +kernel,rfl,by decide +kernel,by decide +kernel⟩
def g_Lcell:SF:=aD (dP (eT (ah FJ (ae 1) (eA cG (aa (ae 0) ak)))) (bE (ah aP (ae 0) (ae 1))) aR) (bE (eC (.int 0)))
def G_Lcell:DF:=bZ 2 2 (g_Lcell)
theorem ok_Lcell (T:Txt K mg ca)  (F:dR K mg "_law_cell" s_Lcell ["_law_script","_law_k"]):ir P w K mg base 1 "_law_cell" ["_law_script","_law_k"] (fV K (G_Lcell)):=dH (k:=0) (n:=2) (m:=2) (g:=g_Lcell) F sc_Lcell rfl rfl fun f cdv A outer s H hr=>by
 have hu:=dU hr
 exact aq (dh (aY uh Az (qv 1) (bM bD fB rfl T.fD PySem.boot_len (af (qv 0) aj)) (bb _))
    (az (bJ (aS au aT (qv 0) (qv 1) (fun _ _=>rfl))))
    (bj))
    (az (bJ ai))
abbrev s_Llike:Stmt:=top 32
theorem sc_Llike:a9 ["_law_found","_law_due_here","_law_k"] ["_law_found","_law_due_here"] (aC s_Llike):=⟨rfl,rfl,rfl,by decide +kernel,rfl,by decide +kernel,by decide +kernel⟩
def g_Llike_b1 (R_Llike:DF):SF:=dP (gm (eT (aF R_Llike (aa (ah aP (ae 0) (ae 2)) (aa (ah aP (ae 1) (ae 2)) ak))))) (bE (eC (.bl false))) aR
def g_Llike (R_Llike:DF):SF:=aD (dP (eT (ah (jA false) (ae 1) (eC .cY))) (bE (ah (jA false) (ae 0) (eC .cY))) aR) (aD (dP (eT (fH (cX rN) (ae 1))) (bE (iU (fH (cX rN) (ae 0)) (ah fG (ae 0) (ae 1)))) aR) (aD (dP (eT (fH (cX tD) (ae 1))) (bE (iU (fH (cX tD) (ae 0)) (iU (kK (fH (cX rN) (ae 0))) (ah fG (ae 0) (ae 1))))) aR) (aD (dP (eT (fH (cX qH) (ae 1))) (bE (iU (fH (cX qH) (ae 0)) (ah fG (ae 0) (ae 1)))) aR) (aD (dP (gM (eT (fH (cX tu) (ae 1))) (gm (eT (fH (cX tu) (ae 0))))) (bE (eC (.bl false))) aR) (aD (dP (gM (eT (fH (cX j6) (ae 1))) (gm (eT (fH (cX j6) (ae 0))))) (bE (eC (.bl false))) aR) (aD (dP (eT (ah nS (eA cG (aa (ae 0) ak)) (eA cG (aa (ae 1) ak)))) (bE (eC (.bl false))) aR) (aD (cZ [] (bo (aa (eA cG (aa (ae 1) ak)) ak)) (gN 2) ((g_Llike_b1 R_Llike))) (bE (eC (.bl true))))))))))
def G_Llike:Nat->DF
 | 0=>fun _=>.bad
 | n + 1=>bZ 2 3 (g_Llike (G_Llike n))
theorem ok_Llike (T:Txt K mg ca)  (F:dR K mg "_law_like" s_Llike ["_law_found","_law_due_here"]):∀ n:Nat,ir P w K mg base (n + 1) "_law_like" ["_law_found","_law_due_here"] (fV K (G_Llike n))
 | 0=>Ds F
 | n + 1=>dH (k:=n + 1) (n:=2) (m:=3) (g:=g_Llike (G_Llike n)) F sc_Llike rfl rfl fun f cdv A outer s H hr=>by
  have C_Llike:=ok_Llike T  F n
  have hu:=dU hr
  exact aq (dh (aY Ac Ex (qv 1) Es (bb _))
    (az (bJ (xU Ac Ex (qv 0) Es (bb _))))
    (bj))
    (aq (dh (gj (iu (ty := .Name "bool" ⟨0,0,0,0⟩) n6 rfl T.aO (qv 1) rfl T.wR (by decide +kernel)))
    (az (bJ (xW (iu (ty := .Name "bool" ⟨0,0,0,0⟩) n6 rfl T.aO (qv 0) rfl T.wR (by decide +kernel)) (AD (xU dD gn (qv 0) (qv 1) (bb _))))))
    (bj))
    (aq (dh (gj (iu (ty := .Name "int" ⟨0,0,0,0⟩) uU rfl T.aO (qv 1) rfl T.ED (by decide +kernel)))
    (az (bJ (xW (iu (ty := .Name "int" ⟨0,0,0,0⟩) uU rfl T.aO (qv 0) rfl T.ED (by decide +kernel)) (xW (HE (iu (ty := .Name "bool" ⟨0,0,0,0⟩) n6 rfl T.aO (qv 0) rfl T.wR (by decide +kernel))) (AD (xU dD gn (qv 0) (qv 1) (bb _)))))))
    (bj))
    (aq (dh (gj (iu (ty := .Name "str" ⟨0,0,0,0⟩) p9 rfl T.aO (qv 1) rfl T.Bc (by decide +kernel)))
    (az (bJ (xW (iu (ty := .Name "str" ⟨0,0,0,0⟩) p9 rfl T.aO (qv 0) rfl T.Bc (by decide +kernel)) (AD (xU dD gn (qv 0) (qv 1) (bb _))))))
    (bj))
    (aq (dh (L2.PW.pt (nR (gj (iu (ty := .Name "list" ⟨0,0,0,0⟩) rO rfl T.aO (qv 1) rfl T.qp (by decide +kernel))) (lz (mi (gj (iu (ty := .Name "list" ⟨0,0,0,0⟩) rO rfl T.aO (qv 0) rfl T.qp (by decide +kernel)))))))
    (az (bJ we))
    (bj))
    (aq (dh (L2.PW.pt (nR (gj (iu (ty := .Name "tuple" ⟨0,0,0,0⟩) qa rfl T.aO (qv 1) rfl T.gE (by decide +kernel))) (lz (mi (gj (iu (ty := .Name "tuple" ⟨0,0,0,0⟩) qa rfl T.aO (qv 0) rfl T.gE (by decide +kernel)))))))
    (az (bJ we))
    (bj))
    (aq (dh (aY pI wg (bM bD fB rfl T.fD PySem.boot_len (af (qv 0) aj)) (bM bD fB rfl T.fD PySem.boot_len (af (qv 1) aj)) (bb _))
    (az (bJ we))
    (bj))
    (aq (jD [] PassesOwn.never rfl (eG rfl T.gD (af (bM bD fB rfl T.fD PySem.boot_len (af (qv 1) aj)) aj)) (eV (i:=2) sc_Llike.nd rfl (by first | exact Or.inl rfl | exact Or.inr rfl))
    (az (dh (mi (gj (bO C_Llike (hr.mono (by omega)) rfl (af (aS au aT (qv 0) (qv 2) (fun _ _=>rfl)) (af (aS au aT (qv 1) (qv 2) (fun _ _=>rfl)) aj)))))
    (az (bJ we))
    (bj))))
    (az (bJ we)))))))))
abbrev s_Lmany:Stmt:=top 33
theorem sc_Lmany:a9 ["_law_cell_here"] ["_law_cell_here"] (aC s_Lmany):=⟨rfl,rfl,rfl,by decide +kernel,rfl,by decide +kernel,by decide +kernel⟩
def g_Lmany:SF:=aD (dP (eT (ah fG (ah cM (ah c8 (ae 0) (eC (.int 9))) (eC (.int 8))) (eC (.int 1)))) (bE (ah bP (eC (.int 1)) (ah cM (ah c8 (ae 0) (eC (.int 72))) (eC (.int 24))))) aR) (bE (ah bP (eC (.int 1)) (ah cM (ae 0) (eC (.int 9)))))
def G_Lmany:DF:=bZ 1 1 (g_Lmany)
theorem ok_Lmany (T:Txt K mg ca)  (F:dR K mg "_law_many" s_Lmany ["_law_cell_here"]):ir P w K mg base 1 "_law_many" ["_law_cell_here"] (fV K (G_Lmany)):=dH (k:=0) (n:=1) (m:=1) (g:=g_Lmany) F sc_Lmany rfl rfl fun f cdv A outer s H hr=>by
 have hu:=dU hr
 exact aq (dh (aY dD gn (aK bx bY (aK bS cT (qv 0) ai) ai) ai (bb _))
    (az (bJ (aK aV cz ai (aK bx bY (aK bS cT (qv 0) ai) ai))))
    (bj))
    (az (bJ (aK aV cz ai (aK bx bY (qv 0) ai))))
abbrev s_Lmix:Stmt:=top 34
theorem sc_Lmix:a9 ["_law_script","_law_at","_law_k","_law_many_here"] ["_law_script","_law_at","_law_k"] (aC s_Lmix):=⟨rfl,rfl,rfl,by decide +kernel,rfl,by decide +kernel,by decide +kernel⟩
def g_Lmix:SF:=aD (bf 3 (eA f6 (aa (eC (.int 1)) (aa (ah Di (eA cG (aa (ae 0) ak)) (ae 1)) ak)))) (bE (ah cM (ah bP (ah bP (ah pW (aF G_Lcell (aa (ae 0) (aa (ah bP (ae 1) (ah cM (ae 2) (ae 3))) ak))) (eC (.int 48271))) (ah pW (ae 2) (eC (.int 16807)))) (eC (.int 11))) (eC (.int 2147483647))))
def G_Lmix:DF:=bZ 3 4 (g_Lmix)
theorem ok_Lmix (T:Txt K mg ca) (C_Lcell:ir P w K mg base 1 "_law_cell" ["_law_script","_law_k"] (fV K G_Lcell)) (F:dR K mg "_law_mix" s_Lmix ["_law_script","_law_at","_law_k"]):ir P w K mg base 2 "_law_mix" ["_law_script","_law_at","_law_k"] (fV K (G_Lmix)):=dH (k:=1) (n:=3) (m:=4) (g:=g_Lmix) F sc_Lmix rfl rfl fun f cdv A outer s H hr=>by
 have hu:=dU hr
 exact aq (bL (i:=3) sc_Lmix.nd rfl (by first | exact Or.inl rfl | exact Or.inr rfl) (bM (rD rfl) AB rfl T.EE (by decide +kernel) (af ai (af (aK vU Ay (bM bD fB rfl T.fD PySem.boot_len (af (qv 0) aj)) (qv 1)) aj))))
    (az (bJ (aK bx bY (aK aV cz (aK aV cz (aK iD mL (bO C_Lcell (hr.mono (by decide)) rfl (af (qv 0) (af (aK aV cz (qv 1) (aK bx bY (qv 2) (qv 3))) aj))) ai) (aK iD mL (qv 2) ai)) ai) ai)))
abbrev s_Lplaces:Stmt:=top 35
theorem sc_Lplaces:a9 ["_law_script","_law_at","_law_many_here","_law_head","_law_step","_law_number","_law_places_here","_law_k"] ["_law_script","_law_at","_law_many_here"] (aC s_Lplaces):=⟨rfl,rfl,rfl,by decide +kernel,rfl,by decide +kernel,by decide +kernel⟩
def g_Lplaces_b1:SF:=aD (iG 6 (ae 5)) (bf 5 (ah bP (ah bP (ae 5) (eC (.int 1))) (ah cM (ah c8 (ae 4) (ah bP (ae 7) (eC (.int 1)))) (ah aP (eA eS (aa (eC (.int 1)) (aa (eC (.int 3)) (aa (ah nQ (eC (.int 10)) (eC (.int 29))) ak)))) (ah cM (ae 4) (eC (.int 3)))))))
def g_Lplaces:SF:=aD (bf 3 (aF G_Lcell (aa (ae 0) (aa (ae 1) ak)))) (aD (bf 4 (aF G_Lcell (aa (ae 0) (aa (ah bP (ae 1) (eC (.int 1))) ak)))) (aD (bf 5 (ah cM (ah c8 (ae 3) (eC (.int 2))) (eC (.int 4)))) (aD (dP (eT (ah fG (ah cM (ae 3) (eC (.int 2))) (eC (.int 1)))) (bf 5 (ah cM (ah c8 (ae 3) (eC (.int 2))) (ah nQ (eC (.int 10)) (eC (.int 30))))) aR) (aD (bf 6 (eA eS ak)) (aD (cZ [] (bo (aa (ae 2) ak)) (gN 7) g_Lplaces_b1) (dM 6))))))
def G_Lplaces:DF:=bZ 3 8 (g_Lplaces)
theorem ok_Lplaces (T:Txt K mg ca) (C_Lcell:ir P w K mg base 1 "_law_cell" ["_law_script","_law_k"] (fV K G_Lcell)) (F:dR K mg "_law_places" s_Lplaces ["_law_script","_law_at","_law_many_here"]):ir P w K mg base 2 "_law_places" ["_law_script","_law_at","_law_many_here"] (fV K (G_Lplaces)):=dH (k:=1) (n:=3) (m:=8) (g:=g_Lplaces) F sc_Lplaces rfl rfl fun f cdv A outer s H hr=>by
 have hu:=dU hr
 exact aq (bL (i:=3) sc_Lplaces.nd rfl (by first | exact Or.inl rfl | exact Or.inr rfl) (bO C_Lcell (hr.mono (by decide)) rfl (af (qv 0) (af (qv 1) aj))))
    (aq (bL (i:=4) sc_Lplaces.nd rfl (by first | exact Or.inl rfl | exact Or.inr rfl) (bO C_Lcell (hr.mono (by decide)) rfl (af (qv 0) (af (aK aV cz (qv 1) ai) aj))))
    (aq (bL (i:=5) sc_Lplaces.nd rfl (by first | exact Or.inl rfl | exact Or.inr rfl) (aK bx bY (aK bS cT (qv 3) ai) ai))
    (aq (dh (aY dD gn (aK bx bY (qv 3) ai) ai (bb _))
    (az (bL (i:=5) sc_Lplaces.nd rfl (by first | exact Or.inl rfl | exact Or.inr rfl) (aK bx bY (aK bS cT (qv 3) ai) (aK l8 pX ai ai))))
    (bj))
    (aq (bL (i:=6) sc_Lplaces.nd rfl (by first | exact Or.inl rfl | exact Or.inr rfl) (kG aj))
    (aq (jD [] PassesOwn.never rfl (eG rfl T.gD (af (qv 2) aj)) (eV (i:=7) sc_Lplaces.nd rfl (by first | exact Or.inl rfl | exact Or.inr rfl))
    (aq (xZ 6 (qv 5))
    (az (bL (i:=5) sc_Lplaces.nd rfl (by first | exact Or.inl rfl | exact Or.inr rfl) (aK aV cz (aK aV cz (qv 5) ai) (aK bx bY (aK bS cT (qv 4) (aK aV cz (qv 7) ai)) (aS au aT (kG (af ai (af ai (af (aK l8 pX ai ai) aj)))) (aK bx bY (qv 4) ai) (fun _ _=>rfl))))))))
    (az (p5 6)))))))
abbrev s_Lshade:Stmt:=top 36
theorem sc_Lshade:a9 ["_law_script","_law_at","_law_k","_law_j","_law_head","_law_blocks","_law_one","_law_other","_law_number","_law_shades"] ["_law_script","_law_at","_law_k","_law_j"] (aC s_Lshade):=⟨rfl,rfl,rfl,by decide +kernel,rfl,by decide +kernel,by decide +kernel⟩
def g_Lshade:SF:=aD (bf 4 (aF G_Lcell (aa (ae 0) (aa (ah bP (ae 1) (eC (.int 2))) ak)))) (aD (bf 5 (ah bP (eC (.int 1)) (ah cM (ah c8 (ae 4) (eC (.int 4))) (eC (.int 4))))) (aD (bf 6 (ah cM (ah c8 (aF G_Lmix (aa (ae 0) (aa (ah bP (ae 1) (eC (.int 4))) (aa (ah bP (eC (.int 300)) (ae 2)) ak)))) (eC (.int 3))) (ae 5))) (aD (bf 7 (ah cM (ah c8 (aF G_Lmix (aa (ae 0) (aa (ah bP (ae 1) (eC (.int 4))) (aa (ah bP (eC (.int 300)) (ae 3)) ak)))) (eC (.int 3))) (ae 5))) (aD (bf 8 (ah c8 (aF G_Lmix (aa (ae 0) (aa (ah bP (ae 1) (eC (.int 4))) (aa (ah bP (ah c8 (ah pW (ae 2) (ah Di (ae 2) (eC (.int 1)))) (eC (.int 2))) (ae 3)) ak)))) (eC (.int 5)))) (aD (dP (gM (eT (ah FJ (ah cM (ae 4) (eC (.int 4))) (eC (.int 2)))) (eT (ah nS (ae 6) (ae 7)))) (bf 8 (ah c8 (aF G_Lmix (aa (ae 0) (aa (ah bP (ae 1) (eC (.int 4))) (aa (ah bP (ah bP (eC (.int 400)) (ah pW (eC (.int 4)) (eA f6 (aa (ae 6) (aa (ae 7) ak))))) (eA gq (aa (ae 6) (aa (ae 7) ak)))) ak)))) (eC (.int 5)))) aR) (aD (dP (gM (eT (ah fG (ah cM (ae 4) (eC (.int 4))) (eC (.int 1)))) (eT (ah fG (ah bP (ah c8 (ah pW (ae 2) (ah Di (ae 2) (eC (.int 1)))) (eC (.int 2))) (ae 3)) (ah cM (ah c8 (ae 4) (eC (.int 32))) (eC (.int 36)))))) (bf 8 (ah bP (ae 8) (eC (.int 1)))) aR) (aD (dP (gM (eT (ah fG (ah cM (ae 4) (eC (.int 4))) (eC (.int 2)))) (eT (ah fG (ah cM (ah c8 (ae 4) (eC (.int 4))) (eC (.int 2))) (eC (.int 1))))) (bE (ah cM (ae 8) (ah nQ (eC (.int 10)) (eC (.int 8))))) aR) (aD (bf 9 (eA eS (aa (eC (.int 0)) (aa (ah bP (eC (.int 1)) (ah cM (aF G_Lcell (aa (ae 0) (aa (ah bP (ae 1) (eC (.int 3))) ak))) (ah nQ (eC (.int 10)) (eC (.int 30))))) (aa (ah cM (ah c8 (aF G_Lcell (aa (ae 0) (aa (ah bP (ae 1) (eC (.int 3))) ak))) (eC (.int 9))) (eC (.int 5))) ak))))) (bE (ah aP (ae 9) (ah cM (ae 8) (ah bP (eC (.int 2)) (ah cM (ah c8 (ae 4) (eC (.int 16))) (eC (.int 2)))))))))))))))
def G_Lshade:DF:=bZ 4 10 (g_Lshade)
theorem ok_Lshade (T:Txt K mg ca) (C_Lcell:ir P w K mg base 1 "_law_cell" ["_law_script","_law_k"] (fV K G_Lcell)) (C_Lmix:ir P w K mg base 2 "_law_mix" ["_law_script","_law_at","_law_k"] (fV K G_Lmix)) (F:dR K mg "_law_shade" s_Lshade ["_law_script","_law_at","_law_k","_law_j"]):ir P w K mg base 3 "_law_shade" ["_law_script","_law_at","_law_k","_law_j"] (fV K (G_Lshade)):=dH (k:=2) (n:=4) (m:=10) (g:=g_Lshade) F sc_Lshade rfl rfl fun f cdv A outer s H hr=>by
 have hu:=dU hr
 exact aq (bL (i:=4) sc_Lshade.nd rfl (by first | exact Or.inl rfl | exact Or.inr rfl) (bO C_Lcell (hr.mono (by decide)) rfl (af (qv 0) (af (aK aV cz (qv 1) ai) aj))))
    (aq (bL (i:=5) sc_Lshade.nd rfl (by first | exact Or.inl rfl | exact Or.inr rfl) (aK aV cz ai (aK bx bY (aK bS cT (qv 4) ai) ai)))
    (aq (bL (i:=6) sc_Lshade.nd rfl (by first | exact Or.inl rfl | exact Or.inr rfl) (aK bx bY (aK bS cT (bO C_Lmix (hr.mono (by decide)) rfl (af (qv 0) (af (aK aV cz (qv 1) ai) (af (aK aV cz ai (qv 2)) aj)))) ai) (qv 5)))
    (aq (bL (i:=7) sc_Lshade.nd rfl (by first | exact Or.inl rfl | exact Or.inr rfl) (aK bx bY (aK bS cT (bO C_Lmix (hr.mono (by decide)) rfl (af (qv 0) (af (aK aV cz (qv 1) ai) (af (aK aV cz ai (qv 3)) aj)))) ai) (qv 5)))
    (aq (bL (i:=8) sc_Lshade.nd rfl (by first | exact Or.inl rfl | exact Or.inr rfl) (aK bS cT (bO C_Lmix (hr.mono (by decide)) rfl (af (qv 0) (af (aK aV cz (qv 1) ai) (af (aK aV cz (aK bS cT (aK iD mL (qv 2) (aK vU Ay (qv 2) ai)) ai) (qv 3)) aj)))) ai))
    (aq (dh (L2.PW.pt (nR (aY uh Az (aK bx bY (qv 4) ai) ai (bb _)) (lz (aY pI wg (qv 6) (qv 7) (bb _)))))
    (az (bL (i:=8) sc_Lshade.nd rfl (by first | exact Or.inl rfl | exact Or.inr rfl) (aK bS cT (bO C_Lmix (hr.mono (by decide)) rfl (af (qv 0) (af (aK aV cz (qv 1) ai) (af (aK aV cz (aK aV cz ai (aK iD mL ai (bM (rD rfl) AB rfl T.EE (by decide +kernel) (af (qv 6) (af (qv 7) aj))))) (bM (yQ rfl) FO rfl T.HX (by decide +kernel) (af (qv 6) (af (qv 7) aj)))) aj)))) ai)))
    (bj))
    (aq (dh (L2.PW.pt (nR (aY dD gn (aK bx bY (qv 4) ai) ai (bb _)) (lz (aY dD gn (aK aV cz (aK bS cT (aK iD mL (qv 2) (aK vU Ay (qv 2) ai)) ai) (qv 3)) (aK bx bY (aK bS cT (qv 4) ai) ai) (bb _)))))
    (az (bL (i:=8) sc_Lshade.nd rfl (by first | exact Or.inl rfl | exact Or.inr rfl) (aK aV cz (qv 8) ai)))
    (bj))
    (aq (dh (L2.PW.pt (nR (aY dD gn (aK bx bY (qv 4) ai) ai (bb _)) (lz (aY dD gn (aK bx bY (aK bS cT (qv 4) ai) ai) ai (bb _)))))
    (az (bJ (aK bx bY (qv 8) (aK l8 pX ai ai))))
    (bj))
    (aq (bL (i:=9) sc_Lshade.nd rfl (by first | exact Or.inl rfl | exact Or.inr rfl) (kG (af ai (af (aK aV cz ai (aK bx bY (bO C_Lcell (hr.mono (by decide)) rfl (af (qv 0) (af (aK aV cz (qv 1) ai) aj))) (aK l8 pX ai ai))) (af (aK bx bY (aK bS cT (bO C_Lcell (hr.mono (by decide)) rfl (af (qv 0) (af (aK aV cz (qv 1) ai) aj))) ai) ai) aj)))))
    (az (bJ (aS au aT (qv 9) (aK bx bY (qv 8) (aK aV cz ai (aK bx bY (aK bS cT (qv 4) ai) ai))) (fun _ _=>rfl))))))))))))
abbrev s_Lnet:Stmt:=top 37
theorem sc_Lnet:a9 ["_law_script","_law_at","_law_many_here","_law_rows"] ["_law_script","_law_at","_law_many_here"] (aC s_Lnet):=⟨rfl,rfl,rfl,by decide +kernel,rfl,by decide +kernel,by decide +kernel⟩
def g_Lnet_e1:SD->Res D:=aF G_Lshade (aa (ae 1) (aa (ae 2) (aa (ae 3) (aa (ae 0) ak))))
def g_Lnet_e2:SD->Res D:=eA cF (aa (bR (bo (aa (ae 0) ak)) (gN 0) dG g_Lnet_e1 1 [("_law_script",1),("_law_at",2),("_law_k",0)]) ak)
def g_Lnet:SF:=aD (bf 3 (bR (bo (aa (ae 2) ak)) (gN 0) dG g_Lnet_e2 1 [("_law_script",0),("_law_at",1)])) (bE (eA cO (aa (eA cF (aa (aF G_Lplaces (aa (ae 0) (aa (ae 1) (aa (ae 2) ak)))) ak)) (aa (eA cF (aa (ae 3) ak)) ak))))
def G_Lnet:DF:=bZ 3 4 (g_Lnet)
theorem ok_Lnet (T:Txt K mg ca) (C_Lplaces:ir P w K mg base 2 "_law_places" ["_law_script","_law_at","_law_many_here"] (fV K G_Lplaces)) (C_Lshade:ir P w K mg base 3 "_law_shade" ["_law_script","_law_at","_law_k","_law_j"] (fV K G_Lshade)) (F:dR K mg "_law_net" s_Lnet ["_law_script","_law_at","_law_many_here"]):ir P w K mg base 4 "_law_net" ["_law_script","_law_at","_law_many_here"] (fV K (G_Lnet)):=dH (k:=3) (n:=3) (m:=4) (g:=g_Lnet) F sc_Lnet rfl rfl fun f cdv A outer s H hr=>by
 have hu:=dU hr
 exact aq (nY (i:=3) sc_Lnet.nd rfl (by first | exact Or.inl rfl | exact Or.inr rfl) (own := ["_law_k"]) (cap := [("_law_script",0),("_law_at",1)]) (dJ _ rfl _ rfl (by kernel_rfl)) rfl (eG rfl T.gD (af (qv 2) aj)) ⟨fun _ _ _ _ _=>eV (i:=0) (show (["_law_k","_law_script","_law_at"]:List Str).Nodup by decide +kernel) rfl (by first | exact Or.inl rfl | exact Or.inr rfl),fun _ _ _ _ _=>lF,fun _ _ _ _ _=>eu cL iE rfl T.gE (by decide +kernel) (af (ml (own := ["_law_j"]) (cap := [("_law_script",1),("_law_at",2),("_law_k",0)]) (dJ _ rfl _ rfl (by kernel_rfl)) rfl (eG rfl T.gD (af (qv 0) aj)) ⟨fun _ _ _ _ _=>eV (i:=0) (show (["_law_j","_law_script","_law_at","_law_k"]:List Str).Nodup by decide +kernel) rfl (by first | exact Or.inl rfl | exact Or.inr rfl),fun _ _ _ _ _=>lF,fun _ _ _ _ _=>bO C_Lshade (hr.mono (by decide)) rfl (af (qv 1) (af (qv 2) (af (qv 3) (af (qv 0) aj))))⟩) aj)⟩)
    (az (bJ (f7 (af (eu cL iE rfl T.gE (by decide +kernel) (af (bO C_Lplaces (hr.mono (by decide)) rfl (af (qv 0) (af (qv 1) (af (qv 2) aj)))) aj)) (af (eu cL iE rfl T.gE (by decide +kernel) (af (qv 3) aj)) aj)))))
abbrev s_Lword:Stmt:=top 38
theorem sc_Lword:a9 ["_law_e","_law_named","_law_others","_law_words","_law_some"] ["_law_e"] (aC s_Lword):=⟨rfl,rfl,rfl,by decide +kernel,rfl,by decide +kernel,by decide +kernel⟩
def g_Lword_c1 (ca:Str->Addr):SD->Res Bool:=eT (ah aP (ae 2) (ae 0))
def g_Lword_e2 (ca:Str->Addr):SD->Res D:=ah aP (ae 1) (ae 0)
def g_Lword (ca:Str->Addr):SF:=aD (bf 1 (eA eS (aa (fH (cH (leaf ca) (kQ ca "NoNet")) (ae 0)) (aa (fH (cH (leaf ca) (kQ ca "NoPlace")) (ae 0)) (aa (fH (cH (leaf ca) (kQ ca "SamePlace")) (ae 0)) (aa (fH (cH (leaf ca) (kQ ca "Twice")) (ae 0)) ak)))))) (aD (bf 1 (ah bP (ae 1) (eA eS (aa (fH (cH (leaf ca) (kQ ca "Taken")) (ae 0)) (aa (fH (cH (leaf ca) (kQ ca "NoColours")) (ae 0)) (aa (fH (cH (leaf ca) (kQ ca "NoSet")) (ae 0)) (aa (fH (cH (leaf ca) (kQ ca "NoParting")) (ae 0)) ak))))))) (aD (iG 1 (fH (cH (leaf ca) (kQ ca "NoGroup")) (ae 0))) (aD (bf 2 (fH (cH (leaf ca) (vc ca ["TooMany","NoDeed","Unlike","NoText","NoRow","NoName"])) (ae 0))) (aD (bf 3 (eA eS (aa (eC (.str "NoNet")) (aa (eC (.str "NoPlace")) (aa (eC (.str "SamePlace")) (aa (eC (.str "Twice")) (aa (eC (.str "Taken")) (aa (eC (.str "NoColours")) (aa (eC (.str "NoSet")) (aa (eC (.str "NoParting")) (aa (eC (.str "NoGroup")) ak))))))))))) (aD (bf 4 (bR (bo (aa (eC (.int 9)) ak)) (gN 0) ((g_Lword_c1 ca)) ((g_Lword_e2 ca)) 1 [("_law_words",3),("_law_named",1)])) (aD (dP (ph (eT (ae 2)) (ph (eT (ah nS (eA cG (aa (ae 4) ak)) (eC (.int 1)))) (gm (eT (fH (cH (leaf ca) (fun _=>true)) (ae 0)))))) (bE (eC (.str "else"))) aR) (bE (ah aP (ae 4) (eC (.int 0))))))))))
def G_Lword (ca:Str->Addr):DF:=bZ 1 5 (g_Lword ca)
theorem ok_Lword (T:Txt K mg ca)  (F:dR K mg "_law_word" s_Lword ["_law_e"]):AW P w K mg base 1 "_law_word" ["_law_e"] (fV K (G_Lword ca)):=Dy (k:=0) (n:=1) (m:=5) (g:=g_Lword ca) F sc_Lword rfl rfl fun f cdv A outer s H hr hk=>by
 have hu:=dU hr
 exact aq (bL (i:=1) sc_Lword.nd rfl (by first | exact Or.inl rfl | exact Or.inr rfl) (kG (af (iI (DM T T.mY) rfl T.aO (qv 0) rfl T.mY.mg) (af (iI (DM T T.lK) rfl T.aO (qv 0) rfl T.lK.mg) (af (iI (DM T T.ji) rfl T.aO (qv 0) rfl T.ji.mg) (af (iI (DM T T.ym) rfl T.aO (qv 0) rfl T.ym.mg) aj))))))
    (aq (bL (i:=1) sc_Lword.nd rfl (by first | exact Or.inl rfl | exact Or.inr rfl) (aK aV cz (qv 1) (kG (af (iI (DM T T.pA) rfl T.aO (qv 0) rfl T.pA.mg) (af (iI (DM T T.jh) rfl T.aO (qv 0) rfl T.jh.mg) (af (iI (DM T T.pw) rfl T.aO (qv 0) rfl T.pw.mg) (af (iI (DM T T.oV) rfl T.aO (qv 0) rfl T.oV.mg) aj)))))))
    (aq (xZ 1 (iI (DM T T.rZ) rfl T.aO (qv 0) rfl T.rZ.mg))
    (aq (bL (i:=2) sc_Lword.nd rfl (by first | exact Or.inl rfl | exact Or.inr rfl) (AZ (cs := [ca "TooMany",ca "NoDeed",ca "Unlike",ca "NoText",ca "NoRow",ca "NoName"]) (J5 T ["TooMany","NoDeed","Unlike","NoText","NoRow","NoName"] (List.forall_mem_cons.mpr ⟨⟨_,T.r6⟩,List.forall_mem_cons.mpr ⟨⟨_,T.ve⟩,List.forall_mem_cons.mpr ⟨⟨_,T.vf⟩,List.forall_mem_cons.mpr ⟨⟨_,T.vh⟩,List.forall_mem_cons.mpr ⟨⟨_,T.yl⟩,List.forall_mem_cons.mpr ⟨⟨_,T.vg⟩,fun _ h=>absurd h List.not_mem_nil⟩⟩⟩⟩⟩⟩)) rfl T.aO (qv 0) (jH rfl T.r6.mg (jH rfl T.ve.mg (jH rfl T.vf.mg (jH rfl T.vh.mg (jH rfl T.yl.mg (jH rfl T.vg.mg DA)))))) (Nat.le_of_ble_eq_true rfl)))
    (aq (bL (i:=3) sc_Lword.nd rfl (by first | exact Or.inl rfl | exact Or.inr rfl) (kG (af cW (af cW (af cW (af cW (af cW (af cW (af cW (af cW (af cW aj)))))))))))
    (aq (wz (i:=4) hk sc_Lword.nd rfl (by first | exact Or.inl rfl | exact Or.inr rfl) (own := ["_law_k"]) (cap := [("_law_words",3),("_law_named",1)]) (dJ _ rfl _ rfl (by kernel_rfl)) (wB rfl T.gD (af ai aj)) ⟨fun _ _ _ _ _=>eV (i:=0) (show (["_law_k","_law_words","_law_named"]:List Str).Nodup by decide +kernel) rfl (by first | exact Or.inl rfl | exact Or.inr rfl),fun _ _ _ _ _=>mR (gj (aS au aT (qv 2) (qv 0) (fun _ _=>rfl))),fun _ _ _ _ _=>aS au aT (qv 1) (qv 0) (fun _ _=>rfl)⟩)
    (aq (dh (L2.PW.pt (xY (gj (qv 2)) (xY (aY pI wg (bM bD fB rfl T.fD PySem.boot_len (af (qv 4) aj)) ai (bb _)) (wk (mi (gj (A0 (J4 T) rfl T.aO (qv 0) rfl T.tQ (by decide +kernel))))))))
    (az (bJ cW))
    (bj))
    (az (bJ (aS au aT (qv 4) ai (fun _ _=>rfl))))))))))
abbrev s_Lpick:Stmt:=top 39
theorem sc_Lpick:a9 ["_law_net_here","_law_number"] ["_law_net_here","_law_number"] (aC s_Lpick):=⟨rfl,rfl,rfl,by decide +kernel,rfl,by decide +kernel,by decide +kernel⟩
def g_Lpick:SF:=aD (dP (eT (ah fG (ah cM (ae 1) (eC (.int 7))) (eC (.int 6)))) (bE (ah bP (ah bP (ah aP (ah aP (ae 0) (eC (.int 0))) (fH jn (eC (.int 1)))) (eC (.int 1))) (ah cM (ah c8 (ae 1) (eC (.int 7))) (eC (.int 3))))) aR) (bE (ah aP (ah aP (ae 0) (eC (.int 0))) (ah cM (ah c8 (ae 1) (eC (.int 7))) (eA cG (aa (ah aP (ae 0) (eC (.int 0))) ak)))))
def G_Lpick:DF:=bZ 2 2 (g_Lpick)
theorem ok_Lpick (T:Txt K mg ca)  (F:dR K mg "_law_pick" s_Lpick ["_law_net_here","_law_number"]):ir P w K mg base 1 "_law_pick" ["_law_net_here","_law_number"] (fV K (G_Lpick)):=dH (k:=0) (n:=2) (m:=2) (g:=g_Lpick) F sc_Lpick rfl rfl fun f cdv A outer s H hr=>by
 have hu:=dU hr
 exact aq (dh (aY dD gn (aK bx bY (qv 1) ai) ai (bb _))
    (az (bJ (aK aV cz (aK aV cz (aS au aT (aS au aT (qv 0) ai (fun _ _=>rfl)) (Ew ai) (fun _ _=>rfl)) ai) (aK bx bY (aK bS cT (qv 1) ai) ai))))
    (bj))
    (az (bJ (aS au aT (aS au aT (qv 0) ai (fun _ _=>rfl)) (aK bx bY (aK bS cT (qv 1) ai) (bM bD fB rfl T.fD PySem.boot_len (af (aS au aT (qv 0) ai (fun _ _=>rfl)) aj))) (fun _ _=>rfl))))
abbrev s_Ldict:Stmt:=top 40
theorem sc_Ldict:a9 ["_law_net_here","_law_shades","_law_k","_law_one","_law_j"] ["_law_net_here"] (aC s_Ldict):=⟨rfl,rfl,rfl,by decide +kernel,rfl,by decide +kernel,by decide +kernel⟩
def g_Ldict_b1:SF:=aD (c5 1 (eA cO (aa (ae 3) (aa (ah aP (ah aP (ae 0) (eC (.int 0))) (ae 4)) ak))) (ah aP (ah aP (ah aP (ae 0) (eC (.int 1))) (ae 2)) (ae 4))) (c5 1 (eA cO (aa (ah aP (ah aP (ae 0) (eC (.int 0))) (ae 4)) (aa (ae 3) ak))) (ah aP (ah aP (ah aP (ae 0) (eC (.int 1))) (ae 2)) (ae 4)))
def g_Ldict_b2:SF:=cZ [] (bo (aa (ae 2) ak)) (gN 4) g_Ldict_b1
def g_Ldict:SF:=aD (bf 1 (gy true)) (aD (cZ [0] (dm (aa (ah aP (ae 0) (eC (.int 0))) ak)) (gT 2 (aM 2 (aM 3 cB))) g_Ldict_b2) (dM 1))
def G_Ldict:DF:=bZ 1 5 (g_Ldict)
theorem ok_Ldict (T:Txt K mg ca)  (F:dR K mg "_law_dict" s_Ldict ["_law_net_here"]):ir P w K mg base 1 "_law_dict" ["_law_net_here"] (fV K (G_Ldict)):=dH (k:=0) (n:=1) (m:=5) (g:=g_Ldict) F sc_Ldict rfl rfl fun f cdv A outer s H hr=>by
 have hu:=dU hr
 exact aq (bL (i:=1) sc_Ldict.nd rfl (by first | exact Or.inl rfl | exact Or.inr rfl) ya)
    (aq (jD [0] PassesOwn.never rfl (tq rfl T.k9 (af (aS au aT (qv 0) ai (fun _ _=>rfl)) aj)) (p8 rfl (eO (i:=2) sc_Ldict.nd rfl (by first | exact Or.inl rfl | exact Or.inr rfl) (eO (i:=3) sc_Ldict.nd rfl (by first | exact Or.inl rfl | exact Or.inr rfl) mj)))
    (az (jD [] PassesOwn.never rfl (eG rfl T.gD (af (qv 2) aj)) (eV (i:=4) sc_Ldict.nd rfl (by first | exact Or.inl rfl | exact Or.inr rfl))
    (aq (j7 1 hu (f7 (af (qv 3) (af (aS au aT (aS au aT (qv 0) ai (fun _ _=>rfl)) (qv 4) (fun _ _=>rfl)) aj))) (aS au aT (aS au aT (aS au aT (qv 0) ai (fun _ _=>rfl)) (qv 2) (fun _ _=>rfl)) (qv 4) (fun _ _=>rfl)))
    (az (j7 1 hu (f7 (af (aS au aT (aS au aT (qv 0) ai (fun _ _=>rfl)) (qv 4) (fun _ _=>rfl)) (af (qv 3) aj))) (aS au aT (aS au aT (aS au aT (qv 0) ai (fun _ _=>rfl)) (qv 2) (fun _ _=>rfl)) (qv 4) (fun _ _=>rfl))))))))
    (az (p5 1)))
abbrev s_Lmade:Stmt:=top 41
theorem sc_Lmade:a9 ["_law_places_here","_law_shades","_law_rising","_law_rows","_law_k"] ["_law_places_here","_law_shades"] (aC s_Lmade):=⟨rfl,rfl,rfl,by decide +kernel,rfl,by decide +kernel,by decide +kernel⟩
def g_Lmade_e1:SD->Res D:=ah gx (ae 1) (eA cO (aa (ah aP (ae 2) (ae 3)) (aa (ah aP (ae 2) (ae 0)) ak)))
def g_Lmade_b2:SF:=iG 3 (eA cF (aa (bR (bo (aa (ae 4) ak)) (gN 0) dG g_Lmade_e1 1 [("_law_shades",1),("_law_rising",2),("_law_k",4)]) ak))
def g_Lmade:SF:=aD (bf 2 (eA fM (aa (ae 0) ak))) (aD (bf 3 (eA eS ak)) (aD (cZ [] (bo (aa (eA cG (aa (ae 2) ak)) ak)) (gN 4) g_Lmade_b2) (bE (eA cO (aa (eA cF (aa (ae 2) ak)) (aa (eA cF (aa (ae 3) ak)) ak))))))
def G_Lmade:DF:=bZ 2 5 (g_Lmade)
theorem ok_Lmade (T:Txt K mg ca)  (F:dR K mg "_law_made" s_Lmade ["_law_places_here","_law_shades"]):ir P w K mg base 1 "_law_made" ["_law_places_here","_law_shades"] (fV K (G_Lmade)):=dH (k:=0) (n:=2) (m:=5) (g:=g_Lmade) F sc_Lmade rfl rfl fun f cdv A outer s H hr=>by
 have hu:=dU hr
 exact aq (bL (i:=2) sc_Lmade.nd rfl (by first | exact Or.inl rfl | exact Or.inr rfl) (bM mX rY rfl T.qm (by decide +kernel) (af (qv 0) aj)))
    (aq (bL (i:=3) sc_Lmade.nd rfl (by first | exact Or.inl rfl | exact Or.inr rfl) (kG aj))
    (aq (jD [] PassesOwn.never rfl (eG rfl T.gD (af (bM bD fB rfl T.fD PySem.boot_len (af (qv 2) aj)) aj)) (eV (i:=4) sc_Lmade.nd rfl (by first | exact Or.inl rfl | exact Or.inr rfl))
    (az (xZ 3 (eu cL iE rfl T.gE (by decide +kernel) (af (ml (own := ["_law_j"]) (cap := [("_law_shades",1),("_law_rising",2),("_law_k",4)]) (dJ _ rfl _ rfl (by kernel_rfl)) rfl (eG rfl T.gD (af (qv 4) aj)) ⟨fun _ _ _ _ _=>eV (i:=0) (show (["_law_j","_law_shades","_law_rising","_law_k"]:List Str).Nodup by decide +kernel) rfl (by first | exact Or.inl rfl | exact Or.inr rfl),fun _ _ _ _ _=>lF,fun _ _ _ _ _=>FY hu (qv 1) (f7 (af (aS au aT (qv 2) (qv 3) (fun _ _=>rfl)) (af (aS au aT (qv 2) (qv 0) (fun _ _=>rfl)) aj))) (fun _ _=>rfl)⟩) aj)))))
    (az (bJ (f7 (af (eu cL iE rfl T.gE (by decide +kernel) (af (qv 2) aj)) (af (eu cL iE rfl T.gE (by decide +kernel) (af (qv 3) aj)) aj)))))))
abbrev s_Ldue:Stmt:=top 42
theorem sc_Ldue:a9 ["_law_net_here","_law_deed_here","_law_shades","_law_place","_law_shade_here"] ["_law_net_here","_law_deed_here"] (aC s_Ldue):=⟨rfl,rfl,rfl,by decide +kernel,rfl,by decide +kernel,by decide +kernel⟩
def g_Ldue_c1:SD->Res Bool:=eT (ah (inD false) (ae 0) (ah aP (ae 1) (eC (.int 1))))
def g_Ldue_e2:SD->Res D:=ae 0
def g_Ldue_c3:SD->Res Bool:=eT (ah (inD true) (ae 0) (ah aP (ae 1) (eC (.int 0))))
def g_Ldue_e4:SD->Res D:=ae 0
def g_Ldue_c5:SD->Res Bool:=eT (ah nS (ae 0) (ah aP (ae 1) (eC (.int 1))))
def g_Ldue_e6:SD->Res D:=ae 0
def g_Ldue_b7:SF:=aD (c5 2 (eA cO (aa (ae 3) (aa (ah aP (ae 1) (eC (.int 1))) ak))) (ae 4)) (c5 2 (eA cO (aa (ah aP (ae 1) (eC (.int 1))) (aa (ae 3) ak))) (ae 4))
def g_Ldue:SF:=aD (bf 2 (aF G_Ldict (aa (ae 0) ak))) (aD (dP (eT (ah fG (ah aP (ae 1) (eC (.int 0))) (eC (.str "with")))) (aD (dP (eT (ah fG (eA cG (aa (ah aP (ae 0) (eC (.int 0))) ak)) (eC (.int 24)))) (bE (eC (.str "NoNet"))) aR) (aD (dP (eT (ah (inD false) (ah aP (ae 1) (eC (.int 1))) (ah aP (ae 0) (eC (.int 0))))) (bE (eC (.str "Taken"))) aR) (aD (dP (eT (ah nS (eA cG (aa (ah aP (ae 1) (eC (.int 2))) ak)) (eA cG (aa (ah aP (ae 0) (eC (.int 0))) ak)))) (bE (eC (.str "NoColours"))) aR) (aD (cZ [0,1] (oh (aa (ah aP (ae 0) (eC (.int 0))) (aa (ah aP (ae 1) (eC (.int 2))) ak))) (gT 2 (aM 3 (aM 4 cB))) g_Ldue_b7) (bE (aF G_Lmade (aa (ah bP (ah aP (ae 0) (eC (.int 0))) (eA cO (aa (ah aP (ae 1) (eC (.int 1))) ak))) (aa (ae 2) ak)))))))) aR) (aD (dP (eT (ah fG (ah aP (ae 1) (eC (.int 0))) (eC (.str "without")))) (aD (dP (eT (ah (inD true) (ah aP (ae 1) (eC (.int 1))) (ah aP (ae 0) (eC (.int 0))))) (bE (eC (.str "NoPlace"))) aR) (aD (dP (eT (ah fG (eA cG (aa (ah aP (ae 0) (eC (.int 0))) ak)) (eC (.int 1)))) (bE (eC (.str "NoNet"))) aR) (bE (aF G_Lmade (aa (bR (jQ (ah aP (ae 0) (eC (.int 0)))) (gN 0) g_Ldue_c5 g_Ldue_e6 1 [("_law_deed_here",1)]) (aa (ae 2) ak)))))) aR) (aD (dP (eT (ah HC (eA cG (aa (bR (jQ (ah aP (ae 1) (eC (.int 1)))) (gN 0) g_Ldue_c3 g_Ldue_e4 1 [("_law_net_here",0)]) ak)) (eC (.int 0)))) (bE (eC (.str "NoPlace"))) aR) (aD (dP (gM (eT (ah fG (ah aP (ae 1) (eC (.int 0))) (eC (.str "part")))) (eT (ah fG (eA cG (aa (ah aP (ae 1) (eC (.int 1))) ak)) (eC (.int 0))))) (bE (eC (.str "NoSet"))) aR) (aD (dP (eT (ah fG (ah aP (ae 1) (eC (.int 0))) (eC (.str "part")))) (bE (aF G_Lmade (aa (bR (jQ (ah aP (ae 0) (eC (.int 0)))) (gN 0) g_Ldue_c1 g_Ldue_e2 1 [("_law_deed_here",1)]) (aa (ae 2) ak)))) aR) (aD (dP (eT (ah fG (ah aP (ah aP (ae 1) (eC (.int 1))) (eC (.int 0))) (ah aP (ah aP (ae 1) (eC (.int 1))) (eC (.int 1))))) (bE (eC (.str "SamePlace"))) aR) (aD (c5 2 (eA cO (aa (ah aP (ah aP (ae 1) (eC (.int 1))) (eC (.int 0))) (aa (ah aP (ah aP (ae 1) (eC (.int 1))) (eC (.int 1))) ak))) (ah aP (ae 1) (eC (.int 2)))) (aD (c5 2 (eA cO (aa (ah aP (ah aP (ae 1) (eC (.int 1))) (eC (.int 1))) (aa (ah aP (ah aP (ae 1) (eC (.int 1))) (eC (.int 0))) ak))) (ah aP (ae 1) (eC (.int 2)))) (bE (aF G_Lmade (aa (ah aP (ae 0) (eC (.int 0))) (aa (ae 2) ak))))))))))))
def G_Ldue:DF:=bZ 2 5 (g_Ldue)
theorem ok_Ldue (T:Txt K mg ca) (C_Ldict:ir P w K mg base 1 "_law_dict" ["_law_net_here"] (fV K G_Ldict)) (C_Lmade:ir P w K mg base 1 "_law_made" ["_law_places_here","_law_shades"] (fV K G_Lmade)) (F:dR K mg "_law_due" s_Ldue ["_law_net_here","_law_deed_here"]):ir P w K mg base 2 "_law_due" ["_law_net_here","_law_deed_here"] (fV K (G_Ldue)):=dH (k:=1) (n:=2) (m:=5) (g:=g_Ldue) F sc_Ldue rfl rfl fun f cdv A outer s H hr=>by
 have hu:=dU hr
 exact aq (bL (i:=2) sc_Ldue.nd rfl (by first | exact Or.inl rfl | exact Or.inr rfl) (bO C_Ldict (hr.mono (by decide)) rfl (af (qv 0) aj)))
    (aq (dh (aY dD gn (aS au aT (qv 1) ai (fun _ _=>rfl)) cW (bb _))
    (aq (dh (aY dD gn (bM bD fB rfl T.fD PySem.boot_len (af (aS au aT (qv 0) ai (fun _ _=>rfl)) aj)) ai (bb _))
    (az (bJ cW))
    (bj))
    (aq (dh (aY nK (yT false) (aS au aT (qv 1) ai (fun _ _=>rfl)) (aS au aT (qv 0) ai (fun _ _=>rfl)) (by with_unfolding_all rfl))
    (az (bJ cW))
    (bj))
    (aq (dh (aY pI wg (bM bD fB rfl T.fD PySem.boot_len (af (aS au aT (qv 1) ai (fun _ _=>rfl)) aj)) (bM bD fB rfl T.fD PySem.boot_len (af (aS au aT (qv 0) ai (fun _ _=>rfl)) aj)) (bb _))
    (az (bJ cW))
    (bj))
    (aq (jD [0,1] PassesOwn.never rfl (tF rfl T.yn (af (aS au aT (qv 0) ai (fun _ _=>rfl)) (af (aS au aT (qv 1) ai (fun _ _=>rfl)) aj))) (p8 rfl (eO (i:=3) sc_Ldue.nd rfl (by first | exact Or.inl rfl | exact Or.inr rfl) (eO (i:=4) sc_Ldue.nd rfl (by first | exact Or.inl rfl | exact Or.inr rfl) mj)))
    (aq (j7 2 hu (f7 (af (qv 3) (af (aS au aT (qv 1) ai (fun _ _=>rfl)) aj))) (qv 4))
    (az (j7 2 hu (f7 (af (aS au aT (qv 1) ai (fun _ _=>rfl)) (af (qv 3) aj))) (qv 4)))))
    (az (bJ (bO C_Lmade (hr.mono (by decide)) rfl (af (aK aV cz (aS au aT (qv 0) ai (fun _ _=>rfl)) (f7 (af (aS au aT (qv 1) ai (fun _ _=>rfl)) aj))) (af (qv 2) aj)))))))))
    (bj))
    (aq (dh (aY dD gn (aS au aT (qv 1) ai (fun _ _=>rfl)) cW (bb _))
    (aq (dh (aY jX (yT true) (aS au aT (qv 1) ai (fun _ _=>rfl)) (aS au aT (qv 0) ai (fun _ _=>rfl)) (by with_unfolding_all rfl))
    (az (bJ cW))
    (bj))
    (aq (dh (aY dD gn (bM bD fB rfl T.fD PySem.boot_len (af (aS au aT (qv 0) ai (fun _ _=>rfl)) aj)) ai (bb _))
    (az (bJ cW))
    (bj))
    (az (bJ (bO C_Lmade (hr.mono (by decide)) rfl (af (ml (own := ["_law_place"]) (cap := [("_law_deed_here",1)]) (dJ _ rfl _ rfl (by kernel_rfl)) rfl (nW (aS au aT (qv 0) ai (fun _ _=>rfl))) ⟨fun _ _ _ _ _=>eV (i:=0) (show (["_law_place","_law_deed_here"]:List Str).Nodup by decide +kernel) rfl (by first | exact Or.inl rfl | exact Or.inr rfl),fun _ _ _ _ _=>mR (aY pI wg (qv 0) (aS au aT (qv 1) ai (fun _ _=>rfl)) (bb _)),fun _ _ _ _ _=>qv 0⟩) (af (qv 2) aj)))))))
    (bj))
    (aq (dh (aY Ek HB (bM bD fB rfl T.fD PySem.boot_len (af (ml (own := ["_law_place"]) (cap := [("_law_net_here",0)]) (dJ _ rfl _ rfl (by kernel_rfl)) rfl (nW (aS au aT (qv 1) ai (fun _ _=>rfl))) ⟨fun _ _ _ _ _=>eV (i:=0) (show (["_law_place","_law_net_here"]:List Str).Nodup by decide +kernel) rfl (by first | exact Or.inl rfl | exact Or.inr rfl),fun _ _ _ _ _=>mR (aY jX (yT true) (qv 0) (aS au aT (qv 1) ai (fun _ _=>rfl)) (by with_unfolding_all rfl)),fun _ _ _ _ _=>qv 0⟩) aj)) ai (bb _))
    (az (bJ cW))
    (bj))
    (aq (dh (L2.PW.pt (nR (aY dD gn (aS au aT (qv 1) ai (fun _ _=>rfl)) cW (bb _)) (lz (aY dD gn (bM bD fB rfl T.fD PySem.boot_len (af (aS au aT (qv 1) ai (fun _ _=>rfl)) aj)) ai (bb _)))))
    (az (bJ cW))
    (bj))
    (aq (dh (aY dD gn (aS au aT (qv 1) ai (fun _ _=>rfl)) cW (bb _))
    (az (bJ (bO C_Lmade (hr.mono (by decide)) rfl (af (ml (own := ["_law_place"]) (cap := [("_law_deed_here",1)]) (dJ _ rfl _ rfl (by kernel_rfl)) rfl (nW (aS au aT (qv 0) ai (fun _ _=>rfl))) ⟨fun _ _ _ _ _=>eV (i:=0) (show (["_law_place","_law_deed_here"]:List Str).Nodup by decide +kernel) rfl (by first | exact Or.inl rfl | exact Or.inr rfl),fun _ _ _ _ _=>mR (aY nK (yT false) (qv 0) (aS au aT (qv 1) ai (fun _ _=>rfl)) (by with_unfolding_all rfl)),fun _ _ _ _ _=>qv 0⟩) (af (qv 2) aj)))))
    (bj))
    (aq (dh (aY dD gn (aS au aT (aS au aT (qv 1) ai (fun _ _=>rfl)) ai (fun _ _=>rfl)) (aS au aT (aS au aT (qv 1) ai (fun _ _=>rfl)) ai (fun _ _=>rfl)) (bb _))
    (az (bJ cW))
    (bj))
    (aq (j7 2 hu (f7 (af (aS au aT (aS au aT (qv 1) ai (fun _ _=>rfl)) ai (fun _ _=>rfl)) (af (aS au aT (aS au aT (qv 1) ai (fun _ _=>rfl)) ai (fun _ _=>rfl)) aj))) (aS au aT (qv 1) ai (fun _ _=>rfl)))
    (aq (j7 2 hu (f7 (af (aS au aT (aS au aT (qv 1) ai (fun _ _=>rfl)) ai (fun _ _=>rfl)) (af (aS au aT (aS au aT (qv 1) ai (fun _ _=>rfl)) ai (fun _ _=>rfl)) aj))) (aS au aT (qv 1) ai (fun _ _=>rfl)))
    (az (bJ (bO C_Lmade (hr.mono (by decide)) rfl (af (aS au aT (qv 0) ai (fun _ _=>rfl)) (af (qv 2) aj)))))))))))))
abbrev s_Ldone:Stmt:=top 43
theorem sc_Ldone:a9 ["_law_net_here","_law_deed_here","_law_found","_law_e"] ["_law_net_here","_law_deed_here"] (aC s_Ldone):=⟨rfl,rfl,rfl,by decide +kernel,rfl,by decide +kernel,by decide +kernel⟩
def g_Ldone (ca:Str->Addr):SF:=aD (l5 (dP (eT (ah fG (ah aP (ae 1) (eC (.int 0))) (eC (.str "with")))) (bf 2 (dg (d7 ca) (aa (ae 0) (aa (ah aP (ae 1) (eC (.int 1))) (aa (ah aP (ae 1) (eC (.int 2))) ak))))) (dP (eT (ah fG (ah aP (ae 1) (eC (.int 0))) (eC (.str "without")))) (bf 2 (dg (dC ca) (aa (ae 0) (aa (ah aP (ae 1) (eC (.int 1))) ak)))) (dP (eT (ah fG (ah aP (ae 1) (eC (.int 0))) (eC (.str "part")))) (bf 2 (dg (jI ca) (aa (ae 0) (aa (ah aP (ae 1) (eC (.int 1))) ak)))) (bf 2 (dg (gC ca) (aa (ae 0) (aa (ah aP (ah aP (ae 1) (eC (.int 1))) (eC (.int 0))) (aa (ah aP (ah aP (ae 1) (eC (.int 1))) (eC (.int 1))) (aa (ah aP (ae 1) (eC (.int 2))) ak))))))))) (ug ca) (G_Lword ca)) (dM 2)
def G_Ldone (ca:Str->Addr):DF:=bZ 2 4 (g_Ldone ca)
theorem ok_Ldone (T:Txt K mg ca) (C_recoloured:kN P w K mg base 3 "recoloured" ["net","one","other","colour"] (tG K (gC ca))) (C_with_place:kN P w K mg base 3 "with_place" ["net","place","colours"] (tG K (d7 ca))) (C_without_place:kN P w K mg base 3 "without_place" ["net","place"] (tG K (dC ca))) (C_part_of:kN P w K mg base 3 "part_of" ["net","some"] (tG K (jI ca))) (C_Lword:AW P w K mg base 1 "_law_word" ["_law_e"] (fV K (G_Lword ca))) (F:dR K mg "_law_done" s_Ldone ["_law_net_here","_law_deed_here"]):ir P w K mg base 4 "_law_done" ["_law_net_here","_law_deed_here"] (fV K (G_Ldone ca)):=dH (k:=3) (n:=2) (m:=4) (g:=g_Ldone ca) F sc_Ldone rfl rfl fun f cdv A outer s H hr=>by
 have hu:=dU hr
 exact aq (Gg (i:=3) (fun pn W Y' hx =>
    (az (dh (aY dD gn (aS au aT (qv 1) ai (fun _ _=>rfl)) cW (bb _))
    (az (bL (i:=2) sc_Ldone.nd rfl (by first | exact Or.inl rfl | exact Or.inr rfl) (jr hx C_with_place (hr.mono (by decide)) rfl (af (qv 0) (af (aS au aT (qv 1) ai (fun _ _=>rfl)) (af (aS au aT (qv 1) ai (fun _ _=>rfl)) aj))))))
    (az (dh (aY dD gn (aS au aT (qv 1) ai (fun _ _=>rfl)) cW (bb _))
    (az (bL (i:=2) sc_Ldone.nd rfl (by first | exact Or.inl rfl | exact Or.inr rfl) (jr hx C_without_place (hr.mono (by decide)) rfl (af (qv 0) (af (aS au aT (qv 1) ai (fun _ _=>rfl)) aj)))))
    (az (dh (aY dD gn (aS au aT (qv 1) ai (fun _ _=>rfl)) cW (bb _))
    (az (bL (i:=2) sc_Ldone.nd rfl (by first | exact Or.inl rfl | exact Or.inr rfl) (jr hx C_part_of (hr.mono (by decide)) rfl (af (qv 0) (af (aS au aT (qv 1) ai (fun _ _=>rfl)) aj)))))
    (az (bL (i:=2) sc_Ldone.nd rfl (by first | exact Or.inl rfl | exact Or.inr rfl) (jr hx C_recoloured (hr.mono (by decide)) rfl (af (qv 0) (af (aS au aT (aS au aT (qv 1) ai (fun _ _=>rfl)) ai (fun _ _=>rfl)) (af (aS au aT (aS au aT (qv 1) ai (fun _ _=>rfl)) ai (fun _ _=>rfl)) (af (aS au aT (qv 1) ai (fun _ _=>rfl)) aj))))))))))))))
 T.wQ (hin T) C_Lword (Gj (hr.mono (by decide))) sc_Ldone.nd rfl rfl)
    (az (p5 2))
abbrev s_Ldrawn:Stmt:=top 44
theorem sc_Ldrawn:a9 ["_law_cell_here","_law_rest","_law_j","_law_number"] ["_law_cell_here","_law_rest","_law_j"] (aC s_Ldrawn):=⟨rfl,rfl,rfl,by decide +kernel,rfl,by decide +kernel,by decide +kernel⟩
def g_Ldrawn:SF:=aD (bf 3 (ah cM (ah bP (ah c8 (ae 0) (ah bP (eC (.int 1)) (ah cM (ae 2) (eC (.int 3))))) (ah pW (ae 2) (ae 1))) (ah nQ (eC (.int 10)) (eC (.int 30))))) (aD (dP (eT (ah fG (ah cM (ae 2) (eC (.int 2))) (eC (.int 0)))) (bE (ah cM (ah c8 (ae 3) (eC (.int 3))) (eC (.int 2)))) aR) (dM 3))
def G_Ldrawn:DF:=bZ 3 4 (g_Ldrawn)
theorem ok_Ldrawn (T:Txt K mg ca)  (F:dR K mg "_law_drawn" s_Ldrawn ["_law_cell_here","_law_rest","_law_j"]):ir P w K mg base 1 "_law_drawn" ["_law_cell_here","_law_rest","_law_j"] (fV K (G_Ldrawn)):=dH (k:=0) (n:=3) (m:=4) (g:=g_Ldrawn) F sc_Ldrawn rfl rfl fun f cdv A outer s H hr=>by
 have hu:=dU hr
 exact aq (bL (i:=3) sc_Ldrawn.nd rfl (by first | exact Or.inl rfl | exact Or.inr rfl) (aK bx bY (aK aV cz (aK bS cT (qv 0) (aK aV cz ai (aK bx bY (qv 2) ai))) (aK iD mL (qv 2) (qv 1))) (aK l8 pX ai ai)))
    (aq (dh (aY dD gn (aK bx bY (qv 2) ai) ai (bb _))
    (az (bJ (aK bx bY (aK bS cT (qv 3) ai) ai)))
    (bj))
    (az (p5 3)))
abbrev s_Ldeed:Stmt:=top 45
theorem sc_Ldeed:a9 ["_law_net_here","_law_cell_here","_law_k","_law_number","_law_rest","_law_place","_law_many_here","_law_some"] ["_law_net_here","_law_cell_here","_law_k"] (aC s_Ldeed):=⟨rfl,rfl,rfl,by decide +kernel,rfl,by decide +kernel,by decide +kernel⟩
def g_Ldeed_e1:SD->Res D:=aF G_Lpick (aa (ae 1) (aa (ah bP (ah c8 (ae 2) (ah bP (eC (.int 1)) (ah pW (eC (.int 7)) (ae 0)))) (ae 0)) ak))
def g_Ldeed_e2:SD->Res D:=aF G_Ldrawn (aa (ae 1) (aa (ae 2) (aa (ae 0) ak)))
def g_Ldeed:SF:=aD (bf 3 (ah cM (ah bP (ah pW (ae 1) (eC (.int 48271))) (ah pW (ae 2) (eC (.int 16807)))) (eC (.int 2147483647)))) (aD (bf 4 (ah c8 (ae 3) (eC (.int 12)))) (aD (dP (eT (ah FJ (ah cM (ae 3) (eC (.int 12))) (eC (.int 5)))) (aD (bf 5 (ah aP (eA eS (aa (ah cM (ae 4) (eC (.int 7))) (aa (ah cM (ae 1) (ah nQ (eC (.int 10)) (eC (.int 30)))) (aa (aF G_Lpick (aa (ae 0) (aa (ae 4) ak))) (aa (ah bP (ah aP (ah aP (ae 0) (eC (.int 0))) (ah cM (ae 4) (eA cG (aa (ah aP (ae 0) (eC (.int 0))) ak)))) (eC (.int 1))) ak))))) (ah cM (ah c8 (ae 4) (eC (.int 5))) (eC (.int 4))))) (aD (bf 6 (ah bP (eA cG (aa (ah aP (ae 0) (eC (.int 0))) ak)) (ah aP (eA eS (aa (eC (.int 0)) (aa (eC (.int 0)) (aa (eC (.int 0)) (aa (eC (.int 1)) (aa (eC (.int 0)) (aa (eC (.int 0)) (aa (fH jn (eC (.int 1))) (aa (eC (.int 0)) (aa (eC (.int 0)) ak)))))))))) (ah cM (ah c8 (ae 4) (eC (.int 20))) (eC (.int 9)))))) (bE (eA cO (aa (eC (.str "with")) (aa (ae 5) (aa (bR (bo (aa (ae 6) ak)) (gN 0) dG g_Ldeed_e2 1 [("_law_cell_here",1),("_law_rest",4)]) ak))))))) aR) (aD (dP (eT (ah FJ (ah cM (ae 3) (eC (.int 12))) (eC (.int 7)))) (bE (eA cO (aa (eC (.str "without")) (aa (aF G_Lpick (aa (ae 0) (aa (ae 4) ak))) ak)))) aR) (aD (bf 7 (bR (bo (aa (ah cM (ae 4) (eC (.int 6))) ak)) (gN 0) dG g_Ldeed_e1 1 [("_law_net_here",0),("_law_rest",4)])) (aD (dP (eT (ah FJ (ah cM (ae 3) (eC (.int 12))) (eC (.int 9)))) (bE (eA cO (aa (eC (.str "part")) (aa (ae 7) ak)))) aR) (bE (eA cO (aa (eC (.str "colour")) (aa (eA eS (aa (aF G_Lpick (aa (ae 0) (aa (ae 4) ak))) (aa (aF G_Lpick (aa (ae 0) (aa (ah c8 (ae 4) (eC (.int 31))) ak))) ak))) (aa (ah cM (ae 1) (ah nQ (eC (.int 10)) (eC (.int 30)))) ak))))))))))
def G_Ldeed:DF:=bZ 3 8 (g_Ldeed)
theorem ok_Ldeed (T:Txt K mg ca) (C_Lpick:ir P w K mg base 1 "_law_pick" ["_law_net_here","_law_number"] (fV K G_Lpick)) (C_Ldrawn:ir P w K mg base 1 "_law_drawn" ["_law_cell_here","_law_rest","_law_j"] (fV K G_Ldrawn)) (F:dR K mg "_law_deed" s_Ldeed ["_law_net_here","_law_cell_here","_law_k"]):ir P w K mg base 2 "_law_deed" ["_law_net_here","_law_cell_here","_law_k"] (fV K (G_Ldeed)):=dH (k:=1) (n:=3) (m:=8) (g:=g_Ldeed) F sc_Ldeed rfl rfl fun f cdv A outer s H hr=>by
 have hu:=dU hr
 exact aq (bL (i:=3) sc_Ldeed.nd rfl (by first | exact Or.inl rfl | exact Or.inr rfl) (aK bx bY (aK aV cz (aK iD mL (qv 1) ai) (aK iD mL (qv 2) ai)) ai))
    (aq (bL (i:=4) sc_Ldeed.nd rfl (by first | exact Or.inl rfl | exact Or.inr rfl) (aK bS cT (qv 3) ai))
    (aq (dh (aY uh Az (aK bx bY (qv 3) ai) ai (bb _))
    (aq (bL (i:=5) sc_Ldeed.nd rfl (by first | exact Or.inl rfl | exact Or.inr rfl) (aS au aT (kG (af (aK bx bY (qv 4) ai) (af (aK bx bY (qv 1) (aK l8 pX ai ai)) (af (bO C_Lpick (hr.mono (by decide)) rfl (af (qv 0) (af (qv 4) aj))) (af (aK aV cz (aS au aT (aS au aT (qv 0) ai (fun _ _=>rfl)) (aK bx bY (qv 4) (bM bD fB rfl T.fD PySem.boot_len (af (aS au aT (qv 0) ai (fun _ _=>rfl)) aj))) (fun _ _=>rfl)) ai) aj))))) (aK bx bY (aK bS cT (qv 4) ai) ai) (fun _ _=>rfl)))
    (aq (bL (i:=6) sc_Ldeed.nd rfl (by first | exact Or.inl rfl | exact Or.inr rfl) (aK aV cz (bM bD fB rfl T.fD PySem.boot_len (af (aS au aT (qv 0) ai (fun _ _=>rfl)) aj)) (aS au aT (kG (af ai (af ai (af ai (af ai (af ai (af ai (af (Ew ai) (af ai (af ai aj)))))))))) (aK bx bY (aK bS cT (qv 4) ai) ai) (fun _ _=>rfl))))
    (az (bJ (f7 (af cW (af (qv 5) (af (ml (own := ["_law_j"]) (cap := [("_law_cell_here",1),("_law_rest",4)]) (dJ _ rfl _ rfl (by kernel_rfl)) rfl (eG rfl T.gD (af (qv 6) aj)) ⟨fun _ _ _ _ _=>eV (i:=0) (show (["_law_j","_law_cell_here","_law_rest"]:List Str).Nodup by decide +kernel) rfl (by first | exact Or.inl rfl | exact Or.inr rfl),fun _ _ _ _ _=>lF,fun _ _ _ _ _=>bO C_Ldrawn (hr.mono (by decide)) rfl (af (qv 1) (af (qv 2) (af (qv 0) aj)))⟩) aj))))))))
    (bj))
    (aq (dh (aY uh Az (aK bx bY (qv 3) ai) ai (bb _))
    (az (bJ (f7 (af cW (af (bO C_Lpick (hr.mono (by decide)) rfl (af (qv 0) (af (qv 4) aj))) aj)))))
    (bj))
    (aq (nY (i:=7) sc_Ldeed.nd rfl (by first | exact Or.inl rfl | exact Or.inr rfl) (own := ["_law_j"]) (cap := [("_law_net_here",0),("_law_rest",4)]) (dJ _ rfl _ rfl (by kernel_rfl)) rfl (eG rfl T.gD (af (aK bx bY (qv 4) ai) aj)) ⟨fun _ _ _ _ _=>eV (i:=0) (show (["_law_j","_law_net_here","_law_rest"]:List Str).Nodup by decide +kernel) rfl (by first | exact Or.inl rfl | exact Or.inr rfl),fun _ _ _ _ _=>lF,fun _ _ _ _ _=>bO C_Lpick (hr.mono (by decide)) rfl (af (qv 1) (af (aK aV cz (aK bS cT (qv 2) (aK aV cz ai (aK iD mL ai (qv 0)))) (qv 0)) aj))⟩)
    (aq (dh (aY uh Az (aK bx bY (qv 3) ai) ai (bb _))
    (az (bJ (f7 (af cW (af (qv 7) aj)))))
    (bj))
    (az (bJ (f7 (af cW (af (kG (af (bO C_Lpick (hr.mono (by decide)) rfl (af (qv 0) (af (qv 4) aj))) (af (bO C_Lpick (hr.mono (by decide)) rfl (af (qv 0) (af (aK bS cT (qv 4) ai) aj))) aj))) (af (aK bx bY (qv 1) (aK l8 pX ai ai)) aj)))))))))))
abbrev mZ:Stmt:=top 46
theorem gO:a9 ["_law_script","_law_net_here","_law_cells","_law_k","_law_cell_here","_law_deed_here","_law_due_here","_law_again","_law_handed"] ["_law_script"] (aC mZ):=⟨rfl,rfl,rfl,by decide +kernel,rfl,by decide +kernel,by decide +kernel⟩
def m9 (ca:Str->Addr):SF:=aD (bf 8 (ah k7 (ah bP (dS (ae 5) lA (eP (eC (.int 1)))) (eA cO (aa (ah aP (ae 5) (eC (.int 1))) ak))) (dS (ae 5) (eP (eC (.int 2))) lA))) (aD (dP (eT (ah fG (ah aP (ae 5) (eC (.int 0))) (eC (.str "with")))) (bf 8 (eA cO (aa (eC (.str "with")) (aa (ah aP (ae 5) (eC (.int 1))) (aa (eA dj (aa (ah aP (ae 5) (eC (.int 2))) ak)) ak))))) aR) (aD (dP (ph (eT (ah fG (ah aP (ae 5) (eC (.int 0))) (eC (.str "part")))) (eT (ah fG (ah aP (ae 5) (eC (.int 0))) (eC (.str "colour"))))) (bf 8 (ah k7 (eA cO (aa (ah aP (ae 5) (eC (.int 0))) (aa (eA dj (aa (ah aP (ae 5) (eC (.int 1))) ak)) ak))) (dS (ae 5) (eP (eC (.int 2))) lA))) aR) (dP (ph (gm (eT (aF (G_Llike 4) (aa (aF (G_Ldone ca) (aa (ae 1) (aa (ae 8) ak))) (aa (ae 6) ak))))) (gm (eT (aF (G_Llike 4) (aa (ae 8) (aa (ae 5) ak)))))) (bE (eC (.bl false))) aR)))
def jK (ca:Str->Addr):SF:=aD (bf 5 (aF G_Ldeed (aa (ae 1) (aa (ae 4) (aa (ae 3) ak))))) (aD (jB [5] (bf 6 (aF G_Ldue (aa (ae 1) (aa (ae 5) ak))))) (aD (cZ [] (bo (aa (eC (.int 2)) ak)) (gN 7) ((m9 ca))) (dP (gm (eT (fH (cX qH) (ae 6)))) (bf 1 (ae 6)) aR)))
def Be (ca:Str->Addr):SF:=aD (bf 1 (aF G_Lnet (aa (ae 0) (aa (eC (.int 1)) (aa (aF G_Lmany (aa (aF G_Lcell (aa (ae 0) (aa (eC (.int 0)) ak))) ak)) ak))))) (aD (bf 2 (dS (ae 0) (eP (eC (.int 40))) (eP (eC (.int 52))))) (aD (dP (eT (ah fG (eA cG (aa (ae 2) ak)) (eC (.int 0)))) (bf 2 (dS (ae 0) lA (eP (eC (.int 12))))) aR) (aD (cZ [2] (dm (aa (ae 2) ak)) (gT 2 (aM 3 (aM 4 cB))) ((jK ca))) (bE (eC (.bl true))))))
def vd (ca:Str->Addr):DF:=bZ 1 9 (Be ca)
theorem Gu {f:Addr}{fd:FuncData} (T:Txt K mg ca) (C_Lcell:ir P w K mg base 1 "_law_cell" ["_law_script","_law_k"] (fV K G_Lcell)) (C_Llike:ir P w K mg base 5 "_law_like" ["_law_found","_law_due_here"] (fV K (G_Llike 4))) (C_Lmany:ir P w K mg base 1 "_law_many" ["_law_cell_here"] (fV K G_Lmany)) (C_Lnet:ir P w K mg base 4 "_law_net" ["_law_script","_law_at","_law_many_here"] (fV K G_Lnet)) (C_Ldue:ir P w K mg base 2 "_law_due" ["_law_net_here","_law_deed_here"] (fV K G_Ldue)) (C_Ldone:ir P w K mg base 4 "_law_done" ["_law_net_here","_law_deed_here"] (fV K (G_Ldone ca))) (C_Ldeed:ir P w K mg base 2 "_law_deed" ["_law_net_here","_law_cell_here","_law_k"] (fV K G_Ldeed)) (F:C7 K "law" "law" mZ f fd):nG P w K mg base vQ 6 f fd ["_law_script"] (fV K (vd ca)):=AO (k:=5) (n:=1) (m:=9) (g:=Be ca) F gO rfl rfl fun f cdv A outer s H hr=>by
 have hu:=dU hr
 exact aq (bL (i:=1) gO.nd rfl (by first | exact Or.inl rfl | exact Or.inr rfl) (bO C_Lnet (hr.mono (by decide)) rfl (af (qv 0) (af ai (af (bO C_Lmany (hr.mono (by decide)) rfl (af (bO C_Lcell (hr.mono (by decide)) rfl (af (qv 0) (af ai aj))) aj)) aj)))))
    (aq (bL (i:=2) gO.nd rfl (by first | exact Or.inl rfl | exact Or.inr rfl) (lB (qv 0) (j2 ai) (j2 ai)))
    (aq (dh (aY dD gn (bM bD fB rfl T.fD PySem.boot_len (af (qv 2) aj)) ai (bb _))
    (az (bL (i:=2) gO.nd rfl (by first | exact Or.inl rfl | exact Or.inr rfl) (lB (qv 0) mO (j2 ai))))
    (bj))
    (aq (jD [2] PassesOwn.never rfl (tq rfl T.k9 (af (qv 2) aj)) (p8 rfl (eO (i:=3) gO.nd rfl (by first | exact Or.inl rfl | exact Or.inr rfl) (eO (i:=4) gO.nd rfl (by first | exact Or.inl rfl | exact Or.inr rfl) mj)))
    (aq (bL (i:=5) gO.nd rfl (by first | exact Or.inl rfl | exact Or.inr rfl) (bO C_Ldeed (hr.mono (by decide)) rfl (af (qv 1) (af (qv 4) (af (qv 3) aj)))))
    (aq (HJ [5] (bL (i:=6) gO.nd rfl (by first | exact Or.inl rfl | exact Or.inr rfl) (bO C_Ldue (hr.mono (by decide)) rfl (af (qv 1) (af (qv 5) aj)))))
    (aq (jD [] PassesOwn.never rfl (eG rfl T.gD (af ai aj)) (eV (i:=7) gO.nd rfl (by first | exact Or.inl rfl | exact Or.inr rfl))
    (aq (bL (i:=8) gO.nd rfl (by first | exact Or.inl rfl | exact Or.inr rfl) (aK sU Bb (aK aV cz (lB (qv 5) mO (j2 ai)) (f7 (af (aS au aT (qv 5) ai (fun _ _=>rfl)) aj))) (lB (qv 5) (j2 ai) mO)))
    (aq (dh (aY dD gn (aS au aT (qv 5) ai (fun _ _=>rfl)) cW (bb _))
    (az (bL (i:=8) gO.nd rfl (by first | exact Or.inl rfl | exact Or.inr rfl) (f7 (af cW (af (aS au aT (qv 5) ai (fun _ _=>rfl)) (af (eu jY wj rfl T.qp (by decide +kernel) (af (aS au aT (qv 5) ai (fun _ _=>rfl)) aj)) aj))))))
    (bj))
    (aq (dh (L2.PW.pt (xY (aY dD gn (aS au aT (qv 5) ai (fun _ _=>rfl)) cW (bb _)) (wk (aY dD gn (aS au aT (qv 5) ai (fun _ _=>rfl)) cW (bb _)))))
    (az (bL (i:=8) gO.nd rfl (by first | exact Or.inl rfl | exact Or.inr rfl) (aK sU Bb (f7 (af (aS au aT (qv 5) ai (fun _ _=>rfl)) (af (eu jY wj rfl T.qp (by decide +kernel) (af (aS au aT (qv 5) ai (fun _ _=>rfl)) aj)) aj))) (lB (qv 5) (j2 ai) mO))))
    (bj))
    (az (dh (L2.PW.pt (xY (mi (gj (bO C_Llike (hr.mono (by decide)) rfl (af (bO C_Ldone (hr.mono (by decide)) rfl (af (qv 1) (af (qv 8) aj))) (af (qv 6) aj))))) (wk (mi (gj (bO C_Llike (hr.mono (by decide)) rfl (af (qv 8) (af (qv 5) aj))))))))
    (az (bJ we))
    (bj)))))))
    (az (dh (mi (gj (iu (ty := .Name "str" ⟨0,0,0,0⟩) p9 rfl T.aO (qv 6) rfl T.Bc (by decide +kernel))))
    (az (bL (i:=1) gO.nd rfl (by first | exact Or.inl rfl | exact Or.inr rfl) (qv 6)))
    (bj)))))))
    (az (bJ we)))))
end
end KL
namespace M
def cell (ns:List Int) (k:Int):Int:=ns.getD k.toNat 0
def many (c:Int):Int:=if c / 9 % 8=1 then 1 + c / 72 % 24 else 1 + c % 9
theorem vo (c:Int):1 <= many c/\many c <= 24:=by
 unfold many
 split <;> omega
def wU (i j:Int):Int:=if j > i then j else i
def mix (ns:List Int) (at_ k:Int):Int:=(cell ns (at_ + k % wU 1 ((ns.length:Int) - at_)) * 48271 + k * 16807 + 11) % 2147483647
theorem Bg (ns:List Int) (a k:Int):0 <= mix ns a k:=Int.emod_nonneg _ (by decide)
def JD (big:Int) (ns:List Int) (a:Int):Int:=if cell ns a % 2=1 then cell ns a / 2 % big else cell ns a / 2 % 4
def gap (ns:List Int) (a:Int):Int:=([1,3,100000000000000000000000000000]:List Int).getD (cell ns (a + 1) % 3).toNat 0
def place (big:Int) (ns:List Int) (a:Int):Nat->Int
 | 0=>JD big ns a
 | k + 1=>place big ns a k + 1 + cell ns (a + 1) / ((k:Int) + 1) % gap ns a
theorem wV (big:Int) (ns:List Int) (a:Int):place big ns a 0=if cell ns a % 2=1 then cell ns a / 2 % big else cell ns a / 2 % 4:=rfl
def places (big:Int) (ns:List Int) (a:Int) (n:Nat):List Int:=(List.range n).map (place big ns a)
theorem yo (ns:List Int) (a:Int):0 < gap ns a:=by
 unfold gap
 have h1:0 <= cell ns (a + 1) % 3:=Int.emod_nonneg _ (by decide)
 have h2:cell ns (a + 1) % 3 < 3:=Int.emod_lt_of_pos _ (by decide)
 have h:cell ns (a + 1) % 3=0 ∨ cell ns (a + 1) % 3=1 ∨ cell ns (a + 1) % 3=2:=by omega
 rcases h with h | h | h <;> rw [h] <;> decide
theorem place_lt {big:Int} (ns:List Int) (a:Int) (k:Nat):place big ns a k < place big ns a (k + 1):=by
 show place big ns a k < place big ns a k + 1 + cell ns (a + 1) / ((k:Int) + 1) % gap ns a
 have h:0 <= cell ns (a + 1) / ((k:Int) + 1) % gap ns a:=Int.emod_nonneg _ (by have:=yo ns a; omega)
 omega
theorem qq {big:Int} (ns:List Int) (a:Int):∀ {j k:Nat},j < k->place big ns a j < place big ns a k
 | j,k + 1,h=>by
  have h2:=place_lt (big:=big) ns a k
  by_cases e:j=k
  ·subst e
   exact h2
  ·exact Int.lt_trans (qq ns a (by omega)) h2
theorem places_len (big:Int) (ns:List Int) (a:Int) (n:Nat):(places big ns a n).length=n:=by simp [places]
end M
namespace N2
def keyOf (o t:Int):Int × Int:=if o > t then (o,t) else (t,o)
theorem iW (o t:Int):keyOf o t=keyOf t o:=by
 unfold keyOf
 by_cases h:o > t
 ·rw [if_pos h,if_neg (by omega)]
 ·by_cases h2:t > o
  ·rw [if_neg h,if_pos h2]
  ·have e:o=t:=by omega
   rw [e]
abbrev gg:=Int × Int × Int
def cQ (t:gg):Int × Int:=keyOf t.1 t.2.1
def col (ts:List gg) (k:Int × Int):Int:=((ts.find? fun t=>decide (cQ t=k)).map (·.2.2)).getD 0
def rowsOf (ps:List Int) (ts:List gg):List (List Int):=(List.range ps.length).map fun i=>(ps.take i).map fun q=>col ts (keyOf (ps.getD i 0) q)
structure Dr where
 pl:Nat->Int
 sh:Nat->Nat->Int
 dr:Nat->Nat->Int
 mono:∀ {j k:Nat},j < k->pl j < pl k
 nn:∀ k j:Nat,0 <= sh k j
def places (d:Dr) (n:Nat):List Int:=(List.range n).map d.pl
def rows (d:Dr) (n:Nat):List (List Int):=(List.range n).map fun k=>(List.range k).map fun j=>d.sh k j
theorem places_len (d:Dr) (n:Nat):(places d n).length=n:=by simp [places]
theorem q9 (d:Dr) (n:Nat):(places d n).Pairwise (· < ·):=by
 unfold places
 rw [List.pairwise_map]
 exact List.pairwise_lt_range.imp fun h=>d.mono h
theorem ow:∀ {l l':List Int},l.Perm l'->l.Pairwise (· <= ·)->l'.Pairwise (· < ·)->l=l'
 | [],l',hp,_,_=>(List.Perm.nil_eq hp)
 | x :: r,l',hp,h1,h2=>by
  match l',hp,h2 with
  | [],hp,_=>exact absurd hp.length_eq (by simp)
  | y :: r',hp,h2 =>
   obtain ⟨a1,a2⟩:=List.pairwise_cons.mp h1
   obtain ⟨b1,b2⟩:=List.pairwise_cons.mp h2
   have e:x=y:=by
    have m1:x ∈ y :: r' := hp.mem_iff.mp List.mem_cons_self
    have m2:y ∈ x :: r:=hp.mem_iff.mpr List.mem_cons_self
    rcases List.mem_cons.mp m1 with q | q
    ·exact q
    ·rcases List.mem_cons.mp m2 with q' | q'
     ·exact q'.symm
     ·have:=b1 x q
      have:=a1 y q'
      omega
   subst e
   rw [ow ((List.perm_cons _).mp hp) a2 b2]
end N2
namespace KL
open DL XF
theorem mul_r {i j:Int} (h : -(2 ^ 64) < j/\j < 2 ^ 64):kF i j := .inl (.inr h)
theorem Bs {i j:Int} (h : -(2 ^ 64) < i/\i < 2 ^ 64):kF i j := .inl (.inl h)
def big:Int:=10 ^ 30
theorem ni:0 < big:=by decide
theorem HZ:nQ (.int 10) (.int 30)=.ok (.int big):=by rfl
theorem Bm (τ:SD):ah nQ (eC (.int 10)) (eC (.int 30)) τ=.ok (.int big):=by
 simp only [ah,eC,Res.aQ,HZ]
def iw (ps:List Int) (rows:List (List Int)):D := .tup [.tup (ps.map .int),.tup (rows.map fun r=>.tup (r.map .int))]
theorem iR (rows:List (List Int)):bc (rows.map fun r=>D.tup (r.map .int))=true:=dF fun d m=>by obtain ⟨r,_,rfl⟩:=List.mem_map.mp m; exact ao r
theorem cP (ps:List Int) (rows:List (List Int)):(iw ps rows).pure=true:=by
 simp [iw,D.pure,bc,ao,iR]
theorem d8 {f:SD->Res D}{τ:SD}{a b:Int} (h:f τ=.ok (.int a)) (hb:0 < b):ah cM f (eC (.int b)) τ=.ok (.int (a % b)):=by
 rw [ba h (show eC (.int b) τ=.ok (.int b) from rfl)]
 simp [pe,hb]
theorem gG {f:SD->Res D}{τ:SD}{a b:Int} (h:f τ=.ok (.int a)) (hb:0 < b/\b < 1073741824):ah c8 f (eC (.int b)) τ=.ok (.int (a / b)):=by
 rw [ba h (show eC (.int b) τ=.ok (.int b) from rfl)]
 simp [pe,L2.jb,hb]
theorem gF {f g:SD->Res D}{τ:SD}{a b:Int} (h:f τ=.ok (.int a)) (h2:g τ=.ok (.int b)):eT (ah fG f g) τ=.ok (decide (a=b)):=by
 unfold eT
 rw [ba h h2]
 show Res.ok (xor false (decide (a=b)))=_
 rw [Bool.false_xor]
theorem oB {f g:SD->Res D}{τ:SD}{a b:Int} (h:f τ=.ok (.int a)) (h2:g τ=.ok (.int b)):eT (ah nS f g) τ=.ok (!decide (a=b)):=by
 unfold eT
 rw [ba h h2]
 show Res.ok (xor true (decide (a=b)))=_
 rw [Bool.true_xor]
theorem Bo {f g:SD->Res D}{τ:SD}{a b:Int} (h:f τ=.ok (.int a)) (h2:g τ=.ok (.int b)):eT (ah HC f g) τ=.ok (decide (b < a)):=by
 unfold eT
 rw [ba h h2]
 rfl
theorem tS {f g:SD->Res D}{τ:SD}{a b:Int} (h:f τ=.ok (.int a)) (h2:g τ=.ok (.int b)):eT (ah FJ f g) τ=.ok (decide (a < b)):=by
 unfold eT
 rw [ba h h2]
 rfl
theorem zA {i:Nat}{τ:SD}{d:D} (h:τ[i]?=some (some d)) (hp:d.pure=true):dM i τ=.rt d:=by
 unfold dM
 rw [h]
theorem qr {f g:SD->Res Bool}{τ:SD}{a b:Bool} (h:f τ=.ok a) (h2:g τ=.ok b):ph f g τ=.ok (a || b):=by
 unfold ph
 rw [h]
 cases a
 ·exact h2
 ·rfl
theorem cK {n N:Nat}{g:SF}{ds:List D}{τ:SD}{d:D} (hl:ds.length=n) (ht:ds.map some ++ List.replicate (N - n) none=τ) (h:g τ=.rt d):bZ n N g ds=.ok d:=by
 unfold bZ
 rw [if_pos hl,ht,h]
 rfl
theorem cj {f g:SD->Res D}{τ:SD}{x y:D}{r:Res D} (h1:f τ=.ok x) (h2:g τ=.ok y) (h3:aP x y=r):ah aP f g τ=r:=(ba h1 h2).trans h3
theorem jm {xs:List D}{i:Int}{j:Nat}{d:D} (hi:i=j) (h:xs[j]?=some d):aP (.tup xs) (.int i)=.ok d:=by
 simp [aP,AR hi h]
theorem iX {t:Tg}{xs:List D}{i:Int}{j:Nat}{d:D} (hi:i=j) (h:xs[j]?=some d):aP (.lst t xs) (.int i)=.ok d:=by
 simp [aP,AR hi h]
theorem tR {i:Nat}{f:SD->Res D}{τ:SD}{xs:List D}{d:D} (h1:τ[i]?=some (some (.lst .own xs))) (h2:f τ=.ok d) (hp:d.aE=false) (hl:xs.length < 16777216):iG i f τ=.nx (τ.set i (some (.lst .own (xs ++ [d])))):=by
 unfold iG
 have e:jc τ i=some xs:=by unfold jc; rw [h1]
 rw [e]
 simp [h2,hp,hl]
theorem lg {f:SD->Res D}{τ:SD}{t:Tg}{xs:List D} (h:f τ=.ok (.lst t xs)):eA cG (aa f ak) τ=.ok (.int xs.length):=by
 rw [bV (bw h)]
 rfl
theorem Bj {n N:Nat}{g:SF}{ds:List D}{τ t:SD} (hl:ds.length=n) (ht:ds.map some ++ List.replicate (N - n) none=τ) (h:g τ=.nx t):bZ n N g ds=.ok .cY:=by
 unfold bZ
 rw [if_pos hl,ht,h]
 rfl
theorem nh {f:SD->Res D}{τ:SD}{b:Bool} (h:f τ=.ok (.bl b)):eT f τ=.ok b:=by
 unfold eT
 rw [h]
 rfl
theorem nc {c:SD->Res Bool}{a b:SF}{τ:SD} (h:c τ=.ok false):dP c a b τ=b τ:=by rw [Ey h]; rfl
theorem oz {c:SD->Res Bool}{a b:SF}{τ:SD} (h:c τ=.ok true):dP c a b τ=a τ:=by rw [Ey h]; rfl
theorem jj {f:SD->Res D}{τ:SD}{d:D} (h:f τ=.ok d):dW f τ=.nx τ:=by
 unfold dW
 rw [h]
 rfl
theorem Br {f g:SD->Res Bool}{τ:SD} (h:f τ=.ok false):gM f g τ=.ok false:=by unfold gM; rw [h]; rfl
theorem Bk {f g:SD->Res Bool}{τ:SD}{b:Bool} (h:f τ=.ok true) (h2:g τ=.ok b):gM f g τ=.ok b:=by unfold gM; rw [h,Res.aQ,if_pos rfl,h2]
theorem oA {f:SD->Res Bool}{τ:SD}{b:Bool} (h:f τ=.ok b):gm f τ=.ok (!b):=by unfold gm; rw [h]; rfl
theorem fP {c:SD->Res Bool}{a b s:SF}{τ:SD}{d:D} (h:c τ=.ok true) (h2:a τ=.rt d):aD (dP c a b) s τ=.rt d:=by
 unfold aD
 rw [oz h,h2]
 rfl
theorem br {c:SD->Res Bool}{a s:SF}{τ:SD} (h:c τ=.ok false):aD (dP c a aR) s τ=s τ:=by
 refine aJ ?_
 rw [nc h]
 rfl
theorem wW {f g:SD->Res D}{τ:SD} (h:f τ=.ok (.bl true)):iU f g τ=g τ:=by unfold iU; rw [h]; rfl
theorem wX {G:DF}{fs:SD->Res (List D)}{τ:SD}{ds:List D} (ha:fs τ=.ok ds) (hp:bc ds=true):dg G fs τ=G ds:=by
 unfold dg
 rw [ha]
 show rS G ds=_
 unfold rS
 rw [bu _ hp,if_neg Bool.false_ne_true,cR _ hp]
theorem nj {f:SD->Res D}{τ:SD}{C:PySem.Addr} (h:f τ=.d9 C):dW f τ=.ex C τ:=by
 unfold dW
 rw [h]
 rfl
theorem Gw {i:Nat}{f:SD->Res D}{τ:SD}{C:PySem.Addr} (h:f τ=.d9 C):bf i f τ=.ex C τ:=by
 unfold bf
 rw [h]
 rfl
theorem lN {a b:SF}{τ t:SD}{C:PySem.Addr} (h:a τ=.ex C t):aD a b τ=.ex C t:=by
 unfold aD
 rw [h]
 rfl
theorem Gx {a b:SF}{τ:SD}{d:D} (h:a τ=.rt d):aD a b τ=.rt d:=by
 unfold aD
 rw [h]
 rfl
theorem iy {n N:Nat}{g:SF}{ds:List D}{τ t:SD}{C:PySem.Addr} (hl:ds.length=n) (ht:ds.map some ++ List.replicate (N - n) none=τ) (h:g τ=.ex C t):bZ n N g ds=.d9 C:=by
 unfold bZ
 rw [if_pos hl,ht,h]
 rfl
theorem Gz {g:SF}{p:PySem.Addr->Bool}{G:DF}{τ t:SD}{C:PySem.Addr}{d:D} (h:g τ=.ex C t) (hc:p C=true) (hG:G [.exc C]=.ok d):l5 g p G τ=.rt d:=by
 unfold l5
 rw [h]
 show (if p C=true then (match G [.exc C] with | .ok d=>Fl.rt d | _=>.bad) else .bad)=_
 rw [if_pos hc,hG]
theorem Gv {g:SF}{p:PySem.Addr->Bool}{G:DF}{τ t:SD} (h:g τ=.nx t):l5 g p G τ=.nx t:=by
 unfold l5
 rw [h]
def Apart (ca:PySem.Str->PySem.Addr) (NM:List PySem.Str):Prop := ∀ x y,x ∈ NM->y ∈ NM->ca x=ca y->x=y
theorem fY {f g:SD->Res D}{τ:SD}{a b:Int} (h:f τ=.ok (.int a)) (h2:g τ=.ok (.int b)):ah bP f g τ=.ok (.int (a + b)):=by rw [ba h h2]; rfl
theorem DN (xs:List Int) (a b:Option Int):DL.cut (xs.map D.int) a b=(DL.cut xs a b).map D.int:=by
 unfold DL.cut
 simp [List.map_drop,List.map_take]
theorem tT {i j:Int} (h:0 < j):cM (.int i) (.int j)=.ok (.int (i % j)):=by
 show (if (0:Int) < j then _ else _)=_
 exact if_pos h
theorem yp (i:Int):cM (.int i) (.int big)=.ok (.int (i % big)):=tT ni
theorem eq_self (i:Int):fG (.int i) (.int i)=.ok (.bl true):=by
 show Res.ok (D.bl (xor false (decide (i=i))))=_
 rw [decide_eq_true rfl]
 rfl
theorem pB (o t:Int):gB [.int o,.int t]=.ok (.tup [.int (N2.keyOf o t).1,.int (N2.keyOf o t).2]):=by
 unfold N2.keyOf
 refine cK rfl rfl (dw ?_ rfl)
 unfold tm
 rw [Bo (a:=o) (b:=t) rfl rfl]
 by_cases h:o > t
 ·rw [decide_eq_true h,if_pos h]; rfl
 ·rw [decide_eq_false h,if_neg h]; rfl
theorem Bq (n:Nat) (i:Int):G_Llike (n + 1) [.int i,.int i]=.ok (.bl true):=by
 refine cK (τ := [some (.int i),some (.int i),none]) rfl rfl ?_
 unfold g_Llike
 rw [br rfl,br rfl]
 refine fP rfl (dw ?_ rfl)
 rw [wW rfl,wW rfl,ba (x := .int i) (y := .int i) rfl rfl]
 exact eq_self i
theorem vt (n:Nat) (s:PySem.Str):G_Llike (n + 1) [.str s,.str s]=.ok (.bl true):=by
 refine cK (τ := [some (.str s),some (.str s),none]) rfl rfl ?_
 unfold g_Llike
 rw [br rfl,br rfl,br rfl]
 refine fP rfl (dw ?_ rfl)
 rw [wW rfl,ba (x := .str s) (y := .str s) rfl rfl]
 have e:(s == s)=true:=beq_self_eq_true s
 first
  | (show Res.ok (D.bl (xor false (decide (s=s))))=_; rw [decide_eq_true rfl]; rfl)
  | (show Res.ok (D.bl (xor false (s == s)))=_; rw [e]; rfl)
  | simp [fG,du,sZ]
abbrev S (ns:List Int):D := .lst .aG (ns.map D.int)
theorem cell_out {ns:List Int}{k:Int} (h1:¬ k < ns.length):M.cell ns k=0:=by
 unfold M.cell
 rw [List.getD_eq_getElem?_getD,List.getElem?_eq_none (by omega)]
 rfl
theorem yq {ns:List Int}{i:Nat} (h:i < ns.length):(ns.map D.int)[i]?=some (.int (ns.getD i 0)):=by
 rw [List.getElem?_map,List.getElem?_eq_getElem h,List.getD_eq_getElem?_getD,List.getElem?_eq_getElem h]; rfl
theorem nk (ns:List Int) {k:Int} (h:0 <= k):G_Lcell [S ns,.int k]=.ok (.int (M.cell ns k)):=by
 refine cK (τ := [some (S ns),some (.int k)]) rfl rfl ?_
 have v0:ae 0 [some (S ns),some (.int k)]=.ok (S ns):=dI rfl (ao ns)
 have l0:=lg v0
 rw [List.length_map] at l0
 have t:=tS (f:=ae 1) (a:=k) rfl l0
 unfold g_Lcell
 by_cases h1:k < ns.length
 ·rw [decide_eq_true h1] at t
  exact fP t (dw (cj v0 (y := .int k) rfl (iX (j:=k.toNat) (by omega) (yq (by omega)))) rfl)
 ·rw [decide_eq_false h1] at t
  rw [br t,cell_out h1]
  rfl
theorem DO (c:Int):G_Lmany [.int c]=.ok (.int (M.many c)):=by
 refine cK (τ := [some (.int c)]) rfl rfl ?_
 have t:=gF (τ := [some (.int c)]) (d8 (gG (f:=ae 0) (a:=c) rfl (by decide:(0:Int) < 9/\(9:Int) < 1073741824)) (by decide:(0:Int) < 8)) (g:=eC (.int 1)) (b:=1) rfl
 unfold g_Lmany M.many
 by_cases h1:c / 9 % 8=1
 ·rw [decide_eq_true h1] at t
  rw [if_pos h1]
  exact fP t (dw (fY (f:=eC (.int 1)) (a:=1) rfl (d8 (gG (f:=ae 0) (a:=c) rfl (by decide:(0:Int) < 72/\(72:Int) < 1073741824)) (by decide:(0:Int) < 24))) rfl)
 ·rw [decide_eq_false h1] at t
  rw [br t,if_neg h1]
  exact dw (fY (f:=eC (.int 1)) (a:=1) rfl (d8 (f:=ae 0) (a:=c) rfl (by decide:(0:Int) < 9))) rfl
def Bp (ns:List Int) (a:Int) (n i:Nat):SD := [some (S ns),some (.int a),some (.int n),some (.int (M.cell ns a)),some (.int (M.cell ns (a + 1))),some (.int (M.place big ns a i)),some (.lst .own ((M.places big ns a i).map D.int)),if i=0 then none else some (.int ((i:Int) - 1))]
theorem vv (ns:List Int) (a:Int) (i:Nat):M.places big ns a (i + 1)=M.places big ns a i ++ [M.place big ns a i]:=by
 unfold M.places
 rw [List.range_succ,List.map_append]
 rfl
theorem Gy (ns:List Int) (a:Int):aP (.lst .own [.int 1,.int 3,.int (10 ^ 29)]) (.int (M.cell ns (a + 1) % 3))=.ok (.int (M.gap ns a)):=by
 unfold M.gap
 have h:M.cell ns (a + 1) % 3=0 ∨ M.cell ns (a + 1) % 3=1 ∨ M.cell ns (a + 1) % 3=2:=by omega
 rcases h with h | h | h <;> rw [h] <;> rfl
theorem vq (ns:List Int) {a:Int}{n i:Nat} (hi:i < 64) (o:Option D):g_Lplaces_b1 [some (S ns),some (.int a),some (.int n),some (.int (M.cell ns a)),some (.int (M.cell ns (a + 1))),some (.int (M.place big ns a i)),some (.lst .own ((M.places big ns a i).map D.int)),some (.int (i:Int))]=.nx (Bp ns a n (i + 1)):=by
 unfold g_Lplaces_b1
 rw [aJ (tR (i:=6) (xs:=(M.places big ns a i).map D.int) (d := .int (M.place big ns a i)) rfl rfl rfl (by rw [List.length_map,M.places_len]; omega))]
 show bf 5 _ [some (S ns),some (.int a),some (.int n),some (.int (M.cell ns a)),some (.int (M.cell ns (a + 1))),some (.int (M.place big ns a i)),some (.lst .own ((M.places big ns a i).map D.int ++ [.int (M.place big ns a i)])),some (.int (i:Int))]=_
 generalize hτ:[some (S ns),some (.int a),some (.int n),some (.int (M.cell ns a)),some (.int (M.cell ns (a + 1))),some (.int (M.place big ns a i)),some (.lst .own ((M.places big ns a i).map D.int ++ [.int (M.place big ns a i)])),some (.int (i:Int))]=τ
 have v4:ae 4 τ=.ok (.int (M.cell ns (a + 1))):=by rw [<- hτ]; rfl
 have v5:ae 5 τ=.ok (.int (M.place big ns a i)):=by rw [<- hτ]; rfl
 have v7:ae 7 τ=.ok (.int (i:Int)):=by rw [<- hτ]; rfl
 have q1:ah c8 (ae 4) (ah bP (ae 7) (eC (.int 1))) τ=.ok (.int (M.cell ns (a + 1) / ((i:Int) + 1))):=by
  rw [ba v4 (fY v7 (g:=eC (.int 1)) (b:=1) rfl)]
  show (if (0:Int) < (i:Int) + 1/\(i:Int) + 1 < 1073741824 then _ else _)=_
  exact if_pos (by omega)
 have q2:ah aP (eA eS (aa (eC (.int 1)) (aa (eC (.int 3)) (aa (ah nQ (eC (.int 10)) (eC (.int 29))) ak)))) (ah cM (ae 4) (eC (.int 3))) τ=.ok (.int (M.gap ns a)) :=
  cj (x := .lst .own [.int 1,.int 3,.int (10 ^ 29)]) rfl (d8 v4 (by decide:(0:Int) < 3)) (Gy ns a)
 rw [bA (fY (fY v5 (g:=eC (.int 1)) (b:=1) rfl) ((ba q1 q2).trans (tT (M.yo ns a)))) rfl,<- hτ]
 unfold Bp
 rw [vv,List.map_append,if_neg (Nat.succ_ne_zero i)]
 have e:(((i + 1:Nat):Int) - 1)=i:=by omega
 rw [e]
 rfl
theorem vp (ns:List Int) {a:Int}{n:Nat} (hn:n <= 64):fK (gN 7) g_Lplaces_b1 ((List.range n).map fun k:Nat=>D.int (k:Int)) (Bp ns a n 0)=.nx (Bp ns a n n):=by
 have key:=yb (tg:=gN 7) (body:=g_Lplaces_b1) (Bp ns a n) (ds:=(List.range n).map fun k:Nat=>D.int (k:Int)) 0 fun j d hd=>by
  have hj:j < n:=by
   have:=(List.getElem?_eq_some_iff.mp hd).1
   simpa using this
  have ed:d=.int (j:Int):=by
   rw [List.getElem?_map,List.getElem?_range hj] at hd
   exact (Option.some.inj hd).symm
  subst ed
  rw [Nat.zero_add]
  exact ⟨_,rfl,vq ns (by omega) none⟩
 rw [List.length_map,List.length_range,Nat.zero_add] at key
 exact key
theorem zC (ns:List Int) {a:Int}{n:Nat}:(dP (eT (ah fG (ah cM (ae 3) (eC (.int 2))) (eC (.int 1)))) (bf 5 (ah cM (ah c8 (ae 3) (eC (.int 2))) (ah nQ (eC (.int 10)) (eC (.int 30))))) aR) [some (S ns),some (.int a),some (.int n),some (.int (M.cell ns a)),some (.int (M.cell ns (a + 1))),some (.int (M.cell ns a / 2 % 4)),none,none]=.nx [some (S ns),some (.int a),some (.int n),some (.int (M.cell ns a)),some (.int (M.cell ns (a + 1))),some (.int (M.place big ns a 0)),none,none]:=by
 have e3:=M.wV big ns a
 rw [e3]
 have t:=gF (τ := [some (S ns),some (.int a),some (.int n),some (.int (M.cell ns a)),some (.int (M.cell ns (a + 1))),some (.int (M.cell ns a / 2 % 4)),none,none]) (d8 (f:=ae 3) (a:=M.cell ns a) rfl (by decide:(0:Int) < 2)) (g:=eC (.int 1)) (b:=1) rfl
 by_cases h1:M.cell ns a % 2=1
 ·rw [decide_eq_true h1] at t
  rw [if_pos h1,oz t]
  exact bA ((ba (gG (f:=ae 3) (a:=M.cell ns a) rfl (by decide:(0:Int) < 2/\(2:Int) < 1073741824)) (Bm _)).trans (yp _)) rfl
 ·rw [decide_eq_false h1] at t
  rw [if_neg h1,nc t]
  rfl
theorem zB (ns:List Int) {a:Int}{n:Nat} (hn:n <= 64):cZ [] (bo (aa (ae 2) ak)) (gN 7) g_Lplaces_b1 (Bp ns a n 0)=.nx (Bp ns a n n):=by
 have hi:bo (aa (ae 2) ak) (Bp ns a n 0)=.ok (false,(List.range n).map fun k:Nat=>D.int (k:Int)):=by
  unfold bo
  rw [bw (d := .int n) rfl,Res.aQ,dZ (by omega)]
 unfold cZ
 rw [show cI [] (Bp ns a n 0)=Bp ns a n 0 from rfl,hi]
 have:aH ((List.range n).map fun k:Nat=>D.int (k:Int))=(List.range n).map fun k:Nat=>D.int (k:Int):=aU _ _
 simp only [this]
 exact vp ns (a:=a) hn
theorem places_eq (ns:List Int) {a:Int}{n:Nat} (ha:0 <= a) (hn:n <= 64):G_Lplaces [S ns,.int a,.int n]=.ok (.lst .own ((M.places big ns a n).map D.int)):=by
 refine cK (τ := [some (S ns),some (.int a),some (.int n),none,none,none,none,none]) rfl rfl ?_
 have cc:∀ {τ:SD}{f:SD->Res D}{k:Int},τ[0]?=some (some (S ns))->f τ=.ok (.int k)->0 <= k->aF G_Lcell (aa (ae 0) (aa f ak)) τ=.ok (.int (M.cell ns k)):=fun h hf hk =>
  c7 (ds := [S ns,.int _]) (av (dI h (ao ns)) (bw hf)) (by simpa [aH,D.aG] using nk ns hk) (by simp [aI,D.aE])
 unfold g_Lplaces
 rw [aJ (bA (cc (f:=ae 1) rfl rfl ha) rfl)]
 rw [aJ (bA (cc rfl (fY (f:=ae 1) (a:=a) rfl (g:=eC (.int 1)) (b:=1) rfl) (by omega)) rfl)]
 rw [aJ (bA (d8 (gG (f:=ae 3) (a:=M.cell ns a) rfl (by decide:(0:Int) < 2/\(2:Int) < 1073741824)) (by decide:(0:Int) < 4)) rfl)]
 show aD _ _ [some (S ns),some (.int a),some (.int n),some (.int (M.cell ns a)),some (.int (M.cell ns (a + 1))),some (.int (M.cell ns a / 2 % 4)),none,none]=_
 rw [aJ (zC ns)]
 rw [aJ (bA (d := .lst .own []) rfl rfl)]
 show aD _ _ (Bp ns a n 0)=_
 exact (aJ (zB ns (a:=a) hn)).trans rfl
theorem Bt (x:Int):0 < M.wU 1 x:=by
 unfold M.wU
 split <;> omega
theorem tU (ns:List Int) {a k:Int} (ha:0 <= a) (hk:0 <= k):G_Lmix [S ns,.int a,.int k]=.ok (.int (M.mix ns a k)):=by
 have h1:=Bt ((ns.length:Int) - a)
 have h2:0 <= a + k % M.wU 1 ((ns.length:Int) - a):=Int.add_nonneg ha (Int.emod_nonneg _ (by omega))
 have c1:kF (M.cell ns (a + k % M.wU 1 ((ns.length:Int) - a))) 48271:=mul_r (by decide)
 have c2:kF k 16807:=mul_r (by decide)
 have e:=nk ns h2
 unfold M.wU at *
 simp [G_Lmix,g_Lmix,bZ,aD,dP,bf,bE,dM,aR,dW,iG,jB,c5,cZ,eT,ah,ae,eC,eA,fH,iU,kK,tm,dS,eP,lA,jQ,bo,dm,aF,fC,gz,gy,bR,aa,ak,gm,gM,ph,dG,cG,f6,gq,dj,cF,cO,eS,bI,cS,qG,pe,L2.jb,L2.jy,bP,fG,nS,sZ,du,jA,qP,jn,D.view,bQ,Tg.view,D.aG,aH,D.aE,aI,D.cU,bT,D.bz,cN,Tg.bz,jo,D.bq,cg,Tg.bq,D.pure,bc,jc,eQ,gN,gT,aM,cB,cX,D.isExc,rN,tD,qH,tu,j6,jF,cI,fE,c9,cutD,gx,dQ,ie,kL,ez,KT.kind,aP,aU,h1,e,c1,c2,M.mix,M.wU]
theorem Bu {x y z:Int}{i:Int} (h0:0 <= i) (h1:i < 3) (hx:0 <= x) (hy:0 <= y) (hz:0 <= z):∃ v,0 <= v/\L2.qM [D.int x,D.int y,D.int z] i=some (.int v):=by
 have h:i=0 ∨ i=1 ∨ i=2:=by omega
 rcases h with h | h | h
 ·exact ⟨x,hx,by rw [h]; rfl⟩
 ·exact ⟨y,hy,by rw [h]; rfl⟩
 ·exact ⟨z,hz,by rw [h]; rfl⟩
def JO (d:D):Prop := ∃ v:Int,0 <= v/\d=.int v
def rf (r:Fl):Prop := ∃ v:Int,0 <= v/\r=.rt (.int v)
theorem qt (ns:List Int) {a k j:Int} (ha:0 <= a) (hk:0 <= k) (hk2:k <= 24) (hj:0 <= j) (hj2:j <= 24):∃ v,0 <= v/\G_Lshade [S ns,.int a,.int k,.int j]=.ok (.int v):=by
 have e2:=nk ns (show 0 <= a + 2 by omega)
 have e3:=nk ns (show 0 <= a + 3 by omega)
 have ha4:0 <= a + 4:=by omega
 have m1:=tU ns ha4 (show 0 <= 300 + k by omega)
 have m2:=tU ns ha4 (show 0 <= 300 + j by omega)
 have hkk:0 <= k * (k - 1) / 2:=by
  have:0 <= k * (k - 1):=by
   by_cases h:k=0
   ·rw [h]; decide
   ·exact Int.mul_nonneg hk (by omega)
  omega
 have m3:=tU ns ha4 (show 0 <= k * (k - 1) / 2 + j by omega)
 have n3:=M.Bg ns (a + 4) (k * (k - 1) / 2 + j)
 have c1:kF k (k - 1):=Bs (by omega)
 have m4:=fun {x:Int} (h:0 <= x)=>tU ns ha4 h
 have n4:=M.Bg ns (a + 4)
 generalize hcell:M.cell ns (a + 2)=hd at *
 generalize M.cell ns (a + 3)=c3 at *
 generalize M.mix ns (a + 4) (300 + k)=x1 at *
 generalize M.mix ns (a + 4) (300 + j)=x2 at *
 generalize M.mix ns (a + 4) (k * (k - 1) / 2 + j)=x3 at *
 have hb:0 < 1 + hd / 4 % 4:=by omega
 have ho0:0 <= x1 / 3 % (1 + hd / 4 % 4):=Int.emod_nonneg _ (by omega)
 have ht0:0 <= x2 / 3 % (1 + hd / 4 % 4):=Int.emod_nonneg _ (by omega)
 suffices h:rf (g_Lshade [some (S ns),some (.int a),some (.int k),some (.int j),none,none,none,none,none,none]) by
  obtain ⟨v,hv,e⟩:=h
  refine ⟨v,hv,?_⟩
  simp [G_Lshade,bZ,List.replicate,e]
 unfold g_Lshade
 refine lI rf (.int hd) (by simp [bZ,aD,dP,bf,bE,dM,aR,dW,iG,jB,c5,cZ,eT,ah,ae,eC,eA,fH,iU,kK,tm,dS,eP,lA,jQ,bo,dm,aF,fC,gz,gy,bR,aa,ak,gm,gM,ph,dG,cG,f6,gq,dj,cF,cO,eS,bI,cS,qG,pe,L2.jb,L2.jy,bP,fG,nS,sZ,du,jA,qP,jn,D.view,bQ,Tg.view,D.aG,aH,D.aE,aI,D.cU,bT,D.bz,cN,Tg.bz,jo,D.bq,cg,Tg.bq,D.pure,bc,jc,eQ,gN,gT,aM,cB,cX,D.isExc,rN,tD,qH,tu,j6,jF,cI,fE,c9,cutD,gx,dQ,ie,kL,ez,KT.kind,aP,aU,e2]) rfl ?_
 refine lI rf (.int (1 + hd / 4 % 4)) (by simp [bZ,aD,dP,bf,bE,dM,aR,dW,iG,jB,c5,cZ,eT,ah,ae,eC,eA,fH,iU,kK,tm,dS,eP,lA,jQ,bo,dm,aF,fC,gz,gy,bR,aa,ak,gm,gM,ph,dG,cG,f6,gq,dj,cF,cO,eS,bI,cS,qG,pe,L2.jb,L2.jy,bP,fG,nS,sZ,du,jA,qP,jn,D.view,bQ,Tg.view,D.aG,aH,D.aE,aI,D.cU,bT,D.bz,cN,Tg.bz,jo,D.bq,cg,Tg.bq,D.pure,bc,jc,eQ,gN,gT,aM,cB,cX,D.isExc,rN,tD,qH,tu,j6,jF,cI,fE,c9,cutD,gx,dQ,ie,kL,ez,KT.kind,aP,aU]) rfl ?_
 refine lI rf (.int (x1 / 3 % (1 + hd / 4 % 4))) (by simp [bZ,aD,dP,bf,bE,dM,aR,dW,iG,jB,c5,cZ,eT,ah,ae,eC,eA,fH,iU,kK,tm,dS,eP,lA,jQ,bo,dm,aF,fC,gz,gy,bR,aa,ak,gm,gM,ph,dG,cG,f6,gq,dj,cF,cO,eS,bI,cS,qG,pe,L2.jb,L2.jy,bP,fG,nS,sZ,du,jA,qP,jn,D.view,bQ,Tg.view,D.aG,aH,D.aE,aI,D.cU,bT,D.bz,cN,Tg.bz,jo,D.bq,cg,Tg.bq,D.pure,bc,jc,eQ,gN,gT,aM,cB,cX,D.isExc,rN,tD,qH,tu,j6,jF,cI,fE,c9,cutD,gx,dQ,ie,kL,ez,KT.kind,aP,aU,m1,hb]) rfl ?_
 refine lI rf (.int (x2 / 3 % (1 + hd / 4 % 4))) (by simp [bZ,aD,dP,bf,bE,dM,aR,dW,iG,jB,c5,cZ,eT,ah,ae,eC,eA,fH,iU,kK,tm,dS,eP,lA,jQ,bo,dm,aF,fC,gz,gy,bR,aa,ak,gm,gM,ph,dG,cG,f6,gq,dj,cF,cO,eS,bI,cS,qG,pe,L2.jb,L2.jy,bP,fG,nS,sZ,du,jA,qP,jn,D.view,bQ,Tg.view,D.aG,aH,D.aE,aI,D.cU,bT,D.bz,cN,Tg.bz,jo,D.bq,cg,Tg.bq,D.pure,bc,jc,eQ,gN,gT,aM,cB,cX,D.isExc,rN,tD,qH,tu,j6,jF,cI,fE,c9,cutD,gx,dQ,ie,kL,ez,KT.kind,aP,aU,m2,hb]) rfl ?_
 generalize x1 / 3 % (1 + hd / 4 % 4)=one at *
 generalize x2 / 3 % (1 + hd / 4 % 4)=other at *
 refine lI rf (.int (x3 / 5)) (by simp [bZ,aD,dP,bf,bE,dM,aR,dW,iG,jB,c5,cZ,eT,ah,ae,eC,eA,fH,iU,kK,tm,dS,eP,lA,jQ,bo,dm,aF,fC,gz,gy,bR,aa,ak,gm,gM,ph,dG,cG,f6,gq,dj,cF,cO,eS,bI,cS,qG,pe,L2.jb,L2.jy,bP,fG,nS,sZ,du,jA,qP,jn,D.view,bQ,Tg.view,D.aG,aH,D.aE,aI,D.cU,bT,D.bz,cN,Tg.bz,jo,D.bq,cg,Tg.bq,D.pure,bc,jc,eQ,gN,gT,aM,cB,cX,D.isExc,rN,tD,qH,tu,j6,jF,cI,fE,c9,cutD,gx,dQ,ie,kL,ez,KT.kind,aP,aU,m3,c1]) rfl ?_
 refine rQ rf JO ⟨decide (hd % 4 < 2) && !decide (one=other),by by_cases q:hd % 4 < 2 <;> simp [bZ,aD,dP,bf,bE,dM,aR,dW,iG,jB,c5,cZ,eT,ah,ae,eC,eA,fH,iU,kK,tm,dS,eP,lA,jQ,bo,dm,aF,fC,gz,gy,bR,aa,ak,gm,gM,ph,dG,cG,f6,gq,dj,cF,cO,eS,bI,cS,qG,pe,L2.jb,L2.jy,bP,fG,nS,sZ,du,jA,qP,jn,D.view,bQ,Tg.view,D.aG,aH,D.aE,aI,D.cU,bT,D.bz,cN,Tg.bz,jo,D.bq,cg,Tg.bq,D.pure,bc,jc,eQ,gN,gT,aM,cB,cX,D.isExc,rN,tD,qH,tu,j6,jF,cI,fE,c9,cutD,gx,dQ,ie,kL,ez,KT.kind,aP,aU,q],fun _=>?_⟩ ⟨.int (x3 / 5),rfl,_,by omega,rfl⟩ ?_
 ·have hx:0 <= 400 + 4 * (if other > one then other else one) + (if other < one then other else one):=by split <;> split <;> omega
  have c2:kF 4 (if other > one then other else one):=Bs (by decide)
  refine ⟨.int (M.mix ns (a + 4) (400 + 4 * (if other > one then other else one) + (if other < one then other else one)) / 5),by simp [bZ,aD,dP,bf,bE,dM,aR,dW,iG,jB,c5,cZ,eT,ah,ae,eC,eA,fH,iU,kK,tm,dS,eP,lA,jQ,bo,dm,aF,fC,gz,gy,bR,aa,ak,gm,gM,ph,dG,cG,f6,gq,dj,cF,cO,eS,bI,cS,qG,pe,L2.jb,L2.jy,bP,fG,nS,sZ,du,jA,qP,jn,D.view,bQ,Tg.view,D.aG,aH,D.aE,aI,D.cU,bT,D.bz,cN,Tg.bz,jo,D.bq,cg,Tg.bq,D.pure,bc,jc,eQ,gN,gT,aM,cB,cX,D.isExc,rN,tD,qH,tu,j6,jF,cI,fE,c9,cutD,gx,dQ,ie,kL,ez,KT.kind,aP,aU,m4 hx,c2],rfl,_,?_,rfl⟩
  have:=n4 (400 + 4 * (if other > one then other else one) + (if other < one then other else one))
  omega
 ·rintro _ ⟨v1,hv1,rfl⟩
  refine rQ rf JO ⟨decide (hd % 4=1) && decide (k * (k - 1) / 2 + j=hd / 32 % 36),by by_cases q:hd % 4=1 <;> simp [bZ,aD,dP,bf,bE,dM,aR,dW,iG,jB,c5,cZ,eT,ah,ae,eC,eA,fH,iU,kK,tm,dS,eP,lA,jQ,bo,dm,aF,fC,gz,gy,bR,aa,ak,gm,gM,ph,dG,cG,f6,gq,dj,cF,cO,eS,bI,cS,qG,pe,L2.jb,L2.jy,bP,fG,nS,sZ,du,jA,qP,jn,D.view,bQ,Tg.view,D.aG,aH,D.aE,aI,D.cU,bT,D.bz,cN,Tg.bz,jo,D.bq,cg,Tg.bq,D.pure,bc,jc,eQ,gN,gT,aM,cB,cX,D.isExc,rN,tD,qH,tu,j6,jF,cI,fE,c9,cutD,gx,dQ,ie,kL,ez,KT.kind,aP,aU,q,c1],fun _=>⟨.int (v1 + 1),by simp [bZ,aD,dP,bf,bE,dM,aR,dW,iG,jB,c5,cZ,eT,ah,ae,eC,eA,fH,iU,kK,tm,dS,eP,lA,jQ,bo,dm,aF,fC,gz,gy,bR,aa,ak,gm,gM,ph,dG,cG,f6,gq,dj,cF,cO,eS,bI,cS,qG,pe,L2.jb,L2.jy,bP,fG,nS,sZ,du,jA,qP,jn,D.view,bQ,Tg.view,D.aG,aH,D.aE,aI,D.cU,bT,D.bz,cN,Tg.bz,jo,D.bq,cg,Tg.bq,D.pure,bc,jc,eQ,gN,gT,aM,cB,cX,D.isExc,rN,tD,qH,tu,j6,jF,cI,fE,c9,cutD,gx,dQ,ie,kL,ez,KT.kind,aP,aU],rfl,_,by omega,rfl⟩⟩ ⟨.int v1,rfl,_,hv1,rfl⟩ ?_
  rintro _ ⟨v2,hv2,rfl⟩
  refine zh rf ⟨decide (hd % 4=2) && decide (hd / 4 % 2=1),by by_cases q:hd % 4=2 <;> simp [bZ,aD,dP,bf,bE,dM,aR,dW,iG,jB,c5,cZ,eT,ah,ae,eC,eA,fH,iU,kK,tm,dS,eP,lA,jQ,bo,dm,aF,fC,gz,gy,bR,aa,ak,gm,gM,ph,dG,cG,f6,gq,dj,cF,cO,eS,bI,cS,qG,pe,L2.jb,L2.jy,bP,fG,nS,sZ,du,jA,qP,jn,D.view,bQ,Tg.view,D.aG,aH,D.aE,aI,D.cU,bT,D.bz,cN,Tg.bz,jo,D.bq,cg,Tg.bq,D.pure,bc,jc,eQ,gN,gT,aM,cB,cX,D.isExc,rN,tD,qH,tu,j6,jF,cI,fE,c9,cutD,gx,dQ,ie,kL,ez,KT.kind,aP,aU,q],fun _=>⟨.int (v2 % 100000000),by simp [bZ,aD,dP,bf,bE,dM,aR,dW,iG,jB,c5,cZ,eT,ah,ae,eC,eA,fH,iU,kK,tm,dS,eP,lA,jQ,bo,dm,aF,fC,gz,gy,bR,aa,ak,gm,gM,ph,dG,cG,f6,gq,dj,cF,cO,eS,bI,cS,qG,pe,L2.jb,L2.jy,bP,fG,nS,sZ,du,jA,qP,jn,D.view,bQ,Tg.view,D.aG,aH,D.aE,aI,D.cU,bT,D.bz,cN,Tg.bz,jo,D.bq,cg,Tg.bq,D.pure,bc,jc,eQ,gN,gT,aM,cB,cX,D.isExc,rN,tD,qH,tu,j6,jF,cI,fE,c9,cutD,gx,dQ,ie,kL,ez,KT.kind,aP,aU],_,Int.emod_nonneg _ (by decide),rfl⟩,fun _=>?_⟩
  have big0:0 <= c3 % big:=Int.emod_nonneg _ (by have:=ni; omega)
  refine lI rf (.lst .own [.int 0,.int (1 + c3 % big),.int (c3 / 9 % 5)]) ?_ rfl ?_
  ·have q1:ah bP (eC (.int 1)) (ah cM (aF G_Lcell (aa (ae 0) (aa (ah bP (ae 1) (eC (.int 3))) ak))) (ah nQ (eC (.int 10)) (eC (.int 30)))) [some (S ns),some (.int a),some (.int k),some (.int j),some (.int hd),some (.int (1 + hd / 4 % 4)),some (.int one),some (.int other),some (.int v2),none]=.ok (.int (1 + c3 % big)) :=
    ba (x := .int 1) rfl ((ba (x := .int c3) (by simp [bZ,aD,dP,bf,bE,dM,aR,dW,iG,jB,c5,cZ,eT,ah,ae,eC,eA,fH,iU,kK,tm,dS,eP,lA,jQ,bo,dm,aF,fC,gz,gy,bR,aa,ak,gm,gM,ph,dG,cG,f6,gq,dj,cF,cO,eS,bI,cS,qG,pe,L2.jb,L2.jy,bP,fG,nS,sZ,du,jA,qP,jn,D.view,bQ,Tg.view,D.aG,aH,D.aE,aI,D.cU,bT,D.bz,cN,Tg.bz,jo,D.bq,cg,Tg.bq,D.pure,bc,jc,eQ,gN,gT,aM,cB,cX,D.isExc,rN,tD,qH,tu,j6,jF,cI,fE,c9,cutD,gx,dQ,ie,kL,ez,KT.kind,aP,aU,e3]) (Bm _)).trans (yp _))
   simp only [eA,aa,List.set_cons_succ,List.set_cons_zero]
   rw [q1]
   simp [bZ,aD,dP,bf,bE,dM,aR,dW,iG,jB,c5,cZ,eT,ah,ae,eC,eA,fH,iU,kK,tm,dS,eP,lA,jQ,bo,dm,aF,fC,gz,gy,bR,aa,ak,gm,gM,ph,dG,cG,f6,gq,dj,cF,cO,eS,bI,cS,qG,pe,L2.jb,L2.jy,bP,fG,nS,sZ,du,jA,qP,jn,D.view,bQ,Tg.view,D.aG,aH,D.aE,aI,D.cU,bT,D.bz,cN,Tg.bz,jo,D.bq,cg,Tg.bq,D.pure,bc,jc,eQ,gN,gT,aM,cB,cX,D.isExc,rN,tD,qH,tu,j6,jF,cI,fE,c9,cutD,gx,dQ,ie,kL,ez,KT.kind,aP,aU,e3]
  ·have hm:0 < 2 + hd / 16 % 2:=by omega
   obtain ⟨v,hv,e⟩:=Bu (x:=0) (y:=1 + c3 % big) (z:=c3 / 9 % 5) (i:=v2 % (2 + hd / 16 % 2)) (Int.emod_nonneg _ (by omega)) (by have:=Int.emod_lt_of_pos v2 hm; omega) (by decide) (by omega) (by omega)
   exact ⟨v,hv,by simp [bZ,aD,dP,bf,bE,dM,aR,dW,iG,jB,c5,cZ,eT,ah,ae,eC,eA,fH,iU,kK,tm,dS,eP,lA,jQ,bo,dm,aF,fC,gz,gy,bR,aa,ak,gm,gM,ph,dG,cG,f6,gq,dj,cF,cO,eS,bI,cS,qG,pe,L2.jb,L2.jy,bP,fG,nS,sZ,du,jA,qP,jn,D.view,bQ,Tg.view,D.aG,aH,D.aE,aI,D.cU,bT,D.bz,cN,Tg.bz,jo,D.bq,cg,Tg.bq,D.pure,bc,jc,eQ,gN,gT,aM,cB,cX,D.isExc,rN,tD,qH,tu,j6,jF,cI,fE,c9,cutD,gx,dQ,ie,kL,ez,KT.kind,aP,aU,hm,e]⟩
def sh (ns:List Int) (k j:Nat):Int:=by
 classical
 exact if h:k <= 24/\j <= 24 then (qt ns (a:=1) (k:=k) (j:=j) (by decide) (by omega) (by omega) (by omega) (by omega)).choose else 0
theorem Ia (ns:List Int) (k j:Nat):0 <= sh ns k j:=by
 unfold sh
 split
 ·rename_i h
  exact (qt ns (a:=1) (k:=k) (j:=j) (by decide) (by omega) (by omega) (by omega) (by omega)).choose_spec.1
 ·exact Int.le_refl 0
theorem Ib (ns:List Int) {k j:Nat} (hk:k <= 24) (hj:j <= 24):G_Lshade [S ns,.int 1,.int k,.int j]=.ok (.int (sh ns k j)):=by
 unfold sh
 rw [dif_pos ⟨hk,hj⟩]
 exact (qt ns (a:=1) (k:=k) (j:=j) (by decide) (by omega) (by omega) (by omega) (by omega)).choose_spec.2
def dN (ns:List Int):N2.Dr where
 pl:=M.place big ns 1
 sh:=sh ns
 dr:=fun k j=>M.mix ns 1 ((k:Int) * 24 + (j:Int))
 mono:=fun h=>M.qq ns 1 h
 nn:=Ia ns
theorem lh {n:Nat}{d:D} (h:d ∈ (List.range n).map fun k:Nat=>D.int (k:Int)):∃ k:Nat,k < n/\d=.int k:=by
 obtain ⟨k,hk,rfl⟩:=List.mem_map.mp h
 exact ⟨k,List.mem_range.mp hk,rfl⟩
def natOf:D->Nat | .int i=>i.toNat | _=>0
theorem DP (ns:List Int) {k:Nat} (hk:k < 24):g_Lnet_e2 [some (.int k),some (S ns),some (.int 1)]=.ok (.tup (((List.range k).map fun j=>(dN ns).sh k j).map D.int)):=by
 have hr:=dZ (n:=k) (by omega)
 have hc:=iQ (it:=bo (aa (ae 0) ak)) (elt:=g_Lnet_e1) (cap := [("_law_script",1),("_law_at",2),("_law_k",0)]) (τ := [some (.int k),some (S ns),some (.int 1)]) (fl:=false) (ds:=(List.range k).map fun k:Nat=>D.int (k:Int)) (fun d=>.int ((dN ns).sh k (natOf d)))
  (by simp [bo,aa,ak,ae,D.view,hr]) (fun d hd=>by
   rw [aU] at hd
   obtain ⟨j,hj,rfl⟩:=lh hd
   refine ⟨?_,rfl⟩
   have e:=Ib ns (k:=k) (j:=j) (by omega) (by omega)
   simp [g_Lnet_e1,bZ,aD,dP,bf,bE,dM,aR,dW,iG,jB,c5,cZ,eT,ah,ae,eC,eA,fH,iU,kK,tm,dS,eP,lA,jQ,bo,dm,aF,fC,gz,gy,bR,aa,ak,gm,gM,ph,dG,cG,f6,gq,dj,cF,cO,eS,bI,cS,qG,pe,L2.jb,L2.jy,bP,fG,nS,sZ,du,jA,qP,jn,D.view,bQ,Tg.view,D.aG,aH,D.aE,aI,D.cU,bT,D.bz,cN,Tg.bz,jo,D.bq,cg,Tg.bq,D.pure,bc,jc,eQ,gN,gT,aM,cB,cX,D.isExc,rN,tD,qH,tu,j6,jF,cI,fE,c9,cutD,gx,dQ,ie,kL,ez,KT.kind,aP,aU,e,natOf,dN]) (by simp; omega)
 unfold g_Lnet_e2
 simp only [eA,aa,ak,hc,Res.aQ,cF,aU]
 simp [natOf]
theorem GA (ns:List Int) {n:Nat} (hn:n <= 24):G_Lnet [S ns,.int 1,.int n]=.ok (iw (N2.places (dN ns) n) (N2.rows (dN ns) n)):=by
 have hr:=dZ (n:=n) (by omega)
 have hp:=places_eq ns (a:=1) (n:=n) (by decide) (by omega)
 have hc:=iQ (it:=bo (aa (ae 2) ak)) (elt:=g_Lnet_e2) (cap := [("_law_script",0),("_law_at",1)]) (τ := [some (S ns),some (.int 1),some (.int n),none]) (fl:=false) (ds:=(List.range n).map fun k:Nat=>D.int (k:Int)) (fun d=>.tup (((List.range (natOf d)).map fun j=>(dN ns).sh (natOf d) j).map D.int))
  (by simp [bo,aa,ak,ae,D.view,hr]) (fun d hd=>by
   rw [aU] at hd
   obtain ⟨k,hk,rfl⟩:=lh hd
   refine ⟨?_,ao _⟩
   have e:=DP ns (k:=k) (by omega)
   simpa [fE,D.aG,natOf] using e) (by simp; omega)
 rw [aU] at hc
 have hpu:bc (((List.range n).map fun k:Nat=>D.int (k:Int)).map fun d=>D.tup (((List.range (natOf d)).map fun j=>(dN ns).sh (natOf d) j).map D.int))=true:=dF fun d m=>by
  obtain ⟨x,_,rfl⟩:=List.mem_map.mp m
  exact ao _
 suffices h:g_Lnet [some (S ns),some (.int 1),some (.int n),none]=.rt (iw (N2.places (dN ns) n) (N2.rows (dN ns) n)) by
  simp [G_Lnet,bZ,List.replicate,h]
 unfold g_Lnet
 have z:iw (N2.places (dN ns) n) (N2.rows (dN ns) n)=.tup [.tup ((M.places big ns 1 n).map D.int),.tup (((List.range n).map fun k:Nat=>D.int (k:Int)).map fun d=>D.tup (((List.range (natOf d)).map fun j=>(dN ns).sh (natOf d) j).map D.int))]:=by
  unfold iw N2.rows
  simp [List.map_map,natOf,Function.comp_def]
  rfl
 have hnp:=cP (N2.places (dN ns) n) (N2.rows (dN ns) n)
 rw [z] at hnp ⊢
 generalize (((List.range n).map fun k:Nat=>D.int (k:Int)).map fun d=>D.tup (((List.range (natOf d)).map fun j=>(dN ns).sh (natOf d) j).map D.int))=R at *
 rw [aJ (bA hc (gA hpu))]
 have q1:aF G_Lplaces (aa (ae 0) (aa (ae 1) (aa (ae 2) ak))) [some (S ns),some (.int 1),some (.int n),some (.lst .own R)]=.ok (.lst .own ((M.places big ns 1 n).map D.int)):=c7 (ds := [S ns,.int 1,.int n]) (by simp [aa,ak,ae,D.view,Tg.view]) (by simpa [aH,D.aG] using hp) (by simp [aI,D.aE])
 have q2:ae 3 [some (S ns),some (.int 1),some (.int n),some (.lst .own R)]=.ok (.lst .bor R):=iH rfl hpu
 exact dw ((bV (av ((bV (bw q1)).trans rfl) (bw ((bV (bw q2)).trans rfl)))).trans (by simp [cO])) (aX _ hnp)
def intOf:D->Int | .int i=>i | _=>0
def kt (k:Int × Int):KT := .inr [.inl k.1,.inl k.2]
theorem ju {a b:Int × Int}:kt a=kt b ↔ a=b:=by
 constructor
 ·intro h
  cases a
  cases b
  simp only [kt,Sum.inr.injEq,List.cons.injEq,Sum.inl.injEq,and_true] at h
  obtain ⟨h1,h2⟩:=h
  subst h1 h2
  rfl
 ·intro h
  rw [h]
def cf (ts:List N2.gg):List KT:=ts.map fun t=>kt (N2.cQ t)
def cA (ts:List N2.gg):List D:=ts.map fun t=>D.int t.2.2
theorem jk (ts:List N2.gg):bc (cA ts)=true:=dF fun d m=>by obtain ⟨t,_,rfl⟩:=List.mem_map.mp m; rfl
theorem yr:∀ (ts:List N2.gg) (k:Int × Int),iB (cf ts) (cA ts) (kt k)=(ts.find? fun t=>decide (N2.cQ t=k)).map fun t=>D.int t.2.2
 | [],_=>rfl
 | t :: r,k=>by
  have ih:=yr r k
  show (if kt (N2.cQ t)=kt k then some (D.int t.2.2) else iB (cf r) (cA r) (kt k))=_
  by_cases h:N2.cQ t=k
  ·rw [if_pos (ju.mpr h),List.find?_cons_of_pos (by simpa using h)]
   rfl
  ·rw [if_neg fun z=>h (ju.mp z),List.find?_cons_of_neg (by simpa using h),ih]
theorem BA (ts:List N2.gg) (k:Int × Int):(iB (cf ts) (cA ts) (kt k)).getD (.int 0)=.int (N2.col ts k):=by
 rw [yr]
 unfold N2.col
 cases ts.find? fun t=>decide (N2.cQ t=k) <;> rfl
theorem has_none {ts:List N2.gg}{k:Int × Int} (h:k ∉ ts.map N2.cQ):jG (cf ts) (kt k)=false:=by
 unfold jG cf
 rw [List.any_eq_false]
 intro x hx z
 obtain ⟨t,ht,rfl⟩:=List.mem_map.mp hx
 exact h (List.mem_map.mpr ⟨t,ht,ju.mp (by simpa using z)⟩)
theorem G0 (a b:Int):ie (.tup [.int a,.int b])=some (kt (a,b)):=rfl
theorem GB (ts:List N2.gg) (p q:Int):gZ [some (.int q),some (.dct .aG true (cf ts) (cA ts)),some (.int p)]=.ok (.int (N2.col ts (N2.keyOf p q))):=by
 unfold gZ gz
 have v:ae 1 [some (.int q),some (.dct .aG true (cf ts) (cA ts)),some (.int p)]=.ok (.dct .aG true (cf ts) (cA ts)):=by
  show Res.ok (D.dct .aG true (cf ts) (bQ (cA ts)))=_
  rw [bK _ (jk ts)]
 have c:aF gB (aa (ae 2) (aa (ae 0) ak)) [some (.int q),some (.dct .aG true (cf ts) (cA ts)),some (.int p)]=.ok (.tup [.int (N2.keyOf p q).1,.int (N2.keyOf p q).2]) :=
  c7 (ds := [.int p,.int q]) (av rfl (bw rfl)) (pB p q) rfl
 rw [v,Res.aQ,if_pos (show jF (D.dct .aG true (cf ts) (cA ts))=true from rfl),c,Res.aQ]
 show (if (kt (N2.keyOf p q)).kind=true then Res.ok ((iB (cf ts) (cA ts) (kt (N2.keyOf p q))).getD (.int 0)) else .bad)=_
 rw [if_pos (show (kt (N2.keyOf p q)).kind=true from rfl),BA]
def oF (X:D) (ps:List Int) (ts:List N2.gg) (acc:List (List Int)) (a b:Option D):SD := [some X,some (.dct .aG true (cf ts) (cA ts)),some (.lst .aG (ps.map .int)),some (.lst .own (acc.map fun r=>.tup (r.map .int))),a,b]
theorem DQ (X:D) (ps:List Int) (ts:List N2.gg) (acc:List (List Int)) {i:Nat}{p:Int} (hi:i <= ps.length) (hl:ps.length <= 24) (ha:acc.length <= 24) :
  fO (oF X ps ts acc (some (.int i)) (some (.int p)))=.nx (oF X ps ts (acc ++ [(ps.take i).map fun q=>N2.col ts (N2.keyOf p q)]) (some (.int i)) (some (.int p))):=by
 have hc:=iQ (it:=jQ (dS (ae 2) lA (eP (ae 4)))) (elt:=gZ) (cap := [("colours",1),("place",5)]) (τ:=oF X ps ts acc (some (.int i)) (some (.int p))) (fl:=false) (ds:=(ps.take i).map D.int) (fun d=>.int (N2.col ts (N2.keyOf p (intOf d))))
  (by
   have z:dS (ae 2) lA (eP (ae 4)) (oF X ps ts acc (some (.int i)) (some (.int p)))=.ok (.lst .own ((ps.take i).map D.int)):=by
    unfold dS
    rw [dI (xs:=ps.map .int) rfl (ao _)]
    show cutD (.lst .aG (ps.map .int)) none (some (i:Int))=_
    simp [cutD,F5,List.map_take]
   unfold jQ
   rw [z]
   show Res.ok ((D.lst .own ((ps.take i).map D.int)).aE,_)=_
   rw [gA (ao _)])
  (fun d hd=>by
   rw [aN] at hd
   obtain ⟨q,hq,rfl⟩:=List.mem_map.mp hd
   refine ⟨?_,rfl⟩
   have e:=GB ts p q
   have:fE (oF X ps ts acc (some (.int i)) (some (.int p))) [("colours",1),("place",5)]=[some (.dct .aG true (cf ts) (cA ts)),some (.int p)]:=by
    show [some (D.dct .aG true (cf ts) (aH (cA ts))),some (.int p)]=_
    rw [cR _ (jk ts)]
   rw [this]
   exact e) (by rw [List.length_map,List.length_take]; omega)
 unfold fO
 rw [tR (xs:=acc.map fun r=>.tup (r.map .int)) (d := .tup (((ps.take i).map fun q=>N2.col ts (N2.keyOf p q)).map .int)) rfl ?_ (aX _ (ao _)) (by rw [List.length_map]; omega)]
 ·unfold oF
  rw [List.map_append]
  rfl
 ·rw [bV (bw hc)]
  show Res.ok (D.tup _)=_
  rw [aN,List.map_map,List.map_map]
  rfl
theorem BD (X:D) (ps:List Int) (ts:List N2.gg) (hv:X.view=X) (hX:fM [X]=.ok (.lst .own (ps.map .int))) (hl:ps.length <= 24):bH [X,.dct .aG true (cf ts) (cA ts)]=.ok (iw ps (N2.rowsOf ps ts)):=by
 refine cK rfl rfl ?_
 show kh [some X,some (.dct .aG true (cf ts) (cA ts)),none,none,none,none]=_
 unfold kh
 have q1:eA fM (aa (ae 0) ak) [some X,some (.dct .aG true (cf ts) (cA ts)),none,none,none,none]=.ok (.lst .own (ps.map .int)):=by
  have v0:ae 0 [some X,some (.dct .aG true (cf ts) (cA ts)),none,none,none,none]=.ok X:=by
   show Res.ok X.view=_
   rw [hv]
  rw [bV (bw v0)]
  exact hX
 rw [aJ (bA q1 (gA (ao _))),aJ (bA (d := .lst .own []) rfl rfl)]
 have key:∃ a b,cZ [2] (dm (aa (ae 2) ak)) (gT 2 (aM 4 (aM 5 cB))) fO [some X,some (.dct .aG true (cf ts) (cA ts)),some (.lst .own (ps.map .int)),some (.lst .own []),none,none]=.nx (oF X ps ts (N2.rowsOf ps ts) a b):=by
  obtain ⟨t,h1,a,b,h2⟩:=eW (tg:=gT 2 (aM 4 (aM 5 cB))) (body:=fO) (fun i t=>∃ a b,t=oF X ps ts ((List.range i).map fun i=>(ps.take i).map fun q=>N2.col ts (N2.keyOf (ps.getD i 0) q)) a b) (ds:=cS (ps.map D.int)) 0 (oF X ps ts [] none none) ⟨none,none,rfl⟩ (fun k x t hx hp=>by
   obtain ⟨q3,q4,rfl⟩:=hp
   rw [Nat.zero_add]
   have hk:k < ps.length:=by
    have:=(List.getElem?_eq_some_iff.mp hx).1
    simpa [cS] using this
   have ex:x=.tup [.int k,.int (ps.getD k 0)]:=by
    simp [cS,hk] at hx
    rw [<- hx]
    simp [hk]
   subst ex
   have e:=DQ X ps ts ((List.range k).map fun i=>(ps.take i).map fun q=>N2.col ts (N2.keyOf (ps.getD i 0) q)) (i:=k) (p:=ps.getD k 0) (by omega) hl (by simp; omega)
   refine ⟨_,_,rfl,.inl e,some (.int k),some (.int (ps.getD k 0)),?_⟩
   rw [List.range_succ,List.map_append]
   rfl)
  have hlen:(cS (ps.map D.int)).length=ps.length:=by simp [cS]
  rw [hlen,Nat.zero_add] at h2
  refine ⟨a,b,?_⟩
  unfold N2.rowsOf
  rw [<- h2,<- h1]
  unfold cZ
  have hf:cI [2] [some X,some (.dct .aG true (cf ts) (cA ts)),some (.lst .own (ps.map .int)),some (.lst .own []),none,none]=oF X ps ts [] none none:=by
   show [some X,some (.dct .aG true (cf ts) (cA ts)),some (.lst .aG (aH (ps.map .int))),some (.lst .own []),none,none]=_
   rw [aN]
   rfl
  rw [hf]
  have hi:dm (aa (ae 2) ak) (oF X ps ts [] none none)=.ok (false,cS (ps.map D.int)):=by
   unfold dm
   rw [bw (dI (xs:=ps.map .int) rfl (ao ps)),Res.aQ]
   simp [bI,D.aE,Res.map]
  rw [hi]
  have:aH (cS (ps.map D.int))=cS (ps.map D.int):=by rw [nX,aN]
  simp only [this]
 obtain ⟨a,b,key⟩:=key
 show aD _ _ [some X,some (.dct .aG true (cf ts) (cA ts)),some (.lst .own (ps.map .int)),some (.lst .own []),none,none]=_
 rw [aJ key]
 have v2:ae 2 (oF X ps ts (N2.rowsOf ps ts) a b)=.ok (.lst .aG (ps.map .int)):=dI rfl (ao ps)
 have v3:ae 3 (oF X ps ts (N2.rowsOf ps ts) a b)=.ok (.lst .bor ((N2.rowsOf ps ts).map fun r=>.tup (r.map .int))):=iH rfl (iR _)
 exact dw ((bV (av ((bV (bw v2)).trans rfl) (bw ((bV (bw v3)).trans rfl)))).trans rfl) (aX _ (cP ps (N2.rowsOf ps ts)))
theorem Bv {t:Tg}{qs ps:List Int} (hp:qs.Perm ps) (hs:ps.Pairwise (· < ·)) (hl:qs.length < 64):fM [.lst t (qs.map .int)]=.ok (.lst .own (ps.map .int)):=by
 show (match intsOf (qs.map D.int) with | some ns=>if ns.length < 64 then Res.ok (D.lst .own ((sortI ns).map D.int)) else .bad | none=>.bad)=_
 rw [j5]
 show (if qs.length < 64 then Res.ok (D.lst .own ((sortI qs).map D.int)) else .bad)=_
 rw [if_pos hl,N2.ow ((sortI_perm qs).trans hp) (fg qs) hs]
theorem BC {qs ps:List Int} (hp:qs.Perm ps) (hs:ps.Pairwise (· < ·)) (hl:qs.length < 64):fM [.tup (qs.map .int)]=.ok (.lst .own (ps.map .int)):=by
 show (match intsOf (qs.map D.int) with | some ns=>if ns.length < 64 then Res.ok (D.lst .own ((sortI ns).map D.int)) else .bad | none=>.bad)=_
 rw [j5]
 show (if qs.length < 64 then Res.ok (D.lst .own ((sortI qs).map D.int)) else .bad)=_
 rw [if_pos hl,N2.ow ((sortI_perm qs).trans hp) (fg qs) hs]
theorem By (qs:List Int):(D.lst .aG (qs.map .int)).view=.lst .aG (qs.map .int):=by
 show D.lst .aG (bQ (qs.map .int))=_
 rw [bK _ (ao qs)]
theorem Bw (qs:List Int):(D.tup (qs.map .int)).view=.tup (qs.map .int):=by
 show D.tup (bQ (qs.map .int))=_
 rw [bK _ (ao qs)]
theorem GD {qs ps:List Int} (ts:List N2.gg) (hp:qs.Perm ps) (hs:ps.Pairwise (· < ·)) (hl:ps.length <= 24):bH [.lst .aG (qs.map .int),.dct .aG true (cf ts) (cA ts)]=.ok (iw ps (N2.rowsOf ps ts)) :=
 BD _ ps ts (By qs) (Bv hp hs (by rw [hp.length_eq]; omega)) hl
theorem GF {qs ps:List Int} (ts:List N2.gg) (hp:qs.Perm ps) (hs:ps.Pairwise (· < ·)) (hl:ps.length <= 24):bH [.tup (qs.map .int),.dct .aG true (cf ts) (cA ts)]=.ok (iw ps (N2.rowsOf ps ts)) :=
 BD _ ps ts (Bw qs) (BC hp hs (by rw [hp.length_eq]; omega)) hl
theorem oG {i:Nat}{fk fv:SD->Res D}{τ:SD}{k:Bool}{ks:List KT}{xs:List D}{d dk:D}{q:KT} (hv:fv τ=.ok d) (ho:τ[i]?=some (some (.dct .own k ks xs))) (hk:fk τ=.ok dk) (hq:ie dk=some q) (hc:q.kind=k/\d.aE=false/\ks.length < 16777216) (hn:jG ks q=false) :
  c5 i fk fv τ=.nx (τ.set i (some (.dct .own k (ks ++ [q]) (xs ++ [d])))):=by
 unfold c5
 have e:eQ τ i=some (k,ks,xs):=by unfold eQ; rw [ho]
 rw [hv,lJ,e]
 show (fk τ).nV τ _=_
 rw [hk,lJ,hq]
 show (if q.kind=k/\d.aE=false/\ks.length < 16777216/\(jG ks q=true->d.pure=true) then _ else _)=_
 rw [if_pos ⟨hc.1,hc.2.1,hc.2.2,fun z=>absurd (hn.symm.trans z) Bool.false_ne_true⟩]
 unfold qd qb
 rw [hn]
 rfl
theorem tX {tg:x6}{body:SF}{x:D}{r:List D}{τ τ' t:SD} (h1:tg x τ=some τ') (h2:body τ'=.nx t):fK tg body (x :: r) τ=fK tg body r t:=by
 show (match tg x τ with | none=>Fl.bad | some τ'=>match body τ' with | .nx t=>fK tg body r t | .ct t=>fK tg body r t | .bk t=>.nx t | o=>o)=_
 rw [h1]
 show (match body τ' with | .nx t=>fK tg body r t | .ct t=>fK tg body r t | .bk t=>Fl.nx t | o=>o)=_
 rw [h2]
theorem DR {tg:x6}{body:SF}{x:D}{r:List D}{τ τ' t:SD}{C:PySem.Addr} (h1:tg x τ=some τ') (h2:body τ'=.ex C t):fK tg body (x :: r) τ=.ex C t:=by
 show (match tg x τ with | none=>Fl.bad | some τ'=>match body τ' with | .nx t=>fK tg body r t | .ct t=>fK tg body r t | .bk t=>.nx t | o=>o)=_
 rw [h1]
 show (match body τ' with | .nx t=>fK tg body r t | .ct t=>fK tg body r t | .bk t=>Fl.nx t | o=>o)=_
 rw [h2]
theorem GC (b:Bool) (x:Int) (t:Tg) (qs:List Int):inD b (.int x) (.lst t (qs.map .int))=.ok (.bl (if b then !decide (x ∈ qs) else decide (x ∈ qs))):=by
 have h1:(qs.map D.int).all D.flat=true:=List.all_eq_true.mpr fun d m=>by
  obtain ⟨q,_,rfl⟩:=List.mem_map.mp m
  rfl
 have h2:xX (.int x) (qs.map D.int)=decide (x ∈ qs):=by
  unfold xX
  rw [Bool.eq_iff_iff,List.any_eq_true,decide_eq_true_eq]
  constructor
  ·rintro ⟨y,hy,e⟩
   obtain ⟨z,hz,rfl⟩:=List.mem_map.mp hy
   have e:z=x:=by first | exact of_decide_eq_true e | exact eq_of_beq e | simpa [FL] using e
   rw [<- e]
   exact hz
  ·intro h
   exact ⟨.int x,List.mem_map.mpr ⟨x,h,rfl⟩,by first | exact decide_eq_true rfl | exact beq_self_eq_true x | simp [FL]⟩
 show (if (D.int x).flat=true/\(qs.map D.int).all D.flat=true then Res.ok (D.bl (if b then !xX (.int x) (qs.map .int) else xX (.int x) (qs.map .int))) else .bad)=_
 rw [if_pos ⟨rfl,h1⟩,h2]
theorem BB {f g:SD->Res D}{τ:SD}{x:Int}{t:Tg}{qs:List Int} (h1:f τ=.ok (.int x)) (h2:g τ=.ok (.lst t (qs.map .int))):eT (ah (inD false) f g) τ=.ok (decide (x ∈ qs)):=nh ((ba h1 h2).trans (GC false x t qs))
theorem g6 (a b p q:Int):N2.keyOf a b=N2.keyOf p q ↔ (a=p/\b=q) ∨ (b=p/\a=q):=by
 unfold N2.keyOf
 split <;> split <;> simp only [Prod.mk.injEq] <;> omega
def gf (ts:List N2.gg):List KT:=ts.flatMap fun t=>[kt (t.1,t.2.1),kt (t.2.1,t.1)]
def ik (ts:List N2.gg):List D:=ts.flatMap fun t=>[D.int t.2.2,D.int t.2.2]
theorem jL (ts:List N2.gg):bc (ik ts)=true:=dF fun d m=>by
 obtain ⟨t,_,h⟩:=List.mem_flatMap.mp m
 simp only [List.mem_cons,List.not_mem_nil,or_false,or_self] at h
 rw [h]; rfl
theorem qu:∀ (ts:List N2.gg) (p q:Int),iB (gf ts) (ik ts) (kt (p,q))=(ts.find? fun t=>decide (N2.cQ t=N2.keyOf p q)).map fun t=>D.int t.2.2
 | [],_,_=>rfl
 | t :: r,p,q=>by
  have ih:=qu r p q
  show (if kt (t.1,t.2.1)=kt (p,q) then some (D.int t.2.2) else if kt (t.2.1,t.1)=kt (p,q) then some (D.int t.2.2) else iB (gf r) (ik r) (kt (p,q)))=_
  by_cases h:N2.cQ t=N2.keyOf p q
  ·rw [List.find?_cons_of_pos (by simpa using h)]
   rcases (g6 _ _ _ _).mp h with ⟨h1,h2⟩ | ⟨h1,h2⟩
   ·rw [if_pos (by rw [h1,h2])]; rfl
   ·by_cases h3:kt (t.1,t.2.1)=kt (p,q)
    ·rw [if_pos h3]; rfl
    ·rw [if_neg h3,if_pos (by rw [h1,h2])]; rfl
  ·have n1:¬ kt (t.1,t.2.1)=kt (p,q):=fun z=>h ((g6 _ _ _ _).mpr (.inl (by have:=ju.mp z; simpa using this)))
   have n2:¬ kt (t.2.1,t.1)=kt (p,q):=fun z=>h ((g6 _ _ _ _).mpr (.inr (by have:=ju.mp z; simpa using this)))
   rw [if_neg n1,if_neg n2,List.find?_cons_of_neg (by simpa using h),ih]
theorem zD (ts:List N2.gg) (p q:Int):(iB (gf ts) (ik ts) (kt (p,q))).getD (.int 0)=.int (N2.col ts (N2.keyOf p q)):=by
 rw [qu]
 unfold N2.col
 cases ts.find? fun t=>decide (N2.cQ t=N2.keyOf p q) <;> rfl
theorem tV (ts:List N2.gg) (p q:Int):(iB (gf ts) (ik ts) (kt (p,q))).isSome=decide (N2.keyOf p q ∈ ts.map N2.cQ):=by
 rw [qu,Option.isSome_map]
 by_cases h:N2.keyOf p q ∈ ts.map N2.cQ
 ·rw [decide_eq_true h,List.find?_isSome]
  obtain ⟨t,ht,e⟩:=List.mem_map.mp h
  exact ⟨t,ht,by simpa using e⟩
 ·rw [decide_eq_false h,List.find?_eq_none.mpr fun t ht z=>h (List.mem_map.mpr ⟨t,ht,by simpa using z⟩)]
  rfl
theorem oE {ts:List N2.gg}{p q:Int} (h:N2.keyOf p q ∉ ts.map N2.cQ):jG (gf ts) (kt (p,q))=false:=by
 unfold jG gf
 rw [List.any_eq_false]
 intro x hx z
 obtain ⟨t,ht,m⟩:=List.mem_flatMap.mp hx
 have z:x=kt (p,q):=by simpa using z
 subst z
 apply h
 refine List.mem_map.mpr ⟨t,ht,(g6 _ _ _ _).mpr ?_⟩
 simp only [List.mem_cons,List.not_mem_nil,or_false] at m
 rcases m with m | m
 ·have:=ju.mp m; simp only [Prod.mk.injEq] at this; exact .inl ⟨this.1.symm,this.2.symm⟩
 ·have:=ju.mp m; simp only [Prod.mk.injEq] at this; exact .inr ⟨this.1.symm,this.2.symm⟩
theorem sd {ts:List N2.gg}{x y:Int} (hn:x ≠ y) (h:N2.keyOf x y ∉ ts.map N2.cQ):jG (gf ts ++ [kt (x,y)]) (kt (y,x))=false:=by
 have h1:=oE (p:=y) (q:=x) (by rw [N2.iW]; exact h)
 unfold jG at h1 ⊢
 rw [List.any_append,h1,Bool.false_or]
 have:kt (x,y) ≠ kt (y,x):=fun z=>hn (by have:=ju.mp z; simp only [Prod.mk.injEq] at this; exact this.1)
 simp [this]
theorem vy (ts:List N2.gg) (x y z:Int):gf ts ++ [kt (x,y)] ++ [kt (y,x)]=gf (ts ++ [(x,y,z)]):=by
 unfold gf
 rw [List.flatMap_append,List.append_assoc]
 rfl
theorem vz (ts:List N2.gg) (x y z:Int):ik ts ++ [D.int z] ++ [D.int z]=ik (ts ++ [(x,y,z)]):=by
 unfold ik
 rw [List.flatMap_append,List.append_assoc]
 rfl
theorem tW (ts:List N2.gg):(gf ts).length=2 * ts.length:=by
 unfold gf
 induction ts with
 | nil=>rfl
 | cons t r ih=>rw [List.flatMap_cons,List.length_append,ih,List.length_cons,List.length_cons,List.length_cons,List.length_nil]; omega
def jw (f:Nat->Nat->Int) (k:Nat):List Int:=(List.range k).map fun j=>f k j
def qw (f:Nat->Nat->Int) (n:Nat):List (List Int):=(List.range n).map (jw f)
def nF (ps:List Int) (f:Nat->Nat->Int):D:=iw ps (qw f ps.length)
theorem bB (ps:List Int) (f:Nat->Nat->Int):(nF ps f).pure=true:=cP _ _
abbrev bF (ps:List Int) (k:Nat):Int:=ps.getD k 0
def mr (ps:List Int) (f:Nat->Nat->Int) (k m:Nat):List N2.gg:=(List.range m).map fun j=>(bF ps k,bF ps j,f k j)
def aA (ps:List Int) (f:Nat->Nat->Int):Nat->List N2.gg
 | 0=>[]
 | n + 1=>aA ps f n ++ mr ps f n n
theorem se (ps:List Int) (f:Nat->Nat->Int) (k m:Nat):mr ps f k (m + 1)=mr ps f k m ++ [(bF ps k,bF ps m,f k m)]:=by
 unfold mr
 rw [List.range_succ,List.map_append]
 rfl
theorem qx (ps:List Int) (f:Nat->Nat->Int) (k m:Nat):(mr ps f k m).length=m:=by unfold mr; rw [List.length_map,List.length_range]
theorem lO (ps:List Int) (f:Nat->Nat->Int):∀ n,(aA ps f n).length <= n * n
 | 0=>Nat.le_refl _
 | n + 1=>by
  have:=lO ps f n
  show (aA ps f n ++ mr ps f n n).length <= _
  rw [List.length_append,qx,Nat.add_mul,Nat.mul_add]
  omega
theorem kj {ps:List Int} (hs:ps.Pairwise (· < ·)) {j k:Nat} (h:j < k) (hk:k < ps.length):bF ps j < bF ps k:=by
 have:=List.pairwise_iff_getElem.mp hs j k (by omega) hk h
 unfold bF
 rw [List.getD_eq_getElem?_getD,List.getD_eq_getElem?_getD,List.getElem?_eq_getElem hk,List.getElem?_eq_getElem (by omega)]
 exact this
theorem wZ {a b:Int} (h:b < a):N2.keyOf a b=(a,b):=by unfold N2.keyOf; rw [if_pos h]
theorem jM {ps:List Int}{f:Nat->Nat->Int}{t:N2.gg}:∀ {n:Nat},t ∈ aA ps f n ↔ ∃ k j,j < k/\k < n/\t=(bF ps k,bF ps j,f k j)
 | 0=>by
  constructor
  ·intro h
   cases h
  ·rintro ⟨k,j,_,h,_⟩
   omega
 | n + 1=>by
  show t ∈ aA ps f n ++ mr ps f n n ↔ _
  rw [List.mem_append,jM]
  constructor
  ·rintro (⟨k,j,h1,h2,e⟩ | h)
   ·exact ⟨k,j,h1,by omega,e⟩
   ·obtain ⟨j,hj,e⟩:=List.mem_map.mp h
    exact ⟨n,j,List.mem_range.mp hj,by omega,e.symm⟩
  ·rintro ⟨k,j,h1,h2,e⟩
   by_cases h:k=n
   ·subst h
    exact .inr (List.mem_map.mpr ⟨j,List.mem_range.mpr h1,e.symm⟩)
   ·exact .inl ⟨k,j,h1,by omega,e⟩
theorem yt {ps:List Int} (hs:ps.Pairwise (· < ·)) (f:Nat->Nat->Int) {k j:Nat} (hj:j < k) (hk:k < ps.length):N2.keyOf (bF ps k) (bF ps j) ∉ (aA ps f k ++ mr ps f k j).map N2.cQ:=by
 rw [wZ (kj hs hj hk)]
 intro h
 obtain ⟨t,ht,e⟩:=List.mem_map.mp h
 rcases List.mem_append.mp ht with ht | ht
 ·obtain ⟨k',j',h1,h2,rfl⟩:=jM.mp ht
  unfold N2.cQ at e
  simp only at e
  rw [wZ (kj hs h1 (by omega))] at e
  have e1:bF ps k'=bF ps k:=congrArg Prod.fst e
  have:=kj hs h2 hk
  omega
 ·obtain ⟨j',hj',rfl⟩:=List.mem_map.mp ht
  have hj' := List.mem_range.mp hj'
  unfold N2.cQ at e
  simp only at e
  rw [wZ (kj hs (Nat.lt_trans hj' hj) hk)] at e
  have e1:bF ps j'=bF ps j:=congrArg Prod.snd e
  have:=kj hs hj' (Nat.lt_trans hj hk)
  omega
theorem gP {ps:List Int}{f:Nat->Nat->Int}{τ:SD}{e:SD->Res D} (h:e τ=.ok (nF ps f)):ah aP e (eC (.int 0)) τ=.ok (.tup (ps.map .int)):=cj h (y := .int 0) rfl (jm (j:=0) rfl rfl)
theorem Ic {ps:List Int}{f:Nat->Nat->Int}{τ:SD}{e:SD->Res D} (h:e τ=.ok (nF ps f)):ah aP e (eC (.int 1)) τ=.ok (.tup ((qw f ps.length).map fun r=>.tup (r.map .int))):=cj h (y := .int 1) rfl (jm (j:=1) rfl rfl)
theorem iY {ps:List Int}{j:Nat} (h:j < ps.length):(ps.map D.int)[j]?=some (.int (bF ps j)):=yq h
theorem BG {f:Nat->Nat->Int}{n k:Nat} (h:k < n):((qw f n).map fun r=>D.tup (r.map .int))[k]?=some (.tup ((jw f k).map .int)):=by
 unfold qw
 rw [List.getElem?_map,List.getElem?_map,List.getElem?_range h]
 rfl
theorem BE {f:Nat->Nat->Int}{k j:Nat} (h:j < k):((jw f k).map D.int)[j]?=some (.int (f k j)):=by
 unfold jw
 rw [List.getElem?_map,List.getElem?_map,List.getElem?_range h]
 rfl
def kP (ps:List Int) (f:Nat->Nat->Int) (ts:List N2.gg) (a b c d:Option D):SD := [some (nF ps f),some (.dct .own true (cf ts) (cA ts)),a,b,c,d]
theorem DU {ps:List Int}{f:Nat->Nat->Int}{ts:List N2.gg}{x y z:Int}{b:Option D} (hk:N2.keyOf x y ∉ ts.map N2.cQ) (hl:ts.length <= 1000) :
  fS (kP ps f ts (some (.int x)) b (some (.int y)) (some (.int z)))=.nx (kP ps f (ts ++ [(x,y,z)]) (some (.int x)) b (some (.int y)) (some (.int z))):=by
 unfold fS
 have c2:aF gB (aa (ae 2) (aa (ae 4) ak)) (kP ps f ts (some (.int x)) b (some (.int y)) (some (.int z)))=.ok (.tup [.int (N2.keyOf x y).1,.int (N2.keyOf x y).2]):=c7 (ds := [.int x,.int y]) (av rfl (bw rfl)) (pB x y) rfl
 rw [oG (d := .int z) (q:=kt (N2.keyOf x y)) (k:=true) (ks:=cf ts) (xs:=cA ts) rfl rfl c2 rfl ⟨rfl,rfl,by unfold cf; rw [List.length_map]; omega⟩ (has_none hk)]
 unfold kP cf cA
 rw [List.map_append,List.map_append]
 rfl
theorem DT {ps:List Int}{f:Nat->Nat->Int}{k:Nat} (hk:k <= ps.length):kM (ps.map D.int) ((jw f k).map D.int)=(List.range k).map fun j=>D.tup [.int (bF ps j),.int (f k j)]:=by
 refine List.ext_getElem? fun i=>?_
 by_cases h:i < k
 ·rw [List.getElem?_map,List.getElem?_range h]
  unfold kM
  rw [List.getElem?_zipWith,iY (by omega),BE h]
  rfl
 ·rw [List.getElem?_eq_none (by rw [pj,List.length_map,List.length_map]; unfold jw; rw [List.length_map,List.length_range]; omega),List.getElem?_eq_none (by rw [List.length_map,List.length_range]; omega)]
theorem zip_rows {ps:List Int}{f:Nat->Nat->Int}:kM (ps.map D.int) ((qw f ps.length).map fun r=>.tup (r.map .int))=(List.range ps.length).map fun k=>D.tup [.int (bF ps k),.tup ((jw f k).map .int)]:=by
 refine List.ext_getElem? fun i=>?_
 by_cases h:i < ps.length
 ·rw [List.getElem?_map,List.getElem?_range h]
  unfold kM
  rw [List.getElem?_zipWith,iY h,BG h]
  rfl
 ·rw [List.getElem?_eq_none (by rw [pj,List.length_map,List.length_map]; omega),List.getElem?_eq_none (by rw [List.length_map,List.length_range]; omega)]
theorem DS {ps:List Int}{f:Nat->Nat->Int} (k:Nat):bc ((List.range k).map fun j=>D.tup [.int (bF ps j),.int (f k j)])=true:=dF fun d m=>by
 obtain ⟨j,_,rfl⟩:=List.mem_map.mp m
 rfl
theorem BF {ps:List Int}{f:Nat->Nat->Int} (n:Nat):bc ((List.range n).map fun k=>D.tup [.int (bF ps k),.tup ((jw f k).map .int)])=true:=dF fun d m=>by
 obtain ⟨k,_,rfl⟩:=List.mem_map.mp m
 show (true && ((bc ((jw f k).map .int)) && true))=true
 rw [ao]
 rfl
theorem tY {f g:SD->Res D}{τ:SD}{xs ys:List D}{x y:D} (h1:f τ=.ok x) (h2:g τ=.ok y) (hx:bI x=.ok (false,xs)) (hy:bI y=.ok (false,ys)):oh (aa f (aa g ak)) τ=.ok (false,kM xs ys):=by
 unfold oh
 rw [av h1 (bw h2),Res.aQ]
 show ((bI x).bind fun p=>(bI y).bind fun q=>Res.ok (p.1 || q.1,kM p.2 q.2))=_
 rw [hx,Res.aQ,hy,Res.aQ]
 rfl
theorem g9 {xs:List D} (h:bc xs=true):bI (.tup xs)=.ok (false,xs):=by
 show Res.ok (aI xs,xs)=_
 rw [bu _ h]
theorem nq {t:Tg}{xs:List D} (ht:t=.aG ∨ t=.own) (h:bc xs=true):bI (.lst t xs)=.ok (false,xs):=by
 show Res.ok ((D.lst t xs).aE,xs)=_
 rcases ht with rfl | rfl
 ·show Res.ok ((false || aI xs),xs)=_
  rw [bu _ h]
  rfl
 ·rw [gA h]
theorem jv {zs:List Nat}{it:SD->Res (Bool × List D)}{tg:x6}{body:SF}{τ τ':SD}{ds:List D} (h1:cI zs τ=τ') (h2:it τ'=.ok (false,ds)) (h3:bc ds=true):cZ zs it tg body τ=fK tg body ds τ' := by
 unfold cZ
 rw [h1,h2]
 show fK tg body (aH ds) τ'=_
 rw [cR _ h3]
theorem GG {ps:List Int}{f:Nat->Nat->Int} (hs:ps.Pairwise (· < ·)) (hl:ps.length <= 24) {k:Nat} (hk:k < ps.length) (c d:Option D) :
  ∃ c' d',eB (kP ps f (aA ps f k) (some (.int (bF ps k))) (some (.tup ((jw f k).map .int))) c d)=.nx (kP ps f (aA ps f (k + 1)) (some (.int (bF ps k))) (some (.tup ((jw f k).map .int))) c' d'):=by
 have tl:=lO ps f k
 have kk:k * k <= 576:=Nat.mul_le_mul (show k <= 24 by omega) (show k <= 24 by omega)
 have v0:ae 0 (kP ps f (aA ps f k) (some (.int (bF ps k))) (some (.tup ((jw f k).map .int))) c d)=.ok (nF ps f):=bC rfl (bB _ _)
 have v3:ae 3 (kP ps f (aA ps f k) (some (.int (bF ps k))) (some (.tup ((jw f k).map .int))) c d)=.ok (.tup ((jw f k).map .int)):=bC rfl (ao _)
 obtain ⟨t,h1,c',d',h2⟩:=eW (tg:=gT 2 (aM 4 (aM 5 cB))) (body:=fS) (fun i t=>∃ c' d',t=kP ps f (aA ps f k ++ mr ps f k i) (some (.int (bF ps k))) (some (.tup ((jw f k).map .int))) c' d') (ds:=(List.range k).map fun j=>D.tup [.int (bF ps j),.int (f k j)]) 0 (kP ps f (aA ps f k) (some (.int (bF ps k))) (some (.tup ((jw f k).map .int))) c d) ⟨c,d,by rw [show mr ps f k 0=[] from rfl,List.append_nil]⟩ (fun j x t hx hp=>by
  obtain ⟨c1,d1,rfl⟩:=hp
  rw [Nat.zero_add]
  have hj:j < k:=by
   have:=(List.getElem?_eq_some_iff.mp hx).1
   simpa using this
  rw [List.getElem?_map,List.getElem?_range hj] at hx
  cases hx
  refine ⟨_,_,rfl,.inl (DU (ts:=aA ps f k ++ mr ps f k j) (yt hs f hj hk) (by rw [List.length_append,qx]; omega)),some (.int (bF ps j)),some (.int (f k j)),?_⟩
  rw [se,List.append_assoc])
 rw [List.length_map,List.length_range,Nat.zero_add] at h2
 refine ⟨c',d',?_⟩
 unfold eB
 rw [jv (τ' := kP ps f (aA ps f k) (some (.int (bF ps k))) (some (.tup ((jw f k).map .int))) c d) (ds:=(List.range k).map fun j=>D.tup [.int (bF ps j),.int (f k j)]) ?_ ?_ (DS k),h1,h2]
 ·rfl
 ·show [some (nF ps f).aG,_,_,some (D.tup ((jw f k).map .int)).aG,c,d]=_
  rw [er _ (bB _ _),er _ (show (D.tup ((jw f k).map .int)).pure=true from ao _)]
  rfl
 ·rw [tY (gP v0) v3 (g9 (ao _)) (g9 (ao _)),DT (by omega)]
theorem wY {ps:List Int}{f:Nat->Nat->Int} (hs:ps.Pairwise (· < ·)) (hl:ps.length <= 24):bN [nF ps f]=.ok (.dct .own true (cf (aA ps f ps.length)) (cA (aA ps f ps.length))):=by
 have v0:ae 0 (kP ps f [] none none none none)=.ok (nF ps f):=bC rfl (bB _ _)
 obtain ⟨t,h1,a,b,c',d',h2⟩:=eW (tg:=gT 2 (aM 2 (aM 3 cB))) (body:=eB) (fun i t=>∃ a b c d,t=kP ps f (aA ps f i) a b c d) (ds:=(List.range ps.length).map fun k=>D.tup [.int (bF ps k),.tup ((jw f k).map .int)]) 0 (kP ps f [] none none none none) ⟨none,none,none,none,rfl⟩ (fun k x t hx hp=>by
  obtain ⟨a,b,c1,d1,rfl⟩:=hp
  rw [Nat.zero_add]
  have hk:k < ps.length:=by
   have:=(List.getElem?_eq_some_iff.mp hx).1
   simpa using this
  rw [List.getElem?_map,List.getElem?_range hk] at hx
  cases hx
  obtain ⟨c',d',e⟩:=GG (f:=f) hs hl hk c1 d1
  exact ⟨_,_,rfl,.inl e,_,_,c',d',rfl⟩)
 rw [List.length_map,List.length_range,Nat.zero_add] at h2
 have hf:cZ [0] (oh (aa (ah aP (ae 0) (eC (.int 0))) (aa (ah aP (ae 0) (eC (.int 1))) ak))) (gT 2 (aM 2 (aM 3 cB))) eB (kP ps f [] none none none none)=.nx (kP ps f (aA ps f ps.length) a b c' d'):=by
  rw [jv (τ' := kP ps f [] none none none none) (ds:=(List.range ps.length).map fun k=>D.tup [.int (bF ps k),.tup ((jw f k).map .int)]) ?_ ?_ (BF _),h1,h2]
  ·show [some (nF ps f).aG,_,_,_,_,_]=_
   rw [er _ (bB _ _)]
   rfl
  ·rw [tY (gP v0) (Ic v0) (g9 (ao _)) (g9 (iR _)),zip_rows]
 refine cK (τ := [some (nF ps f),none,none,none,none,none]) rfl rfl ?_
 unfold ki
 rw [aJ (bA (d := .dct .own true [] []) rfl rfl)]
 show aD _ _ (kP ps f [] none none none none)=_
 rw [aJ hf]
 rfl
def lj (ps:List Int) (f:Nat->Nat->Int) (ts:List N2.gg) (a b c:Option D):SD := [some (nF ps f),some (.dct .own true (gf ts) (ik ts)),a,b,c]
section
variable {ps:List Int}{f:Nat->Nat->Int}{ts us:List N2.gg}{k j:Nat}
theorem BI {e g:SD->Res D}{τ:SD} (h:e τ=.ok (nF ps f)) (hg:g τ=.ok (.int j)) (hj:j < ps.length):ah aP (ah aP e (eC (.int 0))) g τ=.ok (.int (bF ps j)) :=
 cj (gP h) hg (jm rfl (iY hj))
theorem BH {e g i:SD->Res D}{τ:SD} (h:e τ=.ok (nF ps f)) (hg:g τ=.ok (.int k)) (hi:i τ=.ok (.int j)) (hj:j < k) (hk:k < ps.length):ah aP (ah aP (ah aP e (eC (.int 1))) g) i τ=.ok (.int (f k j)) :=
 cj (cj (Ic h) hg (jm rfl (BG hk))) hi (jm rfl (BE hj))
theorem DW (hs:ps.Pairwise (· < ·)) (hj:j < k) (hk:k < ps.length) (hn:N2.keyOf (bF ps k) (bF ps j) ∉ ts.map N2.cQ) (hl:ts.length <= 1000) :
  g_Ldict_b1 (lj ps f ts (some (.int k)) (some (.int (bF ps k))) (some (.int j)))=.nx (lj ps f (ts ++ [(bF ps k,bF ps j,f k j)]) (some (.int k)) (some (.int (bF ps k))) (some (.int j))):=by
 have hne:bF ps k ≠ bF ps j:=by
  have:=kj hs hj hk
  omega
 have hlen:=tW ts
 have v0:∀ τ:SD,τ[0]?=some (some (nF ps f))->ae 0 τ=.ok (nF ps f):=fun τ h=>bC h (bB _ _)
 unfold g_Ldict_b1
 have p1:=BI (ps:=ps) (f:=f) (j:=j) (e:=ae 0) (g:=ae 4) (τ:=lj ps f ts (some (.int k)) (some (.int (bF ps k))) (some (.int j))) (v0 _ rfl) rfl (by omega)
 have c1:=BH (ps:=ps) (f:=f) (k:=k) (j:=j) (e:=ae 0) (g:=ae 2) (i:=ae 4) (τ:=lj ps f ts (some (.int k)) (some (.int (bF ps k))) (some (.int j))) (v0 _ rfl) rfl rfl hj hk
 have k1:eA cO (aa (ae 3) (aa (ah aP (ah aP (ae 0) (eC (.int 0))) (ae 4)) ak)) (lj ps f ts (some (.int k)) (some (.int (bF ps k))) (some (.int j)))=.ok (.tup [.int (bF ps k),.int (bF ps j)]):=by
  rw [bV (av (d := .int (bF ps k)) rfl (bw p1))]
  rfl
 rw [aJ (oG (i:=1) (d := .int (f k j)) (dk := .tup [.int (bF ps k),.int (bF ps j)]) (q:=kt (bF ps k,bF ps j)) (k:=true) (ks:=gf ts) (xs:=ik ts) c1 rfl k1 rfl ⟨rfl,rfl,by omega⟩ (oE hn))]
 show c5 1 _ _ [some (nF ps f),some (.dct .own true (gf ts ++ [kt (bF ps k,bF ps j)]) (ik ts ++ [D.int (f k j)])),some (.int k),some (.int (bF ps k)),some (.int j)]=_
 have p2:=BI (ps:=ps) (f:=f) (j:=j) (e:=ae 0) (g:=ae 4) (τ := [some (nF ps f),some (.dct .own true (gf ts ++ [kt (bF ps k,bF ps j)]) (ik ts ++ [D.int (f k j)])),some (.int k),some (.int (bF ps k)),some (.int j)]) (v0 _ rfl) rfl (by omega)
 have c2:=BH (ps:=ps) (f:=f) (k:=k) (j:=j) (e:=ae 0) (g:=ae 2) (i:=ae 4) (τ := [some (nF ps f),some (.dct .own true (gf ts ++ [kt (bF ps k,bF ps j)]) (ik ts ++ [D.int (f k j)])),some (.int k),some (.int (bF ps k)),some (.int j)]) (v0 _ rfl) rfl rfl hj hk
 have k2:eA cO (aa (ah aP (ah aP (ae 0) (eC (.int 0))) (ae 4)) (aa (ae 3) ak)) [some (nF ps f),some (.dct .own true (gf ts ++ [kt (bF ps k,bF ps j)]) (ik ts ++ [D.int (f k j)])),some (.int k),some (.int (bF ps k)),some (.int j)]=.ok (.tup [.int (bF ps j),.int (bF ps k)]):=by
  rw [bV (av p2 (bw (d := .int (bF ps k)) rfl))]
  rfl
 rw [oG (i:=1) (d := .int (f k j)) (dk := .tup [.int (bF ps j),.int (bF ps k)]) (q:=kt (bF ps j,bF ps k)) (k:=true) (ks:=gf ts ++ [kt (bF ps k,bF ps j)]) (xs:=ik ts ++ [D.int (f k j)]) c2 rfl k2 rfl ⟨rfl,rfl,by rw [List.length_append,List.length_singleton]; omega⟩ (sd hne hn)]
 rw [vy ts _ _ (f k j),vz ts (bF ps k) (bF ps j)]
 rfl
theorem GH (hs:ps.Pairwise (· < ·)) (hl:ps.length <= 24) (hk:k < ps.length) (c:Option D) :
  ∃ c',g_Ldict_b2 (lj ps f (aA ps f k) (some (.int k)) (some (.int (bF ps k))) c)=.nx (lj ps f (aA ps f (k + 1)) (some (.int k)) (some (.int (bF ps k))) c'):=by
 have tl:=lO ps f k
 have kk:k * k <= 576:=Nat.mul_le_mul (show k <= 24 by omega) (show k <= 24 by omega)
 obtain ⟨t,h1,c',h2⟩:=eW (tg:=gN 4) (body:=g_Ldict_b1) (fun i t=>∃ c',t=lj ps f (aA ps f k ++ mr ps f k i) (some (.int k)) (some (.int (bF ps k))) c') (ds:=(List.range k).map fun j:Nat=>D.int (j:Int)) 0 (lj ps f (aA ps f k) (some (.int k)) (some (.int (bF ps k))) c) ⟨c,by rw [show mr ps f k 0=[] from rfl,List.append_nil]⟩ (fun j x t hx hp=>by
  obtain ⟨c1,rfl⟩:=hp
  rw [Nat.zero_add]
  have hj:j < k:=by
   have:=(List.getElem?_eq_some_iff.mp hx).1
   simpa using this
  rw [List.getElem?_map,List.getElem?_range hj] at hx
  cases hx
  refine ⟨_,_,rfl,.inl (DW (ts:=aA ps f k ++ mr ps f k j) hs hj hk (yt hs f hj hk) (by rw [List.length_append,qx]; omega)),some (.int j),?_⟩
  rw [se,List.append_assoc])
 rw [List.length_map,List.length_range,Nat.zero_add] at h2
 refine ⟨c',?_⟩
 unfold g_Ldict_b2
 rw [jv (τ' := lj ps f (aA ps f k) (some (.int k)) (some (.int (bF ps k))) c) (ds:=(List.range k).map fun j:Nat=>D.int (j:Int)) rfl ?_ ?_,h1,h2]
 ·rfl
 ·unfold bo
  rw [bw (d := .int k) rfl,Res.aQ,dZ (by omega)]
 ·exact dF fun d m=>by obtain ⟨j,_,rfl⟩:=List.mem_map.mp m; rfl
theorem sj (ps:List Int):cS (ps.map D.int)=(List.range ps.length).map fun k:Nat=>D.tup [.int (k:Int),.int (bF ps k)]:=by
 refine List.ext_getElem? fun i=>?_
 unfold cS
 rw [List.getElem?_mapIdx]
 by_cases h:i < ps.length
 ·rw [iY h,List.getElem?_map,List.getElem?_range h]
  rfl
 ·rw [List.getElem?_eq_none (by rw [List.length_map]; omega),List.getElem?_eq_none (by rw [List.length_map,List.length_range]; omega)]
  rfl
theorem sq (ps:List Int) (n:Nat):bc ((List.range n).map fun k:Nat=>D.tup [.int (k:Int),.int (bF ps k)])=true:=dF fun d m=>by
 obtain ⟨k,_,rfl⟩:=List.mem_map.mp m
 rfl
theorem yv {e:SD->Res D}{τ:SD}{x:D}{xs:List D} (h:e τ=.ok x) (hx:bI x=.ok (false,xs)):dm (aa e ak) τ=.ok (false,cS xs):=by
 unfold dm
 rw [bw h,Res.aQ]
 show (bI x).map _=_
 rw [hx]
 rfl
theorem DV (hs:ps.Pairwise (· < ·)) (hl:ps.length <= 24):G_Ldict [nF ps f]=.ok (.dct .own true (gf (aA ps f ps.length)) (ik (aA ps f ps.length))):=by
 have v0:ae 0 (lj ps f [] none none none)=.ok (nF ps f):=bC rfl (bB _ _)
 obtain ⟨t,h1,a,b,c',h2⟩:=eW (tg:=gT 2 (aM 2 (aM 3 cB))) (body:=g_Ldict_b2) (fun i t=>∃ a b c,t=lj ps f (aA ps f i) a b c) (ds:=(List.range ps.length).map fun k:Nat=>D.tup [.int (k:Int),.int (bF ps k)]) 0 (lj ps f [] none none none) ⟨none,none,none,rfl⟩ (fun k x t hx hp=>by
  obtain ⟨a,b,c1,rfl⟩:=hp
  rw [Nat.zero_add]
  have hk:k < ps.length:=by
   have:=(List.getElem?_eq_some_iff.mp hx).1
   simpa using this
  rw [List.getElem?_map,List.getElem?_range hk] at hx
  cases hx
  obtain ⟨c',e⟩:=GH (f:=f) hs hl hk c1
  exact ⟨_,_,rfl,.inl e,_,_,c',rfl⟩)
 rw [List.length_map,List.length_range,Nat.zero_add] at h2
 have hf:cZ [0] (dm (aa (ah aP (ae 0) (eC (.int 0))) ak)) (gT 2 (aM 2 (aM 3 cB))) g_Ldict_b2 (lj ps f [] none none none)=.nx (lj ps f (aA ps f ps.length) a b c'):=by
  rw [jv (τ' := lj ps f [] none none none) (ds:=(List.range ps.length).map fun k:Nat=>D.tup [.int (k:Int),.int (bF ps k)]) ?_ ?_ (sq _ _),h1,h2]
  ·show [some (nF ps f).aG,_,_,_,_]=_
   rw [er _ (bB _ _)]
   rfl
  ·rw [yv (gP v0) (g9 (ao _)),sj]
 refine cK (τ := [some (nF ps f),none,none,none,none]) rfl rfl ?_
 unfold g_Ldict
 rw [aJ (bA (d := .dct .own true [] []) rfl rfl)]
 show aD _ _ (lj ps f [] none none none)=_
 rw [aJ hf]
 rfl
theorem BJ (hk:k < ps.length) (hj:j < ps.length) (hm:N2.keyOf (bF ps k) (bF ps j) ∈ us.map N2.cQ):g_Lmade_e1 [some (.int j),some (.dct .aG true (gf us) (ik us)),some (.lst .aG (ps.map .int)),some (.int k)]=.ok (.int (N2.col us (N2.keyOf (bF ps k) (bF ps j)))):=by
 unfold g_Lmade_e1
 have v:ae 1 [some (.int j),some (.dct .aG true (gf us) (ik us)),some (.lst .aG (ps.map .int)),some (.int k)]=.ok (.dct .aG true (gf us) (ik us)):=by
  show Res.ok (D.dct .aG true (gf us) (bQ (ik us)))=_
  rw [bK _ (jL us)]
 have k1:ah aP (ae 2) (ae 3) [some (.int j),some (.dct .aG true (gf us) (ik us)),some (.lst .aG (ps.map .int)),some (.int k)]=.ok (.int (bF ps k)):=cj (y := .int k) (dI rfl (ao ps)) rfl (iX (j:=k) rfl (iY hk))
 have k2:ah aP (ae 2) (ae 0) [some (.int j),some (.dct .aG true (gf us) (ik us)),some (.lst .aG (ps.map .int)),some (.int k)]=.ok (.int (bF ps j)):=cj (y := .int j) (dI rfl (ao ps)) rfl (iX (j:=j) rfl (iY hj))
 have kk:eA cO (aa (ah aP (ae 2) (ae 3)) (aa (ah aP (ae 2) (ae 0)) ak)) [some (.int j),some (.dct .aG true (gf us) (ik us)),some (.lst .aG (ps.map .int)),some (.int k)]=.ok (.tup [.int (bF ps k),.int (bF ps j)]):=by
  rw [bV (av k1 (bw k2))]
  rfl
 rw [ba v kk]
 show (if (kt (bF ps k,bF ps j)).kind=true then (match iB (gf us) (ik us) (kt (bF ps k,bF ps j)) with | some d=>Res.ok d | none=>.bad) else .bad)=_
 rw [if_pos (show (kt (bF ps k,bF ps j)).kind=true from rfl)]
 have e1:=zD us (bF ps k) (bF ps j)
 have e2:=tV us (bF ps k) (bF ps j)
 rw [decide_eq_true hm] at e2
 cases hL:iB (gf us) (ik us) (kt (bF ps k,bF ps j)) with
 | none=>rw [hL] at e2; cases e2
 | some d =>
  rw [hL] at e1
  have e1:d=_:=e1
  rw [e1]
def zE (ps:List Int) (us:List N2.gg) (k:Nat):List Int:=(ps.take k).map fun q=>N2.col us (N2.keyOf (ps.getD k 0) q)
theorem yu {k:Nat} (hk:k <= ps.length):zE ps us k=(List.range k).map fun j=>N2.col us (N2.keyOf (ps.getD k 0) (ps.getD j 0)):=by
 unfold zE
 refine List.ext_getElem (by simp; omega) fun i h1 h2=>?_
 have hi:i < ps.length:=by simp at h1; omega
 simp [hi]
def nu (X:D) (ps:List Int) (us:List N2.gg) (acc:List (List Int)) (r:Option D):SD := [some X,some (.dct .aG true (gf us) (ik us)),some (.lst .own (ps.map .int)),some (.lst .own (acc.map fun r=>.tup (r.map .int))),r]
theorem zF {X:D}{acc:List (List Int)} (hk:k < ps.length) (hl:ps.length <= 100) (ha:acc.length <= 100) (hall:∀ j,j < k->N2.keyOf (bF ps k) (bF ps j) ∈ us.map N2.cQ):g_Lmade_b2 (nu X ps us acc (some (.int k)))=.nx (nu X ps us (acc ++ [zE ps us k]) (some (.int k))):=by
 have hr:=dZ (n:=k) (by omega)
 have hc:=iQ (it:=bo (aa (ae 4) ak)) (elt:=g_Lmade_e1) (cap := [("_law_shades",1),("_law_rising",2),("_law_k",4)]) (τ:=nu X ps us acc (some (.int k))) (fl:=false) (ds:=(List.range k).map fun k:Nat=>D.int (k:Int)) (fun d=>.int (N2.col us (N2.keyOf (ps.getD k 0) (ps.getD (natOf d) 0))))
  (by unfold bo; rw [bw (d := .int k) rfl,Res.aQ,hr]) (fun d hd=>by
   rw [aU] at hd
   obtain ⟨j,hj,rfl⟩:=lh hd
   refine ⟨?_,rfl⟩
   have e:=BJ (ps:=ps) (us:=us) (k:=k) (j:=j) hk (by omega) (hall j hj)
   have:fE (nu X ps us acc (some (.int k))) [("_law_shades",1),("_law_rising",2),("_law_k",4)]=[some (.dct .aG true (gf us) (ik us)),some (.lst .aG (ps.map .int)),some (.int k)]:=by
    show [some (D.dct .aG true (gf us) (aH (ik us))),some (.lst .aG (aH (ps.map .int))),some (.int k)]=_
    rw [cR _ (jL us),aN]
   rw [this]
   exact e) (by simp; omega)
 unfold g_Lmade_b2
 rw [tR (xs:=acc.map fun r=>.tup (r.map .int)) (d := .tup ((zE ps us k).map .int)) rfl ?_ (aX _ (ao _)) (by rw [List.length_map]; omega)]
 ·unfold nu
  rw [List.map_append]
  rfl
 ·rw [bV (bw hc)]
  show Res.ok (D.tup _)=_
  rw [aU,List.map_map,yu (by omega),List.map_map]
  rfl
theorem BL (X:D) (ps:List Int) (us:List N2.gg) (hv:X.view=X) (hX:fM [X]=.ok (.lst .own (ps.map .int))) (hl:ps.length <= 24) (hall:∀ k j,j < k->k < ps.length->N2.keyOf (bF ps k) (bF ps j) ∈ us.map N2.cQ):G_Lmade [X,.dct .aG true (gf us) (ik us)]=.ok (iw ps (N2.rowsOf ps us)):=by
 obtain ⟨t,h1,r8,h2⟩:=eW (tg:=gN 4) (body:=g_Lmade_b2) (fun i t=>∃ r8,t=nu X ps us ((List.range i).map (zE ps us)) r8) (ds:=(List.range ps.length).map fun j:Nat=>D.int (j:Int)) 0 (nu X ps us [] none) ⟨none,rfl⟩ (fun k d t hx hp'=>by
  obtain ⟨r8,rfl⟩:=hp'
  rw [Nat.zero_add]
  have hk:k < ps.length:=by
   have:=(List.getElem?_eq_some_iff.mp hx).1
   simpa using this
  rw [List.getElem?_map,List.getElem?_range hk] at hx
  cases hx
  refine ⟨_,_,rfl,.inl (zF hk (by omega) (by simp; omega) fun j hj=>hall k j hj hk),some (.int k),?_⟩
  rw [List.range_succ,List.map_append]
  rfl)
 rw [List.length_map,List.length_range,Nat.zero_add] at h2
 have e:N2.rowsOf ps us=(List.range ps.length).map (zE ps us):=rfl
 have v2:ae 2 (nu X ps us [] none)=.ok (.lst .bor (ps.map .int)):=iH rfl (ao ps)
 have l2:=lg v2
 rw [List.length_map] at l2
 have hf:cZ [] (bo (aa (eA cG (aa (ae 2) ak)) ak)) (gN 4) g_Lmade_b2 (nu X ps us [] none)=.nx (nu X ps us (N2.rowsOf ps us) r8):=by
  rw [jv (τ' := nu X ps us [] none) (ds:=(List.range ps.length).map fun j:Nat=>D.int (j:Int)) rfl ?_ ?_,h1,h2,e]
  ·unfold bo
   rw [bw l2,Res.aQ,dZ (by omega)]
  ·exact dF fun d m=>by obtain ⟨j,_,rfl⟩:=List.mem_map.mp m; rfl
 refine cK (τ := [some X,some (.dct .aG true (gf us) (ik us)),none,none,none]) rfl rfl ?_
 unfold g_Lmade
 have q1:eA fM (aa (ae 0) ak) [some X,some (.dct .aG true (gf us) (ik us)),none,none,none]=.ok (.lst .own (ps.map .int)):=by
  have v0:ae 0 [some X,some (.dct .aG true (gf us) (ik us)),none,none,none]=.ok X:=by
   show Res.ok X.view=_
   rw [hv]
  rw [bV (bw v0)]
  exact hX
 rw [aJ (bA q1 (gA (ao _))),aJ (bA (d := .lst .own []) rfl rfl)]
 show aD _ _ (nu X ps us [] none)=_
 rw [aJ hf]
 have w2:ae 2 (nu X ps us (N2.rowsOf ps us) r8)=.ok (.lst .bor (ps.map .int)):=iH rfl (ao ps)
 have w3:ae 3 (nu X ps us (N2.rowsOf ps us) r8)=.ok (.lst .bor ((N2.rowsOf ps us).map fun r=>.tup (r.map .int))):=iH rfl (iR _)
 exact dw ((bV (av ((bV (bw w2)).trans rfl) (bw ((bV (bw w3)).trans rfl)))).trans rfl) (aX _ (cP ps (N2.rowsOf ps us)))
end
theorem BK (ps:List Int) (ts:List N2.gg):iw ps (N2.rowsOf ps ts)=nF ps fun k j=>N2.col ts (N2.keyOf (bF ps k) (bF ps j)):=by
 unfold nF
 have e:N2.rowsOf ps ts=qw (fun k j=>N2.col ts (N2.keyOf (bF ps k) (bF ps j))) ps.length:=by
  unfold qw N2.rowsOf
  refine List.map_congr_left fun k hk=>?_
  exact yu (ps:=ps) (us:=ts) (k:=k) (by have:=List.mem_range.mp hk; omega)
 rw [e]
theorem BS (b:Bool) (x:Int) (qs:List Int):inD b (.int x) (.tup (qs.map .int))=.ok (.bl (if b then !decide (x ∈ qs) else decide (x ∈ qs))):=by
 have h1:(qs.map D.int).all D.flat=true:=by simp [D.flat]
 have h2:xX (.int x) (qs.map D.int)=decide (x ∈ qs):=by
  unfold xX
  rw [Bool.eq_iff_iff,List.any_eq_true,decide_eq_true_eq]
  constructor
  ·rintro ⟨y,hy,e⟩
   obtain ⟨z,hz,rfl⟩:=List.mem_map.mp hy
   have e:z=x:=by simpa [FL] using e
   rw [<- e]
   exact hz
  ·intro h
   exact ⟨.int x,List.mem_map.mpr ⟨x,h,rfl⟩,by simp [FL]⟩
 show (if (D.int x).flat=true/\(qs.map D.int).all D.flat=true then Res.ok (D.bl (if b then !xX (.int x) (qs.map .int) else xX (.int x) (qs.map .int))) else .bad)=_
 rw [if_pos ⟨rfl,h1⟩,h2]
theorem pC {i:Nat}{τ:SD}{qs:List Int} (h:τ[i]?=some (some (.tup (qs.map .int)))):ae i τ=.ok (.tup (qs.map .int)):=bC h (ao qs)
theorem nv {f g:SD->Res D}{τ:SD}{x:Int}{qs:List Int} (h1:f τ=.ok (.int x)) (h2:g τ=.ok (.tup (qs.map .int))):eT (ah (inD true) f g) τ=.ok (!decide (x ∈ qs)):=nh ((ba h1 h2).trans (BS true x qs))
variable (ca:PySem.Str->PySem.Addr)
theorem iZ {qs:List Int}{x:Int} (h:x ∈ qs):aL ca [.tup (qs.map .int),.int x]=.ok .cY:=by
 refine Bj (t := [some (.tup (qs.map .int)),some (.int x)]) rfl rfl ?_
 show dB ca [some (.tup (qs.map .int)),some (.int x)]=.nx _
 unfold dB
 have t:=nv (τ := [some (.tup (qs.map .int)),some (.int x)]) (f:=ae 1) (g:=ae 0) (x:=x) (qs:=qs) rfl (pC rfl)
 rw [decide_eq_true h] at t
 rw [nc t]
 rfl
theorem lP {qs:List Int}{x:Int} (h:x ∉ qs):aL ca [.tup (qs.map .int),.int x]=.d9 (ca "NoPlace"):=by
 refine iy (t := [some (.tup (qs.map .int)),some (.int x)]) rfl rfl ?_
 show dB ca [some (.tup (qs.map .int)),some (.int x)]=.ex _ _
 unfold dB
 have t:=nv (τ := [some (.tup (qs.map .int)),some (.int x)]) (f:=ae 1) (g:=ae 0) (x:=x) (qs:=qs) rfl (pC rfl)
 rw [decide_eq_false h] at t
 rw [oz t]
 rfl
section
variable {qs:List Int}{x y:Int}
theorem i0 (i:Nat) {z:Int} (h:[some (D.tup (qs.map .int)),some (.int x),some (.int y)][i]?=some (some (.int z))):dg (aL ca) (aa (ae 0) (aa (ae i) ak)) [some (.tup (qs.map .int)),some (.int x),some (.int y)]=aL ca [.tup (qs.map .int),.int z] :=
 wX (av (pC rfl) (bw (bC h rfl))) (by simp [bc,D.pure,ao])
theorem GI (h:x ∈ qs) (h2:y ∈ qs) (hn:x ≠ y):ck ca [.tup (qs.map .int),.int x,.int y]=.ok .cY:=by
 refine Bj (t := [some (.tup (qs.map .int)),some (.int x),some (.int y)]) rfl rfl ?_
 show c6 ca [some (.tup (qs.map .int)),some (.int x),some (.int y)]=.nx _
 unfold c6
 rw [aJ (jj ((i0 ca 1 rfl).trans (iZ ca h))),aJ (jj ((i0 ca 2 rfl).trans (iZ ca h2)))]
 have t:=gF (f:=ae 1) (g:=ae 2) (τ := [some (.tup (qs.map .int)),some (.int x),some (.int y)]) (a:=x) (b:=y) rfl rfl
 rw [decide_eq_false hn] at t
 rw [nc t]
 rfl
theorem BN (h:x ∈ qs):ck ca [.tup (qs.map .int),.int x,.int x]=.d9 (ca "SamePlace"):=by
 refine iy (t := [some (.tup (qs.map .int)),some (.int x),some (.int x)]) rfl rfl ?_
 show c6 ca [some (.tup (qs.map .int)),some (.int x),some (.int x)]=.ex _ _
 unfold c6
 rw [aJ (jj ((i0 ca 1 rfl).trans (iZ ca h))),aJ (jj ((i0 ca 2 rfl).trans (iZ ca h)))]
 have t:=gF (f:=ae 1) (g:=ae 2) (τ := [some (.tup (qs.map .int)),some (.int x),some (.int x)]) (a:=x) (b:=x) rfl rfl
 rw [decide_eq_true rfl] at t
 rw [oz t]
 rfl
theorem D0 (h:¬ (x ∈ qs/\y ∈ qs)):ck ca [.tup (qs.map .int),.int x,.int y]=.d9 (ca "NoPlace"):=by
 refine iy (t := [some (.tup (qs.map .int)),some (.int x),some (.int y)]) rfl rfl ?_
 show c6 ca [some (.tup (qs.map .int)),some (.int x),some (.int y)]=.ex _ _
 unfold c6
 by_cases hx:x ∈ qs
 ·rw [aJ (jj ((i0 ca 1 rfl).trans (iZ ca hx))),lN (nj ((i0 ca 2 rfl).trans (lP ca fun hy=>h ⟨hx,hy⟩)))]
 ·rw [lN (nj ((i0 ca 1 rfl).trans (lP ca hx)))]
end
theorem lq {G:DF}{fs:SD->Res (List D)}{τ:SD}{ds:List D}{r:Res D} (ha:fs τ=.ok ds) (hb:aI ds=false) (hG:G (aH ds)=r):dg G fs τ=r:=by
 unfold dg
 rw [ha]
 show rS G ds=_
 unfold rS
 rw [hb,if_neg Bool.false_ne_true,hG]
theorem BR {f:SD->Res D}{g:SD->Res (List D)}{τ:SD}{C:PySem.Addr} (h:f τ=.d9 C):aa f g τ=.d9 C:=by unfold aa; rw [h]; rfl
theorem BU {G:DF}{fs:SD->Res (List D)}{τ:SD}{C:PySem.Addr} (h:fs τ=.d9 C):aF G fs τ=.d9 C:=by unfold aF; rw [h]; rfl
theorem GL {f:SD->Res D}{τ:SD}{C:PySem.Addr} (h:f τ=.d9 C):bE f τ=.ex C τ:=by unfold bE; rw [h]; rfl
theorem vC {c:SD->Res Bool}{s:SF}{C:PySem.Addr}{τ:SD} (h:c τ=.ok true):aD (dP c (jq C) aR) s τ=.ex C τ:=lN ((oz h).trans rfl)
theorem GK (ns:List Int) (k:Int):k ∈ L2.dd ns ↔ k ∈ ns:=by
 have h:=PyProof.Rows.firstMet_any (fun i=>ns.getD i 0) ns.length k
 have e:(List.range ns.length).map (fun i=>ns.getD i 0)=ns:=by
  refine List.ext_getElem (by simp) fun i h1 h2=>?_
  simp
  rw [List.getElem?_eq_getElem h2]
  rfl
 rw [e] at h
 have m:∀ l:List Int,(l.any fun x=>x == k)=true ↔ k ∈ l:=fun l=>by
  rw [List.any_eq_true]
  constructor
  ·rintro ⟨x,hx,e⟩
   have:x=k:=by simpa using e
   exact this ▸ hx
  ·intro hk
   exact ⟨k,hk,by simp⟩
 unfold L2.dd
 rw [<- m,h,m]
theorem qy:∀ (ns acc:List Int),acc.Nodup->(ns.foldl PyProof.Rows.step_dedup acc).Nodup
 | [],_,h=>h
 | x :: r,acc,h=>by
  rw [List.foldl_cons]
  refine qy r _ ?_
  unfold PyProof.Rows.step_dedup
  split
  ·exact h
  ·rename_i hx
   rw [List.nodup_append]
   refine ⟨h,List.nodup_cons.mpr ⟨List.not_mem_nil,List.nodup_nil⟩,fun a ha b hb z=>?_⟩
   have hb:b=x:=by simpa using hb
   subst hb z
   exact hx (List.any_eq_true.mpr ⟨a,ha,by simp⟩)
theorem BP (ns:List Int):(L2.dd ns).Nodup:=qy _ [] List.nodup_nil
def lX (ps qs:List Int) (o:Option D):SD := [some (.tup (ps.map .int)),some (.lst .aG (qs.map .int)),o]
section
variable (ca:PySem.Str->PySem.Addr) {ps qs:List Int}{f:Nat->Nat->Int}
theorem yw {q:Int}{r:Res D} (hG:aL ca [.tup (ps.map .int),.int q]=r):dg (aL ca) (aa (ae 0) (aa (ae 2) ak)) (lX ps qs (some (.int q)))=r :=
 lq (ds := [.tup (ps.map .int),.int q]) (av (pC rfl) (bw rfl)) (by show ((aI (ps.map .int)) || _)=false; rw [bu _ (ao _)]; rfl) (by show aL ca [.tup (aH (ps.map .int)),.int q]=_; rw [aN]; exact hG)
theorem pD:∀ (R:List Int) (o:Option D),((∀ q ∈ R,q ∈ ps)->∃ o',fK (gN 2) (cJ ca) (R.map .int) (lX ps qs o)=.nx (lX ps qs o'))/\(¬ (∀ q ∈ R,q ∈ ps)->∃ t,fK (gN 2) (cJ ca) (R.map .int) (lX ps qs o)=.ex (ca "NoPlace") t)
 | [],o=>⟨fun _=>⟨o,rfl⟩,fun h=>absurd (fun q hq=>by cases hq) h⟩
 | q :: R,o=>by
  obtain ⟨i1,i2⟩:=pD R (some (.int q))
  by_cases hq:q ∈ ps
  ·have st:fK (gN 2) (cJ ca) ((q :: R).map .int) (lX ps qs o)=fK (gN 2) (cJ ca) (R.map .int) (lX ps qs (some (.int q))) :=
    tX (τ' := lX ps qs (some (.int q))) rfl (jj (yw ca (iZ ca hq)))
   rw [st]
   refine ⟨fun h=>i1 fun x hx=>h x (List.mem_cons_of_mem _ hx),fun h=>i2 fun z=>h fun x hx=>?_⟩
   rcases List.mem_cons.mp hx with rfl | hx
   ·exact hq
   ·exact z x hx
  ·refine ⟨fun h=>absurd (h q List.mem_cons_self) hq,fun _=>⟨_,DR (τ' := lX ps qs (some (.int q))) rfl (nj (yw ca (lP ca hq)))⟩⟩
theorem w6:cZ [1] (jQ (ae 1)) (gN 2) (cJ ca) (lX ps qs none)=fK (gN 2) (cJ ca) (qs.map .int) (lX ps qs none):=by
 refine jv ?_ ?_ (ao qs)
 ·show [some (D.tup (ps.map .int)),some (.lst .aG (aH (qs.map .int))),none]=_
  rw [aN]
  rfl
 ·unfold jQ
  rw [dI (xs:=qs.map .int) rfl (ao qs),Res.aQ]
  exact nq (.inl rfl) (ao qs)
theorem w4 (h1:∀ q ∈ qs,q ∈ ps) (h2:qs ≠ []) (hl:qs.length < 64):cu ca [.tup (ps.map .int),.lst .aG (qs.map .int)]=.ok (.lst .own ((sortI (L2.dd qs)).map .int)):=by
 obtain ⟨o,e⟩:=(pD ca (ps:=ps) (qs:=qs) qs none).1 h1
 refine cK (τ:=lX ps qs none) rfl rfl ?_
 unfold fN
 rw [aJ ((w6 ca).trans e)]
 have v1:ae 1 (lX ps qs o)=.ok (.lst .aG (qs.map .int)):=dI rfl (ao qs)
 have t:=gF (lg v1) (g:=eC (.int 0)) (b:=0) rfl
 rw [decide_eq_false (by rw [List.length_map]; cases qs with | nil=>exact absurd rfl h2 | cons _ _=>simp only [List.length_cons]; omega)] at t
 rw [br t]
 refine dw ?_ (gA (ao _))
 unfold fH
 rw [v1,Res.aQ]
 show (match intsOf (qs.map D.int) with | some ns=>if ns.length < 64 then Res.ok (D.lst .own ((sortI (L2.dd ns)).map D.int)) else .bad | none=>.bad)=_
 rw [j5]
 show (if qs.length < 64 then Res.ok (D.lst .own ((sortI (L2.dd qs)).map D.int)) else .bad)=_
 rw [if_pos hl]
theorem t6:cu ca [.tup (ps.map .int),.lst .aG (([]:List Int).map .int)]=.d9 (ca "NoSet"):=by
 obtain ⟨o,e⟩:=(pD ca (ps:=ps) (qs := []) [] none).1 (fun q hq=>by cases hq)
 refine iy (τ:=lX ps [] none) (t:=lX ps [] o) rfl rfl ?_
 unfold fN
 rw [aJ ((w6 ca).trans e)]
 have v1:ae 1 (lX ps [] o)=.ok (.lst .aG (([]:List Int).map .int)):=dI rfl (ao [])
 have t:=gF (lg v1) (g:=eC (.int 0)) (b:=0) rfl
 exact vC t
theorem vE (h:¬ ∀ q ∈ qs,q ∈ ps):cu ca [.tup (ps.map .int),.lst .aG (qs.map .int)]=.d9 (ca "NoPlace"):=by
 obtain ⟨t,e⟩:=(pD ca (ps:=ps) (qs:=qs) qs none).2 h
 refine iy (τ:=lX ps qs none) (t:=t) rfl rfl ?_
 unfold fN
 exact lN ((w6 ca).trans e)
theorem zI:aa (ah aP (ae 0) (eC (.int 0))) (aa (ae 1) ak) [some (nF ps f),some (.lst .aG (qs.map .int))]=.ok [.tup (ps.map .int),.lst .aG (qs.map .int)] :=
 av (gP (bC rfl (bB _ _))) (bw (dI rfl (ao qs)))
theorem vA {r:Res D} (hG:cu ca [.tup (ps.map .int),.lst .aG (qs.map .int)]=r):dg (cu ca) (aa (ah aP (ae 0) (eC (.int 0))) (aa (ae 1) ak)) [some (nF ps f),some (.lst .aG (qs.map .int))]=r :=
 lq zI (by show (aI (ps.map .int) || ((false || aI (qs.map .int)) || false))=false; rw [bu _ (ao _),bu _ (ao _)]; rfl) (by show cu ca [.tup (aH (ps.map .int)),.lst .aG (aH (qs.map .int))]=_; rw [aN,aN]; exact hG)
theorem vB {C:PySem.Addr} (hG:cu ca [.tup (ps.map .int),.lst .aG (qs.map .int)]=.d9 C):jI ca [nF ps f,.lst .aG (qs.map .int)]=.d9 C:=by
 refine iy (τ := [some (nF ps f),some (.lst .aG (qs.map .int))]) (t := [some (nF ps f),some (.lst .aG (qs.map .int))]) rfl rfl ?_
 unfold lM
 exact GL (BU (BR (vA ca hG)))
theorem iO {τ:SD} (hs:ps.Pairwise (· < ·)) (hl:ps.length <= 24) (h0:τ[0]?=some (some (nF ps f))):aF bN (aa (ae 0) ak) τ=.ok (.dct .own true (cf (aA ps f ps.length)) (cA (aA ps f ps.length))) :=
 c7 (ds := [nF ps f]) (bw (bC h0 (bB _ _))) (by show bN [(nF ps f).aG]=_; rw [er _ (bB _ _)]; exact wY hs hl) (by show ((nF ps f).aE || false)=false; rw [aX _ (bB _ _)]; rfl)
def within (ps qs:List Int):List Int:=ps.filter fun p=>decide (p ∈ qs)
theorem jN (hs:ps.Pairwise (· < ·)):(within ps qs).Pairwise (· < ·):=hs.sublist List.filter_sublist
theorem oH:(within ps qs).length <= ps.length:=List.length_filter_le _ _
theorem vF (hs:ps.Pairwise (· < ·)) (h1:∀ q ∈ qs,q ∈ ps):(sortI (L2.dd qs)).Perm (within ps qs):=by
 have n1:(sortI (L2.dd qs)).Nodup:=(sortI_perm _).nodup_iff.mpr (BP qs)
 have n2:(within ps qs).Nodup:=(jN hs).imp fun h=>by omega
 refine (List.perm_ext_iff_of_nodup n1 n2).mpr fun a=>?_
 rw [(sortI_perm _).mem_iff,GK]
 unfold within
 rw [List.mem_filter,decide_eq_true_eq]
 exact ⟨fun h=>⟨h1 a h,h⟩,fun h=>h.2⟩
theorem BQ {ts:List N2.gg}:(D.dct .own true (cf ts) (cA ts)).aE=false:=by
 show (false || aI (cA ts))=false
 rw [bu _ (jk ts)]
 rfl
theorem lr {e g:SD->Res D}{τ:SD}{t:Tg}{qs rs:List Int}{ts:List N2.gg} (he:e τ=.ok (.lst t (qs.map .int))) (hg:g τ=.ok (.dct .own true (cf ts) (cA ts)) ∨ g τ=.ok (.dct .bor true (cf ts) (cA ts))) (hp:qs.Perm rs) (hs:rs.Pairwise (· < ·)) (hl:rs.length <= 24):aF bH (aa e (aa g ak)) τ=.ok (iw rs (N2.rowsOf rs ts)):=by
 have k:=GD ts hp hs hl
 rcases hg with hg | hg
 ·exact df (av he (bw hg)) (by show bH [.lst .aG (aH (qs.map .int)),.dct .aG true (cf ts) (aH (cA ts))]=_; rw [aN,cR _ (jk ts)]; exact k) (cP _ _)
 ·exact df (av he (bw hg)) (by show bH [.lst .aG (aH (qs.map .int)),.dct .aG true (cf ts) (aH (cA ts))]=_; rw [aN,cR _ (jk ts)]; exact k) (cP _ _)
theorem vD {e g:SD->Res D}{τ:SD}{qs rs:List Int}{ts:List N2.gg} (he:e τ=.ok (.tup (qs.map .int))) (hg:g τ=.ok (.dct .bor true (cf ts) (cA ts))) (hp:qs.Perm rs) (hs:rs.Pairwise (· < ·)) (hl:rs.length <= 24):aF bH (aa e (aa g ak)) τ=.ok (iw rs (N2.rowsOf rs ts)) :=
 df (av he (bw hg)) (by show bH [.tup (aH (qs.map .int)),.dct .aG true (cf ts) (aH (cA ts))]=_; rw [aN,cR _ (jk ts)]; exact GF ts hp hs hl) (cP _ _)
theorem DY (hs:ps.Pairwise (· < ·)) (hl:ps.length <= 24) (h1:∀ q ∈ qs,q ∈ ps) (h2:qs ≠ []) (h3:qs.length < 64):jI ca [nF ps f,.lst .aG (qs.map .int)]=.ok (iw (within ps qs) (N2.rowsOf (within ps qs) (aA ps f ps.length))):=by
 refine cK (τ := [some (nF ps f),some (.lst .aG (qs.map .int))]) rfl rfl ?_
 unfold lM
 have:=oH (ps:=ps) (qs:=qs)
 exact dw (lr (vA ca (w4 ca h1 h2 h3)) (.inl (iO hs hl rfl)) (vF hs h1) (jN hs) (by omega)) (aX _ (cP _ _))
def but (ps:List Int) (x:Int):List Int:=ps.filter fun p=>!decide (p=x)
theorem tZ {x:Int} (hs:ps.Pairwise (· < ·)):(but ps x).Pairwise (· < ·):=hs.sublist List.filter_sublist
theorem BV {x:Int}:(but ps x).length <= ps.length:=List.length_filter_le _ _
theorem qz {τ:SD}{x:Int}{i:Nat}{r:Res D} (h0:τ[0]?=some (some (nF ps f))) (h1:ae i τ=.ok (.int x)) (hG:aL ca [.tup (ps.map .int),.int x]=r):dg (aL ca) (aa (ah aP (ae 0) (eC (.int 0))) (aa (ae i) ak)) τ=r :=
 lq (ds := [.tup (ps.map .int),.int x]) (av (gP (bC h0 (bB _ _))) (bw h1)) (by show ((aI (ps.map .int)) || _)=false; rw [bu _ (ao _)]; rfl) (by show aL ca [.tup (aH (ps.map .int)),.int x]=_; rw [aN]; exact hG)
theorem GJ {x:Int} (h:x ∉ ps):dC ca [nF ps f,.int x]=.d9 (ca "NoPlace"):=by
 refine iy (τ := [some (nF ps f),some (.int x),none]) (t := [some (nF ps f),some (.int x),none]) rfl rfl ?_
 unfold eF
 exact lN (nj (qz ca rfl rfl (lP ca h)))
theorem DZ {x:Int} (hl:ps.length <= 24):bR (jQ (ah aP (ae 0) (eC (.int 0)))) (gN 0) (fW ca) (fX ca) 1 [("place",1)] [some (nF ps f),some (.int x),none]=.ok (.lst .own ((but ps x).map .int)):=by
 have e:=mS (it:=jQ (ah aP (ae 0) (eC (.int 0)))) (tt:=fW ca) (elt:=fX ca) (cap := [("place",1)]) (τ := [some (nF ps f),some (.int x),none]) (fl:=false) (ds:=ps.map .int) (fun d=>!decide (intOf d=x)) id (by
   unfold jQ
   rw [gP (bC (d:=nF ps f) rfl (bB _ _)),Res.aQ]
   exact g9 (ao ps)) (fun d hd=>by
   rw [aN] at hd
   obtain ⟨p,_,rfl⟩:=List.mem_map.mp hd
   exact oB (a:=p) (b:=x) rfl rfl) (fun d hd _=>by
   rw [aN] at hd
   obtain ⟨p,_,rfl⟩:=List.mem_map.mp hd
   exact ⟨rfl,rfl⟩) (by rw [List.length_map]; omega)
 rw [e,aN,List.map_id,List.filter_map]
 rfl
theorem EF {x:Int} (hl:ps.length <= 24) (h:x ∈ ps):eF ca [some (nF ps f),some (.int x),none]=aD (dP (eT (ah fG (eA cG (aa (ae 2) ak)) (eC (.int 0)))) (jq (ca "NoNet")) aR) (bE (aF bH (aa (ae 2) (aa (aF bN (aa (ae 0) ak)) ak)))) [some (nF ps f),some (.int x),some (.lst .own ((but ps x).map .int))]:=by
 unfold eF
 rw [aJ (jj (qz ca rfl rfl (iZ ca h))),aJ (bA (DZ ca hl) (gA (ao _)))]
 rfl
theorem BO {x:Int}:eT (ah fG (eA cG (aa (ae 2) ak)) (eC (.int 0))) [some (nF ps f),some (.int x),some (.lst .own ((but ps x).map .int))]=.ok (decide (((but ps x).length:Int)=0)):=by
 have l:=lg (iH (i:=2) (τ := [some (nF ps f),some (.int x),some (.lst .own ((but ps x).map .int))]) rfl (ao (but ps x)))
 rw [List.length_map] at l
 exact gF l rfl
theorem DX {x:Int} (hl:ps.length <= 24) (h:x ∈ ps) (hn:(but ps x).length=0):dC ca [nF ps f,.int x]=.d9 (ca "NoNet"):=by
 refine iy (τ := [some (nF ps f),some (.int x),none]) (t := [some (nF ps f),some (.int x),some (.lst .own ((but ps x).map .int))]) rfl rfl ?_
 rw [EF ca hl h]
 have t:=BO (ps:=ps) (f:=f) (x:=x)
 rw [decide_eq_true (by omega)] at t
 exact vC t
theorem Ie {x:Int} (hs:ps.Pairwise (· < ·)) (hl:ps.length <= 24) (h:x ∈ ps) (hn:(but ps x).length ≠ 0):dC ca [nF ps f,.int x]=.ok (iw (but ps x) (N2.rowsOf (but ps x) (aA ps f ps.length))):=by
 refine cK (τ := [some (nF ps f),some (.int x),none]) rfl rfl ?_
 rw [EF ca hl h]
 have t:=BO (ps:=ps) (f:=f) (x:=x)
 rw [decide_eq_false (by omega)] at t
 rw [br t]
 have:=BV (ps:=ps) (x:=x)
 exact dw (lr (t := .bor) (iH rfl (ao _)) (.inl (iO hs hl rfl)) (List.Perm.refl _) (tZ hs) (by omega)) (aX _ (cP _ _))
end
def km (ts:List N2.gg) (k:Int × Int) (c:Int):List N2.gg:=ts.map fun t=>if N2.cQ t=k then (t.1,t.2.1,c) else t
theorem vJ (t:N2.gg) (k:Int × Int) (c:Int):N2.cQ (if N2.cQ t=k then (t.1,t.2.1,c) else t)=N2.cQ t:=by
 split <;> rfl
theorem GO (ts:List N2.gg) (k:Int × Int) (c:Int):cf (km ts k c)=cf ts:=by
 unfold cf km
 rw [List.map_map]
 refine List.map_congr_left fun t _=>?_
 show kt (N2.cQ (if N2.cQ t=k then (t.1,t.2.1,c) else t))=_
 rw [vJ]
theorem BW (ts:List N2.gg) (k:Int × Int) (c:Int):(km ts k c).map N2.cQ=ts.map N2.cQ:=by
 unfold km
 rw [List.map_map]
 refine List.map_congr_left fun t _=>vJ t k c
theorem B7:∀ (ts:List N2.gg) (k:Int × Int) (c:Int),jg (cf ts) (cA ts) (kt k) (.int c)=cA (km ts k c)
 | [],_,_=>rfl
 | t :: r,k,c=>by
  show (if kt (N2.cQ t)=kt k then D.int c else D.int t.2.2) :: jg (cf r) (cA r) (kt k) (.int c)=D.int (if N2.cQ t=k then (t.1,t.2.1,c) else t).2.2 :: cA (km r k c)
  rw [B7 r k c]
  congr 1
  by_cases h:N2.cQ t=k
  ·rw [if_pos (by rw [h]),if_pos h]
  ·rw [if_neg fun z=>h (ju.mp z),if_neg h]
theorem t8 {i:Nat}{fk fv:SD->Res D}{τ:SD}{k:Bool}{ks:List KT}{xs:List D}{d dk:D}{q:KT} (hv:fv τ=.ok d) (ho:τ[i]?=some (some (.dct .own k ks xs))) (hk:fk τ=.ok dk) (hq:ie dk=some q) (hc:q.kind=k/\d.pure=true/\ks.length < 16777216) (hn:jG ks q=true) :
  c5 i fk fv τ=.nx (τ.set i (some (.dct .own k ks (jg ks xs q d)))):=by
 unfold c5
 have e:eQ τ i=some (k,ks,xs):=by unfold eQ; rw [ho]
 rw [hv,lJ,e]
 show (fk τ).nV τ _=_
 rw [hk,lJ,hq]
 show (if q.kind=k/\d.aE=false/\ks.length < 16777216/\(jG ks q=true->d.pure=true) then _ else _)=_
 rw [if_pos ⟨hc.1,aX _ hc.2.1,hc.2.2,fun _=>hc.2.1⟩]
 unfold qd qb
 rw [hn]
 rfl
theorem B6 {ts:List N2.gg}{k:Int × Int} (h:k ∈ ts.map N2.cQ):jG (cf ts) (kt k)=true:=by
 unfold jG cf
 obtain ⟨t,ht,e⟩:=List.mem_map.mp h
 exact List.any_eq_true.mpr ⟨kt (N2.cQ t),List.mem_map.mpr ⟨t,ht,rfl⟩,by rw [e]; simp⟩
section
variable (ca:PySem.Str->PySem.Addr) {ps cs:List Int}{f:Nat->Nat->Int}{x y c:Int}
theorem t7 (h:x ∈ ps):∃ k,k < ps.length/\x=bF ps k:=by
 obtain ⟨k,hk,e⟩:=List.getElem_of_mem h
 refine ⟨k,hk,?_⟩
 unfold bF
 rw [List.getD_eq_getElem?_getD,List.getElem?_eq_getElem hk]
 exact e.symm
theorem iP {k:Nat} (h:k < ps.length):bF ps k ∈ ps:=by
 unfold bF
 rw [List.getD_eq_getElem?_getD,List.getElem?_eq_getElem h]
 exact List.getElem_mem h
theorem lQ (hx:x ∈ ps) (hy:y ∈ ps) (hn:x ≠ y):N2.keyOf x y ∈ (aA ps f ps.length).map N2.cQ:=by
 obtain ⟨k,hk,rfl⟩:=t7 hx
 obtain ⟨j,hj,rfl⟩:=t7 hy
 have hkj:k ≠ j:=fun h=>hn (by rw [h])
 by_cases h:j < k
 ·exact List.mem_map.mpr ⟨_,jM.mpr ⟨k,j,h,hk,rfl⟩,rfl⟩
 ·rw [N2.iW]
  exact List.mem_map.mpr ⟨_,jM.mpr ⟨j,k,by omega,hj,rfl⟩,rfl⟩
theorem vL {τ:SD}{r:Res D} (h0:τ[0]?=some (some (nF ps f))) (h1:ae 1 τ=.ok (.int x)) (h2:ae 2 τ=.ok (.int y)) (hG:ck ca [.tup (ps.map .int),.int x,.int y]=r):dg (ck ca) (aa (ah aP (ae 0) (eC (.int 0))) (aa (ae 1) (aa (ae 2) ak))) τ=r :=
 lq (ds := [.tup (ps.map .int),.int x,.int y]) (av (gP (bC h0 (bB _ _))) (av h1 (bw h2))) (by show ((aI (ps.map .int)) || _)=false; rw [bu _ (ao _)]; rfl) (by show ck ca [.tup (aH (ps.map .int)),.int x,.int y]=_; rw [aN]; exact hG)
theorem BX {C:PySem.Addr} (hG:ck ca [.tup (ps.map .int),.int x,.int y]=.d9 C):gC ca [nF ps f,.int x,.int y,.int c]=.d9 C:=by
 refine iy (τ := [some (nF ps f),some (.int x),some (.int y),some (.int c),none]) (t := [some (nF ps f),some (.int x),some (.int y),some (.int c),none]) rfl rfl ?_
 unfold iK
 exact lN (nj (vL ca rfl rfl rfl hG))
theorem yC (hl:ps.length <= 24):(aA ps f ps.length).length <= 576:=by
 have tl:=lO ps f ps.length
 have kk:ps.length * ps.length <= 24 * 24:=Nat.mul_le_mul hl hl
 omega
theorem Ii (hs:ps.Pairwise (· < ·)) (hl:ps.length <= 24) (hx:x ∈ ps) (hy:y ∈ ps) (hn:x ≠ y):gC ca [nF ps f,.int x,.int y,.int c]=.ok (iw ps (N2.rowsOf ps (km (aA ps f ps.length) (N2.keyOf x y) c))):=by
 refine cK (τ := [some (nF ps f),some (.int x),some (.int y),some (.int c),none]) rfl rfl ?_
 unfold iK
 rw [aJ (jj (vL ca rfl rfl rfl (GI ca hx hy hn))),aJ (bA (iO hs hl rfl) BQ)]
 show aD _ _ [some (nF ps f),some (.int x),some (.int y),some (.int c),some (.dct .own true (cf (aA ps f ps.length)) (cA (aA ps f ps.length)))]=_
 have hl2:=yC (f:=f) hl
 have c2:aF gB (aa (ae 1) (aa (ae 2) ak)) [some (nF ps f),some (.int x),some (.int y),some (.int c),some (.dct .own true (cf (aA ps f ps.length)) (cA (aA ps f ps.length)))]=.ok (.tup [.int (N2.keyOf x y).1,.int (N2.keyOf x y).2]):=c7 (ds := [.int x,.int y]) (av rfl (bw rfl)) (pB x y) rfl
 rw [aJ (t8 (i:=4) (d := .int c) (q:=kt (N2.keyOf x y)) (k:=true) rfl rfl c2 rfl ⟨rfl,rfl,by unfold cf; rw [List.length_map]; omega⟩ (B6 (lQ hx hy hn)))]
 rw [B7,<- GO (aA ps f ps.length) (N2.keyOf x y) c]
 show bE _ [some (nF ps f),some (.int x),some (.int y),some (.int c),some (.dct .own true (cf (km (aA ps f ps.length) (N2.keyOf x y) c)) (cA (km (aA ps f ps.length) (N2.keyOf x y) c)))]=_
 refine dw (vD (gP (bC (d:=nF ps f) rfl (bB _ _))) ?_ (List.Perm.refl _) hs hl) (aX _ (cP _ _))
 show Res.ok (D.dct .bor true _ (bQ (cA _)))=_
 rw [bK _ (jk _)]
theorem GN {f g:SD->Res D}{τ:SD}{a b:Int} (h:f τ=.ok (.int a)) (h2:g τ=.ok (.int b)):eT (ah Iv f g) τ=.ok (decide (b <= a)):=by
 unfold eT
 rw [ba h h2]
 rfl
theorem oW {f:SD->Res D}{τ:SD}{qs:List Int} (h:f τ=.ok (.tup (qs.map .int))):eA cG (aa f ak) τ=.ok (.int qs.length):=by
 rw [bV (bw h)]
 show Res.ok (D.int (qs.map D.int).length)=_
 rw [List.length_map]
theorem vG {f:SD->Res D}{τ:SD}{t:Tg}{qs:List Int} (h:f τ=.ok (.lst t (qs.map .int))):eA cG (aa f ak) τ=.ok (.int qs.length):=by
 rw [lg h,List.length_map]
theorem B8 {f g:SD->Res D}{τ:SD}{x:Int}{qs:List Int} (h1:f τ=.ok (.int x)) (h2:g τ=.ok (.tup (qs.map .int))):eT (ah (inD false) f g) τ=.ok (decide (x ∈ qs)):=nh ((ba h1 h2).trans (BS false x qs))
def fU (x:Int) (ps cs:List Int) (m:Nat):List N2.gg:=(List.range m).map fun i=>(bF ps i,x,bF cs i)
theorem sr (m:Nat):fU x ps cs (m + 1)=fU x ps cs m ++ [(bF ps m,x,bF cs m)]:=by
 unfold fU
 rw [List.range_succ,List.map_append]
 rfl
theorem vK (m:Nat):(fU x ps cs m).length=m:=by unfold fU; rw [List.length_map,List.length_range]
theorem yz (hs:ps.Pairwise (· < ·)) (hx:x ∉ ps) {i:Nat} (hi:i < ps.length):N2.keyOf (bF ps i) x ∉ (aA ps f ps.length ++ fU x ps cs i).map N2.cQ:=by
 intro h
 obtain ⟨t,ht,e⟩:=List.mem_map.mp h
 rcases List.mem_append.mp ht with ht | ht
 ·obtain ⟨k,j,h1,h2,rfl⟩:=jM.mp ht
  have m1:=iP h2
  have m2:=iP (Nat.lt_trans h1 h2)
  rcases (g6 _ _ _ _).mp e with ⟨_,e2⟩ | ⟨_,e2⟩
  ·exact hx (e2 ▸ m2)
  ·exact hx (e2 ▸ m1)
 ·obtain ⟨j,hj,rfl⟩:=List.mem_map.mp ht
  have hj:=List.mem_range.mp hj
  have:=kj hs hj hi
  rcases (g6 _ _ _ _).mp e with ⟨e2,_⟩ | ⟨e2,_⟩
  ·have e2:bF ps j=bF ps i:=e2
   omega
  ·have e2:x=bF ps i:=e2
   exact hx (e2 ▸ iP hi)
def i7 (ps:List Int) (f:Nat->Nat->Int) (x:Int) (cs:List Int) (o3 a b:Option D):SD := [some (nF ps f),some (.int x),some (.lst .aG (cs.map .int)),o3,a,b]
theorem vI {o3 a b:Option D}:ae 0 (i7 ps f x cs o3 a b)=.ok (nF ps f):=bC rfl (bB _ _)
theorem EH {o3 a b:Option D}:ae 2 (i7 ps f x cs o3 a b)=.ok (.lst .aG (cs.map .int)):=dI rfl (ao cs)
theorem yx {o3 a b:Option D}:eT (ah Iv (eA cG (aa (ah aP (ae 0) (eC (.int 0))) ak)) (eC (.int 24))) (i7 ps f x cs o3 a b)=.ok (decide ((24:Int) <= ps.length)):=GN (oW (gP vI)) rfl
theorem BY {o3 a b:Option D}:eT (ah (inD false) (ae 1) (ah aP (ae 0) (eC (.int 0)))) (i7 ps f x cs o3 a b)=.ok (decide (x ∈ ps)):=B8 rfl (gP vI)
theorem EG {o3 a b:Option D}:eT (ah nS (eA cG (aa (ae 2) ak)) (eA cG (aa (ah aP (ae 0) (eC (.int 0))) ak))) (i7 ps f x cs o3 a b)=.ok (!decide ((cs.length:Int)=ps.length)):=oB (vG EH) (oW (gP vI))
theorem D5 (h:ps.length=24):d7 ca [nF ps f,.int x,.lst .aG (cs.map .int)]=.d9 (ca "NoNet"):=by
 refine iy (τ:=i7 ps f x cs none none none) (t:=i7 ps f x cs none none none) rfl rfl ?_
 unfold fj
 have t:=yx (ps:=ps) (f:=f) (x:=x) (cs:=cs) (o3:=none) (a:=none) (b:=none)
 rw [decide_eq_true (by omega)] at t
 exact vC t
theorem BZ (h:ps.length < 24) (hx:x ∈ ps):d7 ca [nF ps f,.int x,.lst .aG (cs.map .int)]=.d9 (ca "Taken"):=by
 refine iy (τ:=i7 ps f x cs none none none) (t:=i7 ps f x cs none none none) rfl rfl ?_
 unfold fj
 have t:=yx (ps:=ps) (f:=f) (x:=x) (cs:=cs) (o3:=none) (a:=none) (b:=none)
 rw [decide_eq_false (by omega)] at t
 have t2:=BY (ps:=ps) (f:=f) (x:=x) (cs:=cs) (o3:=none) (a:=none) (b:=none)
 rw [decide_eq_true hx] at t2
 rw [br t]
 exact vC t2
theorem D4 (h:ps.length < 24) (hx:x ∉ ps) (hc:cs.length ≠ ps.length):d7 ca [nF ps f,.int x,.lst .aG (cs.map .int)]=.d9 (ca "NoColours"):=by
 refine iy (τ:=i7 ps f x cs none none none) (t:=i7 ps f x cs none none none) rfl rfl ?_
 unfold fj
 have t:=yx (ps:=ps) (f:=f) (x:=x) (cs:=cs) (o3:=none) (a:=none) (b:=none)
 rw [decide_eq_false (by omega)] at t
 have t2:=BY (ps:=ps) (f:=f) (x:=x) (cs:=cs) (o3:=none) (a:=none) (b:=none)
 rw [decide_eq_false hx] at t2
 have t3:=EG (ps:=ps) (f:=f) (x:=x) (cs:=cs) (o3:=none) (a:=none) (b:=none)
 rw [decide_eq_false (by omega)] at t3
 rw [br t,br t2]
 exact vC t3
theorem D3 {ts:List N2.gg}{q z:Int} (hk:N2.keyOf q x ∉ ts.map N2.cQ) (hl:ts.length <= 1000):eE ca (i7 ps f x cs (some (.dct .own true (cf ts) (cA ts))) (some (.int q)) (some (.int z)))=.nx (i7 ps f x cs (some (.dct .own true (cf (ts ++ [(q,x,z)])) (cA (ts ++ [(q,x,z)])))) (some (.int q)) (some (.int z))):=by
 unfold eE
 have c2:aF gB (aa (ae 1) (aa (ae 4) ak)) (i7 ps f x cs (some (.dct .own true (cf ts) (cA ts))) (some (.int q)) (some (.int z)))=.ok (.tup [.int (N2.keyOf x q).1,.int (N2.keyOf x q).2]):=c7 (ds := [.int x,.int q]) (av rfl (bw rfl)) (pB x q) rfl
 rw [N2.iW] at c2
 rw [oG (d := .int z) (q:=kt (N2.keyOf q x)) (k:=true) (ks:=cf ts) (xs:=cA ts) rfl rfl c2 rfl ⟨rfl,rfl,by unfold cf; rw [List.length_map]; omega⟩ (has_none hk)]
 unfold i7 cf cA
 rw [List.map_append,List.map_append]
 rfl
theorem yy (h:cs.length=ps.length):kM (ps.map D.int) (cs.map D.int)=(List.range ps.length).map fun i=>D.tup [.int (bF ps i),.int (bF cs i)]:=by
 refine List.ext_getElem? fun i=>?_
 by_cases h':i < ps.length
 ·rw [List.getElem?_map,List.getElem?_range h']
  unfold kM
  rw [List.getElem?_zipWith,iY h',iY (by omega)]
  rfl
 ·rw [List.getElem?_eq_none (by rw [pj,List.length_map,List.length_map]; omega),List.getElem?_eq_none (by rw [List.length_map,List.length_range]; omega)]
theorem vH (n:Nat):bc ((List.range n).map fun i=>D.tup [.int (bF ps i),.int (bF cs i)])=true:=dF fun d m=>by
 obtain ⟨k,_,rfl⟩:=List.mem_map.mp m
 rfl
theorem ny {qs:List Int} (h:qs.Nodup):(sortI qs).Pairwise (· < ·):=by
 have h1:=fg qs
 have h2:(sortI qs).Nodup:=(sortI_perm qs).nodup_iff.mpr h
 exact h1.imp₂ (fun a b x y=>by omega) h2
theorem ko (hs:ps.Pairwise (· < ·)) (hx:x ∉ ps):(ps ++ [x]).Nodup:=by
 rw [List.nodup_append]
 refine ⟨hs.imp fun h=>by omega,List.nodup_cons.mpr ⟨List.not_mem_nil,List.nodup_nil⟩,fun a ha b hb z=>?_⟩
 have hb:b=x:=by simpa using hb
 exact hx (hb ▸ z ▸ ha)
theorem Ig (hs:ps.Pairwise (· < ·)) (h:ps.length < 24) (hx:x ∉ ps) (hc:cs.length=ps.length):d7 ca [nF ps f,.int x,.lst .aG (cs.map .int)]=.ok (iw (sortI (ps ++ [x])) (N2.rowsOf (sortI (ps ++ [x])) (aA ps f ps.length ++ fU x ps cs ps.length))):=by
 refine cK (τ:=i7 ps f x cs none none none) rfl rfl ?_
 unfold fj
 have t:=yx (ps:=ps) (f:=f) (x:=x) (cs:=cs) (o3:=none) (a:=none) (b:=none)
 rw [decide_eq_false (by omega)] at t
 have t2:=BY (ps:=ps) (f:=f) (x:=x) (cs:=cs) (o3:=none) (a:=none) (b:=none)
 rw [decide_eq_false hx] at t2
 have t3:=EG (ps:=ps) (f:=f) (x:=x) (cs:=cs) (o3:=none) (a:=none) (b:=none)
 rw [decide_eq_true (by omega)] at t3
 have hl2:=yC (f:=f) (ps:=ps) (by omega)
 rw [br t,br t2,br t3,aJ (bA (iO hs (by omega) rfl) BQ)]
 show aD _ _ (i7 ps f x cs (some (.dct .own true (cf (aA ps f ps.length)) (cA (aA ps f ps.length)))) none none)=_
 obtain ⟨t,h1,a,b,h2⟩:=eW (tg:=gT 2 (aM 4 (aM 5 cB))) (body:=eE ca) (fun i t=>∃ a b,t=i7 ps f x cs (some (.dct .own true (cf (aA ps f ps.length ++ fU x ps cs i)) (cA (aA ps f ps.length ++ fU x ps cs i)))) a b) (ds:=(List.range ps.length).map fun i=>D.tup [.int (bF ps i),.int (bF cs i)]) 0 (i7 ps f x cs (some (.dct .own true (cf (aA ps f ps.length)) (cA (aA ps f ps.length)))) none none) ⟨none,none,by rw [show fU x ps cs 0=[] from rfl,List.append_nil]⟩ (fun j d t hd hp=>by
  obtain ⟨a,b,rfl⟩:=hp
  rw [Nat.zero_add]
  have hj:j < ps.length:=by
   have:=(List.getElem?_eq_some_iff.mp hd).1
   simpa using this
  rw [List.getElem?_map,List.getElem?_range hj] at hd
  cases hd
  refine ⟨_,_,rfl,.inl (D3 ca (yz hs hx hj) (by rw [List.length_append,vK]; omega)),some (.int (bF ps j)),some (.int (bF cs j)),?_⟩
  rw [sr,List.append_assoc])
 rw [List.length_map,List.length_range,Nat.zero_add] at h2
 have hf:cZ [0,2] (oh (aa (ah aP (ae 0) (eC (.int 0))) (aa (ae 2) ak))) (gT 2 (aM 4 (aM 5 cB))) (eE ca) (i7 ps f x cs (some (.dct .own true (cf (aA ps f ps.length)) (cA (aA ps f ps.length)))) none none)=.nx (i7 ps f x cs (some (.dct .own true (cf (aA ps f ps.length ++ fU x ps cs ps.length)) (cA (aA ps f ps.length ++ fU x ps cs ps.length)))) a b):=by
  rw [jv (τ' := i7 ps f x cs (some (.dct .own true (cf (aA ps f ps.length)) (cA (aA ps f ps.length)))) none none) (ds:=(List.range ps.length).map fun i=>D.tup [.int (bF ps i),.int (bF cs i)]) ?_ ?_ (vH _),h1,h2]
  ·show [some (nF ps f).aG,_,some (D.lst .aG (aH (cs.map .int))),_,_,_]=_
   rw [er _ (bB _ _),aN]
   rfl
  ·rw [tY (gP vI) EH (g9 (ao _)) (nq (.inl rfl) (ao _)),yy hc]
 rw [aJ hf]
 have e1:ah bP (eA dj (aa (ah aP (ae 0) (eC (.int 0))) ak)) (eA eS (aa (ae 1) ak)) (i7 ps f x cs (some (.dct .own true (cf (aA ps f ps.length ++ fU x ps cs ps.length)) (cA (aA ps f ps.length ++ fU x ps cs ps.length)))) a b)=.ok (.lst .own ((ps ++ [x]).map .int)):=by
  rw [ba (x := .lst .own (ps.map .int)) (y := .lst .own [.int x]) ((bV (bw (gP vI))).trans rfl) rfl]
  show (if (ps.map D.int).length + [D.int x].length <= 16777216 then Res.ok (D.lst .own (ps.map D.int ++ [D.int x])) else .bad)=_
  rw [if_pos (by rw [List.length_map,List.length_singleton]; omega),List.map_append]
  rfl
 refine dw (lr e1 (.inr ?_) (sortI_perm _).symm (ny (ko hs hx)) (by rw [(sortI_perm _).length_eq,List.length_append,List.length_singleton]; omega)) (aX _ (cP _ _))
 show Res.ok (D.dct .bor true _ (bQ (cA _)))=_
 rw [bK _ (jk _)]
end
theorem Ca (ca:PySem.Str->PySem.Addr) (x:PySem.Str) (C:PySem.Addr):kQ ca x C=(decide (ca x=C) || decide (ca x=ca "NetError")):=by
 unfold kQ
 rw [Bool.eq_iff_iff]
 simp [List.contains_iff_mem,gJ]
section
variable {ca:PySem.Str->PySem.Addr}{NM:List PySem.Str}
theorem jO (c:PySem.Str):kQ ca c (ca c)=true:=by simp [Ca]
theorem aW (h:Apart ca NM) {x c:PySem.Str} (hx:x ∈ NM) (hc:c ∈ NM) (h0:("NetError" : PySem.Str) ∈ NM) (n1:x ≠ c) (n2:x ≠ "NetError"):kQ ca x (ca c)=false:=by
 rw [Ca,decide_eq_false fun e=>n1 (h _ _ hx hc e),decide_eq_false fun e=>n2 (h _ _ hx h0 e)]
 rfl
def names:List PySem.Str := ["NetError","NoNet","NoPlace","SamePlace","Twice","Taken","NoColours","NoSet","NoParting","NoGroup","TooMany","NoDeed","Unlike","NoText","NoRow","NoName"]
theorem gH {L:List PySem.Addr}{p:PySem.Addr->Bool}{C:PySem.Addr}{τ:SD}{b:Bool} (h0:τ[0]?=some (some (.exc C))) (hL:L.contains C=true) (hp:p C=b):fH (cH L p) (ae 0) τ=.ok (.bl b):=by
 unfold fH
 rw [bC h0 rfl]
 show (if L.contains C=true then Res.ok (D.bl (p C)) else .bad)=_
 rw [if_pos hL,hp]
theorem lR (h:Apart ca names) {c:PySem.Str} (hL:(leaf ca).contains (ca c)=true) {b1 b2 b3 b4 b5 b6 b7 b8 b9:Bool}{r:PySem.Str}
  (e1:kQ ca "NoNet" (ca c)=b1) (e2:kQ ca "NoPlace" (ca c)=b2) (e3:kQ ca "SamePlace" (ca c)=b3) (e4:kQ ca "Twice" (ca c)=b4) (e5:kQ ca "Taken" (ca c)=b5) (e6:kQ ca "NoColours" (ca c)=b6) (e7:kQ ca "NoSet" (ca c)=b7) (e8:kQ ca "NoParting" (ca c)=b8) (e9:kQ ca "NoGroup" (ca c)=b9)
  (e10:vc ca ["TooMany","NoDeed","Unlike","NoText","NoRow","NoName"] (ca c)=false)
  (hr:bR (bo (aa (eC (.int 9)) ak)) (gN 0) (g_Lword_c1 ca) (g_Lword_e2 ca) 1 [("_law_words",3),("_law_named",1)] [some (.exc (ca c)),some (.lst .own [.bl b1,.bl b2,.bl b3,.bl b4,.bl b5,.bl b6,.bl b7,.bl b8,.bl b9]),some (.bl false),some (.lst .own [.str "NoNet",.str "NoPlace",.str "SamePlace",.str "Twice",.str "Taken",.str "NoColours",.str "NoSet",.str "NoParting",.str "NoGroup"]),none]=.ok (.lst .own [.str r])) :
  G_Lword ca [.exc (ca c)]=.ok (.str r):=by
 refine cK (τ := [some (.exc (ca c)),none,none,none,none]) rfl rfl ?_
 unfold g_Lword
 have z1:eA eS (aa (fH (cH (leaf ca) (kQ ca "NoNet")) (ae 0)) (aa (fH (cH (leaf ca) (kQ ca "NoPlace")) (ae 0)) (aa (fH (cH (leaf ca) (kQ ca "SamePlace")) (ae 0)) (aa (fH (cH (leaf ca) (kQ ca "Twice")) (ae 0)) ak)))) [some (.exc (ca c)),none,none,none,none]=.ok (.lst .own [.bl b1,.bl b2,.bl b3,.bl b4]):=by
  rw [bV (av (gH rfl hL e1) (av (gH rfl hL e2) (av (gH rfl hL e3) (bw (gH rfl hL e4)))))]
  rfl
 rw [aJ (bA z1 rfl)]
 show aD _ _ [some (.exc (ca c)),some (.lst .own [.bl b1,.bl b2,.bl b3,.bl b4]),none,none,none]=_
 have z2:ah bP (ae 1) (eA eS (aa (fH (cH (leaf ca) (kQ ca "Taken")) (ae 0)) (aa (fH (cH (leaf ca) (kQ ca "NoColours")) (ae 0)) (aa (fH (cH (leaf ca) (kQ ca "NoSet")) (ae 0)) (aa (fH (cH (leaf ca) (kQ ca "NoParting")) (ae 0)) ak))))) [some (.exc (ca c)),some (.lst .own [.bl b1,.bl b2,.bl b3,.bl b4]),none,none,none]=.ok (.lst .own [.bl b1,.bl b2,.bl b3,.bl b4,.bl b5,.bl b6,.bl b7,.bl b8]):=by
  rw [ba (x := .lst .bor [.bl b1,.bl b2,.bl b3,.bl b4]) (y := .lst .own [.bl b5,.bl b6,.bl b7,.bl b8]) rfl ((bV (av (gH rfl hL e5) (av (gH rfl hL e6) (av (gH rfl hL e7) (bw (gH rfl hL e8)))))).trans rfl)]
  rfl
 rw [aJ (bA z2 rfl)]
 show aD _ _ [some (.exc (ca c)),some (.lst .own [.bl b1,.bl b2,.bl b3,.bl b4,.bl b5,.bl b6,.bl b7,.bl b8]),none,none,none]=_
 rw [aJ (tR (xs := [.bl b1,.bl b2,.bl b3,.bl b4,.bl b5,.bl b6,.bl b7,.bl b8]) rfl (gH rfl hL e9) rfl (Nat.le_of_ble_eq_true rfl))]
 show aD _ _ [some (.exc (ca c)),some (.lst .own [.bl b1,.bl b2,.bl b3,.bl b4,.bl b5,.bl b6,.bl b7,.bl b8,.bl b9]),none,none,none]=_
 rw [aJ (bA (gH rfl hL e10) rfl)]
 rw [aJ (bA (d := .lst .own [.str "NoNet",.str "NoPlace",.str "SamePlace",.str "Twice",.str "Taken",.str "NoColours",.str "NoSet",.str "NoParting",.str "NoGroup"]) rfl rfl)]
 show aD _ _ [some (.exc (ca c)),some (.lst .own [.bl b1,.bl b2,.bl b3,.bl b4,.bl b5,.bl b6,.bl b7,.bl b8,.bl b9]),some (.bl false),some (.lst .own [.str "NoNet",.str "NoPlace",.str "SamePlace",.str "Twice",.str "Taken",.str "NoColours",.str "NoSet",.str "NoParting",.str "NoGroup"]),none]=_
 rw [aJ (bA hr rfl)]
 have t:∀ τ:SD,τ[0]?=some (some (.exc (ca c)))->gm (eT (fH (cH (leaf ca) (fun _=>true)) (ae 0))) τ=.ok false:=fun τ q=>oA (b:=true) (nh (gH q hL rfl))
 rw [br (qr (a:=false) (b:=false) rfl (qr (a:=false) (b:=false) rfl (t _ rfl)))]
 rfl
theorem B9:∀ x ∈ (["TooMany","NoDeed","Unlike","NoText","NoRow","NoName"]:List PySem.Str),x ∈ names/\x ≠ "NetError" := by decide
theorem jP (h:Apart ca names) {c:PySem.Str} (hc:c ∈ names) (n:c ∉ (["TooMany","NoDeed","Unlike","NoText","NoRow","NoName"]:List PySem.Str)):vc ca ["TooMany","NoDeed","Unlike","NoText","NoRow","NoName"] (ca c)=false:=by
 unfold vc
 rw [List.any_eq_false]
 intro x hx z
 rw [aW h (B9 x hx).1 hc (by decide) (fun e=>n (e ▸ hx)) (B9 x hx).2] at z
 cases z
theorem xg (h:Apart ca names):G_Lword ca [.exc (ca "NoNet")]=.ok (.str "NoNet") :=
 lR h (by simp [leaf]) (jO _) (aW h (by decide) (by decide) (by decide) (by decide) (by decide)) (aW h (by decide) (by decide) (by decide) (by decide) (by decide)) (aW h (by decide) (by decide) (by decide) (by decide) (by decide)) (aW h (by decide) (by decide) (by decide) (by decide) (by decide)) (aW h (by decide) (by decide) (by decide) (by decide) (by decide)) (aW h (by decide) (by decide) (by decide) (by decide) (by decide)) (aW h (by decide) (by decide) (by decide) (by decide) (by decide)) (aW h (by decide) (by decide) (by decide) (by decide) (by decide)) (jP h (by decide) (by decide)) rfl
theorem t9 (h:Apart ca names):G_Lword ca [.exc (ca "NoPlace")]=.ok (.str "NoPlace") :=
 lR h (by simp [leaf]) (aW h (by decide) (by decide) (by decide) (by decide) (by decide)) (jO _) (aW h (by decide) (by decide) (by decide) (by decide) (by decide)) (aW h (by decide) (by decide) (by decide) (by decide) (by decide)) (aW h (by decide) (by decide) (by decide) (by decide) (by decide)) (aW h (by decide) (by decide) (by decide) (by decide) (by decide)) (aW h (by decide) (by decide) (by decide) (by decide) (by decide)) (aW h (by decide) (by decide) (by decide) (by decide) (by decide)) (aW h (by decide) (by decide) (by decide) (by decide) (by decide)) (jP h (by decide) (by decide)) rfl
theorem qA (h:Apart ca names):G_Lword ca [.exc (ca "SamePlace")]=.ok (.str "SamePlace") :=
 lR h (by simp [leaf]) (aW h (by decide) (by decide) (by decide) (by decide) (by decide)) (aW h (by decide) (by decide) (by decide) (by decide) (by decide)) (jO _) (aW h (by decide) (by decide) (by decide) (by decide) (by decide)) (aW h (by decide) (by decide) (by decide) (by decide) (by decide)) (aW h (by decide) (by decide) (by decide) (by decide) (by decide)) (aW h (by decide) (by decide) (by decide) (by decide) (by decide)) (aW h (by decide) (by decide) (by decide) (by decide) (by decide)) (aW h (by decide) (by decide) (by decide) (by decide) (by decide)) (jP h (by decide) (by decide)) rfl
theorem xf (h:Apart ca names):G_Lword ca [.exc (ca "Taken")]=.ok (.str "Taken") :=
 lR h (by simp [leaf]) (aW h (by decide) (by decide) (by decide) (by decide) (by decide)) (aW h (by decide) (by decide) (by decide) (by decide) (by decide)) (aW h (by decide) (by decide) (by decide) (by decide) (by decide)) (aW h (by decide) (by decide) (by decide) (by decide) (by decide)) (jO _) (aW h (by decide) (by decide) (by decide) (by decide) (by decide)) (aW h (by decide) (by decide) (by decide) (by decide) (by decide)) (aW h (by decide) (by decide) (by decide) (by decide) (by decide)) (aW h (by decide) (by decide) (by decide) (by decide) (by decide)) (jP h (by decide) (by decide)) rfl
theorem qB (h:Apart ca names):G_Lword ca [.exc (ca "NoColours")]=.ok (.str "NoColours") :=
 lR h (by simp [leaf]) (aW h (by decide) (by decide) (by decide) (by decide) (by decide)) (aW h (by decide) (by decide) (by decide) (by decide) (by decide)) (aW h (by decide) (by decide) (by decide) (by decide) (by decide)) (aW h (by decide) (by decide) (by decide) (by decide) (by decide)) (aW h (by decide) (by decide) (by decide) (by decide) (by decide)) (jO _) (aW h (by decide) (by decide) (by decide) (by decide) (by decide)) (aW h (by decide) (by decide) (by decide) (by decide) (by decide)) (aW h (by decide) (by decide) (by decide) (by decide) (by decide)) (jP h (by decide) (by decide)) rfl
theorem xh (h:Apart ca names):G_Lword ca [.exc (ca "NoSet")]=.ok (.str "NoSet") :=
 lR h (by simp [leaf]) (aW h (by decide) (by decide) (by decide) (by decide) (by decide)) (aW h (by decide) (by decide) (by decide) (by decide) (by decide)) (aW h (by decide) (by decide) (by decide) (by decide) (by decide)) (aW h (by decide) (by decide) (by decide) (by decide) (by decide)) (aW h (by decide) (by decide) (by decide) (by decide) (by decide)) (aW h (by decide) (by decide) (by decide) (by decide) (by decide)) (jO _) (aW h (by decide) (by decide) (by decide) (by decide) (by decide)) (aW h (by decide) (by decide) (by decide) (by decide) (by decide)) (jP h (by decide) (by decide)) rfl
end
inductive kq
 | wit (x:Int) (cs:List Int)
 | ky (x:Int)
 | part (qs:List Int)
 | fF (x y c:Int)
def cD (t:Tg):kq->D
 | .wit x cs=>.tup [.str "with",.int x,.lst t (cs.map .int)]
 | .ky x=>.tup [.str "without",.int x]
 | .part qs=>.tup [.str "part",.lst t (qs.map .int)]
 | .fF x y c=>.tup [.str "colour",.lst t ([x,y].map .int),.int c]
abbrev bg:kq->D:=cD .aG
abbrev N:Type:=List Int × List N2.gg
def iz (ps:List Int) (f:Nat->Nat->Int):kq->PySem.Str ⊕ N
 | .wit x cs=>if ps.length=24 then .inl "NoNet" else if x ∈ ps then .inl "Taken" else if cs.length ≠ ps.length then .inl "NoColours" else .inr (sortI (ps ++ [x]),aA ps f ps.length ++ fU x ps cs ps.length)
 | .ky x=>if x ∉ ps then .inl "NoPlace" else if ps.length=1 then .inl "NoNet" else .inr (but ps x,aA ps f ps.length)
 | .part qs=>if ¬ (∀ q ∈ qs,q ∈ ps) then .inl "NoPlace" else if qs=[] then .inl "NoSet" else .inr (within ps qs,aA ps f ps.length)
 | .fF x y c=>if ¬ (x ∈ ps/\y ∈ ps) then .inl "NoPlace" else if x=y then .inl "SamePlace" else .inr (ps,km (aA ps f ps.length) (N2.keyOf x y) c)
def gK:PySem.Str ⊕ N->D
 | .inl w=>.str w
 | .inr n=>iw n.1 (N2.rowsOf n.1 n.2)
theorem fm (r:PySem.Str ⊕ N):(gK r).pure=true:=by
 cases r with
 | inl w=>rfl
 | inr n=>exact cP _ _
theorem sC (d:kq):(bg d).view=bg d:=by
 cases d with
 | wit x cs=>show D.tup [.str "with",.int x,.lst .aG (bQ (cs.map .int))]=_; rw [bK _ (ao _)]; rfl
 | ky x=>rfl
 | part qs=>show D.tup [.str "part",.lst .aG (bQ (qs.map .int))]=_; rw [bK _ (ao _)]; rfl
 | fF x y c=>rfl
theorem il (t:Tg) (d:kq):(cD t d).aG=bg d:=by
 cases d with
 | wit x cs=>show D.tup [.str "with",.int x,.lst .aG (aH (cs.map .int))]=_; rw [aN]; rfl
 | ky x=>rfl
 | part qs=>show D.tup [.str "part",.lst .aG (aH (qs.map .int))]=_; rw [aN]; rfl
 | fF x y c=>rfl
theorem ku (d:kq) {t:Tg} (ht:t=.aG ∨ t=.own):(cD t d).aE=false:=by
 have e:∀ qs:List Int,(D.lst t (qs.map .int)).aE=false:=fun qs=>by
  rcases ht with rfl | rfl
  ·show (false || aI (qs.map .int))=false
   rw [bu _ (ao _)]
   rfl
  ·exact gA (ao _)
 cases d with
 | wit x cs=>show (false || (false || ((D.lst t (cs.map .int)).aE || false)))=false; rw [e]; rfl
 | ky x=>rfl
 | part qs=>show (false || ((D.lst t (qs.map .int)).aE || false))=false; rw [e]; rfl
 | fF x y c=>show (false || ((D.lst t ([x,y].map .int)).aE || (false || false)))=false; rw [e]; rfl
theorem i8 {d:kq}{i:Nat}{τ:SD} (h:τ[i]?=some (some (bg d))):ae i τ=.ok (bg d):=by
 unfold ae
 rw [h]
 show Res.ok (bg d).view=_
 rw [sC]
theorem qC {f g:SD->Res D}{τ:SD}{a b:PySem.Str} (h:f τ=.ok (.str a)) (h2:g τ=.ok (.str b)):eT (ah fG f g) τ=.ok (decide (a=b)):=by
 unfold eT
 rw [ba h h2]
 show Res.ok (xor false (decide (a=b)))=_
 rw [Bool.false_xor]
theorem D6 (ts:List N2.gg) (k:Int × Int) (c:Int):gf (km ts k c)=gf ts:=by
 induction ts with
 | nil=>rfl
 | cons t r ih =>
  show kt ((if N2.cQ t=k then (t.1,t.2.1,c) else t).1,(if N2.cQ t=k then (t.1,t.2.1,c) else t).2.1) :: kt ((if N2.cQ t=k then (t.1,t.2.1,c) else t).2.1,(if N2.cQ t=k then (t.1,t.2.1,c) else t).1) :: gf (km r k c)=kt (t.1,t.2.1) :: kt (t.2.1,t.1) :: gf r
  rw [ih]
  split <;> rfl
theorem yD (a b c:Int):∀ ts:List N2.gg,jg (gf ts) (jg (gf ts) (ik ts) (kt (a,b)) (.int c)) (kt (b,a)) (.int c)=ik (km ts (N2.keyOf a b) c)
 | []=>rfl
 | t :: r=>by
  have ih:=yD a b c r
  show (if kt (t.1,t.2.1)=kt (b,a) then D.int c else if kt (t.1,t.2.1)=kt (a,b) then D.int c else D.int t.2.2) :: (if kt (t.2.1,t.1)=kt (b,a) then D.int c else if kt (t.2.1,t.1)=kt (a,b) then D.int c else D.int t.2.2) :: jg (gf r) (jg (gf r) (ik r) (kt (a,b)) (.int c)) (kt (b,a)) (.int c)=D.int (if N2.cQ t=N2.keyOf a b then (t.1,t.2.1,c) else t).2.2 :: D.int (if N2.cQ t=N2.keyOf a b then (t.1,t.2.1,c) else t).2.2 :: ik (km r (N2.keyOf a b) c)
  rw [ih]
  have k1:∀ p q u v:Int,kt (p,q)=kt (u,v) ↔ p=u/\q=v:=fun p q u v=>by rw [ju,Prod.mk.injEq]
  simp only [k1]
  by_cases h:N2.cQ t=N2.keyOf a b
  ·rw [if_pos h]
   have:(if t.1=b/\t.2.1=a then D.int c else if t.1=a/\t.2.1=b then D.int c else D.int t.2.2)=D.int c/\(if t.2.1=b/\t.1=a then D.int c else if t.2.1=a/\t.1=b then D.int c else D.int t.2.2)=D.int c:=by
    rcases (g6 _ _ _ _).mp h with ⟨h1,h2⟩ | ⟨h1,h2⟩
    ·refine ⟨?_,by rw [if_pos ⟨h2,h1⟩]⟩
     by_cases z:t.1=b/\t.2.1=a
     ·rw [if_pos z]
     ·rw [if_neg z,if_pos ⟨h1,h2⟩]
    ·refine ⟨by rw [if_pos ⟨h2,h1⟩],?_⟩
     by_cases z:t.2.1=b/\t.1=a
     ·rw [if_pos z]
     ·rw [if_neg z,if_pos ⟨h1,h2⟩]
   rw [this.1,this.2]
  ·rw [if_neg h]
   have n1:¬ (t.1=a/\t.2.1=b):=fun z=>h ((g6 _ _ _ _).mpr (.inl z))
   have n2:¬ (t.2.1=a/\t.1=b):=fun z=>h ((g6 _ _ _ _).mpr (.inr z))
   rw [if_neg fun z=>n2 ⟨z.2,z.1⟩,if_neg n1,if_neg fun z=>n1 ⟨z.2,z.1⟩,if_neg n2]
theorem su {ts:List N2.gg}{p q:Int} (h:N2.keyOf p q ∈ ts.map N2.cQ):jG (gf ts) (kt (p,q))=true:=by
 obtain ⟨t,ht,e⟩:=List.mem_map.mp h
 unfold jG gf
 refine List.any_eq_true.mpr ⟨kt (p,q),List.mem_flatMap.mpr ⟨t,ht,?_⟩,by simp⟩
 rcases (g6 _ _ _ _).mp e with ⟨h1,h2⟩ | ⟨h1,h2⟩
 ·rw [h1,h2]; exact List.mem_cons_self
 ·rw [h1,h2]; exact List.mem_cons_of_mem _ List.mem_cons_self
def eY (ps:List Int) (f:Nat->Nat->Int) (d:kq) (ts:List N2.gg) (a b:Option D):SD := [some (nF ps f),some (bg d),some (.dct .own true (gf ts) (ik ts)),a,b]
section
variable {ps cs qs:List Int}{f:Nat->Nat->Int}{x y c:Int}{ts:List N2.gg}{a b:Option D}{d:kq}
theorem G1:ae 0 (eY ps f d ts a b)=.ok (nF ps f):=bC rfl (bB _ _)
theorem JE:ae 1 (eY ps f d ts a b)=.ok (bg d):=i8 rfl
theorem JP:ae 2 (eY ps f d ts a b)=.ok (.dct .bor true (gf ts) (ik ts)):=by
 show Res.ok (D.dct .bor true _ (bQ (ik _)))=_
 rw [bK _ (jL _)]
theorem Cb {e:SD->Res D}{t:Tg}{qs rs:List Int} (he:e (eY ps f d ts a b)=.ok (.lst t (qs.map .int))) (hp:qs.Perm rs) (hs:rs.Pairwise (· < ·)) (hl:rs.length <= 24) (hall:∀ k j,j < k->k < rs.length->N2.keyOf (bF rs k) (bF rs j) ∈ ts.map N2.cQ):bE (aF G_Lmade (aa e (aa (ae 2) ak))) (eY ps f d ts a b)=.rt (iw rs (N2.rowsOf rs ts)) :=
 dw (df (av he (bw JP)) (by show G_Lmade [.lst .aG (aH (qs.map .int)),.dct .aG true (gf ts) (aH (ik ts))]=_; rw [aN,cR _ (jL ts)]; exact BL _ rs ts (By qs) (Bv hp hs (by rw [hp.length_eq]; omega)) hl hall) (cP _ _)) (aX _ (cP _ _))
theorem Cf {e:SD->Res D}{qs rs:List Int} (he:e (eY ps f d ts a b)=.ok (.tup (qs.map .int))) (hp:qs.Perm rs) (hs:rs.Pairwise (· < ·)) (hl:rs.length <= 24) (hall:∀ k j,j < k->k < rs.length->N2.keyOf (bF rs k) (bF rs j) ∈ ts.map N2.cQ):bE (aF G_Lmade (aa e (aa (ae 2) ak))) (eY ps f d ts a b)=.rt (iw rs (N2.rowsOf rs ts)) :=
 dw (df (av he (bw JP)) (by show G_Lmade [.tup (aH (qs.map .int)),.dct .aG true (gf ts) (aH (ik ts))]=_; rw [aN,cR _ (jL ts)]; exact BL _ rs ts (Bw qs) (BC hp hs (by rw [hp.length_eq]; omega)) hl hall) (cP _ _)) (aX _ (cP _ _))
theorem xj {rs:List Int} (hr:rs.Pairwise (· < ·)) (hsub:∀ q ∈ rs,q ∈ ps):∀ k j,j < k->k < rs.length->N2.keyOf (bF rs k) (bF rs j) ∈ (aA ps f ps.length).map N2.cQ:=fun k j hj hk=>by
 have:=kj hr hj hk
 exact lQ (hsub _ (iP hk)) (hsub _ (iP (Nat.lt_trans hj hk))) (by omega)
theorem start (hs:ps.Pairwise (· < ·)) (hl:ps.length <= 24) (s:SF):aD (bf 2 (aF G_Ldict (aa (ae 0) ak))) s [some (nF ps f),some (bg d),none,none,none]=s (eY ps f d (aA ps f ps.length) none none):=by
 have z:aF G_Ldict (aa (ae 0) ak) [some (nF ps f),some (bg d),none,none,none]=.ok (.dct .own true (gf (aA ps f ps.length)) (ik (aA ps f ps.length))) :=
  c7 (ds := [nF ps f]) (bw (bC rfl (bB _ _))) (by show G_Ldict [(nF ps f).aG]=_; rw [er _ (bB _ _)]; exact DV hs hl) (by show ((nF ps f).aE || false)=false; rw [aX _ (bB _ _)]; rfl)
 rw [aJ (bA z (by show (false || aI (ik _))=false; rw [bu _ (jL _)]; rfl))]
 rfl
theorem EI {w:PySem.Str} (hw:aP (bg d) (.int 0)=.ok (.str w)) (v:PySem.Str):eT (ah fG (ah aP (ae 1) (eC (.int 0))) (eC (.str v))) (eY ps f d ts a b)=.ok (decide (w=v)) :=
 qC (cj JE (y := .int 0) rfl hw) rfl
theorem kB {w v:PySem.Str} (hw:aP (bg d) (.int 0)=.ok (.str w)) (h:decide (w=v)=false):eT (ah fG (ah aP (ae 1) (eC (.int 0))) (eC (.str v))) (eY ps f d ts a b)=.ok false:=by rw [<- h]; exact EI hw v
theorem nz {w:PySem.Str} (hw:aP (bg d) (.int 0)=.ok (.str w)):eT (ah fG (ah aP (ae 1) (eC (.int 0))) (eC (.str w))) (eY ps f d ts a b)=.ok true:=by rw [EI hw w,decide_eq_true rfl]
theorem zJ {v:D} (h:aP (bg d) (.int 1)=.ok v):ah aP (ae 1) (eC (.int 1)) (eY ps f d ts a b)=.ok v:=cj JE (y := .int 1) rfl h
theorem Ij {v:D} (h:aP (bg d) (.int 2)=.ok v):ah aP (ae 1) (eC (.int 2)) (eY ps f d ts a b)=.ok v:=cj JE (y := .int 2) rfl h
theorem ua (hs:ps.Pairwise (· < ·)) (hx:x ∈ ps):(but ps x).length + 1=ps.length:=by
 have nd:ps.Nodup:=hs.imp fun h=>by omega
 have e:but ps x=ps.erase x:=by
  unfold but
  rw [nd.erase_eq_filter]
  refine List.filter_congr fun p _=>?_
  by_cases h:p=x
  ·simp [h]
  ·simp [h]
 rw [e,List.length_erase_of_mem hx]
 have:=List.length_pos_of_mem hx
 omega
theorem Cd (hs:ps.Pairwise (· < ·)) (hl:ps.length <= 24):G_Ldue [nF ps f,bg (.ky x)]=.ok (gK (iz ps f (.ky x))):=by
 refine cK (τ := [some (nF ps f),some (bg (.ky x)),none,none,none]) rfl rfl ?_
 unfold g_Ldue
 rw [start hs hl,br (kB (w := "without") rfl (by decide))]
 refine fP (nz (w := "without") rfl) ?_
 have a1:=zJ (ps:=ps) (f:=f) (d := .ky x) (ts:=aA ps f ps.length) (a:=none) (b:=none) (v := .int x) rfl
 have t1:=nv a1 (gP G1)
 have t2:=gF (oW (gP (G1 (ps:=ps) (f:=f) (d := .ky x) (ts:=aA ps f ps.length) (a:=none) (b:=none)))) (g:=eC (.int 1)) (b:=1) rfl
 show _=Fl.rt (gK (if x ∉ ps then .inl "NoPlace" else if ps.length=1 then .inl "NoNet" else .inr (but ps x,aA ps f ps.length)))
 by_cases hx:x ∈ ps
 ·rw [decide_eq_true hx] at t1
  rw [if_neg fun z=>z hx,br t1]
  by_cases h1:ps.length=1
  ·rw [if_pos h1]
   rw [decide_eq_true (by omega)] at t2
   exact fP t2 rfl
  ·rw [if_neg h1]
   rw [decide_eq_false (by omega)] at t2
   rw [br t2]
   have e:=mS (it:=jQ (ah aP (ae 0) (eC (.int 0)))) (tt:=g_Ldue_c5) (elt:=g_Ldue_e6) (cap := [("_law_deed_here",1)]) (τ:=eY ps f (.ky x) (aA ps f ps.length) none none) (fl:=false) (ds:=ps.map .int) (fun d=>!decide (intOf d=x)) id (by
    unfold jQ
    rw [gP G1,Res.aQ]
    exact g9 (ao ps)) (fun d hd=>by
    rw [aN] at hd
    obtain ⟨p,_,rfl⟩:=List.mem_map.mp hd
    exact oB (a:=p) (b:=x) rfl rfl) (fun d hd _=>by
    rw [aN] at hd
    obtain ⟨p,_,rfl⟩:=List.mem_map.mp hd
    exact ⟨rfl,rfl⟩) (by rw [List.length_map]; omega)
   rw [aN,List.map_id,List.filter_map] at e
   have:=BV (ps:=ps) (x:=x)
   exact Cb (qs:=but ps x) (rs:=but ps x) e (List.Perm.refl _) (tZ hs) (by omega) (xj (tZ hs) fun q hq=>(List.mem_filter.mp hq).1)
 ·rw [decide_eq_false hx] at t1
  rw [if_pos hx]
  exact fP t1 rfl
theorem sA {qs:List Int} (he:aP (bg d) (.int 1)=.ok (.lst .aG (qs.map .int))) (hq:qs.length < 64):eT (ah HC (eA cG (aa (bR (jQ (ah aP (ae 1) (eC (.int 1)))) (gN 0) g_Ldue_c3 g_Ldue_e4 1 [("_law_net_here",0)]) ak)) (eC (.int 0))) (eY ps f d ts a b)=.ok (decide (¬ ∀ q ∈ qs,q ∈ ps)):=by
 have e:=mS (it:=jQ (ah aP (ae 1) (eC (.int 1)))) (tt:=g_Ldue_c3) (elt:=g_Ldue_e4) (cap := [("_law_net_here",0)]) (τ:=eY ps f d ts a b) (fl:=false) (ds:=qs.map .int) (fun d=>!decide (intOf d ∈ ps)) id (by
   unfold jQ
   rw [zJ he,Res.aQ]
   exact nq (.inl rfl) (ao qs)) (fun d hd=>by
   rw [aN] at hd
   obtain ⟨p,_,rfl⟩:=List.mem_map.mp hd
   have cp:fE (eY ps f ‹_› ts a b) [("_law_net_here",0)]=[some (nF ps f)]:=by
    show [some (nF ps f).aG]=_
    rw [er _ (bB _ _)]
   rw [cp]
   exact nv (x:=p) rfl (gP (bC rfl (bB _ _)))) (fun d hd _=>by
   rw [aN] at hd
   obtain ⟨p,_,rfl⟩:=List.mem_map.mp hd
   exact ⟨rfl,rfl⟩) (by rw [List.length_map]; omega)
 rw [aN,List.map_id,List.filter_map] at e
 have l:=Bo (vG (qs:=qs.filter fun q=>!decide (q ∈ ps)) e) (g:=eC (.int 0)) (b:=0) rfl
 rw [l]
 congr 1
 rw [Bool.eq_iff_iff,decide_eq_true_eq,decide_eq_true_eq]
 constructor
 ·intro h hall
  have:qs.filter (fun q=>!decide (q ∈ ps))=[]:=List.filter_eq_nil_iff.mpr fun q hq=>by
   rw [decide_eq_true (hall q hq)]
   exact Bool.false_ne_true
  rw [this] at h
  exact absurd h (by decide)
 ·intro h
  apply Classical.byContradiction
  intro hn
  apply h
  intro q hq
  apply Classical.byContradiction
  intro hp
  have m:q ∈ qs.filter (fun q=>!decide (q ∈ ps)):=List.mem_filter.mpr ⟨hq,by rw [decide_eq_false hp]; rfl⟩
  have:=List.length_pos_of_mem m
  omega
theorem Cc (hs:ps.Pairwise (· < ·)) (hl:ps.length <= 24) (hq:qs.length < 64):G_Ldue [nF ps f,bg (.part qs)]=.ok (gK (iz ps f (.part qs))):=by
 refine cK (τ := [some (nF ps f),some (bg (.part qs)),none,none,none]) rfl rfl ?_
 unfold g_Ldue
 rw [start hs hl,br (kB (w := "part") rfl (by decide)),br (kB (w := "part") rfl (by decide))]
 have t1:=sA (ps:=ps) (f:=f) (d := .part qs) (ts:=aA ps f ps.length) (a:=none) (b:=none) rfl hq
 have a1:=zJ (ps:=ps) (f:=f) (d := .part qs) (ts:=aA ps f ps.length) (a:=none) (b:=none) (v := .lst .aG (qs.map .int)) rfl
 have t2:=Bk (nz (ps:=ps) (f:=f) (d := .part qs) (ts:=aA ps f ps.length) (a:=none) (b:=none) (w := "part") rfl) (gF (vG a1) (g:=eC (.int 0)) (b:=0) rfl)
 show _=Fl.rt (gK (if ¬ (∀ q ∈ qs,q ∈ ps) then .inl "NoPlace" else if qs=[] then .inl "NoSet" else .inr (within ps qs,aA ps f ps.length)))
 by_cases h1:∀ q ∈ qs,q ∈ ps
 ·rw [decide_eq_false fun z=>z h1] at t1
  rw [if_neg fun z=>z h1,br t1]
  by_cases h2:qs=[]
  ·rw [if_pos h2]
   rw [decide_eq_true (by rw [h2]; rfl)] at t2
   exact fP t2 rfl
  ·rw [if_neg h2]
   rw [decide_eq_false (fun z=>h2 (List.length_eq_zero_iff.mp (by omega)))] at t2
   rw [br t2]
   refine fP (nz (w := "part") rfl) ?_
   have e:=mS (it:=jQ (ah aP (ae 0) (eC (.int 0)))) (tt:=g_Ldue_c1) (elt:=g_Ldue_e2) (cap := [("_law_deed_here",1)]) (τ:=eY ps f (.part qs) (aA ps f ps.length) none none) (fl:=false) (ds:=ps.map .int) (fun d=>decide (intOf d ∈ qs)) id (by
    unfold jQ
    rw [gP G1,Res.aQ]
    exact g9 (ao ps)) (fun d hd=>by
    rw [aN] at hd
    obtain ⟨p,_,rfl⟩:=List.mem_map.mp hd
    have cp:fE (eY ps f (.part qs) (aA ps f ps.length) none none) [("_law_deed_here",1)]=[some (bg (.part qs))]:=by
     show [some (cD .aG (.part qs)).aG]=_
     rw [il]
    rw [cp]
    exact BB (x:=p) rfl (cj (i8 (d := .part qs) rfl) (y := .int 1) rfl rfl)) (fun d hd _=>by
    rw [aN] at hd
    obtain ⟨p,_,rfl⟩:=List.mem_map.mp hd
    exact ⟨rfl,rfl⟩) (by rw [List.length_map]; omega)
   rw [aN,List.map_id,List.filter_map] at e
   have:=oH (ps:=ps) (qs:=qs)
   exact Cb (qs:=within ps qs) (rs:=within ps qs) e (List.Perm.refl _) (jN hs) (by omega) (xj (jN hs) fun q hq=>(List.mem_filter.mp hq).1)
 ·rw [decide_eq_true h1] at t1
  rw [if_pos h1]
  exact fP t1 rfl
theorem Ce (hs:ps.Pairwise (· < ·)) (hl:ps.length <= 24):G_Ldue [nF ps f,bg (.fF x y c)]=.ok (gK (iz ps f (.fF x y c))):=by
 refine cK (τ := [some (nF ps f),some (bg (.fF x y c)),none,none,none]) rfl rfl ?_
 unfold g_Ldue
 rw [start hs hl,br (kB (w := "colour") rfl (by decide)),br (kB (w := "colour") rfl (by decide))]
 have t1:=sA (ps:=ps) (f:=f) (d := .fF x y c) (ts:=aA ps f ps.length) (a:=none) (b:=none) (qs := [x,y]) rfl (by show 2 < 64; decide)
 have hiff:(∀ q ∈ [x,y],q ∈ ps) ↔ (x ∈ ps/\y ∈ ps):=by simp
 have a1:∀ ts':List N2.gg,ah aP (ae 1) (eC (.int 1)) (eY ps f (.fF x y c) ts' none none)=.ok (.lst .aG [.int x,.int y]):=fun ts'=>zJ rfl
 have a10:∀ ts':List N2.gg,ah aP (ah aP (ae 1) (eC (.int 1))) (eC (.int 0)) (eY ps f (.fF x y c) ts' none none)=.ok (.int x):=fun ts'=>cj (a1 ts') (y := .int 0) rfl (iX (j:=0) rfl rfl)
 have a11:∀ ts':List N2.gg,ah aP (ah aP (ae 1) (eC (.int 1))) (eC (.int 1)) (eY ps f (.fF x y c) ts' none none)=.ok (.int y):=fun ts'=>cj (a1 ts') (y := .int 1) rfl (iX (j:=1) rfl rfl)
 show _=Fl.rt (gK (if ¬ (x ∈ ps/\y ∈ ps) then .inl "NoPlace" else if x=y then .inl "SamePlace" else .inr (ps,km (aA ps f ps.length) (N2.keyOf x y) c)))
 by_cases h1:x ∈ ps/\y ∈ ps
 ·rw [decide_eq_false (show ¬ ¬ ∀ q ∈ [x,y],q ∈ ps from fun z=>z (hiff.mpr h1))] at t1
  rw [if_neg fun z=>z h1,br t1,br (Br (kB (w := "colour") rfl (by decide))),br (kB (w := "colour") rfl (by decide))]
  have t2:=gF (a10 (aA ps f ps.length)) (a11 (aA ps f ps.length))
  by_cases h2:x=y
  ·rw [if_pos h2]
   rw [decide_eq_true h2] at t2
   exact fP t2 rfl
  ·rw [if_neg h2]
   rw [decide_eq_false h2] at t2
   have hl2:=yC (f:=f) hl
   have hlen:=tW (aA ps f ps.length)
   have kx:=lQ (f:=f) h1.1 h1.2 h2
   have c2:ah aP (ae 1) (eC (.int 2)) (eY ps f (.fF x y c) (aA ps f ps.length) none none)=.ok (.int c):=Ij rfl
   rw [br t2,aJ (t8 (i:=2) (d := .int c) (dk := .tup [.int x,.int y]) (q:=kt (x,y)) (k:=true) c2 rfl ((bV (av (a10 _) (bw (a11 _)))).trans rfl) rfl ⟨rfl,rfl,by omega⟩ (su kx))]
   show aD _ _ [some (nF ps f),some (bg (.fF x y c)),some (.dct .own true (gf (aA ps f ps.length)) (jg (gf (aA ps f ps.length)) (ik (aA ps f ps.length)) (kt (x,y)) (.int c))),none,none]=_
   generalize hτ:[some (nF ps f),some (bg (.fF x y c)),some (.dct .own true (gf (aA ps f ps.length)) (jg (gf (aA ps f ps.length)) (ik (aA ps f ps.length)) (kt (x,y)) (.int c))),none,none]=τ
   have u1:ae 1 τ=.ok (bg (.fF x y c)):=by rw [<- hτ]; exact i8 rfl
   have b1:ah aP (ae 1) (eC (.int 1)) τ=.ok (.lst .aG [.int x,.int y]):=cj u1 (y := .int 1) rfl rfl
   have b10:ah aP (ah aP (ae 1) (eC (.int 1))) (eC (.int 0)) τ=.ok (.int x):=cj b1 (y := .int 0) rfl (iX (j:=0) rfl rfl)
   have b11:ah aP (ah aP (ae 1) (eC (.int 1))) (eC (.int 1)) τ=.ok (.int y):=cj b1 (y := .int 1) rfl (iX (j:=1) rfl rfl)
   have b2:ah aP (ae 1) (eC (.int 2)) τ=.ok (.int c):=cj u1 (y := .int 2) rfl rfl
   rw [aJ (t8 (i:=2) (d := .int c) (dk := .tup [.int y,.int x]) (q:=kt (y,x)) (k:=true) (ks:=gf (aA ps f ps.length)) (xs:=jg (gf (aA ps f ps.length)) (ik (aA ps f ps.length)) (kt (x,y)) (.int c)) b2 (by rw [<- hτ]; rfl) ((bV (av b11 (bw b10))).trans rfl) rfl ⟨rfl,rfl,by omega⟩ (su (by rw [N2.iW]; exact kx)))]
   rw [yD,<- D6 (aA ps f ps.length) (N2.keyOf x y) c,<- hτ]
   show bE _ (eY ps f (.fF x y c) (km (aA ps f ps.length) (N2.keyOf x y) c) none none)=_
   refine Cf (qs:=ps) (gP G1) (List.Perm.refl _) hs hl fun k j hj hk=>?_
   rw [BW]
   exact xj hs (fun q h=>h) k j hj hk
 ·rw [decide_eq_true (show ¬ ∀ q ∈ [x,y],q ∈ ps from fun z=>h1 (hiff.mp z))] at t1
  rw [if_pos h1]
  exact fP t1 rfl
end
section
variable {ps cs qs:List Int}{f:Nat->Nat->Int}{x y c:Int}{ts:List N2.gg}{a b:Option D}{d:kq}
theorem Ci {u v:Int} (hu:u ∈ ps ++ [x]) (hv:v ∈ ps ++ [x]) (hn:u ≠ v):N2.keyOf u v ∈ (aA ps f ps.length ++ fU x ps cs ps.length).map N2.cQ:=by
 rw [List.map_append,List.mem_append]
 have nw:∀ w,w ∈ ps->N2.keyOf w x ∈ (fU x ps cs ps.length).map N2.cQ:=fun w hw=>by
  obtain ⟨k,hk,rfl⟩:=t7 hw
  exact List.mem_map.mpr ⟨(bF ps k,x,bF cs k),List.mem_map.mpr ⟨k,List.mem_range.mpr hk,rfl⟩,rfl⟩
 rcases List.mem_append.mp hu with gu | gu <;> rcases List.mem_append.mp hv with gv | gv
 ·exact .inl (lQ gu gv hn)
 ·have e:v=x:=by simpa using gv
  rw [e]
  exact .inr (nw u gu)
 ·have e:u=x:=by simpa using gu
  rw [e,N2.iW]
  exact .inr (nw v gv)
 ·have e:v=x:=by simpa using gv
  have e':u=x:=by simpa using gu
  exact absurd (e'.trans e.symm) hn
theorem Cg {q z:Int} (hn:q ≠ x) (hk:N2.keyOf q x ∉ ts.map N2.cQ) (hl:ts.length <= 1000):g_Ldue_b7 (eY ps f (.wit x cs) ts (some (.int q)) (some (.int z)))=.nx (eY ps f (.wit x cs) (ts ++ [(q,x,z)]) (some (.int q)) (some (.int z))):=by
 have hlen:=tW ts
 unfold g_Ldue_b7
 have a1:=zJ (ps:=ps) (f:=f) (d := .wit x cs) (ts:=ts) (a:=some (.int q)) (b:=some (.int z)) (v := .int x) rfl
 rw [aJ (oG (i:=2) (d := .int z) (dk := .tup [.int q,.int x]) (q:=kt (q,x)) (k:=true) (ks:=gf ts) (xs:=ik ts) rfl rfl ((bV (av (d := .int q) rfl (bw a1))).trans rfl) rfl ⟨rfl,rfl,by omega⟩ (oE hk))]
 show c5 2 _ _ [some (nF ps f),some (bg (.wit x cs)),some (.dct .own true (gf ts ++ [kt (q,x)]) (ik ts ++ [D.int z])),some (.int q),some (.int z)]=_
 have u1:ae 1 [some (nF ps f),some (bg (.wit x cs)),some (.dct .own true (gf ts ++ [kt (q,x)]) (ik ts ++ [D.int z])),some (.int q),some (.int z)]=.ok (bg (.wit x cs)):=i8 rfl
 have b1:ah aP (ae 1) (eC (.int 1)) [some (nF ps f),some (bg (.wit x cs)),some (.dct .own true (gf ts ++ [kt (q,x)]) (ik ts ++ [D.int z])),some (.int q),some (.int z)]=.ok (.int x):=cj u1 (y := .int 1) rfl rfl
 rw [oG (i:=2) (d := .int z) (dk := .tup [.int x,.int q]) (q:=kt (x,q)) (k:=true) (ks:=gf ts ++ [kt (q,x)]) (xs:=ik ts ++ [D.int z]) rfl rfl ((bV (av b1 (bw (d := .int q) rfl))).trans rfl) rfl ⟨rfl,rfl,by rw [List.length_append,List.length_singleton]; omega⟩ (sd hn hk)]
 rw [vy ts q x z,vz ts q x z]
 rfl
theorem D8 (hs:ps.Pairwise (· < ·)) (h0:1 <= ps.length) (hl:ps.length <= 24):G_Ldue [nF ps f,bg (.wit x cs)]=.ok (gK (iz ps f (.wit x cs))):=by
 refine cK (τ := [some (nF ps f),some (bg (.wit x cs)),none,none,none]) rfl rfl ?_
 unfold g_Ldue
 rw [start hs hl]
 refine fP (nz (w := "with") rfl) ?_
 have v0:∀ ts' a b,ah aP (ae 0) (eC (.int 0)) (eY ps f (.wit x cs) ts' a b)=.ok (.tup (ps.map .int)):=fun ts' a b=>gP G1
 have a1:∀ ts' a b,ah aP (ae 1) (eC (.int 1)) (eY ps f (.wit x cs) ts' a b)=.ok (.int x):=fun ts' a b=>zJ rfl
 have a2:∀ ts' a b,ah aP (ae 1) (eC (.int 2)) (eY ps f (.wit x cs) ts' a b)=.ok (.lst .aG (cs.map .int)):=fun ts' a b=>Ij rfl
 have t1:=gF (oW (v0 (aA ps f ps.length) none none)) (g:=eC (.int 24)) (b:=24) rfl
 have t2:=B8 (a1 (aA ps f ps.length) none none) (v0 (aA ps f ps.length) none none)
 have t3:=oB (vG (a2 (aA ps f ps.length) none none)) (oW (v0 (aA ps f ps.length) none none))
 show _=Fl.rt (gK (if ps.length=24 then .inl "NoNet" else if x ∈ ps then .inl "Taken" else if cs.length ≠ ps.length then .inl "NoColours" else .inr (sortI (ps ++ [x]),aA ps f ps.length ++ fU x ps cs ps.length)))
 by_cases h1:ps.length=24
 ·rw [if_pos h1]
  rw [decide_eq_true (by omega)] at t1
  exact fP t1 rfl
 rw [if_neg h1]
 rw [decide_eq_false (by omega)] at t1
 rw [br t1]
 by_cases h2:x ∈ ps
 ·rw [if_pos h2]
  rw [decide_eq_true h2] at t2
  exact fP t2 rfl
 rw [if_neg h2]
 rw [decide_eq_false h2] at t2
 rw [br t2]
 by_cases h3:cs.length=ps.length
 ·rw [if_neg fun z=>z h3]
  rw [decide_eq_true (by omega)] at t3
  rw [br t3]
  have hl2:=yC (f:=f) hl
  obtain ⟨t,g1,a,b,g2⟩:=eW (tg:=gT 2 (aM 3 (aM 4 cB))) (body:=g_Ldue_b7) (fun i t=>∃ a b,t=eY ps f (.wit x cs) (aA ps f ps.length ++ fU x ps cs i) a b) (ds:=(List.range ps.length).map fun i=>D.tup [.int (bF ps i),.int (bF cs i)]) 0 (eY ps f (.wit x cs) (aA ps f ps.length) none none) ⟨none,none,by rw [show fU x ps cs 0=[] from rfl,List.append_nil]⟩ (fun j d t hd hp=>by
   obtain ⟨a,b,rfl⟩:=hp
   rw [Nat.zero_add]
   have hj:j < ps.length:=by
    have:=(List.getElem?_eq_some_iff.mp hd).1
    simpa using this
   rw [List.getElem?_map,List.getElem?_range hj] at hd
   cases hd
   refine ⟨_,_,rfl,.inl (Cg (fun e=>h2 (e ▸ iP hj)) (yz hs h2 hj) (by rw [List.length_append,vK]; omega)),some (.int (bF ps j)),some (.int (bF cs j)),?_⟩
   rw [sr,List.append_assoc])
  rw [List.length_map,List.length_range,Nat.zero_add] at g2
  have hf:cZ [0,1] (oh (aa (ah aP (ae 0) (eC (.int 0))) (aa (ah aP (ae 1) (eC (.int 2))) ak))) (gT 2 (aM 3 (aM 4 cB))) g_Ldue_b7 (eY ps f (.wit x cs) (aA ps f ps.length) none none)=.nx (eY ps f (.wit x cs) (aA ps f ps.length ++ fU x ps cs ps.length) a b):=by
   rw [jv (τ' := eY ps f (.wit x cs) (aA ps f ps.length) none none) (ds:=(List.range ps.length).map fun i=>D.tup [.int (bF ps i),.int (bF cs i)]) ?_ ?_ (vH _),g1,g2]
   ·show [some (nF ps f).aG,some (cD .aG (.wit x cs)).aG,_,_,_]=_
    rw [er _ (bB _ _),il]
    rfl
   ·rw [tY (v0 _ _ _) (a2 _ _ _) (g9 (ao _)) (nq (.inl rfl) (ao _)),yy h3]
  rw [aJ hf]
  have e1:ah bP (ah aP (ae 0) (eC (.int 0))) (eA cO (aa (ah aP (ae 1) (eC (.int 1))) ak)) (eY ps f (.wit x cs) (aA ps f ps.length ++ fU x ps cs ps.length) a b)=.ok (.tup ((ps ++ [x]).map .int)):=by
   rw [ba (y := .tup [.int x]) (v0 _ _ _) ((bV (bw (a1 _ _ _))).trans rfl)]
   show (if ps.map D.int ≠ []/\[D.int x] ≠ []/\(ps.map D.int).length + [D.int x].length <= 16777216 then Res.ok (D.tup (ps.map D.int ++ [D.int x])) else .bad)=_
   rw [if_pos ⟨fun z=>by rw [List.map_eq_nil_iff] at z; rw [z] at h0; exact absurd h0 (by decide),List.cons_ne_nil _ _,by rw [List.length_map,List.length_singleton]; omega⟩,List.map_append]
   rfl
  refine Cf (qs:=ps ++ [x]) (rs:=sortI (ps ++ [x])) e1 (sortI_perm _).symm (ny (ko hs h2)) (by rw [(sortI_perm _).length_eq,List.length_append,List.length_singleton]; omega) fun k j hj hk=>?_
  have:=kj (ny (ko hs h2)) hj hk
  exact Ci ((sortI_perm _).mem_iff.mp (iP hk)) ((sortI_perm _).mem_iff.mp (iP (Nat.lt_trans hj hk))) (by omega)
 ·rw [if_pos h3]
  rw [decide_eq_false (by omega)] at t3
  exact fP t3 rfl
def kq.small:kq->Prop
 | .part qs=>qs.length < 64
 | .wit _ cs=>cs.length < 64
 | _=>True
theorem GP (hs:ps.Pairwise (· < ·)) (h0:1 <= ps.length) (hl:ps.length <= 24) (hd:d.small):G_Ldue [nF ps f,bg d]=.ok (gK (iz ps f d)):=by
 cases d with
 | wit x cs=>exact D8 hs h0 hl
 | ky x=>exact Cd hs hl
 | part qs=>exact Cc hs hl hd
 | fF x y c=>exact Ce hs hl
variable {ca:PySem.Str->PySem.Addr}
def i9 (ps:List Int) (f:Nat->Nat->Int) (d:kq) (o:Option D):SD := [some (nF ps f),some (bg d),o,none]
theorem IG {o:Option D}:ae 0 (i9 ps f d o)=.ok (nF ps f):=bC rfl (bB _ _)
theorem EJ {o:Option D}:ae 1 (i9 ps f d o)=.ok (bg d):=i8 rfl
theorem sD {w v:PySem.Str}{o:Option D} (hw:aP (bg d) (.int 0)=.ok (.str w)) (h:decide (w=v)=false):eT (ah fG (ah aP (ae 1) (eC (.int 0))) (eC (.str v))) (i9 ps f d o)=.ok false:=by rw [<- h]; exact qC (cj EJ (y := .int 0) rfl hw) rfl
theorem xm {w:PySem.Str}{o:Option D} (hw:aP (bg d) (.int 0)=.ok (.str w)):eT (ah fG (ah aP (ae 1) (eC (.int 0))) (eC (.str w))) (i9 ps f d o)=.ok true:=by rw [qC (cj EJ (y := .int 0) rfl hw) (g:=eC (.str w)) rfl,decide_eq_true rfl]
theorem pF (qs:List Int):(D.lst .aG (qs.map .int)).aE=false:=by
 show (false || aI (qs.map .int))=false
 rw [bu _ (ao _)]
 rfl
theorem sE {g:SF}{G:DF}{fs:SD->Res (List D)}{ds:List D}{r:Res D} (hg:g (i9 ps f d none)=bf 2 (dg G fs) (i9 ps f d none)) (ha:fs (i9 ps f d none)=.ok ds) (hb:aI ds=false) (hz:aH ds=ds) (hG:G ds=r) :
  (∀ C,r=.d9 C->g (i9 ps f d none)=.ex C (i9 ps f d none))/\∀ v:D,r=.ok v->v.pure=true->g (i9 ps f d none)=.nx (i9 ps f d (some v)):=by
 have e:dg G fs (i9 ps f d none)=r:=lq ha hb (by rw [hz]; exact hG)
 refine ⟨fun C h=>?_,fun v h hv=>?_⟩
 ·rw [hg]
  exact Gw (e.trans h)
 ·rw [hg,bA (e.trans h) (aX _ hv)]
  rfl
theorem Cj (h:Apart ca names) {g:SF}{r:PySem.Str ⊕ N} (hx:∀ w,r=.inl w->g (i9 ps f d none)=.ex (ca w) (i9 ps f d none)/\ug ca (ca w)=true/\G_Lword ca [.exc (ca w)]=.ok (.str w)) (hn:∀ n,r=.inr n->g (i9 ps f d none)=.nx (i9 ps f d (some (gK (.inr n))))) :
  aD (l5 g (ug ca) (G_Lword ca)) (dM 2) (i9 ps f d none)=.rt (gK r):=by
 cases hr:r with
 | inl w =>
  obtain ⟨h1,h2,h3⟩:=hx w hr
  exact Gx (Gz h1 h2 h3)
 | inr n =>
  rw [aJ (Gv (hn n hr))]
  exact zA rfl (fm _)
theorem words (h:Apart ca names):∀ w ∈ (["NoNet","NoPlace","SamePlace","Taken","NoColours","NoSet"]:List PySem.Str),ug ca (ca w)=true/\G_Lword ca [.exc (ca w)]=.ok (.str w):=by
 intro w hw
 simp only [List.mem_cons,List.not_mem_nil,or_false] at hw
 rcases hw with rfl | rfl | rfl | rfl | rfl | rfl
 ·exact ⟨by simp [ug,leaf],xg h⟩
 ·exact ⟨by simp [ug,leaf],t9 h⟩
 ·exact ⟨by simp [ug,leaf],qA h⟩
 ·exact ⟨by simp [ug,leaf],xf h⟩
 ·exact ⟨by simp [ug,leaf],qB h⟩
 ·exact ⟨by simp [ug,leaf],xh h⟩
theorem pG (h:Apart ca names) {g:SF}{G:DF}{fs:SD->Res (List D)}{ds:List D} (hg:g (i9 ps f d none)=bf 2 (dg G fs) (i9 ps f d none)) (ha:fs (i9 ps f d none)=.ok ds) (hb:aI ds=false) (hz:aH ds=ds)
  (hx:∀ w,iz ps f d=.inl w->G ds=.d9 (ca w)/\w ∈ (["NoNet","NoPlace","SamePlace","Taken","NoColours","NoSet"]:List PySem.Str)) (hn:∀ n,iz ps f d=.inr n->G ds=.ok (gK (.inr n))) :
  aD (l5 g (ug ca) (G_Lword ca)) (dM 2) (i9 ps f d none)=.rt (gK (iz ps f d)):=by
 refine Cj h (fun w hw=>?_) fun n hn'=>?_
 ·obtain ⟨h1,h2⟩:=hx w hw
  exact ⟨(sE hg ha hb hz h1).1 _ rfl,words h w h2⟩
 ·exact (sE hg ha hb hz (hn n hn')).2 _ rfl (fm _)
theorem oJ:(nF ps f).aE=false:=aX _ (bB _ _)
theorem kC:(nF ps f).aG=nF ps f:=er _ (bB _ _)
theorem D7 (h:Apart ca names) (hs:ps.Pairwise (· < ·)) (hl:ps.length <= 24) (hd:d.small):G_Ldone ca [nF ps f,bg d]=.ok (gK (iz ps f d)):=by
 refine cK (τ:=i9 ps f d none) rfl rfl ?_
 unfold g_Ldone
 cases d with
 | wit x cs =>
  refine pG h (ds := [nF ps f,.int x,.lst .aG (cs.map .int)]) (oz (xm (w := "with") rfl)) (av IG (av (cj EJ (y := .int 1) rfl rfl) (bw (cj EJ (y := .int 2) rfl rfl)))) (by show ((nF ps f).aE || (false || ((D.lst .aG (cs.map .int)).aE || false)))=false; rw [oJ,pF]; rfl) (by show [(nF ps f).aG,.int x,.lst .aG (aH (cs.map .int))]=_; rw [kC,aN]) (fun w hw=>?_) fun n hn=>?_
  ·have hw:(if ps.length=24 then Sum.inl "NoNet" else if x ∈ ps then .inl "Taken" else if cs.length ≠ ps.length then .inl "NoColours" else .inr (sortI (ps ++ [x]),aA ps f ps.length ++ fU x ps cs ps.length):PySem.Str ⊕ N)=.inl w:=hw
   by_cases h1:ps.length=24
   ·rw [if_pos h1] at hw
    cases hw
    exact ⟨D5 ca h1,by decide⟩
   rw [if_neg h1] at hw
   by_cases h2:x ∈ ps
   ·rw [if_pos h2] at hw
    cases hw
    exact ⟨BZ ca (by omega) h2,by decide⟩
   rw [if_neg h2] at hw
   by_cases h3:cs.length ≠ ps.length
   ·rw [if_pos h3] at hw
    cases hw
    exact ⟨D4 ca (by omega) h2 h3,by decide⟩
   rw [if_neg h3] at hw
   cases hw
  ·have hn:(if ps.length=24 then Sum.inl "NoNet" else if x ∈ ps then .inl "Taken" else if cs.length ≠ ps.length then .inl "NoColours" else .inr (sortI (ps ++ [x]),aA ps f ps.length ++ fU x ps cs ps.length):PySem.Str ⊕ N)=.inr n:=hn
   by_cases h1:ps.length=24
   ·rw [if_pos h1] at hn
    cases hn
   rw [if_neg h1] at hn
   by_cases h2:x ∈ ps
   ·rw [if_pos h2] at hn
    cases hn
   rw [if_neg h2] at hn
   by_cases h3:cs.length ≠ ps.length
   ·rw [if_pos h3] at hn
    cases hn
   rw [if_neg h3] at hn
   cases hn
   exact Ig ca hs (by omega) h2 (Classical.not_not.mp h3)
 | ky x =>
  refine pG h (ds := [nF ps f,.int x]) ((nc (sD (w := "without") rfl (by decide))).trans (oz (xm (w := "without") rfl))) (av IG (bw (cj EJ (y := .int 1) rfl rfl))) (by show ((nF ps f).aE || (false || false))=false; rw [oJ]; rfl) (by show [(nF ps f).aG,.int x]=_; rw [kC]) (fun w hw=>?_) fun n hn=>?_
  ·have hw:(if x ∉ ps then Sum.inl "NoPlace" else if ps.length=1 then .inl "NoNet" else .inr (but ps x,aA ps f ps.length):PySem.Str ⊕ N)=.inl w:=hw
   by_cases h1:x ∈ ps
   ·rw [if_neg fun z=>z h1] at hw
    have:=ua hs h1
    by_cases h2:ps.length=1
    ·rw [if_pos h2] at hw
     cases hw
     exact ⟨DX ca hl h1 (by omega),by decide⟩
    ·rw [if_neg h2] at hw
     cases hw
   ·rw [if_pos h1] at hw
    cases hw
    exact ⟨GJ ca h1,by decide⟩
  ·have hn:(if x ∉ ps then Sum.inl "NoPlace" else if ps.length=1 then .inl "NoNet" else .inr (but ps x,aA ps f ps.length):PySem.Str ⊕ N)=.inr n:=hn
   by_cases h1:x ∈ ps
   ·rw [if_neg fun z=>z h1] at hn
    have:=ua hs h1
    by_cases h2:ps.length=1
    ·rw [if_pos h2] at hn
     cases hn
    ·rw [if_neg h2] at hn
     cases hn
     exact Ie ca hs hl h1 (by omega)
   ·rw [if_pos h1] at hn
    cases hn
 | part qs =>
  refine pG h (ds := [nF ps f,.lst .aG (qs.map .int)]) ((nc (sD (w := "part") rfl (by decide))).trans ((nc (sD (w := "part") rfl (by decide))).trans (oz (xm (w := "part") rfl)))) (av IG (bw (cj EJ (y := .int 1) rfl rfl))) (by show ((nF ps f).aE || ((D.lst .aG (qs.map .int)).aE || false))=false; rw [oJ,pF]; rfl) (by show [(nF ps f).aG,.lst .aG (aH (qs.map .int))]=_; rw [kC,aN]) (fun w hw=>?_) fun n hn=>?_
  ·have hw:(if ¬ (∀ q ∈ qs,q ∈ ps) then Sum.inl "NoPlace" else if qs=[] then .inl "NoSet" else .inr (within ps qs,aA ps f ps.length):PySem.Str ⊕ N)=.inl w:=hw
   by_cases h1:∀ q ∈ qs,q ∈ ps
   ·rw [if_neg fun z=>z h1] at hw
    by_cases h2:qs=[]
    ·rw [if_pos h2] at hw
     cases hw
     subst h2
     exact ⟨vB ca (t6 ca),by decide⟩
    ·rw [if_neg h2] at hw
     cases hw
   ·rw [if_pos h1] at hw
    cases hw
    exact ⟨vB ca (vE ca h1),by decide⟩
  ·have hn:(if ¬ (∀ q ∈ qs,q ∈ ps) then Sum.inl "NoPlace" else if qs=[] then .inl "NoSet" else .inr (within ps qs,aA ps f ps.length):PySem.Str ⊕ N)=.inr n:=hn
   by_cases h1:∀ q ∈ qs,q ∈ ps
   ·rw [if_neg fun z=>z h1] at hn
    by_cases h2:qs=[]
    ·rw [if_pos h2] at hn
     cases hn
    ·rw [if_neg h2] at hn
     cases hn
     exact DY ca hs hl h1 h2 hd
   ·rw [if_pos h1] at hn
    cases hn
 | fF x y c =>
  have i1:ah aP (ae 1) (eC (.int 1)) (i9 ps f (.fF x y c) none)=.ok (.lst .aG [.int x,.int y]):=cj EJ (y := .int 1) rfl rfl
  refine pG h (ds := [nF ps f,.int x,.int y,.int c]) ((nc (sD (w := "colour") rfl (by decide))).trans ((nc (sD (w := "colour") rfl (by decide))).trans (nc (sD (w := "colour") rfl (by decide))))) (av IG (av (cj i1 (y := .int 0) rfl (iX (j:=0) rfl rfl)) (av (cj i1 (y := .int 1) rfl (iX (j:=1) rfl rfl)) (bw (cj EJ (y := .int 2) rfl rfl))))) (by show ((nF ps f).aE || (false || (false || (false || false))))=false; rw [oJ]; rfl) (by show [(nF ps f).aG,.int x,.int y,.int c]=_; rw [kC]) (fun w hw=>?_) fun n hn=>?_
  ·have hw:(if ¬ (x ∈ ps/\y ∈ ps) then Sum.inl "NoPlace" else if x=y then .inl "SamePlace" else .inr (ps,km (aA ps f ps.length) (N2.keyOf x y) c):PySem.Str ⊕ N)=.inl w:=hw
   by_cases h1:x ∈ ps/\y ∈ ps
   ·rw [if_neg fun z=>z h1] at hw
    by_cases h2:x=y
    ·rw [if_pos h2] at hw
     cases hw
     subst h2
     exact ⟨BX ca (BN ca h1.1),by decide⟩
    ·rw [if_neg h2] at hw
     cases hw
   ·rw [if_pos h1] at hw
    cases hw
    exact ⟨BX ca (D0 ca h1),by decide⟩
  ·have hn:(if ¬ (x ∈ ps/\y ∈ ps) then Sum.inl "NoPlace" else if x=y then .inl "SamePlace" else .inr (ps,km (aA ps f ps.length) (N2.keyOf x y) c):PySem.Str ⊕ N)=.inr n:=hn
   by_cases h1:x ∈ ps/\y ∈ ps
   ·rw [if_neg fun z=>z h1] at hn
    by_cases h2:x=y
    ·rw [if_pos h2] at hn
     cases hn
    ·rw [if_neg h2] at hn
     cases hn
     exact Ii ca hs hl h1.1 h1.2 h2
   ·rw [if_pos h1] at hn
    cases hn
end
theorem sF (n:Nat) {x:D}{xs:List D} (hv:∀ τ:SD,x.view=x/\∀ (j:Nat) (d:D),xs[j]?=some d->aP x (.int j)=.ok d) (hlen:eA cG (aa (ae 1) ak) [some x,some x,none]=.ok (.int xs.length)) (hp:∀ d ∈ xs,d.aG=d) (hl:xs.length <= 1000) (ih:∀ d ∈ xs,G_Llike n [d,d]=.ok (.bl true)) :
  aD (cZ [] (bo (aa (eA cG (aa (ae 1) ak)) ak)) (gN 2) (g_Llike_b1 (G_Llike n))) (bE (eC (.bl true))) [some x,some x,none]=.rt (.bl true):=by
 obtain ⟨t,h1,a,h2⟩:=eW (tg:=gN 2) (body:=g_Llike_b1 (G_Llike n)) (fun i t=>∃ a,t=[some x,some x,a]) (ds:=(List.range xs.length).map fun j:Nat=>D.int (j:Int)) 0 [some x,some x,none] ⟨none,rfl⟩ (fun k d t hx hp'=>by
  obtain ⟨a,rfl⟩:=hp'
  have hk:k < xs.length:=by
   have:=(List.getElem?_eq_some_iff.mp hx).1
   simpa using this
  have ex:d=.int k:=by
   simp [hk] at hx
   exact hx.symm
  subst ex
  refine ⟨[some x,some x,some (.int k)],[some x,some x,some (.int k)],rfl,.inl ?_,some (.int k),rfl⟩
  have hd:xs[k]?=some xs[k]:=List.getElem?_eq_getElem hk
  have e0:ah aP (ae 0) (ae 2) [some x,some x,some (.int k)]=.ok xs[k]:=cj (x:=x) (y := .int k) (by show Res.ok x.view=_; rw [(hv []).1]) rfl ((hv []).2 k _ hd)
  have e1:ah aP (ae 1) (ae 2) [some x,some x,some (.int k)]=.ok xs[k]:=cj (x:=x) (y := .int k) (by show Res.ok x.view=_; rw [(hv []).1]) rfl ((hv []).2 k _ hd)
  have hpd:=hp xs[k] (List.getElem_mem hk)
  have c:aF (G_Llike n) (aa (ah aP (ae 0) (ae 2)) (aa (ah aP (ae 1) (ae 2)) ak)) [some x,some x,some (.int k)]=.ok (.bl true):=df (ds := [xs[k],xs[k]]) (av e0 (bw e1)) (by
   show G_Llike n [xs[k].aG,xs[k].aG]=_
   rw [hpd]
   exact ih _ (List.getElem_mem hk)) rfl
  unfold g_Llike_b1
  rw [nc (oA (nh c))]
  rfl)
 have hi:bo (aa (eA cG (aa (ae 1) ak)) ak) (cI [] [some x,some x,none])=.ok (false,(List.range xs.length).map fun j:Nat=>D.int (j:Int)):=by
  unfold bo
  rw [show cI [] [some x,some x,none]=[some x,some x,none] from rfl,bw hlen,Res.aQ,dZ (by omega)]
 have hf:cZ [] (bo (aa (eA cG (aa (ae 1) ak)) ak)) (gN 2) (g_Llike_b1 (G_Llike n)) [some x,some x,none]=.nx t:=by
  unfold cZ
  rw [hi]
  have:aH ((List.range xs.length).map fun j:Nat=>D.int (j:Int))=(List.range xs.length).map fun j:Nat=>D.int (j:Int):=aU _ _
  simp only [this]
  exact h1
 rw [aJ hf]
 rfl
theorem qD:∀ {xs:List D},aH xs=xs->∀ d ∈ xs,d.aG=d
 | [],_,_,m=>by cases m
 | x :: r,h,d,m=>by
  have h:x.aG :: aH r=x :: r:=h
  injection h with h1 h2
  rcases List.mem_cons.mp m with rfl | m
  ·exact h1
  ·exact qD h2 d m
theorem Ck (n:Nat) {xs:List D} (hw:bQ xs=xs) (hp:aH xs=xs) (hl:xs.length <= 1000) (ih:∀ d ∈ xs,G_Llike n [d,d]=.ok (.bl true)):G_Llike (n + 1) [.tup xs,.tup xs]=.ok (.bl true):=by
 refine cK (τ := [some (.tup xs),some (.tup xs),none]) rfl rfl ?_
 have hv:(D.tup xs).view=.tup xs:=by show D.tup (bQ xs)=_; rw [hw]
 have v0:ae 0 [some (.tup xs),some (.tup xs),none]=.ok (.tup xs):=by show Res.ok (D.tup xs).view=_; rw [hv]
 have v1:ae 1 [some (.tup xs),some (.tup xs),none]=.ok (.tup xs):=by show Res.ok (D.tup xs).view=_; rw [hv]
 have l0:eA cG (aa (ae 0) ak) [some (.tup xs),some (.tup xs),none]=.ok (.int xs.length):=by rw [bV (bw v0)]; rfl
 have l1:eA cG (aa (ae 1) ak) [some (.tup xs),some (.tup xs),none]=.ok (.int xs.length):=by rw [bV (bw v1)]; rfl
 have ne:=oB l0 l1
 rw [decide_eq_true rfl] at ne
 unfold g_Llike
 rw [br rfl,br rfl,br rfl,br rfl,br (Br rfl),br (Bk rfl rfl),br ne]
 exact sF n (fun _=>⟨hv,fun j d h=>jm rfl h⟩) l1 (qD hp) hl ih
theorem Cm (n:Nat) {xs:List D} (hw:bQ xs=xs) (hp:aH xs=xs) (hl:xs.length <= 1000) (ih:∀ d ∈ xs,G_Llike n [d,d]=.ok (.bl true)):G_Llike (n + 1) [.lst .aG xs,.lst .aG xs]=.ok (.bl true):=by
 refine cK (τ := [some (.lst .aG xs),some (.lst .aG xs),none]) rfl rfl ?_
 have hv:(D.lst .aG xs).view=.lst .aG xs:=by show D.lst .aG (bQ xs)=_; rw [hw]
 have v0:ae 0 [some (.lst .aG xs),some (.lst .aG xs),none]=.ok (.lst .aG xs):=by show Res.ok (D.lst .aG xs).view=_; rw [hv]
 have v1:ae 1 [some (.lst .aG xs),some (.lst .aG xs),none]=.ok (.lst .aG xs):=by show Res.ok (D.lst .aG xs).view=_; rw [hv]
 have l0:=lg v0
 have l1:=lg v1
 have ne:=oB l0 l1
 rw [decide_eq_true rfl] at ne
 unfold g_Llike
 rw [br rfl,br rfl,br rfl,br rfl,br (Bk rfl rfl),br (Br rfl),br ne]
 exact sF n (fun _=>⟨hv,fun j d h=>iX rfl h⟩) l1 (qD hp) hl ih
inductive Lk:Nat->D->Prop
 | int (n:Nat) (i:Int):Lk (n + 1) (.int i)
 | str (n:Nat) (s:PySem.Str):Lk (n + 1) (.str s)
 | tup (n:Nat) {xs:List D}:(∀ d ∈ xs,Lk n d)->bQ xs=xs->aH xs=xs->xs.length <= 1000->Lk (n + 1) (.tup xs)
 | lst (n:Nat) {xs:List D}:(∀ d ∈ xs,Lk n d)->bQ xs=xs->aH xs=xs->xs.length <= 1000->Lk (n + 1) (.lst .aG xs)
theorem like_eq:∀ {n:Nat}{d:D},Lk n d->G_Llike n [d,d]=.ok (.bl true)
 | _,_,.int n i=>Bq n i
 | _,_,.str n s=>vt n s
 | _,_,.tup n h hw hp hl=>Ck n hw hp hl fun d m=>like_eq (h d m)
 | _,_,.lst n h hw hp hl=>Cm n hw hp hl fun d m=>like_eq (h d m)
theorem ud (n:Nat) (is:List Int):∀ d ∈ is.map D.int,Lk (n + 1) d:=fun d m=>by
 obtain ⟨i,_,rfl⟩:=List.mem_map.mp m
 exact .int n i
theorem qE (is:List Int):bQ (is.map D.int)=is.map D.int:=bK _ (ao _)
theorem Cn {ps:List Int}{us:List N2.gg} (h24:ps.length <= 100):G_Llike 4 [iw ps (N2.rowsOf ps us),iw ps (N2.rowsOf ps us)]=.ok (.bl true):=by
 refine like_eq ?_
 have hp:bc [D.tup (ps.map .int),.tup ((N2.rowsOf ps us).map fun r=>.tup (r.map .int))]=true:=cP ps (N2.rowsOf ps us)
 unfold iw
 refine .tup 3 (fun x m=>?_) (bK _ hp) (cR _ hp) (Nat.le_of_ble_eq_true rfl)
 rcases List.mem_cons.mp m with rfl | m
 ·exact .tup 2 (ud 1 _) (qE _) (aN _) (by rw [List.length_map]; omega)
 ·rcases List.mem_cons.mp m with rfl | m
  ·refine .tup 2 (fun r hr=>?_) (bK _ (iR _)) (cR _ (iR _)) (by simp [N2.rowsOf]; omega)
   obtain ⟨row,hrow,rfl⟩:=List.mem_map.mp hr
   unfold N2.rowsOf at hrow
   obtain ⟨k,hk,rfl⟩:=List.mem_map.mp hrow
   have:=List.mem_range.mp hk
   exact .tup 1 (ud 0 _) (qE _) (aN _) (by simp; omega)
  ·cases m
theorem zL {d:kq} (hd:d.small):G_Llike 4 [bg d,bg d]=.ok (.bl true):=by
 refine like_eq ?_
 have l2:∀ qs:List Int,qs.length < 64->Lk 3 (.lst .aG (qs.map .int)):=fun qs h=>.lst 2 (ud 1 _) (qE _) (aN _) (by rw [List.length_map]; omega)
 have hv:=sC d
 have hf:=il .aG d
 cases d with
 | wit x cs =>
  refine .tup 3 (fun e m=>?_) (by injection hv) (by injection hf) (Nat.le_of_ble_eq_true rfl)
  simp only [List.mem_cons,List.not_mem_nil,or_false] at m
  rcases m with rfl | rfl | rfl
  ·exact .str 2 _
  ·exact .int 2 _
  ·exact l2 cs hd
 | ky x =>
  refine .tup 3 (fun e m=>?_) (by injection hv) (by injection hf) (Nat.le_of_ble_eq_true rfl)
  simp only [List.mem_cons,List.not_mem_nil,or_false] at m
  rcases m with rfl | rfl
  ·exact .str 2 _
  ·exact .int 2 _
 | part qs =>
  refine .tup 3 (fun e m=>?_) (by injection hv) (by injection hf) (Nat.le_of_ble_eq_true rfl)
  simp only [List.mem_cons,List.not_mem_nil,or_false] at m
  rcases m with rfl | rfl
  ·exact .str 2 _
  ·exact l2 qs hd
 | fF x y c =>
  refine .tup 3 (fun e m=>?_) (by injection hv) (by injection hf) (Nat.le_of_ble_eq_true rfl)
  simp only [List.mem_cons,List.not_mem_nil,or_false] at m
  rcases m with rfl | rfl | rfl
  ·exact .str 2 _
  ·exact l2 [x,y] (by show 2 < 64; decide)
  ·exact .int 2 _
theorem D9 {xs:List Int} (h:0 < xs.length):∃ w,aP (.tup (xs.map .int)) (.int (-1))=.ok (.int w):=by
 have e0:L2.C2 (xs.map D.int).length (-1)=some (xs.length - 1):=by
  unfold L2.C2
  rw [List.length_map,if_neg (by decide),if_pos (by omega)]
  congr 1
  omega
 have e:L2.qM (xs.map D.int) (-1)=some (.int (xs[xs.length - 1]'(by omega))):=by
  unfold L2.qM
  rw [e0]
  show (xs.map D.int)[xs.length - 1]?=_
  rw [List.getElem?_map,List.getElem?_eq_getElem (by omega)]
  rfl
 exact ⟨_,by show (match L2.qM (xs.map D.int) (-1) with | some d=>Res.ok d | none=>.bad)=_; rw [e]⟩
section
variable {ps:List Int}{f:Nat->Nat->Int}
theorem uc {f g:SD->Res D}{τ:SD}{a b:Int} (h:f τ=.ok (.int a)) (h2:g τ=.ok (.int b)) (hc:kF a b):ah pW f g τ=.ok (.int (a * b)):=by
 rw [ba h h2]
 show (if kF a b then _ else _)=_
 exact if_pos hc
theorem EK {f g:SD->Res D}{τ:SD}{a b:Int} (h:f τ=.ok (.int a)) (h2:g τ=.ok (.int b)) (hb:0 < b/\b < 1073741824):ah c8 f g τ=.ok (.int (a / b)):=by
 rw [ba h h2]
 show (if L2.jb a b then _ else _)=_
 exact if_pos hb
theorem Cq {f g:SD->Res D}{τ:SD}{a b:Int} (h:f τ=.ok (.int a)) (h2:g τ=.ok (.int b)) (hb:0 < b):ah cM f g τ=.ok (.int (a % b)):=by
 rw [ba h h2]
 exact tT hb
theorem Cp {t:Tg}{xs:List Int}{i:Int} (h0:0 <= i) (h1:i < xs.length):∃ v ∈ xs,aP (.lst t (xs.map .int)) (.int i)=.ok (.int v) :=
 ⟨bF xs i.toNat,iP (by omega),iX (j:=i.toNat) (by omega) (iY (by omega))⟩
theorem Eb (h1:1 <= ps.length) (m:Int):∃ v:Int,G_Lpick [nF ps f,.int m]=.ok (.int v):=by
 suffices h:∃ v:Int,g_Lpick [some (nF ps f),some (.int m)]=.rt (.int v) by
  obtain ⟨v,e⟩:=h
  exact ⟨v,cK rfl rfl e⟩
 have v0:ae 0 [some (nF ps f),some (.int m)]=.ok (nF ps f):=bC rfl (bB _ _)
 unfold g_Lpick
 have t:=gF (f:=ah cM (ae 1) (eC (.int 7))) (g:=eC (.int 6)) (τ := [some (nF ps f),some (.int m)]) (d8 (f:=ae 1) (a:=m) rfl (by decide:(0:Int) < 7)) (b:=6) rfl
 by_cases h:m % 7=6
 ·rw [decide_eq_true h] at t
  obtain ⟨w,hw⟩:=D9 (xs:=ps) (by omega)
  have a1:=fY (fY (cj (gP v0) (y := .int (-1)) (show fH jn (eC (.int 1)) _=.ok (.int (-1)) from rfl) hw) (show eC (.int 1) _=.ok (.int 1) from rfl)) (d8 (gG (f:=ae 1) (a:=m) rfl (by decide:(0:Int) < 7/\(7:Int) < 1073741824)) (by decide:(0:Int) < 3))
  exact ⟨_,fP t (dw a1 rfl)⟩
 ·rw [decide_eq_false h] at t
  rw [br t]
  have hpos:(0:Int) < ps.length:=by omega
  have m0:=Int.emod_nonneg (m / 7) (by omega:(ps.length:Int) ≠ 0)
  have m1:=Int.emod_lt_of_pos (m / 7) hpos
  have q:=Cq (gG (f:=ae 1) (τ := [some (nF ps f),some (.int m)]) (a:=m) rfl (by decide:(0:Int) < 7/\(7:Int) < 1073741824)) (oW (gP v0)) hpos
  exact ⟨_,dw (cj (gP v0) q (jm (j:=(m / 7 % ps.length).toNat) (by omega) (iY (by omega)))) rfl⟩
theorem lT (h1:1 <= ps.length) {i:Nat}{e:SD->Res D}{τ:SD}{m:Int} (h0:τ[i]?=some (some (nF ps f))) (he:e τ=.ok (.int m)):∃ v:Int,aF G_Lpick (aa (ae i) (aa e ak)) τ=.ok (.int v):=by
 obtain ⟨v,hv⟩:=Eb (f:=f) h1 m
 exact ⟨v,df (av (bC h0 (bB _ _)) (bw he)) (by show G_Lpick [(nF ps f).aG,.int m]=_; rw [kC]; exact hv) rfl⟩
theorem Co (c r:Int) (j:Nat) (hr:0 <= r/\r < 2147483648):∃ v:Int,G_Ldrawn [.int c,.int r,.int j]=.ok (.int v):=by
 suffices h:∃ v:Int,g_Ldrawn [some (.int c),some (.int r),some (.int j),none]=.rt (.int v) by
  obtain ⟨v,e⟩:=h
  exact ⟨v,cK rfl rfl e⟩
 unfold g_Ldrawn
 have j0:(0:Int) <= (j:Int) % 3:=Int.emod_nonneg _ (by decide)
 have j1:(j:Int) % 3 < 3:=Int.emod_lt_of_pos _ (by decide)
 have s1:=Cq (fY (EK (f:=ae 0) (τ := [some (.int c),some (.int r),some (.int j),none]) (a:=c) rfl (fY (f:=eC (.int 1)) (a:=1) rfl (d8 (f:=ae 2) (a:=j) rfl (by decide:(0:Int) < 3))) (by omega)) (uc (f:=ae 2) (g:=ae 1) (a:=j) (b:=r) rfl rfl (mul_r (by omega)))) (Bm _) ni
 rw [aJ (bA s1 rfl)]
 generalize (c / (1 + (j:Int) % 3) + (j:Int) * r) % big=m
 show ∃ v,aD _ _ [some (.int c),some (.int r),some (.int j),some (.int m)]=_
 have t:=gF (τ := [some (.int c),some (.int r),some (.int j),some (.int m)]) (d8 (f:=ae 2) (a:=j) rfl (by decide:(0:Int) < 2)) (g:=eC (.int 0)) (b:=0) rfl
 cases hb:decide ((j:Int) % 2=0) with
 | true =>
  rw [hb] at t
  exact ⟨_,fP t (dw (d8 (gG (f:=ae 3) (a:=m) rfl (by decide:(0:Int) < 3/\(3:Int) < 1073741824)) (by decide:(0:Int) < 2)) rfl)⟩
 | false =>
  rw [hb] at t
  rw [br t]
  exact ⟨m,rfl⟩
theorem GQ {e:SD->Res D}{τ:SD}{d:D} (h:e τ=.ok d):bE e τ=.rt d.bq:=by unfold bE; rw [h]; rfl
def iA (ps:List Int) (f:Nat->Nat->Int) (c k m r:Int) (a b e:Option D):SD := [some (nF ps f),some (.int c),some (.int k),some (.int m),some (.int r),a,b,e]
theorem xn (c k m r:Int) (hr:0 <= r/\r < 2147483648) {n:Nat} (hn:n < 64) {a e:Option D}:∃ cs:List Int,cs.length=n/\bR (bo (aa (ae 6) ak)) (gN 0) dG g_Ldeed_e2 1 [("_law_cell_here",1),("_law_rest",4)] (iA ps f c k m r a (some (.int n)) e)=.ok (.lst .own (cs.map .int)):=by
 have hd:=fun j:Nat=>Co c r j hr
 refine ⟨(List.range n).map fun j=>(hd j).choose,by rw [List.length_map,List.length_range],?_⟩
 have e:=iQ (it:=bo (aa (ae 6) ak)) (elt:=g_Ldeed_e2) (cap := [("_law_cell_here",1),("_law_rest",4)]) (τ:=iA ps f c k m r a (some (.int n)) e) (fl:=false) (ds:=(List.range n).map fun k:Nat=>D.int (k:Int)) (fun d=>.int (hd (natOf d)).choose)
  (by unfold bo; rw [bw (d := .int n) rfl,Res.aQ,dZ (by omega)]) (fun d h=>by
   rw [aU] at h
   obtain ⟨j,hj,rfl⟩:=lh h
   refine ⟨?_,rfl⟩
   exact c7 (ds := [.int c,.int r,.int j]) (av rfl (av rfl (bw rfl))) (hd j).choose_spec rfl) (by simp; omega)
 rw [e,aU,List.map_map,List.map_map]
 rfl
theorem zK (h1:1 <= ps.length) (c k m r:Int) {n:Nat} (hn:n < 64) (hN:ah cM (ae 4) (eC (.int 6)) (iA ps f c k m r none none none)=.ok (.int n)):∃ qs:List Int,qs.length=n/\bR (bo (aa (ah cM (ae 4) (eC (.int 6))) ak)) (gN 0) dG g_Ldeed_e1 1 [("_law_net_here",0),("_law_rest",4)] (iA ps f c k m r none none none)=.ok (.lst .own (qs.map .int)):=by
 have hd:∀ j:Nat,j < 64->∃ v:Int,g_Ldeed_e1 [some (.int j),some (nF ps f),some (.int r)]=.ok (.int v):=fun j hj=>by
  have s1:=fY (EK (f:=ae 2) (τ := [some (.int j),some (nF ps f),some (.int r)]) (a:=r) rfl (fY (f:=eC (.int 1)) (a:=1) rfl (uc (f:=eC (.int 7)) (g:=ae 0) (a:=7) (b:=j) rfl rfl (Bs (by decide)))) (by omega)) (g:=ae 0) (b:=j) rfl
  exact lT h1 rfl s1
 classical
 refine ⟨(List.range n).map fun j=>if h:j < 64 then (hd j h).choose else 0,by rw [List.length_map,List.length_range],?_⟩
 have cp:fE (iA ps f c k m r none none none) [("_law_net_here",0),("_law_rest",4)]=[some (nF ps f),some (.int r)]:=by
  show [some (nF ps f).aG,some (.int r)]=_
  rw [kC]
 have e:=iQ (it:=bo (aa (ah cM (ae 4) (eC (.int 6))) ak)) (elt:=g_Ldeed_e1) (cap := [("_law_net_here",0),("_law_rest",4)]) (τ:=iA ps f c k m r none none none) (fl:=false) (ds:=(List.range n).map fun k:Nat=>D.int (k:Int)) (fun d=>.int (if h:natOf d < 64 then (hd (natOf d) h).choose else 0))
  (by unfold bo; rw [bw hN,Res.aQ,dZ (by omega)]) (fun d h=>by
   rw [aU] at h
   obtain ⟨j,hj,rfl⟩:=lh h
   refine ⟨?_,rfl⟩
   have hj':natOf (.int (j:Int)) < 64:=by show (j:Int).toNat < 64; omega
   rw [cp,dif_pos hj']
   exact (hd j (by omega)).choose_spec) (by simp; omega)
 rw [e,aU,List.map_map,List.map_map]
 rfl
theorem Ea (h0:1 <= ps.length) (hl:ps.length <= 24) (c:Int) (k:Nat) (hk:k < 64):∃ (d:kq) (t:Tg),(t=.aG ∨ t=.own)/\d.small/\G_Ldeed [nF ps f,.int c,.int k]=.ok (cD t d):=by
 suffices h:∃ (d:kq) (t:Tg),(t=.aG ∨ t=.own)/\d.small/\g_Ldeed [some (nF ps f),some (.int c),some (.int k),none,none,none,none,none]=.rt (cD t d) by
  obtain ⟨d,t,h1,h2,e⟩:=h
  exact ⟨d,t,h1,h2,cK rfl rfl e⟩
 unfold g_Ldeed
 have s1:=d8 (fY (uc (f:=ae 1) (τ := [some (nF ps f),some (.int c),some (.int k),none,none,none,none,none]) (a:=c) (g:=eC (.int 48271)) (b:=48271) rfl rfl (mul_r (by decide))) (uc (f:=ae 2) (a:=k) (g:=eC (.int 16807)) (b:=16807) rfl rfl (mul_r (by decide)))) (by decide:(0:Int) < 2147483647)
 have m0:0 <= (c * 48271 + (k:Int) * 16807) % 2147483647:=Int.emod_nonneg _ (by decide)
 have m1:(c * 48271 + (k:Int) * 16807) % 2147483647 < 2147483647:=Int.emod_lt_of_pos _ (by decide)
 rw [aJ (bA s1 rfl)]
 generalize (c * 48271 + (k:Int) * 16807) % 2147483647=m at m0 m1
 show ∃ d t,_/\_/\aD _ _ [some (nF ps f),some (.int c),some (.int k),some (.int m),none,none,none,none]=_
 rw [aJ (bA (gG (f:=ae 3) (a:=m) rfl (by decide:(0:Int) < 12/\(12:Int) < 1073741824)) rfl)]
 have r0:0 <= m / 12:=by omega
 have r1:m / 12 < 2147483648:=by omega
 generalize m / 12=r at r0 r1
 show ∃ d t,_/\_/\aD _ _ (iA ps f c k m r none none none)=_
 have v0:∀ a b e,ae 0 (iA ps f c k m r a b e)=.ok (nF ps f):=fun a b e=>bC rfl (bB _ _)
 have t1:=tS (τ:=iA ps f c k m r none none none) (d8 (f:=ae 3) (a:=m) rfl (by decide:(0:Int) < 12)) (g:=eC (.int 5)) (b:=5) rfl
 obtain ⟨p1,hp1⟩:=lT (f:=f) h0 (i:=0) (e:=ae 4) (τ:=iA ps f c k m r none none none) (m:=r) rfl rfl
 cases hb1:decide (m % 12 < 5) with
 | true =>
  rw [hb1] at t1
  have hpos:(0:Int) < ps.length:=by omega
  have q0:=Int.emod_nonneg r (by omega:(ps.length:Int) ≠ 0)
  have q1:=Int.emod_lt_of_pos r hpos
  have i1:=Cq (f:=ae 4) (a:=r) (τ:=iA ps f c k m r none none none) rfl (oW (gP (v0 none none none))) hpos
  have i2:=fY (cj (gP (v0 none none none)) i1 (jm (j:=(r % ps.length).toNat) (by omega) (iY (by omega)))) (g:=eC (.int 1)) (b:=1) rfl
  have i3:=Cq (f:=ae 1) (a:=c) (τ:=iA ps f c k m r none none none) rfl (Bm _) ni
  have i4:=d8 (f:=ae 4) (a:=r) (τ:=iA ps f c k m r none none none) rfl (by decide:(0:Int) < 7)
  have i5:=d8 (gG (f:=ae 4) (a:=r) (τ:=iA ps f c k m r none none none) rfl (by decide:(0:Int) < 5/\(5:Int) < 1073741824)) (by decide:(0:Int) < 4)
  obtain ⟨x,_,hx⟩:=Cp (t := .own) (xs := [r % 7,c % big,p1,bF ps (r % ps.length).toNat + 1]) (i:=r / 5 % 4) (by omega) (by show r / 5 % 4 < 4; omega)
  have e5:=cj ((bV (g:=eS) (av i4 (av i3 (av hp1 (bw i2))))).trans rfl) i5 hx
  have i6:=d8 (gG (f:=ae 4) (a:=r) (τ:=iA ps f c k m r (some (.int x)) none none) rfl (by decide:(0:Int) < 20/\(20:Int) < 1073741824)) (by decide:(0:Int) < 9)
  obtain ⟨y,hy,e6⟩:=Cp (t := .own) (xs := [0,0,0,1,0,0,-1,0,0]) (i:=r / 20 % 9) (by omega) (by show r / 20 % 9 < 9; omega)
  have hy : -1 <= y/\y <= 1:=by
   simp only [List.mem_cons,List.not_mem_nil,or_false] at hy
   omega
  have e7:=fY (oW (gP (v0 (some (.int x)) none none))) (cj (f:=eA eS (aa (eC (.int 0)) (aa (eC (.int 0)) (aa (eC (.int 0)) (aa (eC (.int 1)) (aa (eC (.int 0)) (aa (eC (.int 0)) (aa (fH jn (eC (.int 1))) (aa (eC (.int 0)) (aa (eC (.int 0)) ak)))))))))) (x := .lst .own ([0,0,0,1,0,0,-1,0,0].map .int)) rfl i6 e6)
  obtain ⟨n,hn⟩:∃ n:Nat,(ps.length:Int) + y=n:=⟨((ps.length:Int) + y).toNat,by omega⟩
  rw [hn] at e7
  obtain ⟨cs,hcl,e8⟩:=xn (ps:=ps) (f:=f) c k m r ⟨r0,r1⟩ (n:=n) (by omega) (a:=some (.int x)) (e:=none)
  refine ⟨.wit x cs,.own,.inr rfl,by show cs.length < 64; omega,fP t1 ?_⟩
  rw [aJ (bA e5 rfl)]
  show aD _ _ (iA ps f c k m r (some (.int x)) none none)=_
  rw [aJ (bA e7 rfl)]
  show bE _ (iA ps f c k m r (some (.int x)) (some (.int n)) none)=_
  exact dw ((bV (av (d := .str "with") rfl (av (d := .int x) rfl (bw e8)))).trans rfl) (ku (.wit x cs) (.inr rfl))
 | false =>
  rw [hb1] at t1
  rw [br t1]
  have t2:=tS (τ:=iA ps f c k m r none none none) (d8 (f:=ae 3) (a:=m) rfl (by decide:(0:Int) < 12)) (g:=eC (.int 7)) (b:=7) rfl
  cases hb2:decide (m % 12 < 7) with
  | true =>
   rw [hb2] at t2
   exact ⟨.ky p1,.own,.inr rfl,trivial,fP t2 (dw ((bV (av (d := .str "without") rfl (bw hp1))).trans rfl) rfl)⟩
  | false =>
   rw [hb2] at t2
   rw [br t2]
   obtain ⟨n,hn⟩:∃ n:Nat,r % 6=n:=⟨(r % 6).toNat,by omega⟩
   have hN:=d8 (f:=ae 4) (a:=r) (τ:=iA ps f c k m r none none none) rfl (by decide:(0:Int) < 6)
   rw [hn] at hN
   obtain ⟨qs,hql,e8⟩:=zK (f:=f) h0 c k m r (n:=n) (by omega) hN
   rw [aJ (bA e8 (gA (ao _)))]
   show ∃ d t,_/\_/\aD _ _ (iA ps f c k m r none none (some (.lst .own (qs.map .int))))=_
   have t3:=tS (τ:=iA ps f c k m r none none (some (.lst .own (qs.map .int)))) (d8 (f:=ae 3) (a:=m) rfl (by decide:(0:Int) < 12)) (g:=eC (.int 9)) (b:=9) rfl
   cases hb3:decide (m % 12 < 9) with
   | true =>
    rw [hb3] at t3
    have v7:ae 7 (iA ps f c k m r none none (some (.lst .own (qs.map .int))))=.ok (.lst .bor (qs.map .int)):=iH rfl (ao qs)
    have un:∀ ns:List Int,cg (ns.map D.int)=ns.map D.int:=fun ns=>by
     induction ns with
     | nil=>rfl
     | cons n r ih=>show D.int n :: cg (r.map D.int)=_; rw [ih]; rfl
    refine ⟨.part qs,.aG,.inl rfl,by show qs.length < 64; omega,fP t3 ((GQ ((bV (av (d := .str "part") rfl (bw v7))).trans rfl)).trans ?_)⟩
    show Fl.rt (.tup [.str "part",.lst .aG (cg (qs.map D.int))])=_
    rw [un]
    rfl
   | false =>
    rw [hb3] at t3
    rw [br t3]
    obtain ⟨p2,hp2⟩:=lT (f:=f) h0 (i:=0) (e:=ae 4) (τ:=iA ps f c k m r none none (some (.lst .own (qs.map .int)))) (m:=r) rfl rfl
    obtain ⟨p3,hp3⟩:=lT (f:=f) h0 (i:=0) (e:=ah c8 (ae 4) (eC (.int 31))) (τ:=iA ps f c k m r none none (some (.lst .own (qs.map .int)))) (m:=r / 31) rfl (gG (f:=ae 4) (a:=r) rfl (by decide:(0:Int) < 31/\(31:Int) < 1073741824))
    have i3:=Cq (f:=ae 1) (a:=c) (τ:=iA ps f c k m r none none (some (.lst .own (qs.map .int)))) rfl (Bm _) ni
    exact ⟨.fF p2 p3 (c % big),.own,.inr rfl,trivial,dw ((bV (av (d := .str "colour") rfl (av ((bV (av hp2 (bw hp3))).trans rfl) (bw i3)))).trans rfl) (ku (.fF p2 p3 (c % big)) (.inr rfl))⟩
end
structure Good (ps:List Int):Prop where
 lt:ps.Pairwise (· < ·)
 lo:1 <= ps.length
 hi:ps.length <= 24
def ja (ns:List Int) (ps:List Int) (f:Nat->Nat->Int) (o2 o3 o4 o5 o6 o7 o8:Option D):SD := [some (S ns),some (nF ps f),o2,o3,o4,o5,o6,o7,o8]
section
variable {ca:PySem.Str->PySem.Addr}{ns ps:List Int}{f:Nat->Nat->Int}{d:kq}{o2 o3 o4 o5 o6 o7 o8:Option D}
theorem sG (g:Good ps) {n:N} (h:iz ps f d=.inr n):Good n.1:=by
 obtain ⟨hs,h0,hl⟩:=g
 cases d with
 | wit x cs =>
  have h:(if ps.length=24 then Sum.inl "NoNet" else if x ∈ ps then .inl "Taken" else if cs.length ≠ ps.length then .inl "NoColours" else .inr (sortI (ps ++ [x]),aA ps f ps.length ++ fU x ps cs ps.length):PySem.Str ⊕ N)=.inr n:=h
  by_cases h1:ps.length=24
  ·rw [if_pos h1] at h
   cases h
  rw [if_neg h1] at h
  by_cases h2:x ∈ ps
  ·rw [if_pos h2] at h
   cases h
  rw [if_neg h2] at h
  by_cases h3:cs.length ≠ ps.length
  ·rw [if_pos h3] at h
   cases h
  rw [if_neg h3] at h
  cases h
  have e:(sortI (ps ++ [x])).length=ps.length + 1:=by rw [(sortI_perm _).length_eq,List.length_append,List.length_singleton]
  exact ⟨ny (ko hs h2),by show 1 <= (sortI (ps ++ [x])).length; omega,by show (sortI (ps ++ [x])).length <= 24; omega⟩
 | ky x =>
  have h:(if x ∉ ps then Sum.inl "NoPlace" else if ps.length=1 then .inl "NoNet" else .inr (but ps x,aA ps f ps.length):PySem.Str ⊕ N)=.inr n:=h
  by_cases h1:x ∈ ps
  ·rw [if_neg fun z=>z h1] at h
   have:=ua hs h1
   by_cases h2:ps.length=1
   ·rw [if_pos h2] at h
    cases h
   ·rw [if_neg h2] at h
    cases h
    exact ⟨tZ hs,by show 1 <= (but ps x).length; omega,by show (but ps x).length <= 24; omega⟩
  ·rw [if_pos h1] at h
   cases h
 | part qs =>
  have h:(if ¬ (∀ q ∈ qs,q ∈ ps) then Sum.inl "NoPlace" else if qs=[] then .inl "NoSet" else .inr (within ps qs,aA ps f ps.length):PySem.Str ⊕ N)=.inr n:=h
  by_cases h1:∀ q ∈ qs,q ∈ ps
  ·rw [if_neg fun z=>z h1] at h
   by_cases h2:qs=[]
   ·rw [if_pos h2] at h
    cases h
   ·rw [if_neg h2] at h
    cases h
    have:=oH (ps:=ps) (qs:=qs)
    have pos:0 < (within ps qs).length:=by
     cases qs with
     | nil=>exact absurd rfl h2
     | cons q r=>exact List.length_pos_of_mem (a:=q) (List.mem_filter.mpr ⟨h1 q List.mem_cons_self,by rw [decide_eq_true List.mem_cons_self]⟩)
    exact ⟨jN hs,pos,by show (within ps qs).length <= 24; omega⟩
  ·rw [if_pos h1] at h
   cases h
 | fF x y c =>
  have h:(if ¬ (x ∈ ps/\y ∈ ps) then Sum.inl "NoPlace" else if x=y then .inl "SamePlace" else .inr (ps,km (aA ps f ps.length) (N2.keyOf x y) c):PySem.Str ⊕ N)=.inr n:=h
  by_cases h1:x ∈ ps/\y ∈ ps
  ·rw [if_neg fun z=>z h1] at h
   by_cases h2:x=y
   ·rw [if_pos h2] at h
    cases h
   ·rw [if_neg h2] at h
    cases h
    exact ⟨hs,h0,hl⟩
  ·rw [if_pos h1] at h
   cases h
theorem Cr (g:Good ps):G_Llike 4 [gK (iz ps f d),gK (iz ps f d)]=.ok (.bl true):=by
 cases h:iz ps f d with
 | inl w=>exact vt 3 w
 | inr n=>exact Cn (by have:=(sG g h).hi; omega)
theorem xo (d:kq):(cD .own d).view=cD .bor d:=by
 cases d with
 | wit x cs=>show D.tup [.str "with",.int x,.lst .bor (bQ (cs.map .int))]=_; rw [qE]; rfl
 | ky x=>rfl
 | part qs=>show D.tup [.str "part",.lst .bor (bQ (qs.map .int))]=_; rw [qE]; rfl
 | fF x y c=>rfl
abbrev l7 (ns ps:List Int) (f:Nat->Nat->Int) (d:kq) (o2 o3 o4 o7 o8:Option D):SD:=ja ns ps f o2 o3 o4 (some (bg d)) (some (gK (iz ps f d))) o7 o8
theorem Il:ae 5 (l7 ns ps f d o2 o3 o4 o7 o8)=.ok (bg d):=i8 rfl
theorem nA {w v:PySem.Str} (hw:aP (bg d) (.int 0)=.ok (.str w)) (h:decide (w=v)=false):eT (ah fG (ah aP (ae 5) (eC (.int 0))) (eC (.str v))) (l7 ns ps f d o2 o3 o4 o7 o8)=.ok false:=by rw [<- h]; exact qC (cj Il (y := .int 0) rfl hw) rfl
theorem xq {w:PySem.Str} (hw:aP (bg d) (.int 0)=.ok (.str w)):eT (ah fG (ah aP (ae 5) (eC (.int 0))) (eC (.str w))) (l7 ns ps f d o2 o3 o4 o7 o8)=.ok true:=by rw [qC (cj Il (y := .int 0) rfl hw) (g:=eC (.str w)) rfl,decide_eq_true rfl]
theorem rh {lo hi:Option Int}{fl fh:SD->Res (Option Int)}{r:Res D} (h1:fl (l7 ns ps f d o2 o3 o4 o7 o8)=.ok lo) (h2:fh (l7 ns ps f d o2 o3 o4 o7 o8)=.ok hi) (hr:cutD (bg d) lo hi=r):dS (ae 5) fl fh (l7 ns ps f d o2 o3 o4 o7 o8)=r:=by
 unfold dS
 rw [Il,Res.aQ,h1,Res.aQ,h2,Res.aQ,hr]
theorem CF {i:Int}{v:D} (h:aP (bg d) (.int i)=.ok v):ah aP (ae 5) (eC (.int i)) (l7 ns ps f d o2 o3 o4 o7 o8)=.ok v:=cj Il (y := .int i) rfl h
theorem Ik:ah k7 (ah bP (dS (ae 5) lA (eP (eC (.int 1)))) (eA cO (aa (ah aP (ae 5) (eC (.int 1))) ak))) (dS (ae 5) (eP (eC (.int 2))) lA) (l7 ns ps f d o2 o3 o4 o7 o8)=.ok (bg d):=by
 cases d with
 | wit x cs=>rw [ba ((ba (rh (r := .ok (.tup [.str "with"])) rfl rfl rfl) ((bV (bw (CF (v := .int x) rfl))).trans rfl)).trans rfl) (rh (r := .ok (.tup [.lst .aG (cs.map .int)])) rfl rfl rfl)]; rfl
 | ky x=>rw [ba ((ba (rh (r := .ok (.tup [.str "without"])) rfl rfl rfl) ((bV (bw (CF (v := .int x) rfl))).trans rfl)).trans rfl) (rh (r := .ok (.tup [])) rfl rfl rfl)]; rfl
 | part qs=>rw [ba ((ba (rh (r := .ok (.tup [.str "part"])) rfl rfl rfl) ((bV (bw (CF (v := .lst .aG (qs.map .int)) rfl))).trans rfl)).trans rfl) (rh (r := .ok (.tup [])) rfl rfl rfl)]; rfl
 | fF x y c=>rw [ba ((ba (rh (r := .ok (.tup [.str "colour"])) rfl rfl rfl) ((bV (bw (CF (v := .lst .aG ([x,y].map .int)) rfl))).trans rfl)).trans rfl) (rh (r := .ok (.tup [.int c])) rfl rfl rfl)]; rfl
theorem ue {t:Tg}{xs:List D}{e:SD->Res D}{τ:SD} (h:e τ=.ok (.lst t xs)):eA dj (aa e ak) τ=.ok (.lst .own xs):=by
 rw [bV (bw h)]
 rfl
theorem hand (s:SF):aD (bf 8 (ah k7 (ah bP (dS (ae 5) lA (eP (eC (.int 1)))) (eA cO (aa (ah aP (ae 5) (eC (.int 1))) ak))) (dS (ae 5) (eP (eC (.int 2))) lA))) (aD (dP (eT (ah fG (ah aP (ae 5) (eC (.int 0))) (eC (.str "with")))) (bf 8 (eA cO (aa (eC (.str "with")) (aa (ah aP (ae 5) (eC (.int 1))) (aa (eA dj (aa (ah aP (ae 5) (eC (.int 2))) ak)) ak))))) aR) (aD (dP (ph (eT (ah fG (ah aP (ae 5) (eC (.int 0))) (eC (.str "part")))) (eT (ah fG (ah aP (ae 5) (eC (.int 0))) (eC (.str "colour"))))) (bf 8 (ah k7 (eA cO (aa (ah aP (ae 5) (eC (.int 0))) (aa (eA dj (aa (ah aP (ae 5) (eC (.int 1))) ak)) ak))) (dS (ae 5) (eP (eC (.int 2))) lA))) aR) s)) (l7 ns ps f d o2 o3 o4 o7 o8)=s (l7 ns ps f d o2 o3 o4 o7 (some (cD .own d))):=by
 rw [aJ (bA Ik (ku d (.inl rfl)))]
 show aD _ _ (l7 ns ps f d o2 o3 o4 o7 (some (bg d)))=_
 cases d with
 | wit x cs =>
  have z:=bV (g:=cO) (av (f:=eC (.str "with")) (d := .str "with") rfl (av (CF (ns:=ns) (ps:=ps) (f:=f) (d := .wit x cs) (o2:=o2) (o3:=o3) (o4:=o4) (o7:=o7) (o8:=some (bg (.wit x cs))) (i:=1) (v := .int x) rfl) (bw (ue (CF (i:=2) (v := .lst .aG (cs.map .int)) rfl)))))
  have st:(dP (eT (ah fG (ah aP (ae 5) (eC (.int 0))) (eC (.str "with")))) (bf 8 (eA cO (aa (eC (.str "with")) (aa (ah aP (ae 5) (eC (.int 1))) (aa (eA dj (aa (ah aP (ae 5) (eC (.int 2))) ak)) ak))))) aR) (l7 ns ps f (.wit x cs) o2 o3 o4 o7 (some (bg (.wit x cs))))=.nx (l7 ns ps f (.wit x cs) o2 o3 o4 o7 (some (cD .own (.wit x cs)))):=by
   rw [oz (xq (w := "with") rfl),bA z (ku (.wit x cs) (.inr rfl))]
   rfl
  rw [aJ st,br (qr (nA (w := "with") rfl (by decide)) (nA (w := "with") rfl (by decide)))]
 | ky x =>
  rw [br (nA (w := "without") rfl (by decide)),br (qr (nA (w := "without") rfl (by decide)) (nA (w := "without") rfl (by decide)))]
  rfl
 | part qs =>
  rw [br (nA (w := "part") rfl (by decide))]
  have z:ah k7 (eA cO (aa (ah aP (ae 5) (eC (.int 0))) (aa (eA dj (aa (ah aP (ae 5) (eC (.int 1))) ak)) ak))) (dS (ae 5) (eP (eC (.int 2))) lA) (l7 ns ps f (.part qs) o2 o3 o4 o7 (some (bg (.part qs))))=.ok (cD .own (.part qs)):=by
   rw [ba ((bV (av (CF (v := .str "part") rfl) (bw (ue (CF (v := .lst .aG (qs.map .int)) rfl))))).trans rfl) (rh (r := .ok (.tup [])) rfl rfl rfl)]
   rfl
  have st:=oz (b:=aR) (a:=bf 8 (ah k7 (eA cO (aa (ah aP (ae 5) (eC (.int 0))) (aa (eA dj (aa (ah aP (ae 5) (eC (.int 1))) ak)) ak))) (dS (ae 5) (eP (eC (.int 2))) lA))) (qr (a:=true) (b:=false) (xq (ns:=ns) (ps:=ps) (f:=f) (d := .part qs) (o2:=o2) (o3:=o3) (o4:=o4) (o7:=o7) (o8:=some (bg (.part qs))) (w := "part") rfl) (nA (v := "colour") (w := "part") rfl (by decide)))
  rw [bA z (ku (.part qs) (.inr rfl))] at st
  rw [aJ st]
  rfl
 | fF x y c =>
  rw [br (nA (w := "colour") rfl (by decide))]
  have z:ah k7 (eA cO (aa (ah aP (ae 5) (eC (.int 0))) (aa (eA dj (aa (ah aP (ae 5) (eC (.int 1))) ak)) ak))) (dS (ae 5) (eP (eC (.int 2))) lA) (l7 ns ps f (.fF x y c) o2 o3 o4 o7 (some (bg (.fF x y c))))=.ok (cD .own (.fF x y c)):=by
   rw [ba ((bV (av (CF (v := .str "colour") rfl) (bw (ue (CF (v := .lst .aG ([x,y].map .int)) rfl))))).trans rfl) (rh (r := .ok (.tup [.int c])) rfl rfl rfl)]
   rfl
  have st:=oz (b:=aR) (a:=bf 8 (ah k7 (eA cO (aa (ah aP (ae 5) (eC (.int 0))) (aa (eA dj (aa (ah aP (ae 5) (eC (.int 1))) ak)) ak))) (dS (ae 5) (eP (eC (.int 2))) lA))) (qr (a:=false) (b:=true) (nA (ns:=ns) (ps:=ps) (f:=f) (d := .fF x y c) (o2:=o2) (o3:=o3) (o4:=o4) (o7:=o7) (o8:=some (bg (.fF x y c))) (v := "part") (w := "colour") rfl (by decide)) (xq (w := "colour") rfl))
  rw [bA z (ku (.fF x y c) (.inr rfl))] at st
  rw [aJ st]
  rfl
theorem Cs (h:Apart ca names) (g:Good ps) (hd:d.small):m9 ca (l7 ns ps f d o2 o3 o4 o7 o8)=.nx (l7 ns ps f d o2 o3 o4 o7 (some (cD .own d))):=by
 unfold m9
 rw [hand]
 have v1:ae 1 (l7 ns ps f d o2 o3 o4 o7 (some (cD .own d)))=.ok (nF ps f):=bC rfl (bB _ _)
 have v8:ae 8 (l7 ns ps f d o2 o3 o4 o7 (some (cD .own d)))=.ok (cD .bor d):=by
  show Res.ok (cD .own d).view=_
  rw [xo]
 have v6:ae 6 (l7 ns ps f d o2 o3 o4 o7 (some (cD .own d)))=.ok (gK (iz ps f d)):=bC rfl (fm _)
 have c1:aF (G_Ldone ca) (aa (ae 1) (aa (ae 8) ak)) (l7 ns ps f d o2 o3 o4 o7 (some (cD .own d)))=.ok (gK (iz ps f d)) :=
  df (av v1 (bw v8)) (by show G_Ldone ca [(nF ps f).aG,(cD .bor d).aG]=_; rw [kC,il]; exact D7 h g.lt g.hi hd) (fm _)
 have c2:aF (G_Llike 4) (aa (aF (G_Ldone ca) (aa (ae 1) (aa (ae 8) ak))) (aa (ae 6) ak)) (l7 ns ps f d o2 o3 o4 o7 (some (cD .own d)))=.ok (.bl true) :=
  df (av c1 (bw v6)) (by show G_Llike 4 [(gK (iz ps f d)).aG,(gK (iz ps f d)).aG]=_; rw [er _ (fm _)]; exact Cr g) rfl
 have c3:aF (G_Llike 4) (aa (ae 8) (aa (ae 5) ak)) (l7 ns ps f d o2 o3 o4 o7 (some (cD .own d)))=.ok (.bl true) :=
  df (av v8 (bw Il)) (by show G_Llike 4 [(cD .bor d).aG,(cD .aG d).aG]=_; rw [il,il]; exact zL hd) rfl
 rw [nc (qr (oA (nh c2)) (oA (nh c3)))]
 rfl
theorem GR (h:Apart ca names) (g:Good ps) (k:Nat) (hk:k < 64) (c:Int):∃ ps' f' o5' o6' o7' o8',Good ps'/\jK ca (ja ns ps f o2 (some (.int k)) (some (.int c)) o5 o6 o7 o8)=.nx (ja ns ps' f' o2 (some (.int k)) (some (.int c)) o5' o6' o7' o8'):=by
 obtain ⟨d,t,ht,hd,e⟩:=Ea (f:=f) g.lo g.hi c k hk
 unfold jK
 have v1:∀ o5 o6 o7 o8,ae 1 (ja ns ps f o2 (some (.int k)) (some (.int c)) o5 o6 o7 o8)=.ok (nF ps f):=fun _ _ _ _=>bC rfl (bB _ _)
 have c1:aF G_Ldeed (aa (ae 1) (aa (ae 4) (aa (ae 3) ak))) (ja ns ps f o2 (some (.int k)) (some (.int c)) o5 o6 o7 o8)=.ok (cD t d) :=
  c7 (ds := [nF ps f,.int c,.int k]) (av (v1 _ _ _ _) (av rfl (bw rfl))) (by show G_Ldeed [(nF ps f).aG,.int c,.int k]=_; rw [kC]; exact e) (by show ((nF ps f).aE || (false || (false || false)))=false; rw [oJ]; rfl)
 rw [aJ (bA c1 (ku d ht))]
 show ∃ ps' f' o5' o6' o7' o8',_/\aD _ _ (ja ns ps f o2 (some (.int k)) (some (.int c)) (some (cD t d)) o6 o7 o8)=_
 have z:jB [5] (bf 6 (aF G_Ldue (aa (ae 1) (aa (ae 5) ak)))) (ja ns ps f o2 (some (.int k)) (some (.int c)) (some (cD t d)) o6 o7 o8)=.nx (l7 ns ps f d o2 (some (.int k)) (some (.int c)) o7 o8):=by
  unfold jB
  have hf:cI [5] (ja ns ps f o2 (some (.int k)) (some (.int c)) (some (cD t d)) o6 o7 o8)=ja ns ps f o2 (some (.int k)) (some (.int c)) (some (bg d)) o6 o7 o8:=by
   show ja ns ps f o2 (some (.int k)) (some (.int c)) (some (cD t d).aG) o6 o7 o8=_
   rw [il]
  rw [hf]
  have c2:aF G_Ldue (aa (ae 1) (aa (ae 5) ak)) (ja ns ps f o2 (some (.int k)) (some (.int c)) (some (bg d)) o6 o7 o8)=.ok (gK (iz ps f d)) :=
   df (av (v1 _ _ _ _) (bw (i8 rfl))) (by show G_Ldue [(nF ps f).aG,(cD .aG d).aG]=_; rw [kC,il]; exact GP g.lt g.lo g.hi hd) (fm _)
  rw [bA c2 (aX _ (fm _))]
  rfl
 rw [aJ z]
 have hf:cZ [] (bo (aa (eC (.int 2)) ak)) (gN 7) (m9 ca) (l7 ns ps f d o2 (some (.int k)) (some (.int c)) o7 o8)=.nx (l7 ns ps f d o2 (some (.int k)) (some (.int c)) (some (.int 1)) (some (cD .own d))):=by
  rw [jv (τ' := l7 ns ps f d o2 (some (.int k)) (some (.int c)) o7 o8) (ds := [.int 0,.int 1]) rfl rfl rfl]
  rw [tX (τ' := l7 ns ps f d o2 (some (.int k)) (some (.int c)) (some (.int 0)) o8) rfl (Cs h g hd)]
  rw [tX (τ' := l7 ns ps f d o2 (some (.int k)) (some (.int c)) (some (.int 1)) (some (cD .own d))) rfl (Cs h g hd)]
  rfl
 rw [aJ hf]
 have v6:ae 6 (l7 ns ps f d o2 (some (.int k)) (some (.int c)) (some (.int 1)) (some (cD .own d)))=.ok (gK (iz ps f d)):=bC rfl (fm _)
 cases hr:iz ps f d with
 | inl w =>
  have t:gm (eT (fH (cX qH) (ae 6))) (l7 ns ps f d o2 (some (.int k)) (some (.int c)) (some (.int 1)) (some (cD .own d)))=.ok false:=by
   refine oA (b:=true) (nh ?_)
   unfold fH
   rw [v6,hr]
   rfl
  exact ⟨ps,f,_,_,_,_,g,nc t⟩
 | inr n =>
  have t:gm (eT (fH (cX qH) (ae 6))) (l7 ns ps f d o2 (some (.int k)) (some (.int c)) (some (.int 1)) (some (cD .own d)))=.ok true:=by
   refine oA (b:=false) (nh ?_)
   unfold fH
   rw [v6,hr]
   rfl
  rw [oz t,bA v6 (aX _ (fm _))]
  have en:gK (iz ps f d)=nF n.1 fun k j=>N2.col n.2 (N2.keyOf (bF n.1 k) (bF n.1 j)):=by
   rw [hr]
   exact BK n.1 n.2
  refine ⟨n.1,fun k j=>N2.col n.2 (N2.keyOf (bF n.1 k) (bF n.1 j)),some (bg d),some (gK (iz ps f d)),some (.int 1),some (cD .own d),sG g hr,?_⟩
  show Fl.nx [some (S ns),some (gK (iz ps f d)),o2,some (.int k),some (.int c),some (bg d),some (gK (iz ps f d)),some (.int 1),some (cD .own d)]=_
  unfold ja
  rw [<- en]
theorem Cu (h:Apart ca names) (g:Good ps) (cs:List Int) (hcs:cs.length <= 63):∃ t,fK (gT 2 (aM 3 (aM 4 cB))) (jK ca) ((List.range cs.length).map fun k:Nat=>D.tup [.int (k:Int),.int (bF cs k)]) (ja ns ps f o2 none none none none none none)=.nx t:=by
 obtain ⟨t,h1,_⟩:=eW (tg:=gT 2 (aM 3 (aM 4 cB))) (body:=jK ca) (fun i t=>∃ ps f o3 o4 o5 o6 o7 o8,Good ps/\t=ja ns ps f o2 o3 o4 o5 o6 o7 o8) (ds:=(List.range cs.length).map fun k:Nat=>D.tup [.int (k:Int),.int (bF cs k)]) 0 (ja ns ps f o2 none none none none none none) ⟨ps,f,_,_,_,_,_,_,g,rfl⟩ (fun k x t hx hp=>by
  obtain ⟨ps1,f1,o3,o4,o5,o6,o7,o8,g1,rfl⟩:=hp
  have hk:k < cs.length:=by
   have:=(List.getElem?_eq_some_iff.mp hx).1
   simpa using this
  rw [List.getElem?_map,List.getElem?_range hk] at hx
  cases hx
  obtain ⟨ps2,f2,a5,a6,a7,a8,g2,e⟩:=GR (ns:=ns) (f:=f1) (o2:=o2) (o5:=o5) (o6:=o6) (o7:=o7) (o8:=o8) h g1 k (by omega) (bF cs k)
  exact ⟨_,_,rfl,.inl e,ps2,f2,_,_,a5,a6,a7,a8,g2,rfl⟩)
 exact ⟨t,h1⟩
end
theorem vM {ns:List Int} (a b:Option Int) {fl fh:SD->Res (Option Int)}{τ:SD} (h0:τ[0]?=some (some (S ns))) (h1:fl τ=.ok a) (h2:fh τ=.ok b):dS (ae 0) fl fh τ=.ok (.lst .own ((DL.cut ns a b).map .int)):=by
 unfold dS
 rw [dI (xs:=ns.map .int) h0 (ao ns),Res.aQ,h1,Res.aQ,h2,Res.aQ]
 show Res.ok (D.lst .own (DL.cut (ns.map .int) a b))=_
 rw [DN]
theorem yE {ns:List Int} (a b:Option Int):(DL.cut ns a b).length <= ns.length:=by
 unfold DL.cut
 rw [List.length_take,List.length_drop]
 omega
theorem Ec {ca:PySem.Str->PySem.Addr} (h:Apart ca names) (ns:List Int) (hl:ns.length <= 63) {ps:List Int}{f:Nat->Nat->Int}{n:Nat} (g:Good ps) (hm:(n:Int)=M.many (M.cell ns 0)) (hnet:G_Lnet [S ns,.int 1,.int n]=.ok (nF ps f)):vd ca [S ns]=.ok (.bl true):=by
 refine cK (τ := [some (S ns),none,none,none,none,none,none,none,none]) rfl rfl ?_
 unfold Be
 have z0:aF G_Lcell (aa (ae 0) (aa (eC (.int 0)) ak)) [some (S ns),none,none,none,none,none,none,none,none]=.ok (.int (M.cell ns 0)) :=
  c7 (ds := [S ns,.int 0]) (av (dI rfl (ao ns)) (bw rfl)) (by show G_Lcell [.lst .aG (aH (ns.map .int)),.int 0]=_; rw [aN]; exact nk ns (Int.le_refl 0)) (by show ((S ns).aE || (false || false))=false; rw [pF]; rfl)
 have z1:aF G_Lnet (aa (ae 0) (aa (eC (.int 1)) (aa (aF G_Lmany (aa (aF G_Lcell (aa (ae 0) (aa (eC (.int 0)) ak))) ak)) ak))) [some (S ns),none,none,none,none,none,none,none,none]=.ok (nF ps f):=by
  refine c7 (ds := [S ns,.int 1,.int n]) (av (dI rfl (ao ns)) (av rfl (bw ?_))) (by show G_Lnet [.lst .aG (aH (ns.map .int)),.int 1,.int n]=_; rw [aN]; exact hnet) (by show ((S ns).aE || (false || (false || false)))=false; rw [pF]; rfl)
  rw [hm]
  exact c7 (ds := [.int (M.cell ns 0)]) (bw z0) (DO _) rfl
 rw [aJ (bA z1 oJ)]
 show aD _ _ (ja ns ps f none none none none none none none)=_
 rw [aJ (bA (vM (ns:=ns) (some 40) (some 52) rfl rfl rfl) (gA (ao _)))]
 show aD _ _ (ja ns ps f (some (.lst .own ((DL.cut ns (some 40) (some 52)).map .int))) none none none none none none)=_
 have step:∃ cs:List Int,cs.length <= 63/\dP (eT (ah fG (eA cG (aa (ae 2) ak)) (eC (.int 0)))) (bf 2 (dS (ae 0) lA (eP (eC (.int 12))))) aR (ja ns ps f (some (.lst .own ((DL.cut ns (some 40) (some 52)).map .int))) none none none none none none)=.nx (ja ns ps f (some (.lst .own (cs.map .int))) none none none none none none):=by
  have t:=gF (vG (iH (i:=2) (τ:=ja ns ps f (some (.lst .own ((DL.cut ns (some 40) (some 52)).map .int))) none none none none none none) rfl (ao (DL.cut ns (some 40) (some 52))))) (g:=eC (.int 0)) (b:=0) rfl
  cases hb:decide (((DL.cut ns (some 40) (some 52)).length:Int)=0) with
  | true =>
   rw [hb] at t
   refine ⟨DL.cut ns none (some 12),Nat.le_trans (yE _ _) hl,?_⟩
   rw [oz t,bA (vM (ns:=ns) none (some 12) rfl rfl rfl) (gA (ao _))]
   rfl
  | false =>
   rw [hb] at t
   refine ⟨DL.cut ns (some 40) (some 52),Nat.le_trans (yE _ _) hl,?_⟩
   rw [nc t]
   rfl
 obtain ⟨cs,hcs,e⟩:=step
 rw [aJ e]
 obtain ⟨t,ht⟩:=Cu (ca:=ca) (ns:=ns) (f:=f) (o2:=some (.lst .aG (cs.map .int))) h g cs hcs
 have zf:cZ [2] (dm (aa (ae 2) ak)) (gT 2 (aM 3 (aM 4 cB))) (jK ca) (ja ns ps f (some (.lst .own (cs.map .int))) none none none none none none)=.nx t:=by
  rw [jv (τ' := ja ns ps f (some (.lst .aG (cs.map .int))) none none none none none none) (ds:=(List.range cs.length).map fun k:Nat=>D.tup [.int (k:Int),.int (bF cs k)]) ?_ ?_ (sq _ _),ht]
  ·show ja ns ps f (some (.lst .aG (aH (cs.map .int)))) none none none none none none=_
   rw [aN]
  ·rw [yv (dI (xs:=cs.map .int) rfl (ao cs)) (nq (.inl rfl) (ao _)),sj]
 rw [aJ zf]
 rfl
theorem Ct {ca:PySem.Str->PySem.Addr} (h:Apart ca names) (ns:List Int) (hl:ns.length <= 63):vd ca [.lst .aG (ns.map D.int)]=.ok (.bl true):=by
 obtain ⟨n,hn⟩:∃ n:Nat,(n:Int)=M.many (M.cell ns 0):=⟨(M.many (M.cell ns 0)).toNat,by have:=M.vo (M.cell ns 0); omega⟩
 have hb:=M.vo (M.cell ns 0)
 rw [<- hn] at hb
 have pl:=N2.places_len (dN ns) n
 have e:iw (N2.places (dN ns) n) (N2.rows (dN ns) n)=nF (N2.places (dN ns) n) (dN ns).sh:=by
  unfold nF
  rw [pl]
  rfl
 exact Ec h ns hl (n:=n) ⟨N2.q9 (dN ns) n,by omega,by omega⟩ hn ((GA ns (n:=n) (by omega)).trans (by rw [e]))
end KL
namespace PySem.W.Fast
theorem tw14743387224118028226:True:=⟨⟩
theorem tw3357791128957140547:True:=⟨⟩
theorem tw14406524736386641780:True:=⟨⟩
theorem tw13649097899860881593:True:=⟨⟩
theorem tw342699383909391067:True:=⟨⟩
theorem tw9918933483685116210:True:=⟨⟩
theorem tw10891060880571393183:True:=⟨⟩
theorem tw12605378221089201835:True:=⟨⟩
theorem tw7785795631640140344:True:=⟨⟩
theorem tw14879664197415176347:True:=⟨⟩
theorem tw964631765198559857:True:=⟨⟩
theorem tw16321923092481099595:True:=⟨⟩
theorem tw5036588923859258941:True:=⟨⟩
theorem tw6134864369187913804:True:=⟨⟩
theorem tw15191783816806357730:True:=⟨⟩
theorem tw13058674120097708212:True:=⟨⟩
theorem tw1438596197998680672:True:=⟨⟩
theorem tw15233786005081441316:True:=⟨⟩
theorem tw9733758042414377539:True:=⟨⟩
theorem tw11585535798460541359:True:=⟨⟩
theorem tw12350380701581704395:True:=⟨⟩
theorem tw13309318746657138008:True:=⟨⟩
theorem tw5848365242905161979:True:=⟨⟩
theorem tw16081531787954165365:True:=⟨⟩
theorem tw5200951662237782696:True:=⟨⟩
theorem tw9929522838807095979:True:=⟨⟩
theorem tw9789284667970410365:True:=⟨⟩
theorem tw14079990764483452778:True:=⟨⟩
theorem tw5982196166045173898:True:=⟨⟩
theorem tw4067513892352750214:True:=⟨⟩
theorem tw18055680995288659531:True:=⟨⟩
theorem tw5328088123939866647:True:=⟨⟩
theorem tw11735924333099056875:True:=⟨⟩
theorem tw5723654928367791856:True:=⟨⟩
theorem tw8945065523121918469:True:=⟨⟩
theorem tw11498497742740211079:True:=⟨⟩
theorem tw10879910065881391882:True:=⟨⟩
theorem tw2851802765177778233:True:=⟨⟩
theorem tw9797526829269012267:True:=⟨⟩
theorem tw2529254207953707245:True:=⟨⟩
theorem tw11240593136864633227:True:=⟨⟩
theorem tw17218290861003062516:True:=⟨⟩
theorem tw16967822613831895588:True:=⟨⟩
theorem tw13878421357850343964:True:=⟨⟩
theorem tw646916553822294312:True:=⟨⟩
theorem tw15287614937464920236:True:=⟨⟩
theorem tw14547638209127524789:True:=⟨⟩
theorem tw12518896924136839049:True:=⟨⟩
theorem tw13973932310421283183:True:=⟨⟩
theorem tw4235187843872324837:True:=⟨⟩
theorem tw12671112106411793093:True:=⟨⟩
theorem tw9218973265143123085:True:=⟨⟩
theorem tw13637116694219159420:True:=⟨⟩
theorem tw4372787779776451035:True:=⟨⟩
theorem tw1813187326595997476:True:=⟨⟩
theorem tw1414712909434301976:True:=⟨⟩
theorem tw9220149795183511874:True:=⟨⟩
theorem tw9697909016461857003:True:=⟨⟩
theorem tw3518972465417384972:True:=⟨⟩
theorem tw232958686083676545:True:=⟨⟩
theorem tw343259713050396948:True:=⟨⟩
theorem tw15293362059600496005:True:=⟨⟩
theorem tw428570567573462274:True:=⟨⟩
theorem tw10890468174402579283:True:=⟨⟩
theorem tw17273940939143674890:True:=⟨⟩
theorem tw12208365626459022524:True:=⟨⟩
theorem tw11921896241602991119:True:=⟨⟩
theorem tw3640748056988266703:True:=⟨⟩
theorem tw10113975356001446221:True:=⟨⟩
theorem tw5926835273494463117:True:=⟨⟩
theorem tw17251528085199696679:True:=⟨⟩
theorem tw16269498732807560015:True:=⟨⟩
theorem tw989544676443933565:True:=⟨⟩
theorem tw2622456841562121271:True:=⟨⟩
theorem tw4657608463313593276:True:=⟨⟩
theorem tw3724549765104667114:True:=⟨⟩
theorem tw14995349827304577905:True:=⟨⟩
theorem tw8560400825855998961:True:=⟨⟩
theorem tw6947017367331209150:True:=⟨⟩
theorem tw11180015737375660013:True:=⟨⟩
theorem tw1531318868100633183:True:=⟨⟩
theorem tw9843388502553406919:True:=⟨⟩
theorem tw15682972336812645544:True:=⟨⟩
theorem tw1666742169276175507:True:=⟨⟩
theorem tw7741324697503977970:True:=⟨⟩
theorem tw16622936934687047146:True:=⟨⟩
theorem tw16600121056446212573:True:=⟨⟩
theorem tw9878517418602534506:True:=⟨⟩
theorem tw18058176055212994109:True:=⟨⟩
theorem tw10253703652952214776:True:=⟨⟩
theorem tw13146332729944343126:True:=⟨⟩
theorem tw6008557297771242604:True:=⟨⟩
theorem tw9927309079105550780:True:=⟨⟩
theorem tw6818182800746412733:True:=⟨⟩
theorem tw2044926418664963216:True:=⟨⟩
theorem tw17416561250853861135:True:=⟨⟩
theorem tw17030790699378740090:True:=⟨⟩
theorem tw3021436035123061350:True:=⟨⟩
theorem tw5453562423099879608:True:=⟨⟩
theorem tw3727490384797625713:True:=⟨⟩
theorem tw16265911994376471973:True:=⟨⟩
theorem tw5684123043550960867:True:=⟨⟩
theorem tw5758239512833461353:True:=⟨⟩
theorem tw15032316992894291324:True:=⟨⟩
theorem tw16652342948658131757:True:=⟨⟩
theorem tw12706666090442554347:True:=⟨⟩
theorem tw1039476532417228941:True:=⟨⟩
theorem tw9385149156176305967:True:=⟨⟩
theorem tw5348415350008057981:True:=⟨⟩
theorem tw8566750805176152321:True:=⟨⟩
theorem tw16732382346559659749:True:=⟨⟩
theorem tw14119179684497514096:True:=⟨⟩
theorem tw17064296219921695974:True:=⟨⟩
theorem tw6978144892111550897:True:=⟨⟩
theorem tw8008725716967643420:True:=⟨⟩
theorem tw15889874639340382867:True:=⟨⟩
theorem tw16021592454714566860:True:=⟨⟩
theorem tw18050499859562503381:True:=⟨⟩
theorem tw5234648918311755101:True:=⟨⟩
theorem tw11316601300308205161:True:=⟨⟩
theorem tw8706468986131882456:True:=⟨⟩
theorem tw3002802628358556927:True:=⟨⟩
theorem tw16291866068935475528:True:=⟨⟩
theorem tw6415733284572592187:True:=⟨⟩
theorem tw13441657919443006685:True:=⟨⟩
theorem tw12935983109022790872:True:=⟨⟩
theorem tw18016853789578237347:True:=⟨⟩
theorem tw6735774102700265530:True:=⟨⟩
theorem tw4494320497395500470:True:=⟨⟩
theorem tw1190573535331353531:True:=⟨⟩
theorem tw5447170602622329230:True:=⟨⟩
theorem tw2937785517524227517:True:=⟨⟩
theorem tw13768184985143667906:True:=⟨⟩
theorem tw17582531607742182661:True:=⟨⟩
theorem tw7770330243973318106:True:=⟨⟩
theorem tw14164934249511599659:True:=⟨⟩
theorem tw6870314973105728802:True:=⟨⟩
theorem tw14841265446903185029:True:=⟨⟩
theorem tw4331723160736708053:True:=⟨⟩
theorem tw6591551627042134098:True:=⟨⟩
theorem tw11282457030282591924:True:=⟨⟩
theorem tw11739492133534460017:True:=⟨⟩
theorem tw7551858849300951760:True:=⟨⟩
theorem tw2003539273503355949:True:=⟨⟩
theorem tw3148294227404396895:True:=⟨⟩
theorem tw1969138701303831305:True:=⟨⟩
theorem tw14521985780862386656:True:=⟨⟩
theorem tw8096736215223693664:True:=⟨⟩
theorem tw5650205451833995940:True:=⟨⟩
theorem tw17712042159526171618:True:=⟨⟩
theorem tw11809679109870520939:True:=⟨⟩
theorem tw3855656783764006470:True:=⟨⟩
theorem tw9728257419420842602:True:=⟨⟩
theorem tw12272083859288986501:True:=⟨⟩
theorem tw15075307836349318743:True:=⟨⟩
theorem tw5283502537649259526:True:=⟨⟩
theorem tw7435802988499620006:True:=⟨⟩
theorem tw12933402865666892706:True:=⟨⟩
theorem tw12915246323577658944:True:=⟨⟩
theorem tw6009376159030158543:True:=⟨⟩
theorem tw6663653019463659614:True:=⟨⟩
theorem tw2039427739750002201:True:=⟨⟩
theorem tw8493533163213465006:True:=⟨⟩
theorem tw15543114414291011122:True:=⟨⟩
theorem tw16652539290678018655:True:=⟨⟩
theorem tw14046817853904241909:True:=⟨⟩
theorem tw13476058944652054374:True:=⟨⟩
theorem tw18186044060136456093:True:=⟨⟩
end PySem.W.Fast
namespace KL
open PySem PySem.Spec PyProof.Rows L2 DL XF
def pH (l:List (Str × Addr)) (x:Str):Addr:=(l.lookup x).getD 0
structure fu (K:PySem.W.Frag) (x:Str) (C:Addr) (bm:List Value):Prop where
 n:PySem.W.nsIn K mainGlobals x=some (some (.ref C))
 e:PySem.W.excIn K C gJ "ValueError.__new__" = true
 m:XF.mroIn K C=some (.ref C :: bm)
structure jl (K:PySem.W.Frag) (C:Addr):Prop where
 ga:PySem.W.findIn K (.ref C) "__getattribute__" = some (some (.builtin "BaseException.__getattribute__"))
 gt:PySem.W.findIn K (.ref C) "__getattr__" = some none
 ha:PySem.W.findIn K (.ref C) "__class__" = some (some (.builtin "object.__class__"))
 mo:PySem.W.mroIn K C (.type "object")=some true
 mb:PySem.W.mroIn K C (.type "BaseException")=some true
 cl:(PySem.W.clsIn K C).isSome=true
theorem Ed {K:PySem.W.Frag}{C:Addr} (hc:(PySem.W.clsIn K C).isSome=true) (ha:PySem.W.findIn K (.ref C) "__class__" = some (some (.builtin "object.__class__"))) (hn:PySem.W.specialIn K (.builtin "object.__class__") "__get__" = some (some (.builtin "getset_descriptor.__get__"))) (htk:PySem.W.takesIn K (.builtin "object.__class__")=some true) :
  PySem.W.findObj K C none "__class__" = some (.bind (.builtin "getset_descriptor.__get__") (.builtin "object.__class__")):=by
 obtain ⟨cd,hc⟩:=Option.isSome_iff_exists.mp hc
 unfold PySem.W.findObj
 rw [hc,Option.bind_some,ha,Option.bind_some]
 simp [hn,htk]
theorem jl.kit {K:PySem.W.Frag}{C:Addr} (r:jl K C) (hn:PySem.W.specialIn K (.builtin "object.__class__") "__get__" = some (some (.builtin "getset_descriptor.__get__"))) (htk:PySem.W.takesIn K (.builtin "object.__class__")=some true):kO K C :=
 ⟨r.ga,r.gt,Ed r.cl r.ha hn htk,r.mo,r.mb,r.cl⟩
theorem fu.cls {K:PySem.W.Frag}{h:Heap}{mg:Str->Option Value}{x:Str}{C:Addr}{bm:List Value} (r:fu K x C bm) (X:K.In h) (G:h.Ns mainGlobals mg):fL K mg x C bm:=⟨PySem.W.mg_of X G r.n,r.e,r.m⟩
theorem apart:Apart (KL.pH [("NetError",24),("NoNet",37),("NoPlace",49),("SamePlace",61),("Twice",73),("Taken",85),("NoColours",97),("NoSet",109),("NoParting",121),("NoGroup",133),("TooMany",145),("NoDeed",157),("Unlike",169),("NoText",181),("NoRow",193),("NoName",205)]) names:=by
 have h:∀ x ∈ names,∀ y ∈ names,KL.pH [("NetError",24),("NoNet",37),("NoPlace",49),("SamePlace",61),("Twice",73),("Taken",85),("NoColours",97),("NoSet",109),("NoParting",121),("NoGroup",133),("TooMany",145),("NoDeed",157),("Unlike",169),("NoText",181),("NoRow",193),("NoName",205)] x=KL.pH [("NetError",24),("NoNet",37),("NoPlace",49),("SamePlace",61),("Twice",73),("Taken",85),("NoColours",97),("NoSet",109),("NoParting",121),("NoGroup",133),("TooMany",145),("NoDeed",157),("Unlike",169),("NoText",181),("NoRow",193),("NoName",205)] y->x=y:=by decide +kernel
 exact fun x y hx hy=>h x hx y hy
theorem bG:KL.pH [("NetError",24),("NoNet",37),("NoPlace",49),("SamePlace",61),("Twice",73),("Taken",85),("NoColours",97),("NoSet",109),("NoParting",121),("NoGroup",133),("TooMany",145),("NoDeed",157),("Unlike",169),("NoText",181),("NoRow",193),("NoName",205)] "NetError" = 24:=by decide +kernel
theorem vN:KL.pH [("NetError",24),("NoNet",37),("NoPlace",49),("SamePlace",61),("Twice",73),("Taken",85),("NoColours",97),("NoSet",109),("NoParting",121),("NoGroup",133),("TooMany",145),("NoDeed",157),("Unlike",169),("NoText",181),("NoRow",193),("NoName",205)] "NoNet" = 37:=by decide +kernel
theorem qF:KL.pH [("NetError",24),("NoNet",37),("NoPlace",49),("SamePlace",61),("Twice",73),("Taken",85),("NoColours",97),("NoSet",109),("NoParting",121),("NoGroup",133),("TooMany",145),("NoDeed",157),("Unlike",169),("NoText",181),("NoRow",193),("NoName",205)] "NoPlace" = 49:=by decide +kernel
theorem nC:KL.pH [("NetError",24),("NoNet",37),("NoPlace",49),("SamePlace",61),("Twice",73),("Taken",85),("NoColours",97),("NoSet",109),("NoParting",121),("NoGroup",133),("TooMany",145),("NoDeed",157),("Unlike",169),("NoText",181),("NoRow",193),("NoName",205)] "SamePlace" = 61:=by decide +kernel
theorem Cv:KL.pH [("NetError",24),("NoNet",37),("NoPlace",49),("SamePlace",61),("Twice",73),("Taken",85),("NoColours",97),("NoSet",109),("NoParting",121),("NoGroup",133),("TooMany",145),("NoDeed",157),("Unlike",169),("NoText",181),("NoRow",193),("NoName",205)] "Twice" = 73:=by decide +kernel
theorem vP:KL.pH [("NetError",24),("NoNet",37),("NoPlace",49),("SamePlace",61),("Twice",73),("Taken",85),("NoColours",97),("NoSet",109),("NoParting",121),("NoGroup",133),("TooMany",145),("NoDeed",157),("Unlike",169),("NoText",181),("NoRow",193),("NoName",205)] "Taken" = 85:=by decide +kernel
theorem nB:KL.pH [("NetError",24),("NoNet",37),("NoPlace",49),("SamePlace",61),("Twice",73),("Taken",85),("NoColours",97),("NoSet",109),("NoParting",121),("NoGroup",133),("TooMany",145),("NoDeed",157),("Unlike",169),("NoText",181),("NoRow",193),("NoName",205)] "NoColours" = 97:=by decide +kernel
theorem vO:KL.pH [("NetError",24),("NoNet",37),("NoPlace",49),("SamePlace",61),("Twice",73),("Taken",85),("NoColours",97),("NoSet",109),("NoParting",121),("NoGroup",133),("TooMany",145),("NoDeed",157),("Unlike",169),("NoText",181),("NoRow",193),("NoName",205)] "NoSet" = 109:=by decide +kernel
theorem uf:KL.pH [("NetError",24),("NoNet",37),("NoPlace",49),("SamePlace",61),("Twice",73),("Taken",85),("NoColours",97),("NoSet",109),("NoParting",121),("NoGroup",133),("TooMany",145),("NoDeed",157),("Unlike",169),("NoText",181),("NoRow",193),("NoName",205)] "NoParting" = 121:=by decide +kernel
theorem xr:KL.pH [("NetError",24),("NoNet",37),("NoPlace",49),("SamePlace",61),("Twice",73),("Taken",85),("NoColours",97),("NoSet",109),("NoParting",121),("NoGroup",133),("TooMany",145),("NoDeed",157),("Unlike",169),("NoText",181),("NoRow",193),("NoName",205)] "NoGroup" = 133:=by decide +kernel
theorem xu:KL.pH [("NetError",24),("NoNet",37),("NoPlace",49),("SamePlace",61),("Twice",73),("Taken",85),("NoColours",97),("NoSet",109),("NoParting",121),("NoGroup",133),("TooMany",145),("NoDeed",157),("Unlike",169),("NoText",181),("NoRow",193),("NoName",205)] "TooMany" = 145:=by decide +kernel
theorem zP:KL.pH [("NetError",24),("NoNet",37),("NoPlace",49),("SamePlace",61),("Twice",73),("Taken",85),("NoColours",97),("NoSet",109),("NoParting",121),("NoGroup",133),("TooMany",145),("NoDeed",157),("Unlike",169),("NoText",181),("NoRow",193),("NoName",205)] "NoDeed" = 157:=by decide +kernel
theorem zN:KL.pH [("NetError",24),("NoNet",37),("NoPlace",49),("SamePlace",61),("Twice",73),("Taken",85),("NoColours",97),("NoSet",109),("NoParting",121),("NoGroup",133),("TooMany",145),("NoDeed",157),("Unlike",169),("NoText",181),("NoRow",193),("NoName",205)] "Unlike" = 169:=by decide +kernel
theorem zM:KL.pH [("NetError",24),("NoNet",37),("NoPlace",49),("SamePlace",61),("Twice",73),("Taken",85),("NoColours",97),("NoSet",109),("NoParting",121),("NoGroup",133),("TooMany",145),("NoDeed",157),("Unlike",169),("NoText",181),("NoRow",193),("NoName",205)] "NoText" = 181:=by decide +kernel
theorem Cy:KL.pH [("NetError",24),("NoNet",37),("NoPlace",49),("SamePlace",61),("Twice",73),("Taken",85),("NoColours",97),("NoSet",109),("NoParting",121),("NoGroup",133),("TooMany",145),("NoDeed",157),("Unlike",169),("NoText",181),("NoRow",193),("NoName",205)] "NoRow" = 193:=by decide +kernel
theorem zO:KL.pH [("NetError",24),("NoNet",37),("NoPlace",49),("SamePlace",61),("Twice",73),("Taken",85),("NoColours",97),("NoSet",109),("NoParting",121),("NoGroup",133),("TooMany",145),("NoDeed",157),("Unlike",169),("NoText",181),("NoRow",193),("NoName",205)] "NoName" = 205:=by decide +kernel
theorem GS {K:PySem.W.Frag}{h:Heap}{mg:Str->Option Value} (X:K.In h) (G:h.Ns mainGlobals mg) (z_ValueError:PySem.W.nsIn K mainGlobals "ValueError" = some none) (z_bool:PySem.W.nsIn K mainGlobals "bool" = some none) (z_enumerate:PySem.W.nsIn K mainGlobals "enumerate" = some none) (z_int:PySem.W.nsIn K mainGlobals "int" = some none) (z_isinstance:PySem.W.nsIn K mainGlobals "isinstance" = some none) (z_len:PySem.W.nsIn K mainGlobals "len" = some none) (z_list:PySem.W.nsIn K mainGlobals "list" = some none) (z_max:PySem.W.nsIn K mainGlobals "max" = some none) (z_min:PySem.W.nsIn K mainGlobals "min" = some none) (z_range:PySem.W.nsIn K mainGlobals "range" = some none) (z_set:PySem.W.nsIn K mainGlobals "set" = some none) (z_sorted:PySem.W.nsIn K mainGlobals "sorted" = some none) (z_str:PySem.W.nsIn K mainGlobals "str" = some none) (z_tuple:PySem.W.nsIn K mainGlobals "tuple" = some none) (z_zip:PySem.W.nsIn K mainGlobals "zip" = some none) {t_MOST_PLACES:Tok} (y_MOST_PLACES:PySem.W.nsIn K mainGlobals "MOST_PLACES" = some (some (.int 24 t_MOST_PLACES))) (R_NetError:fu K "NetError" 24 gJ) (R_NoNet:fu K "NoNet" 37 (.ref 24 :: gJ)) (S_NoNet:jl K 37) (R_NoPlace:fu K "NoPlace" 49 (.ref 24 :: gJ)) (S_NoPlace:jl K 49) (R_SamePlace:fu K "SamePlace" 61 (.ref 24 :: gJ)) (S_SamePlace:jl K 61) (R_Twice:fu K "Twice" 73 (.ref 24 :: gJ)) (R_Taken:fu K "Taken" 85 (.ref 24 :: gJ)) (S_Taken:jl K 85) (R_NoColours:fu K "NoColours" 97 (.ref 24 :: gJ)) (S_NoColours:jl K 97) (R_NoSet:fu K "NoSet" 109 (.ref 24 :: gJ)) (S_NoSet:jl K 109) (R_NoParting:fu K "NoParting" 121 (.ref 24 :: gJ)) (R_NoGroup:fu K "NoGroup" 133 (.ref 24 :: gJ)) (R_TooMany:fu K "TooMany" 145 (.ref 24 :: gJ)) (R_NoDeed:fu K "NoDeed" 157 (.ref 24 :: gJ)) (R_Unlike:fu K "Unlike" 169 (.ref 24 :: gJ)) (R_NoText:fu K "NoText" 181 (.ref 24 :: gJ)) (R_NoRow:fu K "NoRow" 193 (.ref 24 :: gJ)) (R_NoName:fu K "NoName" 205 (.ref 24 :: gJ)) (hn:PySem.W.specialIn K (.builtin "object.__class__") "__get__" = some (some (.builtin "getset_descriptor.__get__"))) (htk:PySem.W.takesIn K (.builtin "object.__class__")=some true):Txt K mg (KL.pH [("NetError",24),("NoNet",37),("NoPlace",49),("SamePlace",61),("Twice",73),("Taken",85),("NoColours",97),("NoSet",109),("NoParting",121),("NoGroup",133),("TooMany",145),("NoDeed",157),("Unlike",169),("NoText",181),("NoRow",193),("NoName",205)]) :=
 ⟨PySem.W.mg_none_of X G z_ValueError,PySem.W.mg_none_of X G z_bool,PySem.W.mg_none_of X G z_enumerate,PySem.W.mg_none_of X G z_int,PySem.W.mg_none_of X G z_isinstance,PySem.W.mg_none_of X G z_len,PySem.W.mg_none_of X G z_list,PySem.W.mg_none_of X G z_max,PySem.W.mg_none_of X G z_min,PySem.W.mg_none_of X G z_range,PySem.W.mg_none_of X G z_set,PySem.W.mg_none_of X G z_sorted,PySem.W.mg_none_of X G z_str,PySem.W.mg_none_of X G z_tuple,PySem.W.mg_none_of X G z_zip,⟨_,PySem.W.mg_of X G y_MOST_PLACES⟩,(by rw [bG]; exact R_NetError.cls X G),(by rw [vN,bG]; exact R_NoNet.cls X G),(by rw [vN]; exact S_NoNet.kit hn htk),(by rw [qF,bG]; exact R_NoPlace.cls X G),(by rw [qF]; exact S_NoPlace.kit hn htk),(by rw [nC,bG]; exact R_SamePlace.cls X G),(by rw [nC]; exact S_SamePlace.kit hn htk),(by rw [Cv,bG]; exact R_Twice.cls X G),(by rw [vP,bG]; exact R_Taken.cls X G),(by rw [vP]; exact S_Taken.kit hn htk),(by rw [nB,bG]; exact R_NoColours.cls X G),(by rw [nB]; exact S_NoColours.kit hn htk),(by rw [vO,bG]; exact R_NoSet.cls X G),(by rw [vO]; exact S_NoSet.kit hn htk),(by rw [uf,bG]; exact R_NoParting.cls X G),(by rw [xr,bG]; exact R_NoGroup.cls X G),(by rw [xu,bG]; exact R_TooMany.cls X G),(by rw [zP,bG]; exact R_NoDeed.cls X G),(by rw [zN,bG]; exact R_Unlike.cls X G),(by rw [zM,bG]; exact R_NoText.cls X G),(by rw [Cy,bG]; exact R_NoRow.cls X G),(by rw [zO,bG]; exact R_NoName.cls X G)⟩
theorem GU {l:PySem.W.OpenLaw}{w:World}{K:PySem.W.Frag}{h:Heap}{mg:Str->Option Value}{fa:Addr} (X:K.In h) (G:h.Ns mainGlobals mg) (hfa:mg "law" = some (.ref fa)) (T:Txt K mg (KL.pH [("NetError",24),("NoNet",37),("NoPlace",49),("SamePlace",61),("Twice",73),("Taken",85),("NoColours",97),("NoSet",109),("NoParting",121),("NoGroup",133),("TooMany",145),("NoDeed",157),("Unlike",169),("NoText",181),("NoRow",193),("NoName",205)]))
  (D_require_place:dR K mg "require_place" fT ["places","place"])
  (D_require_two:dR K mg "require_two" gY ["places","one","other"])
  (D_checked_set:dR K mg "checked_set" gX ["places","some"])
  (D_pair:dR K mg "pair" tP ["one","other"])
  (D_colours_of:dR K mg "colours_of" iL ["net"])
  (D_net_with:dR K mg "net_with" kg ["places","colours"])
  (D_recoloured:dR K mg "recoloured" iN ["net","one","other","colour"])
  (D_with_place:dR K mg "with_place" iM ["net","place","colours"])
  (D_without_place:dR K mg "without_place" fR ["net","place"])
  (D_part_of:dR K mg "part_of" lL ["net","some"])
  (D_Lcell:dR K mg "_law_cell" s_Lcell ["_law_script","_law_k"])
  (D_Llike:dR K mg "_law_like" s_Llike ["_law_found","_law_due_here"])
  (D_Lmany:dR K mg "_law_many" s_Lmany ["_law_cell_here"])
  (D_Lmix:dR K mg "_law_mix" s_Lmix ["_law_script","_law_at","_law_k"])
  (D_Lplaces:dR K mg "_law_places" s_Lplaces ["_law_script","_law_at","_law_many_here"])
  (D_Lshade:dR K mg "_law_shade" s_Lshade ["_law_script","_law_at","_law_k","_law_j"])
  (D_Lnet:dR K mg "_law_net" s_Lnet ["_law_script","_law_at","_law_many_here"])
  (D_Lword:dR K mg "_law_word" s_Lword ["_law_e"])
  (D_Lpick:dR K mg "_law_pick" s_Lpick ["_law_net_here","_law_number"])
  (D_Ldict:dR K mg "_law_dict" s_Ldict ["_law_net_here"])
  (D_Lmade:dR K mg "_law_made" s_Lmade ["_law_places_here","_law_shades"])
  (D_Ldue:dR K mg "_law_due" s_Ldue ["_law_net_here","_law_deed_here"])
  (D_Ldone:dR K mg "_law_done" s_Ldone ["_law_net_here","_law_deed_here"])
  (D_Ldrawn:dR K mg "_law_drawn" s_Ldrawn ["_law_cell_here","_law_rest","_law_j"])
  (D_Ldeed:dR K mg "_law_deed" s_Ldeed ["_law_net_here","_law_cell_here","_law_k"])
  {f:Addr}{oc:Value}{od an:Option Addr}{osl:Array (Option Value)}{kV doc pm cdv ct:Value} (a:PySem.W.nsIn K mainGlobals "law" = some (some (.ref f)))
  (lk:K.lookup f=some ⟨oc,od,.func (PySem.W.fnOf "law" "law" (je mZ) (dY mZ) (aC mZ) .none kV doc pm an cdv ct),osl⟩) (c:PySem.W.codeIn K cdv "law" = true) (k:PySem.W.keepIn K (.ref f)=true) :
  ∃ fd:FuncData,(∀ (s:Shared) (v:Value),BindsTo s fd ⟨[v],[]⟩ [("_law_script",v)])/\∀ base:Heap,K.In base->base.Ns mainGlobals mg->nG l.prog w K mg base vQ 6 fa fd ["_law_script"] (fV K (vd (KL.pH [("NetError",24),("NoNet",37),("NoPlace",49),("SamePlace",61),("Twice",73),("Taken",85),("NoColours",97),("NoSet",109),("NoParting",121),("NoGroup",133),("TooMany",145),("NoDeed",157),("Unlike",169),("NoText",181),("NoRow",193),("NoName",205)]))):=by
 have e:=hfa.symm.trans (PySem.W.mg_of X G a)
 cases e
 refine ⟨PySem.W.fnOf "law" "law" (je mZ) (dY mZ) (aC mZ) .none kV doc pm an cdv ct,fun s v=>.of_eq rfl,fun base _ _=>?_⟩
 have C_require_place:=ou (P:=l.prog) (w:=w) (base:=base) T  D_require_place
 have C_require_two:=qo (P:=l.prog) (w:=w) (base:=base) T C_require_place D_require_two
 have C_checked_set:=qk (P:=l.prog) (w:=w) (base:=base) T C_require_place D_checked_set
 have C_pair:=DG (P:=l.prog) (w:=w) (base:=base) T  D_pair
 have C_colours_of:=qY (P:=l.prog) (w:=w) (base:=base) T C_pair D_colours_of
 have C_net_with:=vj (P:=l.prog) (w:=w) (base:=base) T C_pair D_net_with
 have C_recoloured:=qX (P:=l.prog) (w:=w) (base:=base) T C_require_two C_pair C_colours_of C_net_with D_recoloured
 have C_with_place:=qZ (P:=l.prog) (w:=w) (base:=base) T C_pair C_colours_of C_net_with D_with_place
 have C_without_place:=oq (P:=l.prog) (w:=w) (base:=base) T C_require_place C_colours_of C_net_with D_without_place
 have C_part_of:=wO (P:=l.prog) (w:=w) (base:=base) T C_checked_set C_colours_of C_net_with D_part_of
 have C_Lcell:=ok_Lcell (P:=l.prog) (w:=w) (base:=base) T  D_Lcell
 have C_Llike:=ok_Llike (P:=l.prog) (w:=w) (base:=base) T  D_Llike 4
 have C_Lmany:=ok_Lmany (P:=l.prog) (w:=w) (base:=base) T  D_Lmany
 have C_Lmix:=ok_Lmix (P:=l.prog) (w:=w) (base:=base) T C_Lcell D_Lmix
 have C_Lplaces:=ok_Lplaces (P:=l.prog) (w:=w) (base:=base) T C_Lcell D_Lplaces
 have C_Lshade:=ok_Lshade (P:=l.prog) (w:=w) (base:=base) T C_Lcell C_Lmix D_Lshade
 have C_Lnet:=ok_Lnet (P:=l.prog) (w:=w) (base:=base) T C_Lplaces C_Lshade D_Lnet
 have C_Lword:=ok_Lword (P:=l.prog) (w:=w) (base:=base) T  D_Lword
 have C_Lpick:=ok_Lpick (P:=l.prog) (w:=w) (base:=base) T  D_Lpick
 have C_Ldict:=ok_Ldict (P:=l.prog) (w:=w) (base:=base) T  D_Ldict
 have C_Lmade:=ok_Lmade (P:=l.prog) (w:=w) (base:=base) T  D_Lmade
 have C_Ldue:=ok_Ldue (P:=l.prog) (w:=w) (base:=base) T C_Ldict C_Lmade D_Ldue
 have C_Ldone:=ok_Ldone (P:=l.prog) (w:=w) (base:=base) T C_recoloured C_with_place C_without_place C_part_of C_Lword D_Ldone
 have C_Ldrawn:=ok_Ldrawn (P:=l.prog) (w:=w) (base:=base) T  D_Ldrawn
 have C_Ldeed:=ok_Ldeed (P:=l.prog) (w:=w) (base:=base) T C_Lpick C_Ldrawn D_Ldeed
 exact Gu T C_Lcell C_Llike C_Lmany C_Lnet C_Ldue C_Ldone C_Ldeed (wa (st:=mZ) lk c k)
end KL
open PySem PySem.W PyProof.Rows
set_option maxRecDepth 100000 in
set_option maxHeartbeats 0 in
theorem PySem.Challenge.cw_modulewood_k03_nets_changed_holds : PySem.Challenge.rw_modulewood_k03_nets_changed.Holds := by
 w_on; o_law; k_head; (case hw=>w_witness2)
 k_fill
 refine L2.C8 (l:=PySem.Challenge.rw_modulewood_k03_nets_changed) (n:=63) (k:=6) (x := "_law_script") (CX:=fun _=>L2.vQ) (sp:=fun w=>DL.fV _ (KL.vd (KL.pH [("NetError",24),("NoNet",37),("NoPlace",49),("SamePlace",61),("Twice",73),("Taken",85),("NoColours",97),("NoSet",109),("NoParting",121),("NoGroup",133),("TooMany",145),("NoDeed",157),("Unlike",169),("NoText",181),("NoRow",193),("NoName",205)]))) rfl (by decide) rfl ⟨rfl,by decide,by decide⟩ (fun w h Y=>PySem.W.kIn_of Y) ?F (fun w H a ns hl _ hS=>DL.F0 hS (KL.Ct KL.apart ns hl)) fun _ _ _ _ _ z=>z
 case F =>
  intro w mg fa h KX G hmg
  have R_NetError:KL.fu (L2.cE KX) "NetError" 24 XF.gJ:=by
   dsimp only [L2.cE]
   exact ⟨by k_is,by kernel_rfl,by kernel_rfl⟩
  have R_NoNet:KL.fu (L2.cE KX) "NoNet" 37 (.ref 24 :: XF.gJ):=by
   dsimp only [L2.cE]
   exact ⟨by k_is,by kernel_rfl,by kernel_rfl⟩
  have S_NoNet:KL.jl (L2.cE KX) 37:=by
   dsimp only [L2.cE]
   exact ⟨by k_is,by k_is,by k_is,by k_is,by k_is,by kernel_rfl⟩
  have R_NoPlace:KL.fu (L2.cE KX) "NoPlace" 49 (.ref 24 :: XF.gJ):=by
   dsimp only [L2.cE]
   exact ⟨by k_is,by kernel_rfl,by kernel_rfl⟩
  have S_NoPlace:KL.jl (L2.cE KX) 49:=by
   dsimp only [L2.cE]
   exact ⟨by k_is,by k_is,by k_is,by k_is,by k_is,by kernel_rfl⟩
  have R_SamePlace:KL.fu (L2.cE KX) "SamePlace" 61 (.ref 24 :: XF.gJ):=by
   dsimp only [L2.cE]
   exact ⟨by k_is,by kernel_rfl,by kernel_rfl⟩
  have S_SamePlace:KL.jl (L2.cE KX) 61:=by
   dsimp only [L2.cE]
   exact ⟨by k_is,by k_is,by k_is,by k_is,by k_is,by kernel_rfl⟩
  have R_Twice:KL.fu (L2.cE KX) "Twice" 73 (.ref 24 :: XF.gJ):=by
   dsimp only [L2.cE]
   exact ⟨by k_is,by kernel_rfl,by kernel_rfl⟩
  have R_Taken:KL.fu (L2.cE KX) "Taken" 85 (.ref 24 :: XF.gJ):=by
   dsimp only [L2.cE]
   exact ⟨by k_is,by kernel_rfl,by kernel_rfl⟩
  have S_Taken:KL.jl (L2.cE KX) 85:=by
   dsimp only [L2.cE]
   exact ⟨by k_is,by k_is,by k_is,by k_is,by k_is,by kernel_rfl⟩
  have R_NoColours:KL.fu (L2.cE KX) "NoColours" 97 (.ref 24 :: XF.gJ):=by
   dsimp only [L2.cE]
   exact ⟨by k_is,by kernel_rfl,by kernel_rfl⟩
  have S_NoColours:KL.jl (L2.cE KX) 97:=by
   dsimp only [L2.cE]
   exact ⟨by k_is,by k_is,by k_is,by k_is,by k_is,by kernel_rfl⟩
  have R_NoSet:KL.fu (L2.cE KX) "NoSet" 109 (.ref 24 :: XF.gJ):=by
   dsimp only [L2.cE]
   exact ⟨by k_is,by kernel_rfl,by kernel_rfl⟩
  have S_NoSet:KL.jl (L2.cE KX) 109:=by
   dsimp only [L2.cE]
   exact ⟨by k_is,by k_is,by k_is,by k_is,by k_is,by kernel_rfl⟩
  have R_NoParting:KL.fu (L2.cE KX) "NoParting" 121 (.ref 24 :: XF.gJ):=by
   dsimp only [L2.cE]
   exact ⟨by k_is,by kernel_rfl,by kernel_rfl⟩
  have R_NoGroup:KL.fu (L2.cE KX) "NoGroup" 133 (.ref 24 :: XF.gJ):=by
   dsimp only [L2.cE]
   exact ⟨by k_is,by kernel_rfl,by kernel_rfl⟩
  have R_TooMany:KL.fu (L2.cE KX) "TooMany" 145 (.ref 24 :: XF.gJ):=by
   dsimp only [L2.cE]
   exact ⟨by k_is,by kernel_rfl,by kernel_rfl⟩
  have R_NoDeed:KL.fu (L2.cE KX) "NoDeed" 157 (.ref 24 :: XF.gJ):=by
   dsimp only [L2.cE]
   exact ⟨by k_is,by kernel_rfl,by kernel_rfl⟩
  have R_Unlike:KL.fu (L2.cE KX) "Unlike" 169 (.ref 24 :: XF.gJ):=by
   dsimp only [L2.cE]
   exact ⟨by k_is,by kernel_rfl,by kernel_rfl⟩
  have R_NoText:KL.fu (L2.cE KX) "NoText" 181 (.ref 24 :: XF.gJ):=by
   dsimp only [L2.cE]
   exact ⟨by k_is,by kernel_rfl,by kernel_rfl⟩
  have R_NoRow:KL.fu (L2.cE KX) "NoRow" 193 (.ref 24 :: XF.gJ):=by
   dsimp only [L2.cE]
   exact ⟨by k_is,by kernel_rfl,by kernel_rfl⟩
  have R_NoName:KL.fu (L2.cE KX) "NoName" 205 (.ref 24 :: XF.gJ):=by
   dsimp only [L2.cE]
   exact ⟨by k_is,by kernel_rfl,by kernel_rfl⟩
  have hn:PySem.W.specialIn (L2.cE KX) (.builtin "object.__class__") "__get__" = some (some (.builtin "getset_descriptor.__get__")):=by
   dsimp only [L2.cE]
   k_is
  have htk:PySem.W.takesIn (L2.cE KX) (.builtin "object.__class__")=some true:=by
   dsimp only [L2.cE]
   k_is
  have T:KL.Txt (L2.cE KX) mg (KL.pH [("NetError",24),("NoNet",37),("NoPlace",49),("SamePlace",61),("Twice",73),("Taken",85),("NoColours",97),("NoSet",109),("NoParting",121),("NoGroup",133),("TooMany",145),("NoDeed",157),("Unlike",169),("NoText",181),("NoRow",193),("NoName",205)]):=by
   refine' KL.GS KX G ?z0 ?z1 ?z2 ?z3 ?z4 ?z5 ?z6 ?z7 ?z8 ?z9 ?z10 ?z11 ?z12 ?z13 ?z14 ?z15 R_NetError R_NoNet S_NoNet R_NoPlace S_NoPlace R_SamePlace S_SamePlace R_Twice R_Taken S_Taken R_NoColours S_NoColours R_NoSet S_NoSet R_NoParting R_NoGroup R_TooMany R_NoDeed R_Unlike R_NoText R_NoRow R_NoName hn htk
   (case z0=>dsimp only [L2.cE]; k_is)
   (case z1=>dsimp only [L2.cE]; k_is)
   (case z2=>dsimp only [L2.cE]; k_is)
   (case z3=>dsimp only [L2.cE]; k_is)
   (case z4=>dsimp only [L2.cE]; k_is)
   (case z5=>dsimp only [L2.cE]; k_is)
   (case z6=>dsimp only [L2.cE]; k_is)
   (case z7=>dsimp only [L2.cE]; k_is)
   (case z8=>dsimp only [L2.cE]; k_is)
   (case z9=>dsimp only [L2.cE]; k_is)
   (case z10=>dsimp only [L2.cE]; k_is)
   (case z11=>dsimp only [L2.cE]; k_is)
   (case z12=>dsimp only [L2.cE]; k_is)
   (case z13=>dsimp only [L2.cE]; k_is)
   (case z14=>dsimp only [L2.cE]; k_is)
   (case z15=>dsimp only [L2.cE]; k_is)
  have D_require_place:L2.dR (L2.cE KX) mg "require_place" KL.fT ["places","place"]:=by
   dsimp only [L2.cE]
   refine' DL.cV KX G ?a ?l ?c ?k (fun _ _ _ _ _ _ us hl=>match us,hl with | [_,_],_=>rfl)
   (case a=>k_is); (case l=>k_is); (case c=>k_is); (case k=>k_is)
  have D_require_two:L2.dR (L2.cE KX) mg "require_two" KL.gY ["places","one","other"]:=by
   dsimp only [L2.cE]
   refine' DL.cV KX G ?a ?l ?c ?k (fun _ _ _ _ _ _ us hl=>match us,hl with | [_,_,_],_=>rfl)
   (case a=>k_is); (case l=>k_is); (case c=>k_is); (case k=>k_is)
  have D_checked_set:L2.dR (L2.cE KX) mg "checked_set" KL.gX ["places","some"]:=by
   dsimp only [L2.cE]
   refine' DL.cV KX G ?a ?l ?c ?k (fun _ _ _ _ _ _ us hl=>match us,hl with | [_,_],_=>rfl)
   (case a=>k_is); (case l=>k_is); (case c=>k_is); (case k=>k_is)
  have D_pair:L2.dR (L2.cE KX) mg "pair" KL.tP ["one","other"]:=by
   dsimp only [L2.cE]
   refine' DL.cV KX G ?a ?l ?c ?k (fun _ _ _ _ _ _ us hl=>match us,hl with | [_,_],_=>rfl)
   (case a=>k_is); (case l=>k_is); (case c=>k_is); (case k=>k_is)
  have D_colours_of:L2.dR (L2.cE KX) mg "colours_of" KL.iL ["net"]:=by
   dsimp only [L2.cE]
   refine' DL.cV KX G ?a ?l ?c ?k (fun _ _ _ _ _ _ us hl=>match us,hl with | [_],_=>rfl)
   (case a=>k_is); (case l=>k_is); (case c=>k_is); (case k=>k_is)
  have D_net_with:L2.dR (L2.cE KX) mg "net_with" KL.kg ["places","colours"]:=by
   dsimp only [L2.cE]
   refine' DL.cV KX G ?a ?l ?c ?k (fun _ _ _ _ _ _ us hl=>match us,hl with | [_,_],_=>rfl)
   (case a=>k_is); (case l=>k_is); (case c=>k_is); (case k=>k_is)
  have D_recoloured:L2.dR (L2.cE KX) mg "recoloured" KL.iN ["net","one","other","colour"]:=by
   dsimp only [L2.cE]
   refine' DL.cV KX G ?a ?l ?c ?k (fun _ _ _ _ _ _ us hl=>match us,hl with | [_,_,_,_],_=>rfl)
   (case a=>k_is); (case l=>k_is); (case c=>k_is); (case k=>k_is)
  have D_with_place:L2.dR (L2.cE KX) mg "with_place" KL.iM ["net","place","colours"]:=by
   dsimp only [L2.cE]
   refine' DL.cV KX G ?a ?l ?c ?k (fun _ _ _ _ _ _ us hl=>match us,hl with | [_,_,_],_=>rfl)
   (case a=>k_is); (case l=>k_is); (case c=>k_is); (case k=>k_is)
  have D_without_place:L2.dR (L2.cE KX) mg "without_place" KL.fR ["net","place"]:=by
   dsimp only [L2.cE]
   refine' DL.cV KX G ?a ?l ?c ?k (fun _ _ _ _ _ _ us hl=>match us,hl with | [_,_],_=>rfl)
   (case a=>k_is); (case l=>k_is); (case c=>k_is); (case k=>k_is)
  have D_part_of:L2.dR (L2.cE KX) mg "part_of" KL.lL ["net","some"]:=by
   dsimp only [L2.cE]
   refine' DL.cV KX G ?a ?l ?c ?k (fun _ _ _ _ _ _ us hl=>match us,hl with | [_,_],_=>rfl)
   (case a=>k_is); (case l=>k_is); (case c=>k_is); (case k=>k_is)
  have D_Lcell:L2.dR (L2.cE KX) mg "_law_cell" KL.s_Lcell ["_law_script","_law_k"]:=by
   dsimp only [L2.cE]
   refine' DL.cV KX G ?a ?l ?c ?k (fun _ _ _ _ _ _ us hl=>match us,hl with | [_,_],_=>rfl)
   (case a=>k_is); (case l=>k_is); (case c=>k_is); (case k=>k_is)
  have D_Llike:L2.dR (L2.cE KX) mg "_law_like" KL.s_Llike ["_law_found","_law_due_here"]:=by
   dsimp only [L2.cE]
   refine' DL.cV KX G ?a ?l ?c ?k (fun _ _ _ _ _ _ us hl=>match us,hl with | [_,_],_=>rfl)
   (case a=>k_is); (case l=>k_is); (case c=>k_is); (case k=>k_is)
  have D_Lmany:L2.dR (L2.cE KX) mg "_law_many" KL.s_Lmany ["_law_cell_here"]:=by
   dsimp only [L2.cE]
   refine' DL.cV KX G ?a ?l ?c ?k (fun _ _ _ _ _ _ us hl=>match us,hl with | [_],_=>rfl)
   (case a=>k_is); (case l=>k_is); (case c=>k_is); (case k=>k_is)
  have D_Lmix:L2.dR (L2.cE KX) mg "_law_mix" KL.s_Lmix ["_law_script","_law_at","_law_k"]:=by
   dsimp only [L2.cE]
   refine' DL.cV KX G ?a ?l ?c ?k (fun _ _ _ _ _ _ us hl=>match us,hl with | [_,_,_],_=>rfl)
   (case a=>k_is); (case l=>k_is); (case c=>k_is); (case k=>k_is)
  have D_Lplaces:L2.dR (L2.cE KX) mg "_law_places" KL.s_Lplaces ["_law_script","_law_at","_law_many_here"]:=by
   dsimp only [L2.cE]
   refine' DL.cV KX G ?a ?l ?c ?k (fun _ _ _ _ _ _ us hl=>match us,hl with | [_,_,_],_=>rfl)
   (case a=>k_is); (case l=>k_is); (case c=>k_is); (case k=>k_is)
  have D_Lshade:L2.dR (L2.cE KX) mg "_law_shade" KL.s_Lshade ["_law_script","_law_at","_law_k","_law_j"]:=by
   dsimp only [L2.cE]
   refine' DL.cV KX G ?a ?l ?c ?k (fun _ _ _ _ _ _ us hl=>match us,hl with | [_,_,_,_],_=>rfl)
   (case a=>k_is); (case l=>k_is); (case c=>k_is); (case k=>k_is)
  have D_Lnet:L2.dR (L2.cE KX) mg "_law_net" KL.s_Lnet ["_law_script","_law_at","_law_many_here"]:=by
   dsimp only [L2.cE]
   refine' DL.cV KX G ?a ?l ?c ?k (fun _ _ _ _ _ _ us hl=>match us,hl with | [_,_,_],_=>rfl)
   (case a=>k_is); (case l=>k_is); (case c=>k_is); (case k=>k_is)
  have D_Lword:L2.dR (L2.cE KX) mg "_law_word" KL.s_Lword ["_law_e"]:=by
   dsimp only [L2.cE]
   refine' DL.cV KX G ?a ?l ?c ?k (fun _ _ _ _ _ _ us hl=>match us,hl with | [_],_=>rfl)
   (case a=>k_is); (case l=>k_is); (case c=>k_is); (case k=>k_is)
  have D_Lpick:L2.dR (L2.cE KX) mg "_law_pick" KL.s_Lpick ["_law_net_here","_law_number"]:=by
   dsimp only [L2.cE]
   refine' DL.cV KX G ?a ?l ?c ?k (fun _ _ _ _ _ _ us hl=>match us,hl with | [_,_],_=>rfl)
   (case a=>k_is); (case l=>k_is); (case c=>k_is); (case k=>k_is)
  have D_Ldict:L2.dR (L2.cE KX) mg "_law_dict" KL.s_Ldict ["_law_net_here"]:=by
   dsimp only [L2.cE]
   refine' DL.cV KX G ?a ?l ?c ?k (fun _ _ _ _ _ _ us hl=>match us,hl with | [_],_=>rfl)
   (case a=>k_is); (case l=>k_is); (case c=>k_is); (case k=>k_is)
  have D_Lmade:L2.dR (L2.cE KX) mg "_law_made" KL.s_Lmade ["_law_places_here","_law_shades"]:=by
   dsimp only [L2.cE]
   refine' DL.cV KX G ?a ?l ?c ?k (fun _ _ _ _ _ _ us hl=>match us,hl with | [_,_],_=>rfl)
   (case a=>k_is); (case l=>k_is); (case c=>k_is); (case k=>k_is)
  have D_Ldue:L2.dR (L2.cE KX) mg "_law_due" KL.s_Ldue ["_law_net_here","_law_deed_here"]:=by
   dsimp only [L2.cE]
   refine' DL.cV KX G ?a ?l ?c ?k (fun _ _ _ _ _ _ us hl=>match us,hl with | [_,_],_=>rfl)
   (case a=>k_is); (case l=>k_is); (case c=>k_is); (case k=>k_is)
  have D_Ldone:L2.dR (L2.cE KX) mg "_law_done" KL.s_Ldone ["_law_net_here","_law_deed_here"]:=by
   dsimp only [L2.cE]
   refine' DL.cV KX G ?a ?l ?c ?k (fun _ _ _ _ _ _ us hl=>match us,hl with | [_,_],_=>rfl)
   (case a=>k_is); (case l=>k_is); (case c=>k_is); (case k=>k_is)
  have D_Ldrawn:L2.dR (L2.cE KX) mg "_law_drawn" KL.s_Ldrawn ["_law_cell_here","_law_rest","_law_j"]:=by
   dsimp only [L2.cE]
   refine' DL.cV KX G ?a ?l ?c ?k (fun _ _ _ _ _ _ us hl=>match us,hl with | [_,_,_],_=>rfl)
   (case a=>k_is); (case l=>k_is); (case c=>k_is); (case k=>k_is)
  have D_Ldeed:L2.dR (L2.cE KX) mg "_law_deed" KL.s_Ldeed ["_law_net_here","_law_cell_here","_law_k"]:=by
   dsimp only [L2.cE]
   refine' DL.cV KX G ?a ?l ?c ?k (fun _ _ _ _ _ _ us hl=>match us,hl with | [_,_,_],_=>rfl)
   (case a=>k_is); (case l=>k_is); (case c=>k_is); (case k=>k_is)
  refine' KL.GU KX G hmg T D_require_place D_require_two D_checked_set D_pair D_colours_of D_net_with D_recoloured D_with_place D_without_place D_part_of D_Lcell D_Llike D_Lmany D_Lmix D_Lplaces D_Lshade D_Lnet D_Lword D_Lpick D_Ldict D_Lmade D_Ldue D_Ldone D_Ldrawn D_Ldeed ?a ?l ?c ?k
  (case a=>k_is); (case l=>k_is); (case c=>k_is); (case k=>k_is)
