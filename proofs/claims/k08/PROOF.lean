import PyProof.Rows.All
import Wide.All
import OpenK.AllK
import Wide.FinOn
import PySem.Challenge.RW_modulewood_k08_greatest_within
import Lean
import PyProof.EqAt
import PyProof.EqKinds
import PyProof.TupleCall
import PyProof.StationsW
import PyProof.RangeIter
import PyProof.FactsTree
import PyProof.ExcClass2
import PyProof.ExcArgsOwn
import KE.KIsAll
import PyProof.SetScanFacts
import PyProof.Rows.SetFrom
import PyProof.FactsAll.set
import PyProof.Comp
import PyProof.Walks
import PyProof.TupleIter
import PyProof.CollectWalk
import PyProof.Rows.SortWalk
import PyProof.Rows.SortShell
import PyProof.NeKinds
import PyProof.WalkInts
import PyProof.Rows.CallKwBuiltin
import KE.KSortTup
import PyProof.IsRules
import PyProof.Walk
import PyProof.WalkLemmas
import PyProof.DictList
import PyProof.MeetsDict
import KE.KDictList
import PyProof.DictIter
import PyProof.DictWalks
import PyProof.DictItems
import PyProof.EnumIter
noncomputable section
set_option Elab.async false
set_option linter.all false
set_option maxRecDepth 100000
set_option maxHeartbeats 0
local macro_rules|`(tactic|walk_at "l")=>`(tactic|first|exact Or.inl rfl|exact Or.inr rfl)
set_option hygiene false
set_option hygiene true
def La:=@PySem.wpAny_bind
def Lb:=@PySem.Heap.get?_push_of_some
def Lc:=@List.length_map
def Ld:=@List.mem_cons_of_mem
def Le:=@List.mem_cons_self
def Lf:=@PySem.wpAny_pure
def Lg:=@List.getElem?_eq_getElem
def Lh:=@List.getElem?_eq_some_iff
def Li:=@Bool.false_ne_true
def Lj:=@PySem.Heap.get?_push_size
def Lk:=@PySem.Heap.lt_size
def Ll:=@Nat.le_refl
def Lm:=@List.size_toArray
def Ln:=@List.mem_cons
def Lo:=@List.length_append
def Lp:=@List.nodup_append
def Lq:=@List.mem_map
def Lr:=@if_pos
def Ls:=@List.mem_append
def Lu:=@List.mem_append_left
def Lv:=@List.nodup_cons
def Lw:=@if_neg
def Lx:=@List.mem_append_right
def Ly:=@List.length_cons
def Lz:=@List.map_append
def LA:=@List.map_cons
def LB:=@Array.getElem?_eq_getElem
def LC:=@List.getD_eq_getElem?_getD
def LD:=@decide_eq_false
def LF:=@Array.length_toList
def LG:=@List.getElem?_map
def LH:=@Nat.ne_of_lt
def LI:=@List.sublist_append_right
def LJ:=@List.map_congr_left
def LK:=@PySem.wpAny_setField_rec
def LM:=@List.append_assoc
def LN:=@List.mem_range
def LO:=@decide_eq_true
def LP:=@Bool.false_eq_true
def LQ:=@List.map_map
def LR:=@Nat.lt_of_lt_of_le
def LS:=@List.sublist_append_left
def LU:=@List.length_range
def LV:=@PySem.wpAny_call_entry
def LW:=@Bool.and_eq_true
def LX:=@PySem.wpAny_callSpecial?_slot
def LY:=@Int.toNat_natCast
def LZ:=@List.append_nil
def L0:=@PySem.PassesOwn.never
def L1:=@Array.getElem?_toList
def L3:=@PySem.wpAny_newObj_type
def L4:=@List.mem_singleton
def L5:=@Option.some.inj
def L6:=@List.length_singleton
def L7:=@Array.getD_eq_getD_getElem?
def L8:=@List.getElem?_set_ne
def Ma:=@PySem.sizeLine_eq
def Mb:=@PySem.wpAny_field
def Mc:=@List.getElem?_eq_none
def Me:=@PySem.W.mg_none_of
def Mf:=@PySem.Heap.size_push
def Mg:=@List.getElem?_set_self
def Mh:=@PySem.F.plainAttrs_list
def Mi:=@List.Sublist.refl
def Mj:=@Nat.lt_irrefl
def Mk:=@Nat.zero_le
def Ml:=@List.getElem?_range
def Mm:=@PySem.W.kia_one
def Mn:=@List.length_nil
def Mp:=@List.Perm.refl
def Mq:=@PySem.wpAny_typeNameOfWhole_itemiter
def Mr:=@List.ext_getElem?
def Ms:=@bne_self_eq_false
def Mt:=@List.pairwise_iff_getElem
def Mu:=@List.nodup_nil
def Mv:=@List.not_mem_nil
def Mw:=@Option.some_ne_none
def Mx:=@List.flatten_append
def My:=@Ne.symm
def Mz:=@PyProof.Rows.callWith_type1
def MA:=@List.pairwise_map
def MB:=@Int.emod_nonneg
def MC:=@Nat.le_trans
def MD:=@PySem.wpAny_isOneOf_itemiter
def ME:=@PySem.wpAny_seqItems
def MF:=@PySem.wpAny_Call_Name_kw
def MG:=@congrArg
def MH:=@List.lookup_cons
def MI:=@PySem.Around.under_plainId
def MJ:=@List.getElem?_append_right
def MK:=@decide_eq_true_eq
def ML:=@Array.perm_iff_toList_perm
def MM:=@List.flatten_cons
def MN:=@PySem.Heap.SameBut.update
def MO:=@PySem.Heap.get?_update_self
def MP:=@PySem.wpAny_mono
def MQ:=@List.length_take
def MR:=@PySem.Paired.length
def MS:=@PySem.wpAny_holding
def MT:=@PySem.wpAny_attempt
def MU:=@PySem.F.slot_list_append
def MV:=@PySem.F.type_list_append
def MW:=@Nat.zero_add
def MX:=@Bool.or_eq_false_iff
def MY:=@PySem.F.slot_dict_itemiterator_next
def MZ:=@List.length_eq_zero_iff
def M0:=@PySem.wpAny_setState_of
def M1:=@Nat.lt_trichotomy
def M3:=@List.mem_filter
def M4:=@PySem.codeAny_builtin
def M5:=@PySem.F.slot_dict_setdefault
def M6:=@List.getElem_of_mem
def M7:=@Nat.ne_of_gt
def M8:=@PySem.Calls.callWith_builtin
def M9:=@PySem.Heap.get?_update_other
def Na:=@Array.getElem?_eq_none
def Nb:=@List.any_cons
def Nc:=@Nat.le_succ
def Nd:=@List.ext_getElem
def Nf:=@decide_eq_decide
def Ng:=@PySem.F.slot_tuple_iterator_next
def Nh:=@if_true
def Ni:=@List.findIdx?_eq_some_iff_getElem
def Nj:=@List.drop_eq_getElem_cons
def Nk:=@PySem.wpAny_passesOwn
def Nl:=@Bool.eq_iff_iff
def Nm:=@List.find?_cons
def Nn:=@Nat.not_lt_zero
def Np:=@Option.isSome_iff_exists
def Nq:=@beq_iff_eq
def Nr:=@beq_eq_false_iff_ne
def Nt:=@PySem.mem_of_lookup
def Nu:=@PySem.Heap.SameBut.extBut
def Nv:=@PySem.wpAny_setEntries_of
def Nx:=@if_false
def Ny:=@PySem.wpAny_isInstance
def Nz:=@PySem.F.plainAttrs_dict
def NB:=@List.any_eq_true
def NC:=@Sum.inl.inj
def ND:=@Nat.le_of_lt
def NF:=@PySem.W.cellsFrom_some
def NG:=@PySem.wpAny_rule
def NH:=@List.sublist_cons_self
def NI:=@List.drop_eq_nil_of_le
def NJ:=@Bool.not_true
def NK:=@PySem.F.slot_enumerate_next
def NL:=@PySem.wpAny_truthy_bool
def NN:=@Nat.le_of_succ_le
def NO:=@Nat.lt_succ_of_lt
def NP:=@List.length_drop
def NQ:=@List.all_eq_true
def NR:=@List.isEmpty_nil
def NS:=@PySem.AutoSeq1.wpAny_loadPart'
def NT:=@PySem.plainId_quiet
def NU:=@Option.map_some
def NV:=@List.forIn_cons
def NW:=@PySem.wpAny_updateSeq
def NX:=@PySem.wpAny_ite_split
def NY:=@PySem.wpAny_pyIter_tuple
def NZ:=@Array.append_empty
def N1:=@PySem.wpAny_Call_method0_late
def N3:=@PyProof.Rows.F.plain_set_update_loop
def N4:=@List.any_eq_false
def N5:=@List.reverse_cons
def N6:=@List.take_of_length_le
def N7:=@PySem.wpAny_pyIter_slot
def N8:=@Option.some.injEq
def N9:=@PyProof.Rows.slot_tuple_getitem
def Oa:=@PySem.F.args_dict_itemiterator_next_1
def Ob:=@List.getElem?_zipWith
def Oc:=@PySem.builtinLookup_eq_fast
def Od:=@List.length_filter_le
def Oe:=@PyProof.Rows.callWith_builtin1
def Of:=@PySem.call_meets
def Og:=@Nat.lt_succ_self
def Oh:=@List.nodup_range
def Oi:=@PySem.F.args_dict_setdefault_3
def Oj:=@List.getElem_mem
def Ol:=@List.filter_cons
def Om:=@List.Perm.append
def Oo:=@List.mem_of_getElem?
def Oq:=@Array.toArray_toList
def Ot:=@PySem.wpAny_updateSeq_pair
def Ou:=@PySem.F.entry_dict_setdefault
def Ov:=@PySem.wpAny_execs_nil
def Ow:=@PySem.pushCells_keeps
def Ox:=@Nat.min_eq_left
def Oz:=@PySem.F.slot_zip_next
def OA:=@PySem.F.type_dict_setdefault
def OB:=@List.filterMap_cons
def OC:=@PySem.evalArgs_none
def OD:=@List.Sublist.append
def OE:=@List.filter_eq_self
def OF:=@List.length_pos_iff
def OG:=@PySem.codeAny_mono
def OH:=@PySem.wpAny_typeOf
def OI:=@Int.fdiv_eq_ediv_of_nonneg
def OJ:=@PySem.Calls.spliced_cons
def OL:=@List.forIn_nil
def OM:=@PySem.wpAny_setField
def ON:=@PySem.wpAny_newTuple
def OO:=@Option.ne_none_iff_exists'
def OP:=@List.length_mapIdx
def OQ:=@List.pairwise_cons
def OR:=@PySem.isSubtype_type
def OS:=@List.length_eraseIdx_of_lt
def OT:=@PySem.wpAny_fieldsOf
def OU:=@Int.emod_lt_of_pos
def OV:=@List.getElem?_append_left
def OW:=@List.findIdx?_eq_none_iff
def OX:=@Classical.byContradiction
def OY:=@PySem.Value.isInt_shape
def OZ:=@PySem.W.kitx_list
def O0:=@PySem.Calls.spliced_nil
def O1:=@PySem.wpAny_letGo
def O2:=@PySem.wpAny_pyIter_enum
def O3:=@PySem.wpAny_pyIter_list
def O4:=@PySem.fits_of_scanBound
def O5:=@List.all_cons
def O6:=@PySem.wpAny_handled
def O7:=@PySem.wpAny_onRaise
def O8:=@List.map_take
def O9:=@Option.getD_none
def Pa:=@Nat.min_eq_right
def Pc:=@Nat.le_add_right
def Pe:=@beq_self_eq_true
def Pg:=@List.mem_flatMap
def Ph:=@List.flatten_nil
def Pj:=@Nat.lt_trans
def Pk:=@List.of_mem_zip
def Pn:=@List.foldl_cons
def Po:=@Nat.max_eq_left
def Pp:=@List.range_succ
namespace L2
variable {C a b dx f:Addr}{A:Around}{c e tg:Expr}{fd:FuncData}{h h':Heap}{pins:List (Addr×Obj)}{ch fp:List Addr}{es:List Expr}{body:List Stmt}{N ps:List Str}{us:List Value}{M:Model}{i t':Nat}{p pos:Pos}{P:Program}{s s':Shared}{x:Str}{mA:Str->Option Value}{u:Value}{E Q:Value->Shared->Prop}{w:World}
def ex5 {α β:Sort _}{p q r:α->β->Prop}{C:Prop}(h:∃ a b,p a b/\q a b/\r a b)(k:∀ a b,p a b->q a b->r a b->C):C:=h.elim λ a h=>h.elim λ b h=>k a b h.1 h.2.1 h.2.2
open PySem PySem.Spec PyProof.Rows
def uw (h:Heap)(a:Addr)(items:Array Value):Prop:=∃ n,h.get? a=some { cls:=.type "tuple",data:=.seq items n }
def uw.is{items:Array Value}(x:uw h a items):IsTup h a items:=let ⟨n,e⟩:=x;⟨_,e,rfl,n,rfl⟩
def uw.new (h:Heap)(items:Array Value):uw (h.push { cls:=.type "tuple",data:=.seq items }) h.objs.size items:=⟨_,Lj _ rfl⟩
abbrev Key:=Sum Int Str
def oV:Key->Value->Bool
 |.inl k,v=>Value.isInt k v
 |.inr x,v=>Value.isStrOf x v
def JR (w:World):Key->Int
 |.inl k=>hashInt k
 |.inr x=>hashStr w x
def cG:∀ {k:Key}{v:Value},oV k v=true->(∃ i t,k=Sum.inl i/\v=Value.int i t)\/(∃ x t,k=Sum.inr x/\v=Value.str x t)
 | .inl i,v,h=>by
  obtain⟨t,e⟩:=OY (k:=i) (v:=v) h;exact .inl ⟨i,t,rfl,e⟩
 | .inr x,v,h=>by
  obtain⟨t,e⟩:=Value.isStrOf_shape (x:=x) (v:=v) h;exact .inr ⟨x,t,rfl,e⟩
def yS (i:Int)(t:Tok):oV (.inl i) (.int i t)=true:=by simp[oV,Value.isInt]
def yV (x:Str)(t:Tok):oV (.inr x) (.str x t)=true:=by simp[oV,Value.isStrOf]
def FP (a b:Int):decide ((Sum.inl a:Key)=Sum.inl b)=(a == b):=by
 by_cases e:a=b
 ·subst e;simp
 ·have h:¬ (Sum.inl a:Key)=Sum.inl b:=λ q=>e (NC q);rw[LD h];exact(Nr.mpr e).symm
def Fz (a b:Str):decide ((Sum.inr a:Key)=Sum.inr b)=decide (a=b):=by
 by_cases e:a=b
 ·subst e;simp
 ·have h:¬ (Sum.inr a:Key)=Sum.inr b:=λ q=>e (Sum.inr.inj q);rw[LD h,LD e]
def FA (a:Int)(b:Str):decide ((Sum.inl a:Key)=Sum.inr b)=false:=LD (λ q=>nomatch q)
def FO (a:Str)(b:Int):decide ((Sum.inr a:Key)=Sum.inl b)=false:=LD (λ q=>nomatch q)
def bN (prog:Program)(w:World):PySem.KeyKind prog w Key where
 is:=oV
 hash:=JR w
 inj:=λ v a b ha hb=>by
  rcases cG ha with ⟨i,t,rfl,rfl⟩|⟨x,t,rfl,rfl⟩
  ·rcases cG hb with ⟨j,u,rfl,e⟩|⟨y,u,rfl,e⟩
   ·injection e with e1 _;rw[e1]
   ·exact nomatch e
  ·rcases cG hb with ⟨j,u,rfl,e⟩|⟨y,u,rfl,e⟩
   ·exact nomatch e
   ·injection e with e1 _;rw[e1]
 byValue:=λ k v h=>by
  rcases cG h with ⟨i,t,rfl,rfl⟩|⟨x,t,rfl,rfl⟩<;>rfl
 pyHash:=λ hv h=>by
  rcases cG hv with ⟨i,t,rfl,rfl⟩|⟨x,t,rfl,rfl⟩
  ·exact wpAny_pyHash_int h
  ·exact wpAny_pyHash_str h
 eqBool:=λ hu hv h=>by
  rcases cG hu with ⟨i,t,rfl,rfl⟩|⟨x,t,rfl,rfl⟩
  ·rcases cG hv with ⟨j,u,rfl,rfl⟩|⟨y,u,rfl,rfl⟩
   ·rw[FP]at h;exact wpAny_eqBool_int h
   ·rw[FA]at h;exact SeqAt.EqAt.int_str i t y u _ _ _ _ h
  ·rcases cG hv with ⟨j,u,rfl,rfl⟩|⟨y,u,rfl,rfl⟩
   ·rw[FO]at h;exact SeqAt.EqAt.str_int x t j u _ _ _ _ h
   ·rw[Fz]at h;exact wpAny_eqBool_str h
 «strs» :=λ k x t v h=>by
  rcases cG h with ⟨i,u,rfl,e⟩|⟨y,u,rfl,e⟩
  ·exact nomatch e
  ·injection e with e1 _
   subst e1;cases v<;>rfl
def uC (prog:Program)(w:World)(i:Int)(t:Tok):(bN prog w).is (.inl i) (.int i t)=true:=yS i t
def uz (prog:Program)(w:World)(x:Str)(t:Tok):(bN prog w).is (.inr x) (.str x t)=true:=yV x t
inductive V where
 |bg|bl (b:Bool)|int (i:Int)|str (x:Str)|yL (b:Array UInt8)|Hn (b:UInt64)|ref (a:Addr)|ty (n:String)
 deriving DecidableEq
variable {xs:List V}{v:V}
def RelV:V->Value->Prop
 |.bg,u=>u=Value.none
 |.bl b,u=>u=Value.bool b
 |.int i,u=>∃ t,u=Value.int i t
 |.str x,u=>∃ t,u=Value.str x t
 |.yL b,u=>∃ t,u=Value.bytes b t
 |.Hn b,u=>∃ t,u=Value.float b t
 |.ref a,u=>u=Value.ref a
 |.ty n,u=>u=Value.type n
abbrev Vals:List V->List Value->Prop:=Paired RelV
def Vals.length(r:Vals xs us):xs.length=us.length:=MR r
def Vals.get:∀ {xs:List V}{us:List Value}{i:Nat}{x:V},Vals xs us->xs[i]?=some x->∃ u,us[i]?=some u/\RelV x u
 |_,_,_,_,.nil,e=>by simp at e
 |_,_,0,_,.cons r _,e=>by simp at e;subst e;exact⟨_,rfl,r⟩
 | _,_,i+1,x,.cons _ t,e=>by
  obtain⟨u,h1,h2⟩:=Vals.get (i:=i) (x:=x) t (by simpa using e);exact⟨u,by simpa using h1,h2⟩
def Vals.append:∀ {xs ys:List V}{us ws:List Value},Vals xs us->Vals ys ws->Vals (xs++ys) (us++ws)
 |_,_,_,_,.nil,s=>s
 |_,_,_,_,.cons r t,s=>.cons r (Vals.append t s)
def Vals.take:∀ {xs:List V}{us:List Value} (n:Nat),Vals xs us->Vals (xs.take n) (us.take n)
 |_,_,0,_=>.nil
 |_,_,_+1,.nil=>.nil
 |_,_,n+1,.cons r t=>.cons r (Vals.take n t)
def Vals.drop:∀ {xs:List V}{us:List Value} (n:Nat),Vals xs us->Vals (xs.drop n) (us.drop n)
 |_,_,0,r=>r
 |_,_,_+1,.nil=>.nil
 |_,_,n+1,.cons _ t=>Vals.drop n t
def n6:Option V->Option Value->Prop
 |some v,some u=>RelV v u
 |none,none=>True
 |_,_=>False
def KV {κ:Type}:List (κ×V)->List (κ×Value)->Prop:=Paired λ (p:κ×V) (q:κ×Value)=>p.1=q.1/\RelV p.2 q.2
def kV:Key->V
 |.inl i=>.int i
 |.inr x=>.str x
inductive HO where
 |lst (xs:List V)
 |tup (xs:List V)
 |dK (kvs:List (Key×V)) (ep:Nat)|dT (kvs:List (List Key×V)) (ep:Nat)
 |set (S:Int->Bool) (n:Nat)
 |ins (C dx:Addr) (fs:List (Str×V))
 |own (x:Addr)
 |xd (fs:List (Str×V))
 |met (f x:Addr)
 |JK (lo hi:Int)
 |aq (o:Obj) (u:HO)
 |FE (ps:Array Value)
 |ext (φ:Heap->Prop)
variable {o:HO}
abbrev Hp:=Addr->Option HO
variable {H H':Hp}
def upd (H:Hp)(a:Addr)(o:HO):Hp:=λ b=>if b=a then some o else H b
def aI:upd H a o a=some o:=by unfold upd;rw[Lr rfl]
def aG(h:b≠a):upd H a o b=H b:=by unfold upd;rw[Lw h]
def HM{u:HO}(h:H a=some o)(h':H b=some u)(d:o≠u):a≠b:=by
 intro e;subst e;rw[h]at h';exact d (L5 h')
def bo(h:H a=some o)(h':H b=none):a≠b:=by
 intro e;subst e;rw[h]at h';cases h'
section
variable (P:Program)(w:World)
def bQ (H:Hp)(h:Heap)(a:Addr):HO->Prop
 |.lst xs=>xs.length<=sizeLine/\∃ (its:List Value) (n:Nat),Vals xs its/\h.get? a=some { cls:=.type "list",data:=.seq its.toArray n }
 |.tup xs=>xs.length<=sizeLine/\∃ its:List Value,Vals xs its/\uw h a its.toArray
 |.dK kvs ep=>kvs.length<=sizeLine/\(a == sysModules)=false/\∃ vs,KV kvs vs/\h.DictAt (bN P w) a vs ep
 | .dT kvs ep=>kvs.length<=sizeLine/\(a == sysModules)=false/\∃ xs:List (List Key×Addr×Value),
   Paired (λ (p:List Key×V) (q:List Key×Addr×Value)=>p.1=q.1/\H q.2.1=some (.tup (p.1.map kV))/\RelV p.2 q.2.2) kvs xs /\
   ∃ o es,h.get? a=some o/\o.ExactDict/\o.data=.dict es ep/\es.toList=xs.map (entryOfKey (tupleKind (bN P w)))/\(xs.map (·.1)).Nodup
 |.set S n=>h.SetOf (intKind P w) a S n
 | .ins C dx fs=>H dx=some (.own a)/\fs.length<=1000/\dx≠a/\h.get? a=some (PySem.W.instObj C dx) /\
   ∃ mA,h.Ns1 dx mA/\(∀ f,n6 (fs.lookup f) (mA f))/\PySem.Within mA (fs.map (·.1))
 |.own _=>∃ o,h.get? a=some o
 |.xd fs=>∃ mA,h.Ns1 a mA/\∀ f,n6 (fs.lookup f) (mA f)
 |.JK lo hi=>∃ t u v,h.get? a=some { cls:=.type "range",data:=.fields #[.int lo t,.int hi u,.int 1 v] }
 |.aq o u=>h.get? a=some o/\bQ H h a u
 |.FE ps=>h.get? a=some { cls:=.none,data:=.fields ps }
 |.met f x=>h.get? a=some (PySem.W.methodObj (.ref f) (.ref x))
 |.ext φ=>φ h/\(∃ o,h.get? a=some o)/\∀ h1 h2:Heap,φ h1->(∀ o,h1.get? a=some o->h2.get? a=some o)->φ h2
def i6 (H:Hp)(h:Heap):Prop:=∀ a o,H a=some o->bQ P w H h a o
end
section
def bQ.lt (x:bQ P w H h a o):a<h.objs.size:=by
 cases o with
 |lst xs=>obtain⟨_,_,_,_,e⟩:=x;exact Lk e|tup xs=>obtain⟨_,_,_,p⟩:=x;exact p.is.lt|dK kvs ep=>obtain⟨_,_,_,_,o,_,e,_⟩:=x;exact Lk e|dT kvs ep=>obtain⟨_,_,_,_,o,_,e,_⟩:=x;exact Lk e|set S n=>obtain⟨o,_,_,_,e,_⟩:=x;exact Lk e|ins C dx fs=>obtain⟨_,_,_,e,_⟩:=x;exact Lk e|own y=>obtain⟨_,e⟩:=x;exact Lk e|xd fs=>obtain⟨_,⟨_,_,_,e,_⟩,_⟩:=x;exact Lk e|JK lo hi=>obtain⟨_,_,_,e⟩:=x;exact Lk e|aq ob u=>obtain⟨e,_⟩:=x;exact Lk e|FE ps=>exact Lk (show h.get? a=some _ from x)|met f y=>exact Lk (show h.get? a=some _ from x)|ext φ=>obtain⟨_,⟨_,e⟩,_⟩:=x;exact Lk e
def Paired.Fv {α β:Type}{F G:α->β->Prop}:∀ {l₁:List α}{l₂:List β},Paired F l₁ l₂->(∀ a b,F a b->G a b)->Paired G l₁ l₂
 |_,_,.nil,_=>.nil
 |_,_,.cons r t,f=>.cons (f _ _ r) (Paired.Fv t f)
def bQ.stay (x:bQ P w H h a o)(k:∀ b u,(b=a\/H b=some (.own a))->h.get? b=some u->h'.get? b=some u)
  (ho:∀ b,H b=some (.own a)->H' b=some (.own a)) (ht:∀ b xs,H b=some (.tup xs)->H' b=some (.tup xs)):bQ P w H' h' a o:=by
 induction o with
 |lst xs=>obtain⟨z,its,n,r,e⟩:=x;exact⟨z,its,n,r,k _ _ (.inl rfl) e⟩| tup xs=>obtain⟨z,its,r,n,e⟩:=x;exact⟨z,its,r,n,k _ _ (.inl rfl) e⟩| dK kvs ep=>obtain⟨z,y,vs,r,ob,es,e,c⟩:=x;exact⟨z,y,vs,r,ob,es,k _ _ (.inl rfl) e,c⟩
 | dT kvs ep =>
  obtain⟨z,y,xs,r,ob,es,e,c⟩:=x;exact⟨z,y,xs,Paired.Fv r λ p q z=>⟨z.1,ht _ _ z.2.1,z.2.2⟩,ob,es,k _ _ (.inl rfl) e,c⟩
 |set S n=>obtain⟨ob,es,ep,t,e,c⟩:=x;exact⟨ob,es,ep,t,k _ _ (.inl rfl) e,c⟩
 | ins C dx fs =>
  obtain⟨d,z,ne,e,mA,⟨od,es,ep,e2,c⟩,r⟩:=x;exact⟨ho _ d,z,ne,k _ _ (.inl rfl) e,mA,⟨od,es,ep,k _ _ (.inr d) e2,c⟩,r⟩
 |own y=>obtain⟨ob,e⟩:=x;exact⟨ob,k _ _ (.inl rfl) e⟩| xd fs=>obtain⟨mA,⟨od,es,ep,e,c⟩,r⟩:=x;exact⟨mA,⟨od,es,ep,k _ _ (.inl rfl) e,c⟩,r⟩| JK lo hi=>obtain⟨t,u,v,e⟩:=x;exact⟨t,u,v,k _ _ (.inl rfl) e⟩| aq ob u ih=>obtain⟨e,q⟩:=x;exact⟨k _ _ (.inl rfl) e,ih q⟩
 | FE ps =>
  have e:h.get? a=some { cls:=.none,data:=.fields ps }:=x;show h'.get? a=some { cls:=.none,data:=.fields ps };exact k a _ (.inl rfl) e
 | met f y =>
  have e:h.get? a=some (PySem.W.methodObj (.ref f) (.ref y)):=x;show h'.get? a=some (PySem.W.methodObj (.ref f) (.ref y));exact k a _ (.inl rfl) e
 |ext φ=>obtain⟨p,⟨o,e⟩,st⟩:=x;exact⟨st _ _ p λ o q=>k _ _ (.inl rfl) q,⟨o,k _ _ (.inl rfl) e⟩,st⟩
def i6.lt (x:i6 P w H h)(e:H a=some o):a<h.objs.size:=(x a o e).lt
def i6.fresh (x:i6 P w H h)(e:h.objs.size<=a):H a=none:=by
 cases q:H a with
 |none=>rfl|some u=>exact absurd (LR (x.lt q) e) (Mj _)
def i6.kept (x:i6 P w H h)(k:∀ b u,h.get? b=some u->h'.get? b=some u):i6 P w H h':=λ a o e=>
 (x a o e).stay (λ b u _ q=>k b u q) (λ _ q=>q) λ _ _ q=>q
def i6.laid (x:i6 P w H h)(k:∀ b u,h.get? b=some u->h'.get? b=some u)(hp:h.objs.size<=a)(new:bQ P w (upd H a o) h' a o):i6 P w (upd H a o) h':=λ b u e=>by
 have hn:=x.fresh hp;by_cases hb:b=a
 ·subst hb;rw[aI]at e;cases e;exact new
 ·rw[aG hb]at e;exact(x b u e).stay (λ c v _ q=>k c v q) (λ c q=>by rw[aG (bo q hn)];exact q) λ c xs q=>by rw[aG (bo q hn)];exact q
end
def Rd (H:Hp)(a:Addr)(u:HO):Prop:=H a=some u\/∃ o,H a=some (.aq o u)
def Rd.ok{u:HO}(r:Rd H a u)(x:i6 P w H h):bQ P w H h a u:=by
 rcases r with r|⟨o,r⟩
 ·exact x a u r
 ·obtain⟨_,q⟩:=x a _ r;exact q
def HH:Option HO->Prop
 |some (.lst _)=>True
 |some (.dK _ _)=>True
 |some (.dT _ _)=>True
 |some (.set _ _)=>True
 |some (.ins _ _ _)=>True
 |some (.ext _)=>True
 |_=>False
section
variable{x e:Addr}{o':HO}
def i6.write (ok:i6 P w H h)(mu:HH (H x))(he:e=x\/H e=some (.own x))(k:∀ b u,b≠e->h.get? b=some u->h'.get? b=some u)(heo:∃ u,h'.get? e=some u)
  (new:bQ P w (upd H x o') h' x o'):i6 P w (upd H x o') h':=λ b u q=>by
 have nown:∀ c y,H c=some (.own y)->c≠x:=λ c y r z=>by subst z;rw[r]at mu;exact mu
 have ntup:∀ c xs,H c=some (.tup xs)->c≠x:=λ c xs r z=>by subst z;rw[r]at mu;exact mu
 by_cases hb:b=x
 ·subst hb;rw[aI]at q;cases q;exact new
 ·rw[aG hb]at q;by_cases hbe:b=e
  ·have q':H b=some (.own x):=by
    rcases he with z|z
    ·exact absurd (hbe.trans z) hb
    ·rw[hbe];exact z
   rw[q]at q';cases q';obtain⟨v,hv⟩:=heo;exact⟨v,by rw[hbe];exact hv⟩
  ·refine(ok b u q).stay (λ c v hc r=>k c v ?_ r) (λ c r=>by rw[aG (nown c b r)];exact r) λ c xs r=>by rw[aG (ntup c xs r)];exact r
   rcases hc with rfl|hc
   ·exact hbe
   ·rintro rfl;rcases he with z|z
    ·exact nown c b hc z
    ·rw[hc]at z;cases z;exact hb rfl
end
structure Un (fs ex:List Addr)(H H':Hp)(h h':Heap):Prop where
 keep:∀ b o,h.get? b=some o->H b=none->b∉fs->b∉ex->h'.get? b=some o
 slot:∀ b o,h.get? b=some o->H b=none->b∈fs->b∉ex->∃ sl,h'.get? b=some { o with slots:=sl }
 free:∀ b o,h.get? b=some o->H b=none->b∉ex->H' b=none
 there:∀ b o,h.get? b=some o->b∉ex->∃ o',h'.get? b=some o'
 tups:∀ b xs,H b=some (.tup xs)->H' b=some (.tup xs)
 qi:∀ b o u,H b=some (.aq o u)->H' b=some (.aq o u)
 sq:∀ b ps,H b=some (.FE ps)->∃ more,H' b=some (.FE (ps++more))
section
variable {fs fs' ex ex':List Addr}{H1 H2:Hp}{h1 h2:Heap}{x e:Addr}
def Un.any (u:Un fs ex H H1 h h1){ob:Obj}(q:h.get? b=some ob)(n:H b=none)(hx:b∉ex):∃ sl,h1.get? b=some { ob with slots:=sl }:=by
 by_cases hb:b∈fs
 ·exact u.slot b ob q n hb hx
 ·exact⟨ob.slots,u.keep b ob q n hb hx⟩
def Un.kept (k:∀ b u,h.get? b=some u->h'.get? b=some u):Un fs ex H H h h':=
 ⟨λ b ob q _ _ _=>k b ob q,λ b ob q _ _ _=>⟨ob.slots,k b ob q⟩,λ _ _ _ n _=>n,λ b ob q _=>⟨ob,k b ob q⟩,λ _ _ q=>q,λ _ _ _ q=>q,λ _ ps q=>⟨#[],by rw[q];simp⟩⟩
def Un.refl:Un fs ex H H h h:=Un.kept λ _ _ q=>q
def Un.laid (k:∀ b u,h.get? b=some u->h'.get? b=some u)(hp:h.objs.size<=a)(hn:H a=none):Un fs ex H (upd H a o) h h' where
 keep:=λ b u q _ _ _=>k b u q
 slot:=λ b u q _ _ _=>⟨u.slots,k b u q⟩
 free:=λ b u q n _=>by rw[aG (LH (LR (Lk q) hp))];exact n
 there:=λ b u q _=>⟨u,k b u q⟩
 tups:=λ b xs q=>by rw[aG (bo q hn)];exact q
 qi:=λ b u xs q=>by rw[aG (bo q hn)];exact q
 sq:=λ b ps q=>⟨#[],by rw[aG (bo q hn),q];simp⟩
def Un.write (mu:HH (H x))(he:e=x\/H e=some (.own x))(k:∀ b u,b≠e->h.get? b=some u->h'.get? b=some u)(heo:∃ u,h'.get? e=some u):Un fs ex H (upd H x o) h h':=by
 have hx:∀ b,H b=none->b≠x:=λ b n z=>by subst z;rw[n]at mu;exact mu
 have hb:∀ b,H b=none->b≠e:=λ b n z=>by
  subst z;rcases he with r|r
  ·exact hx b n r
  ·rw[n]at r;cases r
 have hm:∀ b u,H b=some u->¬ HH (some u)->b≠x:=λ b u q nm z=>by subst z;rw[q]at mu;exact nm mu
 refine⟨λ b u q n _ _=>k b u (hb b n) q,λ b u q n _ _=>⟨u.slots,k b u (hb b n) q⟩,λ b u q n _=>by rw[aG (hx b n)];exact n,λ b u q _=>?_,
  λ b xs q=>by rw[aG (hm b _ q λ z=>z)];exact q,λ b u xs q=>by rw[aG (hm b _ q λ z=>z)];exact q,λ b ps q=>⟨#[],by rw[aG (hm b _ q λ z=>z),q];simp⟩⟩
 by_cases hbe:b=e
 ·subst hbe;exact heo
 ·exact⟨u,k b u hbe q⟩
end
def Jl (h:Heap)(H:Hp):List Addr:=(List.range h.objs.size).filter λ a=>(H a).isSome
def se (h:Heap)(H:Hp):Heap:=PySem.W.hideAll h (Jl h H)
def yI (h:Heap)(H:Hp):(se h H).objs.size=h.objs.size:=PySem.W.hideAll_size _ _
def Ay{o:Obj}(e:h.get? b=some o)(n:H b=none):(se h H).get? b=some o:=
 PySem.W.hideAll_get _ e λ hm=>by
  have q:(H b).isSome=true:=(M3.mp hm).2;rw[n]at q;simp at q
def Dk{o:Obj}(e:(se h H).get? b=some o):h.get? b=some o/\H b=none:=by
 have e':h.get? b=some o:=PySem.W.of_hideAll (Jl h H) e;refine⟨e',?_⟩;cases q:H b with
 |none=>rfl
 | some x =>
  have hm:b∈Jl h H:=M3.mpr ⟨LN.mpr (Lk e'),by simp[q]⟩;have z:(se h H).get? b=none:=PySem.W.hideAll_none (Jl h H) hm;rw[z]at e;cases e
structure Mod (K:PySem.W.Frag)(mg:Str->Option Value)(base:Heap):Prop where
 JL:K.In base
 glob:base.Ns mainGlobals mg
 blt:∃ mb,base.Ns builtinsNs mb/\∀ x:Str,x ≠ "__name__" -> mb x=bootBuiltins x
 nolimit:base.NoLimit
structure Cx where
 prog:Program
 w:World
 K:PySem.W.Frag
 mg:Str->Option Value
 base:Heap
 A:Around
 N:List Str
 s₀:Shared
 H₀:Hp
 env:Env
 outer:List Env
 stack:List Env
 ex:List Addr
 fn:Str->Bool
 calm:Bool
 pn:List (Addr×Obj)
 xe:Value->Shared->Prop
variable {X:Cx}
def frs (l:List Env):List Addr:=l.filterMap (·.frame)
abbrev Cx.fs (X:Cx):List Addr:=frs X.outer
def rY (sc:Scope)(x:Str):Prop:=sc.names.lookup x=some .local\/sc.names.lookup x=some .cell\/sc.names.lookup x=some .free
def Loc (sc:Scope)(x:Str):Prop:=sc.names.lookup x=some .local\/sc.names.lookup x=some .cell
def Look (env:Env)(h:Heap)(m:Str->Option Value)(x:Str)(u:Value):Prop:=
 (env.kindOf x=some .local/\m x=some u)\/((env.kindOf x=some .cell\/env.kindOf x=some .free)/\∃ c,env.cells.lookup x=some c/\h.IsCell c (some u))
structure Cx.Ok (X:Cx):Prop where
 mod:Mod X.K X.mg X.base
 kind:X.env.scope.kind=.function
 glob:X.env.globals=mainGlobals
 blt:X.env.builtins=builtinsNs
 above:X.s₀.heap.objs.size<=X.env.locals
 inj:∀ x y c,X.env.cells.lookup x=some c->X.env.cells.lookup y=some c->x=y
 has:∀ x,(X.env.kindOf x=some .cell\/X.env.kindOf x=some .free)->∃ c,X.env.cells.lookup x=some c
 Ho:∀ x c,X.fn x=true->X.env.cells.lookup x=some c->X.s₀.heap.objs.size<=c
 hd:X.calm=true->X.A.handled=none
 frames:X.A.frames=some X.stack
 Hy:X.stack=X.outer\/(X.stack=X.env::X.outer/\X.env.frame=some X.env.locals)
 Jo:∀ b∈X.ex,b≠X.env.locals/\∀ x c,X.env.cells.lookup x=some c->c≠b
 bs:∀ b o,X.base.get? b=some o->X.s₀.heap.get? b=some o/\X.H₀ b=none
 Dg:X.base.objs.size<=X.s₀.heap.objs.size
 yQ:∀ b o,X.base.get? b=some o->b∉X.ex
 yT:∀ b∈X.ex,b∉X.fs
 nZ:X.s₀.heap.FunFrames X.base X.outer
 Ft:∀ b∈X.fs,X.H₀ b=none
structure Inv (X:Cx)(pins:List (Addr×Obj))(σ:List (Option V))(H:Hp)(s:Shared):Prop where
 ok:X.Ok
 os:s.os=X.s₀.os
 bare:AllBare s.gens
 base:Un X.fs X.ex X.H₀ H X.s₀.heap s.heap
 loc:∃ m,s.heap.Ns X.env.locals m/\∀ (i:Nat) (x:Str) (v:V),X.N[i]?=some x->σ[i]?=some (some v)->rY X.env.scope x->∃ u,RelV v u/\Look X.env s.heap m x u
 cell:∀ x c,X.env.cells.lookup x=some c->∃ v,s.heap.IsCell c v
 free:H X.env.locals=none
 jH:∀ x c,X.env.cells.lookup x=some c->H c=none
 pin:∀ p∈X.pn++pins,s.heap.get? p.1=some p.2/\H p.1=none/\p.1≠X.env.locals/\p.1∉X.fs/\∀ v,p.2.data ≠ .cell v
 hok:i6 X.prog X.w H s.heap
 len:σ.length=X.N.length
section
variable{σ:List (Option V)}
def Cx.Ok.JG (ok:X.Ok){o:Obj}(e:X.base.get? b=some o):b∉X.fs:=λ hb=>by
 have:=(ok.nZ.mem hb).1;rw[e]at this;cases this
def Inv.bs (I:Inv X pins σ H s):∀ b o,X.base.get? b=some o->s.heap.get? b=some o/\H b=none:=λ b o e=>
 ⟨I.base.keep b o (I.ok.bs b o e).1 (I.ok.bs b o e).2 (I.ok.JG e) (I.ok.yQ b o e),I.base.free b o (I.ok.bs b o e).1 (I.ok.bs b o e).2 (I.ok.yQ b o e)⟩
def Inv.bk (I:Inv X pins σ H s):∀ b o,X.base.get? b=some o->s.heap.get? b=some o:=λ b o e=>(I.bs b o e).1
def Inv.mod (I:Inv X pins σ H s):Mod X.K X.mg X.base:=I.ok.mod
def Inv.rZ (I:Inv X pins σ H s):X.K.In s.heap:=I.ok.mod.JL.keeps I.bk
def Inv.lt (I:Inv X pins σ H s):X.env.locals<s.heap.objs.size:=let ⟨_,hn,_⟩:=I.loc;hn.lt
def Inv.sz (I:Inv X pins σ H s):X.s₀.heap.objs.size<=s.heap.objs.size:=MC I.ok.above (ND I.lt)
def Inv.JN (I:Inv X pins σ H s)(h:s.heap.objs.size<=a):a∉X.fs:=λ hb=>by
 obtain⟨_,o,ho,_⟩:=I.ok.nZ.mem hb;exact absurd (LR (Lk ho) (MC I.sz h)) (Mj _)
def Inv.FF (I:Inv X pins σ H s):∀ x c,X.env.cells.lookup x=some c->c≠X.env.locals:=λ x c e z=>by
 obtain⟨v,o,ho,hd⟩:=I.cell x c e;obtain⟨m,⟨o',es,ep,ho',hd',_⟩,_⟩:=I.loc;rw[z,ho']at ho;cases ho;rw[hd']at hd;cases hd
def Inv.nZ (I:Inv X pins σ H s):s.heap.FunFrames X.base X.outer:=by
 have all:∀ (l:List Env),(∀ b∈frs l,b∈X.fs)->X.s₀.heap.FunFrames X.base l->s.heap.FunFrames X.base l:=by
  intro l
  induction l with
  |nil=>intro _ _;trivial
  | cons env r ih =>
   intro hs hl;obtain⟨hk,⟨L,o,hf,hn,ho,hd⟩,hr⟩:=hl;have hL:L∈X.fs:=hs L (by unfold frs;rw[OB,hf];exact Le);obtain⟨sl,e⟩:=I.base.slot L o ho (I.ok.Ft L hL) hL λ z=>I.ok.yT L z hL;exact⟨hk,⟨L,_,hf,hn,e,hd⟩,ih (λ b hb=>hs b (by unfold frs;rw[OB,hf];exact Ld _ hb)) hr⟩
 exact all X.outer (λ _ hb=>hb) I.ok.nZ
def Inv.stack (I:Inv X pins σ H s):s.heap.FunFrames X.base X.stack:=by
 rcases I.ok.Hy with e|⟨e,hf⟩
 ·rw[e];exact I.nZ
 ·rw[e];obtain⟨m,hn,_⟩:=I.loc;refine .cons (by rw[I.ok.kind];decide) hf hn ?_ I.nZ;exact Heap.get?_none_of_le (MC I.ok.Dg I.ok.above)
def Inv.r8 (I:Inv X pins σ H s):∀ b∈frs X.stack,b∈X.env.locals::X.fs:=λ b hb=>by
 rcases I.ok.Hy with e|⟨e,hf⟩
 ·rw[e]at hb;exact Ld _ hb
 ·rw[e]at hb;unfold frs at hb;rw[OB,hf]at hb;exact hb
def Inv.xq (I:Inv X pins σ H s):∀ b∈frs X.stack,H b=none:=λ b hb=>by
 rcases Ln.mp (I.r8 b hb) with e|hb
 ·rw[e];exact I.free
 ·obtain⟨_,o,ho,_⟩:=I.ok.nZ.mem hb;exact I.base.free b o ho (I.ok.Ft b hb) λ z=>I.ok.yT b z hb
def Inv.step {g':Array GenState}{d':Drawn}(I:Inv X pins σ H s)
  (hch:∀ b∈ch,(b∈X.ex\/X.s₀.heap.objs.size<=b)/\b≠X.env.locals/\(∀ x c,X.env.cells.lookup x=some c->c≠b)/\∀ p∈X.pn++pins,p.1≠b)
  (keep:∀ b o,b≠X.env.locals->b∉X.fs->b∉ch->s.heap.get? b=some o->H b=none->h'.get? b=some o)
  (slot:∀ b o,b≠X.env.locals->b∈X.fs->b∉ch->s.heap.get? b=some o->H b=none->∃ sl,h'.get? b=some { o with slots:=sl }) (free:∀ b o,b∉ch->s.heap.get? b=some o->H b=none->H' b=none)
  (there:∀ b o,b∉ch->s.heap.get? b=some o->∃ o',h'.get? b=some o')
  (tups:∀ b xs,H b=some (.tup xs)->H' b=some (.tup xs)) (qi:∀ b o u,H b=some (.aq o u)->H' b=some (.aq o u)) (sq:∀ b ps,H b=some (.FE ps)->∃ more,H' b=some (.FE (ps++more)))
  (ns:∀ m,s.heap.Ns X.env.locals m->h'.Ns X.env.locals m) (hok:i6 X.prog X.w H' h') (hg:AllBare g') :
  Inv X pins σ H' { s with heap:=h',gens:=g',drawn:=d',toks:=t' }:=by
 have neL:∀ b o,X.s₀.heap.get? b=some o->b≠X.env.locals:=λ b o e=>LH (LR (Lk e) I.ok.above);have neC:∀ b o,X.s₀.heap.get? b=some o->b∉X.ex->b∉ch:=λ b o e hx hb=>by
  rcases (hch b hb).1 with z|z
  ·exact hx z
  ·exact absurd (LR (Lk e) z) (Mj _)
 have cellK:∀ x c,X.env.cells.lookup x=some c->∀ v,s.heap.IsCell c v->h'.IsCell c v:=λ x c e v ⟨o,ho,hd⟩=>by
  have nch:c∉ch:=λ z=>(hch c z).2.2.1 x c e rfl;by_cases hc:c∈X.fs
  ·obtain⟨sl,q⟩:=slot c o (I.FF x c e) hc nch ho (I.jH x c e);exact⟨_,q,hd⟩
  ·exact⟨o,keep c o (I.FF x c e) hc nch ho (I.jH x c e),hd⟩
 refine⟨I.ok,I.os,hg,⟨λ b o e n hb hx=>?_,λ b o e n hb hx=>?_,λ b o e n hx=>?_,λ b o e hx=>?_,λ b xs e=>tups b xs (I.base.tups b xs e),λ b o xs e=>qi b o xs (I.base.qi b o xs e),λ b ps e=>?_⟩,?_,λ x c e=>?_,?_,λ x c e=>?_,λ p hp=>?_,hok,I.len⟩
 ·exact keep b o (neL b o e) hb (neC b o e hx) (I.base.keep b o e n hb hx) (I.base.free b o e n hx)
 ·obtain⟨sl,e1⟩:=I.base.slot b o e n hb hx;obtain⟨sl',e2⟩:=slot b _ (neL b o e) hb (neC b o e hx) e1 (I.base.free b o e n hx);exact⟨sl',e2⟩
 ·obtain⟨o',e1⟩:=I.base.there b o e hx;exact free b o' (neC b o e hx) e1 (I.base.free b o e n hx)
 ·obtain⟨o',e1⟩:=I.base.there b o e hx;exact there b o' (neC b o e hx) e1
 ·obtain⟨m1,e1⟩:=I.base.sq b ps e;obtain⟨m2,e2⟩:=sq b _ e1;exact⟨m1++m2,by rw[e2,Array.append_assoc]⟩
 ·obtain⟨m,hn,hl⟩:=I.loc;refine⟨m,ns m hn,λ i x v e1 e2 e3=>?_⟩;obtain⟨u,r,l⟩:=hl i x v e1 e2 e3;refine⟨u,r,?_⟩;rcases l with l|⟨k,c,e,z⟩
  ·exact .inl l
  ·exact .inr ⟨k,c,e,cellK x c e _ z⟩
 ·obtain⟨v,z⟩:=I.cell x c e;exact⟨v,cellK x c e v z⟩
 ·obtain⟨m,⟨o,_,_,ho,_⟩,_⟩:=I.loc;exact free _ o (λ z=>(hch _ z).2.1 rfl) ho I.free
 ·obtain⟨v,o,ho,hd⟩:=I.cell x c e;exact free c o (λ z=>(hch c z).2.2.1 x c e rfl) ho (I.jH x c e)
 ·obtain⟨e,n,ne,nf,d⟩:=I.pin p hp;have nch:p.1∉ch:=λ z=>(hch p.1 z).2.2.2 p hp rfl;exact⟨keep p.1 p.2 ne nf nch e n,free p.1 p.2 nch e n,ne,nf,d⟩
def Inv.un(I:Inv X pins σ H s)(u:Un X.fs [] H H' s.heap h')(hok:i6 X.prog X.w H' h'):Inv X pins σ H' { s with heap:=h',toks:=t' }:=by
 obtain⟨m,⟨o,es,ep,ho,r⟩,_⟩:=id I.loc;obtain⟨sl,hL⟩:=u.any ho I.free (by simp);exact I.step (g':=s.gens) (d':=s.drawn) (ch:=[]) (λ _ z=>nomatch z) (λ b o _ hb _ e n=>u.keep b o e n hb (by simp)) (λ b o _ hb _ e n=>u.slot b o e n hb (by simp)) (λ b o _ e n=>u.free b o e n (by simp)) (λ b o _ e=>u.there b o e (by simp)) u.tups u.qi u.sq (λ m' hm=>by
  obtain⟨o',es',ep',ho',r'⟩:=hm;rw[ho]at ho';cases ho';exact⟨_,es',ep',hL,r'⟩) hok I.bare
def Inv.call {g':Array GenState}{d':Drawn}(I:Inv X pins σ H s)(u:Un (frs X.stack) ch H H' s.heap h')(hok:i6 X.prog X.w H' h')(hg:AllBare g')
  (hch:∀ b∈ch,(b∈X.ex\/X.s₀.heap.objs.size<=b)/\b≠X.env.locals/\(∀ x c,X.env.cells.lookup x=some c->c≠b)/\∀ p∈X.pn++pins,p.1≠b) :
  Inv X pins σ H' { s with heap:=h',gens:=g',drawn:=d',toks:=t' }:=by
 obtain⟨m,⟨o,es,ep,ho,r⟩,_⟩:=id I.loc;obtain⟨sl,hL⟩:=u.any ho I.free λ z=>(hch _ z).2.1 rfl;exact I.step (ch:=ch) hch (λ b o hL hb hc e n=>u.keep b o e n (λ z=>(Ln.mp (I.r8 b z)).elim hL hb) hc) (λ b o _ _ hc e n=>u.any e n hc) (λ b o hc e n=>u.free b o e n hc) (λ b o hc e=>u.there b o e hc) u.tups u.qi u.sq (λ m' hm=>by
  obtain⟨o',es',ep',ho',r'⟩:=hm;rw[ho]at ho';cases ho';exact⟨_,es',ep',hL,r'⟩) hok hg
def Inv.turned{it:Addr}(I:Inv X pins σ H s)(k:∀ b o,b≠it->s.heap.get? b=some o->h'.get? b=some o)(hn:H it=none)(hL:it≠X.env.locals)
  (h1:it∈X.ex\/X.s₀.heap.objs.size<=it) (h2:∀ x c,X.env.cells.lookup x=some c->c≠it) (h3:∀ p∈X.pn++pins,p.1≠it):Inv X pins σ H { s with heap:=h',toks:=t' }:=by
 have nit:∀ b u,H b=some u->b≠it:=λ b u e z=>by rw[z,hn]at e;cases e
 refine I.step (g':=s.gens) (d':=s.drawn) (ch:=[it]) (λ b hb=>?_) (λ b o _ _ hc e _=>k b o (λ z=>hc (by simp[z])) e) (λ b o _ _ hc e _=>⟨o.slots,k b o (λ z=>hc (by simp[z])) e⟩) (λ _ _ _ _ n=>n)
  (λ b o hc e=>⟨o,k b o (λ z=>hc (by simp[z])) e⟩) (λ _ _ e=>e) (λ _ _ _ e=>e) (λ b ps e=>⟨#[],by rw[e];simp⟩) (λ m hm=>?_) (λ b u e=>?_) I.bare
 ·have e:b=it:=by simpa using hb
  subst e;exact⟨h1,hL,h2,h3⟩
 ·obtain⟨o,es,ep,ho,r⟩:=hm;exact⟨o,es,ep,k _ o (My hL) ho,r⟩
 ·refine(I.hok b u e).stay (λ c v hc q=>k c v ?_ q) (λ _ q=>q) λ _ _ q=>q;rcases hc with z|z
  ·rw[z];exact nit b u e
  ·exact nit c _ z
def Inv.tok (I:Inv X pins σ H s)(t:Nat):Inv X pins σ H { s with toks:=t }:=I.un (h':=s.heap) (t':=t) Un.refl I.hok
def Inv.kept(I:Inv X pins σ H s)(k:∀ b u,s.heap.get? b=some u->h'.get? b=some u):Inv X pins σ H { s with heap:=h',toks:=t' }:=I.un (Un.kept k) (I.hok.kept k)
def Inv.laid(I:Inv X pins σ H s)(k:∀ b u,s.heap.get? b=some u->h'.get? b=some u)(hp:s.heap.objs.size<=a)(new:bQ X.prog X.w (upd H a o) h' a o) :
  Inv X pins σ (upd H a o) { s with heap:=h',toks:=t' }:=I.un (Un.laid k hp (I.hok.fresh hp)) (I.hok.laid k hp new)
def Inv.write {x e:Addr}(I:Inv X pins σ H s)(mu:HH (H x))(he:e=x\/H e=some (.own x))(k:∀ b u,b≠e->s.heap.get? b=some u->h'.get? b=some u)(heo:∃ u,h'.get? e=some u)
  (new:bQ X.prog X.w (upd H x o) h' x o):Inv X pins σ (upd H x o) { s with heap:=h',toks:=t' }:=I.un (Un.write mu he k heo) (I.hok.write mu he k heo new)
def Inv.xo {pins':List (Addr×Obj)}(I:Inv X pins σ H s)(h:∀ p∈pins',s.heap.get? p.1=some p.2/\H p.1=none/\p.1≠X.env.locals/\p.1∉X.fs/\∀ v,p.2.data ≠ .cell v):Inv X pins' σ H s:=
 ⟨I.ok,I.os,I.bare,I.base,I.loc,I.cell,I.free,I.jH,λ p hp=>(Ls.mp hp).elim (λ z=>I.pin p (Lu _ z)) (h p),I.hok,I.len⟩
def uD(hN:N.Nodup){j:Nat}(a:N[i]?=some x)(b:N[j]?=some x):i=j:=by
 obtain⟨h1,e1⟩:=Lh.mp a;obtain⟨h2,e2⟩:=Lh.mp b;exact(List.getElem_inj hN).mp (e1.trans e2.symm)
def qM{Q:Unit->Shared->Prop}(I:Inv X pins σ H s)(hN:X.N.Nodup)(hi:X.N[i]?=some x)(hx:Loc X.env.scope x)(r:RelV v u)
  (h:∀ s',Inv X pins (σ.set i (some v)) H s'->(∃ a,Heap.SameBut a s.heap s'.heap/\(a=X.env.locals\/X.env.cells.lookup x=some a))->Q () s') (hf:X.fn x=true\/X.env.scope.names.lookup x=some .local:=by first|exact .inl rfl|exact .inr rfl|assumption):wpAny M A (storeName X.env x u) Q E s:=by
 obtain⟨m,hn,hl⟩:=id I.loc;have hcls:(X.env.scope.kind == .class||(X.env.scope.kind == .module&&X.env.locals != X.env.globals))=false:=by rw[I.ok.kind];rfl
 have hiσ:i<σ.length:=by rw[I.len];exact(Lh.mp hi).1
 have FF:=I.FF;have tracked:∀ {a:Addr}{h':Heap},(∃ o,s.heap.get? a=some o/\H a=none)->Heap.SameBut a s.heap h'->i6 X.prog X.w H h':=λ {a h'} ha hs b ob e=>by
  obtain⟨_,_,hfree⟩:=ha;refine(I.hok b ob e).stay (λ c w' hc q=>(hs.2 c ?_).trans q) (λ _ q=>q) λ _ _ q=>q;rintro rfl;rcases hc with rfl|hc
  ·rw[hfree]at e;cases e
  ·rw[hfree]at hc;cases hc
 rcases hx with hk|hk
 ·refine wpAny_storeName_local hk hn (λ h' hn' hs=>?_) hcls;obtain⟨oL,_,_,hoL,_⟩:=id hn;refine h _ ⟨I.ok,I.os,I.bare,⟨λ b o e n hb hx=>?_,λ b o e n hb hx=>?_,I.base.free,λ b o e hx=>?_,I.base.tups,I.base.qi,I.base.sq⟩,⟨_,hn',λ j y v' e1 e2 e3=>?_⟩,λ y c e=>?_,I.free,I.jH,λ p hp=>?_,tracked ⟨oL,hoL,I.free⟩ hs,by simpa using I.len⟩ ⟨_,hs,.inl rfl⟩
  ·exact(hs.2 b (LH (LR (Lk e) I.ok.above))).trans (I.base.keep b o e n hb hx)
  ·obtain⟨sl,e1⟩:=I.base.slot b o e n hb hx;exact⟨sl,(hs.2 b (LH (LR (Lk e) I.ok.above))).trans e1⟩
  ·obtain⟨o',e1⟩:=I.base.there b o e hx;exact⟨o',(hs.2 b (LH (LR (Lk e) I.ok.above))).trans e1⟩
  ·by_cases hj:j=i
   ·subst hj;rw[hi]at e1;cases e1;rw[Mg hiσ]at e2;cases e2;exact⟨u,r,.inl ⟨hk,by simp⟩⟩
   ·rw[L8 (My hj)]at e2;obtain⟨u',r',q⟩:=hl j y v' e1 e2 e3;refine⟨u',r',?_⟩;rcases q with ⟨k,e⟩|⟨k,c,e,z⟩
    ·refine .inl ⟨k,?_⟩;have:y≠x:=λ e=>hj (uD hN e1 (e▸hi));simp[this,e]
    ·exact .inr ⟨k,c,e,z.sameBut hs (FF y c e)⟩
  ·obtain⟨w',z⟩:=I.cell y c e;exact⟨w',z.sameBut hs (FF y c e)⟩
  ·obtain⟨e,n,ne,nf,d⟩:=I.pin p hp;exact⟨(hs.2 p.1 ne).trans e,n,ne,nf,d⟩
 ·have hfn:X.fn x=true:=by
   rcases hf with z|z
   ·exact z
   ·rw[z]at hk;cases hk
  obtain⟨c,hc⟩:=I.ok.has x (.inl hk);obtain⟨w',z⟩:=I.cell x c hc;refine wpAny_storeName_cell I.ok.kind hk hc z (λ h' hc' hs=>?_);obtain⟨oc,hoc,hocd⟩:=id z;refine h { s with heap:=h' } ⟨I.ok,I.os,I.bare,⟨λ b o e n hb hx=>?_,λ b o e n hb hx=>?_,I.base.free,λ b o e hx=>?_,I.base.tups,I.base.qi,I.base.sq⟩,⟨m,hn.sameBut hs (My (FF x c hc)),λ j y v' e1 e2 e3=>?_⟩,λ y c' e=>?_,I.free,I.jH,λ p hp=>?_,tracked ⟨oc,hoc,I.jH x c hc⟩ hs,by simpa using I.len⟩ ⟨c,hs,.inr hc⟩
  ·exact(hs.2 b (LH (LR (Lk e) (I.ok.Ho x c hfn hc)))).trans (I.base.keep b o e n hb hx)
  ·obtain⟨sl,e1⟩:=I.base.slot b o e n hb hx;exact⟨sl,(hs.2 b (LH (LR (Lk e) (I.ok.Ho x c hfn hc)))).trans e1⟩
  ·obtain⟨o',e1⟩:=I.base.there b o e hx;exact⟨o',(hs.2 b (LH (LR (Lk e) (I.ok.Ho x c hfn hc)))).trans e1⟩
  ·by_cases hj:j=i
   ·subst hj;rw[hi]at e1;cases e1;rw[Mg hiσ]at e2;cases e2;exact⟨u,r,.inr ⟨.inl hk,c,hc,hc'⟩⟩
   ·rw[L8 (My hj)]at e2;obtain⟨u',r',q⟩:=hl j y v' e1 e2 e3;refine⟨u',r',?_⟩;rcases q with q|⟨k,c',e,z'⟩
    ·exact .inl q
    ·refine .inr ⟨k,c',e,z'.sameBut hs ?_⟩;rintro rfl;exact hj (uD hN e1 (I.ok.inj _ _ _ e hc▸hi))
  ·by_cases hcc:c'=c
   ·subst hcc;exact⟨_,hc'⟩
   ·obtain⟨w2,z2⟩:=I.cell y c' e;exact⟨w2,z2.sameBut hs hcc⟩
  ·obtain⟨e,n,ne,nf,d⟩:=I.pin p hp;refine⟨(hs.2 p.1 ?_).trans e,n,ne,nf,d⟩;intro q;rw[q,hoc]at e;have q':oc=p.2:=L5 e;exact d w' (by rw[<-q'];exact hocd)
def uB{Q:Unit->Shared->Prop}(I:Inv X pins σ H s)(hN:X.N.Nodup)(hi:X.N[i]?=some x)(hx:Loc X.env.scope x)(r:RelV v u)
  (h:∀ s',Inv X pins (σ.set i (some v)) H s'->Q () s') (hf:X.fn x=true\/X.env.scope.names.lookup x=some .local:=by first|exact .inl rfl|exact .inr rfl|assumption):wpAny M A (storeName X.env x u) Q E s:=
 qM I hN hi hx r (λ s' I' _=>h s' I') hf
def Inv.HS(I:Inv X pins σ H s)(ho:s'.os=s.os)(u:Un (frs X.stack) ch H H' s.heap s'.heap)(hok:i6 X.prog X.w H' s'.heap)(hg:AllBare s'.gens)
  (hch:∀ b∈ch,(b∈X.ex\/X.s₀.heap.objs.size<=b)/\b≠X.env.locals/\(∀ x c,X.env.cells.lookup x=some c->c≠b)/\∀ p∈X.pn++pins,p.1≠b):Inv X pins σ H' s':=by
 obtain⟨h',g',d',t',o'⟩:=s';have e:o'=s.os:=ho;subst e;exact I.call (g':=g') (t':=t') (d':=d') u hok hg hch
end
abbrev XK:=Value->Option Addr->Hp->Prop
abbrev St:=List (Option V)
variable {σ:St}
abbrev VK:=V->Hp->Prop
abbrev TE:=St->Hp->VK->Prop
variable {ta tb te:TE}
abbrev TT:=St->Hp->(Bool->Hp->Prop)->Prop
abbrev TA:=St->Hp->(List V->Hp->Prop)->Prop
structure Ends where
 nx:St->Hp->Prop
 rt:VK
 bk:St->Hp->Prop:=λ _ _=>False
 ct:St->Hp->Prop:=λ _ _=>False
abbrev TS:=Ends->St->Hp->Prop
def EP (X:Cx)(pins:List (Addr×Obj))(σ:St)(Q:VK)(u:Value)(s':Shared):Prop:=∃ v H',Inv X pins σ H' s'/\RelV v u/\Q v H'
def TP (X:Cx)(pins:List (Addr×Obj))(σ:St)(Q:Bool->Hp->Prop)(b:Bool)(s':Shared):Prop:=∃ H',Inv X pins σ H' s'/\Q b H'
def AP (X:Cx)(pins:List (Addr×Obj))(σ:St)(Q:List V->Hp->Prop)(us:List Value)(s':Shared):Prop:=∃ vs H',Inv X pins σ H' s'/\Vals vs us/\Q vs H'
def SP (X:Cx)(pins:List (Addr×Obj))(D:Ends)(f:Flow)(s':Shared):Prop:=
 match f with
 |.next=>∃ σ' H',Inv X pins σ' H' s'/\D.nx σ' H'
 |.brk=>∃ σ' H',Inv X pins σ' H' s'/\D.bk σ' H'
 |.cont=>∃ σ' H',Inv X pins σ' H' s'/\D.ct σ' H'
 |.ret u=>∃ v σ' H',Inv X pins σ' H' s'/\RelV v u/\D.rt v H'
def PE (X:Cx)(e:Expr)(t:TE):Prop:=
 ∀ (pins:List (Addr×Obj)) (s:Shared) (σ:St) (H:Hp) (Q:VK),Inv X pins σ H s->t σ H Q->wpAny (model X.prog X.w) X.A (eval e X.env) (EP X pins σ Q) X.xe s
def PT (X:Cx)(e:Expr)(t:TT):Prop:=
 ∀ (pins:List (Addr×Obj)) (s:Shared) (σ:St) (H:Hp) (Q:Bool->Hp->Prop),Inv X pins σ H s->t σ H Q->wpAny (model X.prog X.w) X.A (isTrue e X.env (eval e X.env)) (TP X pins σ Q) X.xe s
def PW (X:Cx)(e:Expr)(t:TT):Prop:=
 ∀ (whole:Sem Value) (pins:List (Addr×Obj)) (s:Shared) (σ:St) (H:Hp) (Q:Bool->Hp->Prop),Inv X pins σ H s->t σ H Q->wpAny (model X.prog X.w) X.A (isTrue e X.env whole) (TP X pins σ Q) X.xe s
def PW.pt{t:TT}(h:PW X e t):PT X e t:=h _
def PA (X:Cx)(es:List Expr)(t:TA):Prop:=
 ∀ (pos:Pos) (pins:List (Addr×Obj)) (s:Shared) (σ:St) (H:Hp) (Q:List V->Hp->Prop),Inv X pins σ H s->t σ H Q->wpAny (model X.prog X.w) X.A (spliced (backTo pos (starEach es X.env))) (AP X pins σ Q) X.xe s
def PS (X:Cx)(st:Stmt)(t:TS):Prop:=
 ∀ (pins:List (Addr×Obj)) (s:Shared) (σ:St) (H:Hp) (D:Ends),Inv X pins σ H s->t D σ H->wpAny (model X.prog X.w) X.A (exec st X.env) (SP X pins D) X.xe s
def kg (X:Cx)(st:List Stmt)(t:TS):Prop:=
 ∀ (pins:List (Addr×Obj)) (s:Shared) (σ:St) (H:Hp) (D:Ends),Inv X pins σ H s->t D σ H->wpAny (model X.prog X.w) X.A (execs st X.env) (SP X pins D) X.xe s
def dM {α:Type}{t:Sem α}{Q Q':α->Shared->Prop}(h:wpAny M A t Q E s)(hQ:∀ a s,Q a s->Q' a s):wpAny M A t Q' E s:=MP h hQ λ _ _ x=>x
section
def yR (i:Nat):TE:=λ σ H Q=>∃ v,σ[i]?=some (some v)/\Q v H
def tC (v:V):TE:=λ _ H Q=>Q v H
def dg(hN:X.N[i]?=some x)(hv:rY X.env.scope x)(hd:(x == ("__debug__" : Str))=false:=by decide)(hcd:(x == ("__classdict__" : Str))=false:=by decide):PE X (.Name x pos) (yR i):=by
 intro pins s σ H Q I h;obtain⟨v,e,h⟩:=h;obtain⟨m,hn,hl⟩:=I.loc;obtain⟨u,r,l⟩:=hl i x v hN e hv;have fin:EP X pins σ Q u s:=⟨v,H,I,r,h⟩;rcases l with ⟨hk,hm⟩|⟨hk,c,hc,hcell⟩
 ·exact wpAny_Name (wpAny_loadName_local I.ok.kind hk hn hm fin) hd
 ·rcases hk with hk|hk
  ·exact wpAny_Name (wpAny_loadName_cell I.ok.kind hk hc hcell fin) hd
  ·exact wpAny_Name (wpAny_loadName_free I.ok.kind hk hc hcell fin hcd) hd
def Az {i j pos}:PE X (.Constant (.int i) j pos) (tC (.int i)):=λ _ _ _ H _ I h=>wpAny_Constant_int ⟨.int i,H,I.tok _,⟨_,rfl⟩,h⟩
def HN {b j pos}:PE X (.Constant (.bool b) j pos) (tC (.bl b)):=λ _ _ _ H _ I h=>Constant_bool ⟨.bl b,H,I,rfl,h⟩
def FZ {j pos}:PE X (.Constant .none j pos) (tC .bg):=λ _ _ _ H _ I h=>Constant_none ⟨.bg,H,I,rfl,h⟩
def Gl (X:Cx)(x:Str):Prop:=X.env.kindOf x=some .globalImplicit
def Dj(I:Inv X pins σ H s)(hg:Gl X x)(hm:X.mg x=some u)(h:Q u s)
  (hd:(x == ("__debug__" : Str))=false:=by decide):wpAny (model X.prog X.w) X.A (eval (.Name x pos) X.env) Q E s:=
 Calls.Name_function_global I.ok.kind hg (Calls.loadGlobal_global (by rw[I.ok.glob];exact I.mod.glob.keeps I.bk) hm h) hd
def i7(I:Inv X pins σ H s)(hg:Gl X x)(hm:X.mg x=none)(hv:bootBuiltins x=some u)(h:Q u s)
  (hn:x ≠ "__name__" :=by decide) (hd:(x == ("__debug__" : Str))=false:=by decide):wpAny (model X.prog X.w) X.A (eval (.Name x pos) X.env) Q E s:=by
 obtain⟨mb,h1,h2⟩:=I.mod.blt;exact Calls.Name_function_global I.ok.kind hg (Calls.loadGlobal_builtin (by rw[I.ok.glob];exact I.mod.glob.keeps I.bk) hm (by rw[I.ok.blt];exact h1.keeps I.bk) ((h2 x hn).trans hv) h) hd
def C9(hg:Gl X x)(hm:X.mg x=none)(hv:bootBuiltins x=some u)(r:RelV v u)(hn:x ≠ "__name__" :=by decide)(hd:(x == ("__debug__" : Str))=false:=by decide):PE X (.Name x pos) (tC v):=
 λ _ _ _ H _ I h=>i7 I hg hm hv ⟨v,H,I,r,h⟩ hn hd
variable {a b:Expr}
def tB (t:TE):TT:=λ σ H Q=>t σ H λ x H1=>∃ c,x=.bl c/\Q c H1
def Fp{t:TE}(h:PE X e t)(he:∀ whole,isTrue e X.env whole=(do let v <-whole;standAt e.pos;holding [v] (truthy v)):=by intro _;rfl):PT X e (tB t):=by
 intro pins s σ H Q I hw;refine isTrue_plain (dM (h pins s σ H _ I hw) λ v s1 hq5=>L2.ex5 hq5 λ x H1 I1 r1 q1=>?_) (he _);obtain⟨d,rfl,q⟩:=q1;cases r1;exact NL ⟨H1,I1,q⟩
variable {tA tB':TT}{rest:List Expr}
def JT (t u:TT):TT:=λ σ H Q=>t σ H λ c H1=>if c=true then u σ H1 Q else Q false H1
def K0 (t u:TT):TT:=λ σ H Q=>t σ H λ c H1=>if c=true then Q true H1 else u σ H1 Q
def JW (t:TT):TT:=λ σ H Q=>t σ H λ c H1=>Q (!c) H1
def C8 (ha:PT X a tA):PW X (.BoolOp .And [a] pos) tA:=by
 intro wh pins s σ H Q I h;refine isTrue_and (dM (ha pins s σ H Q I h) λ c s1 e=>?_);cases c with
 |true=>exact isTrue_and_nil e|false=>exact e
def FH (ha:PT X a tA):PW X (.BoolOp .Or [a] pos) tA:=by
 intro wh pins s σ H Q I h;refine isTrue_or (dM (ha pins s σ H Q I h) λ c s1 e=>?_);cases c with
 |false=>exact isTrue_or_nil e|true=>exact e
def FN (ha:PT X a tA)(hb:PW X (.BoolOp .And (b::rest) pos) tB'):PW X (.BoolOp .And (a::b::rest) pos) (JT tA tB'):=by
 intro wh pins s σ H Q I h;refine isTrue_and (dM (ha pins s σ H _ I h) λ c s1 ⟨H1,I1,q1⟩=>?_);cases c with
 |true=>exact hb wh pins s1 σ H1 Q I1 q1|false=>exact⟨H1,I1,q1⟩
def HU (ha:PT X a tA)(hb:PW X (.BoolOp .Or (b::rest) pos) tB'):PW X (.BoolOp .Or (a::b::rest) pos) (K0 tA tB'):=by
 intro wh pins s σ H Q I h;refine isTrue_or (dM (ha pins s σ H _ I h) λ c s1 ⟨H1,I1,q1⟩=>?_);cases c with
 |true=>exact⟨H1,I1,q1⟩| false=>exact hb wh pins s1 σ H1 Q I1 q1
def FU (ha:PT X a tA):PT X (.UnaryOp .Not a pos) (JW tA):=by
 intro pins s σ H Q I h;exact isTrue_not (ha pins s σ H (λ c H1=>Q (!c) H1) I h)
def HP (ta tb:TE):TE:=λ σ H Q=>ta σ H λ x H1=>∃ c,x=.bl c/\if c=true then tb σ H1 Q else Q (.bl false) H1
def HQ (ta:TE):TE:=λ σ H Q=>ta σ H λ x H1=>∃ c,x=.bl c/\Q (.bl (!c)) H1
def FJ {op}{t:TE}(h:PE X a t):PE X (.BoolOp op [a] pos) t:=λ pins s σ H Q I hw=>BoolOp_one (h pins s σ H Q I hw)
def Fw (ha:PE X a ta)(hb:PE X (.BoolOp .And (b::rest) pos) tb):PE X (.BoolOp .And (a::b::rest) pos) (HP ta tb):=by
 intro pins s σ H Q I h;refine BoolOp_and (dM (ha pins s σ H _ I h) λ v s1 hq5=>L2.ex5 hq5 λ x H1 I1 r1 q1=>?_);obtain⟨c,rfl,q1⟩:=q1;cases r1;refine NL ?_;cases c with
 |true=>exact hb pins s1 σ H1 Q I1 q1|false=>exact⟨.bl false,H1,I1,rfl,q1⟩
def FW (ha:PE X a ta):PE X (.UnaryOp .Not a pos) (HQ ta):=by
 intro pins s σ H Q I h;refine UnaryOp_ (dM (ha pins s σ H _ I h) λ v s1 hq5=>L2.ex5 hq5 λ x H1 I1 r1 q1=>?_);obtain⟨c,rfl,q1⟩:=q1;cases r1;exact not_of (NL ⟨.bl (!c),H1,I1,rfl,q1⟩)
def KZ (t:TT)(ta tb:TE):TE:=λ σ H Q=>t σ H λ c H1=>if c=true then ta σ H1 Q else tb σ H1 Q
def Am(hc:PT X c tA)(ha:PE X a ta)(hb:PE X b tb):PE X (.IfExp c a b pos) (KZ tA ta tb):=by
 intro pins s σ H Q I h;refine wpAny_IfExp (dM (hc pins s σ H _ I h) λ d s1 ⟨H1,I1,q1⟩=>?_);cases d with
 |true=>exact ha pins s1 σ H1 Q I1 q1|false=>exact hb pins s1 σ H1 Q I1 q1
end
def c8 (K:PySem.W.Frag)(H:Hp)(a:Addr)(xs:List V):Prop:=
 Rd H a (.lst xs) ∨
  ∃ (o:Obj) (its:Array Value) (n:Nat),K.lookup a=some o/\o.cls=.type "list" /\ o.dict=none/\o.data=.seq its n/\its.size<=sizeLine/\Vals xs its.toList
def iZ (K:PySem.W.Frag)(H:Hp)(a:Addr)(xs:List V):Prop:=
 Rd H a (.tup xs) ∨
  ∃ (o:Obj) (its:Array Value) (n:Nat),K.lookup a=some o/\o.cls=.type "tuple" /\ o.data=.seq its n/\its.size<=sizeLine/\Vals xs its.toList
def JO:Value->Option V
 |.none=>some .bg
 |.bool b=>some (.bl b)
 |.int i _=>some (.int i)
 |.str x _=>some (.str x)
 |.bytes b _=>some (.yL b)
 |.float b _=>some (.Hn b)
 |.ref a=>some (.ref a)
 |.type n=>some (.ty n)
 |_=>none
def RelV.abs {x:V}(r:RelV x u):JO u=some x:=by
 cases x with
 |bg=>cases r;rfl|bl _=>cases r;rfl|int _=>obtain⟨t,rfl⟩:=r;rfl|str _=>obtain⟨t,rfl⟩:=r;rfl|yL _=>obtain⟨t,rfl⟩:=r;rfl|Hn _=>obtain⟨t,rfl⟩:=r;rfl|ref _=>cases r;rfl|ty _=>cases r;rfl
def RelV.inj {x y:V}(r:RelV x u)(q:RelV y u):x=y:=L5 (r.abs.symm.trans q.abs)
def Vals.inj:∀ {xs ys:List V}{us:List Value},Vals xs us->Vals ys us->xs=ys
 |_,_,_,.nil,.nil=>rfl|_,_,_,.cons r t,.cons r' t'=>by rw[r.inj r',Vals.inj t t']
section
variable{ys:List V}
def c8.of {K:PySem.W.Frag}(h:H a=some (.lst xs)):c8 K H a xs:=.inl (.inl h)
def iZ.of {K:PySem.W.Frag}(h:H a=some (.tup xs)):iZ K H a xs:=.inl (.inl h)
def Inv.list (I:Inv X pins σ H s)(h:c8 X.K H a xs):∃ its:List Value,Vals xs its/\PlainL s.heap a its.toArray/\xs.length<=sizeLine:=by
 rcases h with h|⟨o,its,n,hk,hc,hd,hs,hz,r⟩
 ·obtain⟨z,its,n,r,e⟩:=h.ok I.hok;exact⟨its,r,⟨_,n,e,rfl,rfl,rfl⟩,z⟩
 ·refine⟨its.toList,r,⟨o,n,I.rZ a o hk,hc,hd,by simpa using hs⟩,?_⟩;have e:=r.length;simp only[LF]at e;omega
def Inv.tuple (I:Inv X pins σ H s)(h:iZ X.K H a xs):∃ its:List Value,Vals xs its/\IsTup s.heap a its.toArray/\xs.length<=sizeLine:=by
 rcases h with h|⟨o,its,n,hk,hc,hs,hz,r⟩
 ·obtain⟨z,its,r,p⟩:=h.ok I.hok;exact⟨its,r,p.is,z⟩
 ·refine⟨its.toList,r,⟨o,I.rZ a o hk,hc,n,by simpa using hs⟩,?_⟩;have e:=r.length;simp only[LF]at e;omega
def Inv.oT (I:Inv X pins σ H s)(h:c8 X.K H a xs)(h':c8 X.K H a ys):xs=ys:=by
 obtain⟨its,r,⟨o,n,e,_,_,d⟩,_⟩:=I.list h;obtain⟨its',r',⟨o',n',e',_,_,d'⟩,_⟩:=I.list h';rw[e]at e';cases e';rw[d]at d';injection d' with d1 _
 have:its=its':=by simpa using MG Array.toList d1
 subst this;exact r.inj r'
def Inv.mO (I:Inv X pins σ H s)(h:iZ X.K H a xs)(h':iZ X.K H a ys):xs=ys:=by
 obtain⟨its,r,⟨o,e,_,n,d⟩,_⟩:=I.tuple h;obtain⟨its',r',⟨o',e',_,n',d'⟩,_⟩:=I.tuple h';rw[e]at e';cases e';rw[d]at d';injection d' with d1 _
 have:its=its':=by simpa using MG Array.toList d1
 subst this;exact r.inj r'
end
abbrev Cx.qj (X:Cx)(E:Value->Shared->Prop):Cx:={ X with xe:=E }
abbrev Cx.EU (X:Cx):Cx:=X.qj λ _ _=>False
def Cx.Ok.qj(ok:X.Ok)(E:Value->Shared->Prop):(X.qj E).Ok:=
 ⟨ok.mod,ok.kind,ok.glob,ok.blt,ok.above,ok.inj,ok.has,ok.Ho,ok.hd,ok.frames,ok.Hy,ok.Jo,ok.bs,ok.Dg,ok.yQ,ok.yT,ok.nZ,ok.Ft⟩
def Cx.Ok.jF(ok:(X.qj E).Ok):X.Ok:=
 ⟨ok.mod,ok.kind,ok.glob,ok.blt,ok.above,ok.inj,ok.has,ok.Ho,ok.hd,ok.frames,ok.Hy,ok.Jo,ok.bs,ok.Dg,ok.yQ,ok.yT,ok.nZ,ok.Ft⟩
section
def Inv.qj (I:Inv X pins σ H s)(E:Value->Shared->Prop):Inv (X.qj E) pins σ H s:=⟨I.ok.qj E,I.os,I.bare,I.base,I.loc,I.cell,I.free,I.jH,I.pin,I.hok,I.len⟩
def Inv.jF (I:Inv (X.qj E) pins σ H s):Inv X pins σ H s:=⟨I.ok.jF,I.os,I.bare,I.base,I.loc,I.cell,I.free,I.jH,I.pin,I.hok,I.len⟩
def SP.jF {D:Ends}{f:Flow}(h:SP (X.qj E) pins D f s'):SP X pins D f s':=by
 cases f with
 |next=>obtain⟨σ',H',I,q⟩:=h;exact⟨σ',H',I.jF,q⟩| brk=>obtain⟨σ',H',I,q⟩:=h;exact⟨σ',H',I.jF,q⟩| cont=>obtain⟨σ',H',I,q⟩:=h;exact⟨σ',H',I.jF,q⟩| ret u=>obtain⟨v,σ',H',I,r,q⟩:=h;exact⟨v,σ',H',I.jF,r,q⟩
def kg.EU {st:List Stmt}{t:TS}(h:kg X.EU st t):kg X st t:=λ pins s σ H D I hw=>
 MP (h pins s σ H D (I.qj _) hw) (λ _ _ q=>q.jF) λ _ _ z=>False.elim z
end
section
variable{st:Stmt}{rest:List Stmt}{t u:TS}
def HE:TS:=λ D σ H=>D.nx σ H
def JD (t u:TS):TS:=λ D σ H=>t { D with nx:=u D } σ H
def Di:kg X [] HE:=λ _ _ σ H _ I h=>Ov ⟨σ,H,I,h⟩
def oR (h1:PS X st t)(h2:kg X rest u):kg X (st::rest) (JD t u):=by
 intro pins s σ H D I h;refine wpAny_execs_cons (dM (h1 pins s σ H { D with nx:=u D } I h) λ f s1 q=>?_);cases f with
 | next =>
  obtain⟨σ',H',I',q⟩:=q;exact h2 pins s1 σ' H' D I' q
 |ret v=>exact q|brk=>exact q|cont=>exact q
def xn (h1:PS X st t):kg X [st] t:=by
 intro pins s σ H D I h;refine wpAny_execs_cons (dM (h1 pins s σ H D I h) λ f s1 q=>?_);cases f with
 |next=>exact Ov q|ret v=>exact q|brk=>exact q|cont=>exact q
def Inv.quiet(I:Inv X pins σ H s):interactive X.env=false:=by simp[interactive,I.ok.kind]
def Aw (te:TE):TS:=λ D σ H=>te σ H λ _ H1=>D.nx σ H1
def gA (he:PE X e te)(hs:swapsWith e none pos.line X.env=pure false:=by rfl):PS X (.Expr e pos) (Aw te):=by
 intro pins s σ H D I h;exact wpAny_Expr_any (dM (he pins s σ H _ I h) λ v s1 hq5=>L2.ex5 hq5 λ x H1 I1 r1 q1=>⟨σ,H1,I1,q1⟩) I.quiet hs
def JS (te:TE):TS:=λ D σ H=>te σ H D.rt
def rV (he:PE X e te):PS X (.Return (some e) pos) (JS te):=by
 intro pins s σ H D I h;exact wpAny_Return_some (dM (he pins s σ H _ I h) λ v s1 hq5=>L2.ex5 hq5 λ x H1 I1 r1 q1=>⟨x,σ,H1,I1,r1,q1⟩)
def JM (c:TT)(t u:TS):TS:=λ D σ H=>c σ H λ b H1=>if b=true then t D σ H1 else u D σ H1
def Hx{a b:List Stmt}{tc:TT}(hc:PT X c tc)(ha:kg X a t)(hb:kg X b u):PS X (.If c a b pos) (JM tc t u):=by
 intro pins s σ H D I h;refine wpAny_If (dM (hc pins s σ H _ I h) λ d s1 ⟨H1,I1,q1⟩=>?_);cases d with
 |true=>exact ha pins s1 σ H1 D I1 q1|false=>exact hb pins s1 σ H1 D I1 q1
end
abbrev TG:=V->St->Hp->(St->Hp->Prop)->Prop
abbrev C7:=List V->St->Hp->(St->Hp->Prop)->Prop
def PG (X:Cx)(target:Expr)(t:TG):Prop:=
 ∀ (pins:List (Addr×Obj)) (s:Shared) (σ:St) (H:Hp) (v:V) (u:Value) (Q:St->Hp->Prop),Inv X pins σ H s->RelV v u->t v σ H Q ->
  wpAny (model X.prog X.w) X.A (assign target X.env u) (λ _ s'=>∃ σ' H',Inv X pins σ' H' s'/\Q σ' H') X.xe s
def yW (X:Cx)(ts:List Expr)(t:C7):Prop:=
 ∀ (pins:List (Addr×Obj)) (s:Shared) (σ:St) (H:Hp) (vs:List V) (us:List Value) (Q:St->Hp->Prop),Inv X pins σ H s->Vals vs us->t vs σ H Q ->
  wpAny (model X.prog X.w) X.A (assignInOrder ((assignEach ts X.env).map (·.2)) us) (λ _ s'=>∃ σ' H',Inv X pins σ' H' s'/\Q σ' H') X.xe s
section
def oU (i:Nat):TG:=λ v σ H Q=>Q (σ.set i (some v)) H
def r6(hN:X.N.Nodup)(hi:X.N[i]?=some x)(hx:Loc X.env.scope x)(hf:X.fn x=true\/X.env.scope.names.lookup x=some .local:=by first|exact .inl rfl|exact .inr rfl|assumption):PG X (.Name x pos) (oU i):=by
 intro pins s σ H v u Q I r h;exact wpAny_assign_Name (uB I hN hi hx r (λ s' I'=>⟨_,H,I',h⟩) hf)
def JX:C7:=λ vs σ H Q=>vs=[]/\Q σ H
def HG (t:TG)(u:C7):C7:=λ vs σ H Q=>∃ v r,vs=v::r/\t v σ H λ σ' H'=>u r σ' H' Q
def Dc:yW X [] JX:=by
 intro pins s σ H vs us Q I r h;obtain⟨e,h⟩:=h;subst e;cases r;exact assignInOrder_nil ⟨σ,H,I,h⟩
def An{t:TG}{u:C7}(h1:PG X e t)(h2:yW X es u)
  (hs:(assignEach (e::es) X.env).map (·.2)=assign e X.env::(assignEach es X.env).map (·.2):=by rfl):yW X (e::es) (HG t u):=by
 intro pins s σ H vs us Q I r h;obtain⟨v,vr,e1,h⟩:=h;subst e1;cases r with
 | cons r rr =>
  rw[hs];refine assignInOrder_cons (dM (h1 pins s σ H _ _ _ I r h) λ _ s1 ⟨σ1,H1,I1,q1⟩=>?_);exact h2 pins s1 σ1 H1 _ _ Q I1 rr q1
def JE (K:PySem.W.Frag)(n:Nat)(t:C7):TG:=λ v σ H Q=>∃ a xs,v=.ref a/\iZ K H a xs/\xs.length=n/\t xs σ H Q
def Fx{k:Nat}{t:C7}{n:Nat}(hc:X.calm=true)(h:yW X es t)
  (hn:(assignEach es X.env).length=n:=by rfl) (hst:(assignEach es X.env).findIdx? (·.1)=none:=by rfl):PG X (.Tuple es k pos) (JE X.K n t):=by
 intro pins s σ H v u Q I r hw;obtain⟨a,xs,e1,hq,hl,hw⟩:=hw;subst e1;cases r;obtain⟨its,rv,ht,hz⟩:=I.tuple hq;refine assign_Tuple_tuple (I.ok.hd hc) ht (by simp[hn,<-hl,rv.length]) hst λ h' hx=>?_;have I1:Inv X pins σ H { s with heap:=h' }:=I.kept (t':=s.toks) λ b o e=>hx b o (LH (Lk e)) e;exact h pins _ σ H xs _ Q I1 (by simpa using rv) hw
def FD (te:TE)(g:TG):TS:=λ D σ H=>te σ H λ x H1=>g x σ H1 D.nx
def AA{pos':Pos}(hN:X.N.Nodup)(hi:X.N[i]?=some x)(hx:Loc X.env.scope x)(he:PE X e te)(hs:swapsWith e (some (.Name x pos')) pos.line X.env=pure false:=by rfl)(hf:X.fn x=true\/X.env.scope.names.lookup x=some .local:=by first|exact .inl rfl|exact .inr rfl|assumption) :
  PS X (.Assign [.Name x pos'] e pos) (FD te (oU i)):=by
 intro pins s σ H D I h;refine wpAny_Assign_Name (dM (he pins s σ H _ I h) λ v s1 hq5=>L2.ex5 hq5 λ y H1 I1 r1 q1=>?_) hs;exact uB I1 hN hi hx r1 (λ s2 I2=>⟨_,H1,I2,q1⟩) hf
end
section
def F0 (c:TT)(tb:TS):TS:=λ D σ H=>∃ W:Nat->St->Hp->Prop,(∃ m,W m σ H)/\∀ m σ H,W m σ H ->
 c σ H λ b H1=>if b=true then ∃ N:St->Hp->Prop,(∀ σ' H',N σ' H'->∃ m',m' < m/\W m' σ' H')/\tb { D with nx:=N,ct:=N,bk:=D.nx } σ H1 else D.nx σ H1
def Ao{tc:TT}{tb:TS}(hp:PassesOwn (model X.prog X.w) X.A X.env X.xe)(hc:PT X c tc)(hb:kg X body tb):PS X (.While c body [] pos) (F0 tc tb):=by
 intro pins s σ H D I h;obtain⟨W,⟨m0,w0⟩,turn⟩:=h;refine wpAny_While (codeAny_whileLoop (λ n s'=>∃ σ' H',Inv X pins σ' H' s'/\W n σ' H') ?_ m0 ⟨σ,H,I,w0⟩);rintro n s1 ⟨σ1,H1,I1,w1⟩;refine Nk hp (dM (hc pins s1 σ1 H1 _ I1 (turn n σ1 H1 w1)) λ b s2 ⟨H2,I2,q2⟩=>?_);cases b with
 | true =>
  obtain⟨N,hN,q2⟩:=q2;rw[Lr rfl];refine Nk hp (dM (hb pins s2 σ1 H2 _ I2 q2) λ f s3 q3=>?_);cases f with
  | next =>
   obtain⟨σ3,H3,I3,n3⟩:=q3;obtain⟨m',hm,w3⟩:=hN σ3 H3 n3;exact⟨m',hm,σ3,H3,I3,w3⟩
  | cont =>
   obtain⟨σ3,H3,I3,n3⟩:=q3;obtain⟨m',hm,w3⟩:=hN σ3 H3 n3;exact⟨m',hm,σ3,H3,I3,w3⟩
  |brk=>exact q3|ret v=>exact q3
 | false =>
  rw[Lw Li];exact Ov ⟨σ1,H2,I2,q2⟩
end
structure It where
 go:Nat->Hp->Prop
 vM:Nat->Hp->V->Hp->Prop
 stop:Nat->Hp->Prop
def n5 (X:Cx)(pins:List (Addr×Obj))(H:Hp)(b:Addr):Prop:=
 H b=none/\b≠X.env.locals/\b∉X.fs/\(b∈X.ex\/X.s₀.heap.objs.size<=b)/\(∀ x c,X.env.cells.lookup x=some c->c≠b)/\∀ p∈X.pn++pins,p.1≠b
def Inv.qm(I:Inv X pins σ H s)(hb:s.heap.objs.size<=b)(hn:H' b=none):n5 X pins H' b:=by
 refine⟨hn,M7 (LR I.lt hb),I.JN hb,.inr (MC I.sz hb),λ x c e z=>?_,λ p hp z=>?_⟩
 ·obtain⟨v,q⟩:=I.cell x c e;exact absurd (LR q.lt (by rw[z];exact hb)) (Mj _)
 ·exact absurd (LR (Lk (I.pin p hp).1) (by rw[z];exact hb)) (Mj _)
structure Al (cm:Cx->Prop)(P:Program)(w:World)(K:PySem.W.Frag)(tg:Expr)(J:It)(fp:List Addr)(it:Addr)(tn:Nat->Heap->Prop):Prop where
 mem:it∈fp
 obj:∀ i h,tn i h->∀ b∈fp,∃ o,h.get? b=some o/\∀ v,o.data ≠ .cell v
 keep:∀ i h h',tn i h->(∀ b∈fp,∀ o,h.get? b=some o->h'.get? b=some o)->tn i h'
 item:∀ (X:Cx),X.prog=P->X.w=w->X.K=K->cm X->∀ (i:Nat) (pins:List (Addr×Obj)) (s:Shared) (σ:St) (H:Hp) (E:Value->Shared->Prop),Inv X pins σ H s->(∀ b∈fp,n5 X pins H b)->tn i s.heap->J.go i H ->
  wpAny (model P w) X.A (pyNext (.ref it)) (λ r s1=>∃ u,r=some u /\
   wpAny (model P w) X.A (letOwnedTupleGo tg (.ref it) u) (λ _ s2=>∃ x H',Inv X pins σ H' s2/\RelV x u/\J.vM i H x H'/\tn (i+1) s2.heap/\∀ b∈fp,H' b=none) E s1) E s
 done:∀ (X:Cx),X.prog=P->X.w=w->X.K=K->cm X->∀ (i:Nat) (pins:List (Addr×Obj)) (s:Shared) (σ:St) (H:Hp) (E:Value->Shared->Prop),Inv X pins σ H s->(∀ b∈fp,n5 X pins H b)->tn i s.heap->J.stop i H ->
  wpAny (model P w) X.A (pyNext (.ref it)) (λ r s1=>r=none/\Inv X pins σ H s1) E s
 self:∀ (A:Around) (i:Nat) (s:Shared) (Q:Value->Shared->Prop) (E:Value->Shared->Prop),tn i s.heap->Q (.ref it) s->wpAny (model P w) A (pyIter (.ref it)) Q E s
abbrev Turn:=Al λ X=>X.calm=true
abbrev TI:=St->Hp->(It->Hp->Prop)->Prop
def KD (X:Cx)(pins:List (Addr×Obj))(σ:St)(tg:Expr)(R:It->Hp->Prop)(itv:Value)(s2:Shared):Prop:=
 ∃ (it:Addr) (fp:List Addr) (tn:Nat->Heap->Prop) (J:It) (H':Hp),itv=.ref it/\Inv X pins σ H' s2/\Turn X.prog X.w X.K tg J fp it tn/\tn 0 s2.heap/\(∀ b∈fp,n5 X pins H' b)/\R J H'
def PI (X:Cx)(tg iter:Expr)(wi:TI):Prop:=
 ∀ (pins:List (Addr×Obj)) (s:Shared) (σ:St) (H:Hp) (R:It->Hp->Prop),Inv X pins σ H s->wi σ H R ->
  wpAny (model X.prog X.w) X.A (eval iter X.env) (λ v s1=>wpAny (model X.prog X.w) X.A (pyIter v) (KD X pins σ tg R) X.xe s1) X.xe s
def xr{it:Addr}{o:Obj}{n:String}{vs:Array Value}{Q:Unit->Shared->Prop}(ho:s.heap.get? it=some o)(hc:o.cls = .type n)(hd:o.data = .fields vs)
    (hn:["enumerate", "zip", "dict_itemiterator", "dict_reverseitemiterator", "odict_iterator", "itertools.zip_longest", "itertools.pairwise"].contains n=false) (hQ:Q () s):wpAny M A (letOwnedTupleGo tg (.ref it) u) Q E s:=by
  unfold letOwnedTupleGo;cases tg<;>first
    |exact Lf hQ
    |(cases u<;>first
        |exact Lf hQ
        | (refine La (wpAny_load ho ?_)
           rw[hc, hd];show wpAny M A (if (["enumerate", "zip", "dict_itemiterator", "dict_reverseitemiterator", "odict_iterator", "itertools.zip_longest", "itertools.pairwise"].contains n&&vs[0]? == some (rawInt _))=true then _ else _) Q E s;rw[Lw (by intro h;rw[hn, Bool.false_and]at h;cases h)];exact Lf hQ))
def JI (K:PySem.W.Frag)(a:Addr):It:=
 ⟨λ i H=>∃ xs x,c8 K H a xs/\xs[i]?=some x,λ i H x H'=>H'=H/\∀ xs,c8 K H a xs->xs[i]?=some x,λ i H=>∃ xs,c8 K H a xs/\xs.length<=i⟩
def JJ (K:PySem.W.Frag)(a:Addr):It:=
 ⟨λ i H=>∃ xs x,iZ K H a xs/\xs[i]?=some x,λ i H x H'=>H'=H/\∀ xs,iZ K H a xs->xs[i]?=some x,λ i H=>∃ xs,iZ K H a xs/\xs.length<=i⟩
def Jm (lo:Int)(n:Nat):It:=⟨λ i _=>i<n,λ i H x H'=>H'=H/\x=.int (lo+i),λ i _=>n<=i⟩
def yU{K:PySem.W.Frag}(a it:Addr):Turn P w K tg (JI K a) [it] it (λ i h=>h.IsListIter it a i) where
 mem:=by simp
 obj:=λ i h st b hb=>by
  have e:b=it:=by simpa using hb
  subst e;obtain⟨o,e,c,d⟩:=st;exact⟨o,e,λ v z=>by rw[d]at z;cases z⟩
 keep:=λ i h h' st k=>st.at λ o e=>k it (by simp) o e
 item:=by
  intro X hP hw hK hc i pins s σ H E I hf st hg;subst hP hw hK;obtain⟨xs,x,hq,hx⟩:=hg;obtain⟨its,rv,p,hz⟩:=I.list hq;obtain⟨u,hu,ru⟩:=rv.get hx;obtain⟨f0,f1,f2,f3,f4,f5⟩:=hf it (by simp);refine wpAny_pyNext_list_item st p.isList (x:=u) (by simpa using hu) λ h' st' sb=>?_;have I1:Inv X pins σ H { s with heap:=h' }:=I.turned (t':=s.toks) (λ b o hb e=>(sb.2 b hb).trans e) f0 f1 f3 f4 f5;obtain⟨o,e,c,d⟩:=id st';exact⟨u,rfl,xr (s:={ s with heap:=h' }) e c d (by decide) ⟨x,H,I1,ru,⟨rfl,λ ys hy=>by rw[I.oT hy hq];exact hx⟩,st',λ b hb=>(hf b hb).1⟩⟩
 done:=by
  intro X hP hw hK hc i pins s σ H E I hf st hg;subst hP hw hK;obtain⟨xs,hq,hx⟩:=hg;obtain⟨its,rv,p,hz⟩:=I.list hq;obtain⟨f0,f1,f2,f3,f4,f5⟩:=hf it (by simp);have hl:=rv.length;exact wpAny_pyNext_list_end (I.ok.hd hc) st p.isList (by simp;omega) λ h' eb=>⟨rfl,I.turned (t':=s.toks) (λ b o hb e=>eb b o hb e) f0 f1 f3 f4 f5⟩
 self:=λ _ _ _ _ _ st h=>wpAny_pyIter_listiter st h
def vN{K:PySem.W.Frag}(a it:Addr):Turn P w K tg (JJ K a) [it] it (λ i h=>h.IsTupleIter it a i) where
 mem:=by simp
 obj:=λ i h st b hb=>by
  have e:b=it:=by simpa using hb
  subst e;obtain⟨o,e,c,d⟩:=st;exact⟨o,e,λ v z=>by rw[d]at z;cases z⟩
 keep:=λ i h h' st k=>st.at λ o e=>k it (by simp) o e
 item:=by
  intro X hP hw hK hc i pins s σ H E I hf st hg;subst hP hw hK;obtain⟨xs,x,hq,hx⟩:=hg;obtain⟨its,rv,p,hz⟩:=I.tuple hq;obtain⟨u,hu,ru⟩:=rv.get hx;obtain⟨f0,f1,f2,f3,f4,f5⟩:=hf it (by simp);refine wpAny_pyNext_tuple_item st (show s.heap.IsTuple a its.toArray from p) (x:=u) (by simpa using hu) λ h' st' sb=>?_;have I1:Inv X pins σ H { s with heap:=h' }:=I.turned (t':=s.toks) (λ b o hb e=>(sb.2 b hb).trans e) f0 f1 f3 f4 f5;obtain⟨o,e,c,d⟩:=id st';exact⟨u,rfl,xr (s:={ s with heap:=h' }) e c d (by decide) ⟨x,H,I1,ru,⟨rfl,λ ys hy=>by rw[I.mO hy hq];exact hx⟩,st',λ b hb=>(hf b hb).1⟩⟩
 done:=by
  intro X hP hw hK hc i pins s σ H E I hf st hg;subst hP hw hK;obtain⟨xs,hq,hx⟩:=hg;obtain⟨its,rv,p,hz⟩:=I.tuple hq;obtain⟨f0,f1,f2,f3,f4,f5⟩:=hf it (by simp);have hl:=rv.length;exact wpAny_pyNext_tuple_end (I.ok.hd hc) st (show s.heap.IsTuple a its.toArray from p) (by simp;omega) λ h' eb=>⟨rfl,I.turned (t':=s.toks) (λ b o hb e=>eb b o hb e) f0 f1 f3 f4 f5⟩
 self:=λ _ _ _ _ _ st h=>wpAny_pyIter_tupleiter st h
def vP{K:PySem.W.Frag}(it:Addr)(lo:Int)(n:Nat):Turn P w K tg (Jm lo n) [it] it (λ i h=>IsRangeIter h it (lo+(i:Nat)*1) ((n:Int)-(i:Nat)) 1) where
 mem:=by simp
 obj:=λ i h st b hb=>by
  have e:b=it:=by simpa using hb
  subst e;exact⟨_,st,λ v z=>by
   have z':Data.fields _=Data.cell v:=z;cases z'⟩
 keep:=λ i h h' st k=>k it (by simp) _ st
 item:=by
  intro X hP hw hK hc i pins s σ H E I hf st hg;subst hP hw hK;obtain⟨f0,f1,f2,f3,f4,f5⟩:=hf it (by simp);have W:=Walks.range (prog:=X.prog) (w:=X.w) (I.ok.hd hc) it lo 1 n;refine W.item i s _ _ hg st λ v h' tk hv st' kk=>?_;obtain⟨t,rfl⟩:=hv;have I1:Inv X pins σ H { s with heap:=h',toks:=tk }:=I.turned (λ b o hb e=>kk b o (by simpa using hb) e) f0 f1 f3 f4 f5;refine⟨_,rfl,xr (s:={ s with heap:=h',toks:=tk }) (n:="range_iterator") st' rfl rfl (by decide) ⟨.int (lo+i),H,I1,⟨t,?_⟩,⟨rfl,rfl⟩,st',λ b hb=>(hf b hb).1⟩⟩;rw[Int.mul_one]
 done:=by
  intro X hP hw hK hc i pins s σ H E I hf st hg;subst hP hw hK;obtain⟨f0,f1,f2,f3,f4,f5⟩:=hf it (by simp);exact wpAny_pyNext_range_end (I.ok.hd hc) st (by have:n<=i:=hg;omega) λ h' eb=>⟨rfl,I.turned (t':=s.toks) (λ b o hb e=>eb b o hb e) f0 f1 f3 f4 f5⟩
 self:=λ _ _ _ _ _ st h=>wpAny_pyIter_rangeiter st h
section
def Ax{R:It->Hp->Prop}{lo hi:Int}{t u v:Tok}{tk:Nat}(I:Inv X pins σ H s)(h1 : -(2^62)<=lo)(h2:lo<2^62)(h3 : -(2^62)<=hi)(h4:hi<2^62)
  (q:R (Jm lo (hi-lo).toNat) H):wpAny (model X.prog X.w) X.A (pyIter (.ref s.heap.objs.size)) (KD X pins σ tg R) E { s with heap:=s.heap.push { cls:=.type "range",data:=.fields #[.int lo t,.int hi u,.int 1 v] },toks:=tk }:=by
 refine wpAny_pyIter_range (IsRange.new ..) (small_one h1 h2 h3 h4) ?_;have I1:Inv X pins σ H { s with heap:=s.heap.push { cls:=.type "range",data:=.fields #[.int lo t,.int hi u,.int 1 v] },toks:=tk }:=I.kept λ b o e=>Lb _ e;refine⟨(s.heap.push { cls:=.type "range",data:=.fields #[.int lo t,.int hi u,.int 1 v] }).objs.size,[(s.heap.push { cls:=.type "range",data:=.fields #[.int lo t,.int hi u,.int 1 v] }).objs.size],_,_,H,rfl,
  I1.kept (t':=tk) λ b o e=>Lb _ e,vP _ lo (hi-lo).toNat,?_,λ b hb=>?_,q⟩
 ·have e1:lo+((0:Nat):Int)*1=lo:=by simp
  have e2:(((hi-lo).toNat:Nat):Int)-((0:Nat):Int)=Builtin.Range.rangeSize lo hi 1:=by rw[rangeSize_one];split<;>omega
  show IsRangeIter _ _ (lo+((0:Nat):Int)*1) ((((hi-lo).toNat:Nat):Int)-((0:Nat):Int)) 1;rw[e1,e2];exact Lj _ rfl
 ·have e:b=(s.heap.push { cls:=.type "range",data:=.fields #[.int lo t,.int hi u,.int 1 v] }).objs.size:=by simpa using hb
  subst e;exact I1.qm (Ll _) (I1.hok.fresh (Ll _))
def EO (ta:TA):TI:=λ σ H R=>ta σ H λ vs H1=>∃ j:Int,vs=[.int j] /\ -(2^62)<=j/\j<2^62/\R (Jm 0 j.toNat) H1
def yO {a:Expr}{ta:TA}(hg:Gl X "range")(hm:X.mg "range" = none)(ha:PA X [a] ta)(hs:starEach [a] X.env=[(false,eval a X.env)]:=by rfl):PI X tg (.Call (.Name "range" p) [a] [] pos) (EO ta):=by
 intro pins s σ H R I h;refine Call_ (i7 I hg hm boot_range (Mz (dM (ha pos pins s σ H _ I h) λ us s1 hq5=>L2.ex5 hq5 λ vs H1 I1 r1 q1=>?_) hs rfl));obtain⟨j,e,q1,q2,q⟩:=q1;subst e;cases r1 with
 | cons r rr =>
  cases rr;obtain⟨t,rfl⟩:=r;exact call_range_1 (Ax I1 (by omega) (by omega) q1 q2 (by simpa using q))
def JF (wi:TI)(g:TG)(tb:TS):TS:=λ D σ H=>wi σ H λ J H1=>∃ W:Nat->Nat->St->Hp->Prop,(∃ m,W 0 m σ H1)/\∀ i m σ H,W i m σ H ->
 (J.stop i H/\D.nx σ H)\/(J.go i H/\∃ N:St->Hp->Prop,(∀ σ' H',N σ' H'->∃ m',m' < m/\W (i+1) m' σ' H')/\∀ x H',J.vM i H x H'->g x σ H' λ σ2 H2=>tb { D with nx:=N,ct:=N,bk:=D.nx } σ2 H2)
def oW (fp:List Addr)(h:Heap):List (Addr×Obj):=fp.filterMap λ b=>(h.get? b).map λ o=>(b,o)
def i8{o:Obj}(hb:b∈fp)(e:h.get? b=some o):(b,o)∈oW fp h:=List.mem_filterMap.mpr ⟨b,hb,by rw[e];rfl⟩
def yM{p:Addr×Obj}(hp:p∈oW fp h):p.1∈fp/\h.get? p.1=some p.2:=by
 obtain⟨b,hb,e⟩:=List.mem_filterMap.mp hp;cases q:h.get? b with
 |none=>rw[q]at e;cases e
 | some o =>
  rw[q]at e;have e':(b,o)=p:=L5 e;subst e';exact⟨hb,q⟩
def Inv.pinned(I:Inv X pins σ H s)(hf:∀ b∈fp,n5 X pins H b)(ho:∀ b∈fp,∃ o,s.heap.get? b=some o/\∀ v,o.data ≠ .cell v):Inv X (pins++oW fp s.heap) σ H s:=
 I.xo λ p hp=>(Ls.mp hp).elim (λ z=>I.pin p (Lx _ z)) λ z=>by
  obtain⟨hb,e⟩:=yM z;obtain⟨f0,f1,f2,_⟩:=hf p.1 hb;obtain⟨o,e',d⟩:=ho p.1 hb;rw[e]at e';cases e';exact⟨e,f0,f1,f2,d⟩
def Inv.lI {pl:List (Addr×Obj)}(I:Inv X (pins++pl) σ H s):Inv X pins σ H s:=I.xo λ p hp=>I.pin p (Lx _ (Lu _ hp))
def Au {iter:Expr}{wi:TI}{g:TG}{tb:TS}(hp:PassesOwn (model X.prog X.w) X.A X.env X.xe)(hc:X.calm=true)(hi:PI X tg iter wi)(hg:PG X tg g)(hb:kg X body tb)
  (hs:∀ x,foldedSetIterable iter X.env x=pure x:=by intro _;rfl):PS X (.For tg iter body [] pos) (JF wi g tb):=by
 intro pins s σ H D I h;refine wpAny_For (dM (hi pins s σ H _ I h) λ v s1 h1=>dM h1 λ itv s2 h2=>?_) hs;obtain⟨it,fp,tn,J,H2,e,I2,T,st2,f2,W,⟨m0,w0⟩,turn⟩:=h2;subst e;have stat:∀ {H':Hp},(∀ b∈fp,H' b=none)->∀ b∈fp,n5 X pins H' b:=λ hn b hb=>⟨hn b hb,(f2 b hb).2⟩;refine codeAny_forLoop_any (λ n s'=>∃ i σ' H',Inv X pins σ' H' s'/\tn i s'.heap/\(∀ b∈fp,H' b=none)/\W i n σ' H') ?_ m0 ⟨0,σ,H2,I2,st2,λ b hb=>(f2 b hb).1,w0⟩;rintro n s3 ⟨i,σ3,H3,I3,st3,fr3,w3⟩;rcases turn i n σ3 H3 w3 with ⟨stop,qn⟩|⟨go,N,hN,step⟩
 ·refine Nk hp (dM (T.done X rfl rfl rfl hc i pins s3 σ3 H3 X.xe I3 (stat fr3) st3 stop) λ r s4 ⟨hr,I4⟩=>?_);subst hr;exact Ov ⟨σ3,H3,I4,qn⟩
 ·refine Nk hp (dM (T.item X rfl rfl rfl hc i pins s3 σ3 H3 X.xe I3 (stat fr3) st3 go) λ r s4 ⟨u,hr,h4⟩=>?_);subst hr;refine Nk hp (dM h4 λ _ s5 ⟨x,H5,I5,r5,y5,st5,fr5⟩=>?_);have I5':=I5.pinned (stat fr5) (T.obj _ _ st5);refine Nk hp (dM (hg _ s5 σ3 H5 x u _ I5' r5 (step x H5 y5)) λ _ s6 ⟨σ6,H6,I6,q6⟩=>?_);refine Nk hp (dM (hb _ s6 σ6 H6 _ I6 q6) λ f s7 q7=>?_);have again:∀ {σ7:St}{H7:Hp},Inv X (pins++oW fp s5.heap) σ7 H7 s7->N σ7 H7->∃ m,m<n/\∃ i σ' H',Inv X pins σ' H' s7/\tn i s7.heap/\(∀ b∈fp,H' b=none)/\W i m σ' H':=λ {σ7 H7} I7 n7=>by
   obtain⟨m',hm,w7⟩:=hN σ7 H7 n7;refine⟨m',hm,i+1,σ7,H7,I7.lI,T.keep _ _ _ st5 λ b hb o e=>(I7.pin (b,o) (Lx _ (Lx _ (i8 hb e)))).1,λ b hb=>?_,w7⟩;obtain⟨o,e,d⟩:=T.obj _ _ st5 b hb;exact(I7.pin (b,o) (Lx _ (Lx _ (i8 hb e)))).2.1
  cases f with
  |next=>obtain⟨σ7,H7,I7,n7⟩:=q7;exact again I7 n7|cont=>obtain⟨σ7,H7,I7,n7⟩:=q7;exact again I7 n7|brk=>obtain⟨σ7,H7,I7,q7⟩:=q7;exact⟨σ7,H7,I7.lI,q7⟩| ret v=>obtain⟨x7,σ7,H7,I7,r7,q7⟩:=q7;exact⟨x7,σ7,H7,I7.lI,r7,q7⟩
end
abbrev R2:=V->V->Hp->VK->Prop
def jG (X:Cx)(f:Value->Value->Sem Value)(r:R2):Prop:=
 ∀ (pins:List (Addr×Obj)) (s:Shared) (σ:St) (H:Hp) (x y:V) (v u:Value) (Q:VK),Inv X pins σ H s->RelV x v->RelV y u->r x y H Q ->
  wpAny (model X.prog X.w) X.A (f v u) (EP X pins σ Q) X.xe s
def JH (X:Cx)(f:Value->Sem Value)(r:V->Hp->VK->Prop):Prop:=
 ∀ (pins:List (Addr×Obj)) (s:Shared) (σ:St) (H:Hp) (x:V) (v:Value) (Q:VK),Inv X pins σ H s->RelV x v->r x H Q ->
  wpAny (model X.prog X.w) X.A (f v) (EP X pins σ Q) X.xe s
def d7 (X:Cx)(f:Value)(r:List V->Hp->VK->Prop):Prop:=
 ∀ (pins:List (Addr×Obj)) (s:Shared) (σ:St) (H:Hp) (xs:List V) (us:List Value) (Q:VK),Inv X pins σ H s->Vals xs us->r xs H Q ->
  wpAny (model X.prog X.w) X.A (call f us) (EP X pins σ Q) X.xe s
def JV (X:Cx)(r:V->Hp->(Bool->Hp->Prop)->Prop):Prop:=
 ∀ (pins:List (Addr×Obj)) (s:Shared) (σ:St) (H:Hp) (x:V) (v:Value) (Q:Bool->Hp->Prop),Inv X pins σ H s->RelV x v->r x H Q ->
  wpAny (model X.prog X.w) X.A (truthy v) (TP X pins σ Q) X.xe s
def JQ (r:R2)(ta tb:TE):TE:=λ σ H Q=>ta σ H λ x H1=>tb σ H1 λ y H2=>r x y H2 Q
def KH (r:V->Hp->VK->Prop)(ta:TE):TE:=λ σ H Q=>ta σ H λ x H1=>r x H1 Q
def rI (C:Int->Int->Prop)(g:Int->Int->V):R2:=λ x y H Q=>∃ i j,x=.int i/\y=.int j/\C i j/\Q (g i j) H
def Ak (g:Int->Int->V):R2:=λ x y H Q=>∃ i j,x=.int i/\y=.int j/\Q (g i j) H
def rU (g:Int->V):V->Hp->VK->Prop:=λ x H Q=>∃ i,x=.int i/\Q (g i) H
section
variable{a b:Expr}{tc:TE}
def HJ (ha:PE X a ta)(hb:PE X b tb){R:V->V->Hp->Prop}(I:Inv X pins σ H s)
  (h:ta σ H λ x H1=>tb σ H1 λ y H2=>R x y H2){f:Value->Value->Sem Value}
  (hf:∀ v u s2 x y H2,Inv X pins σ H2 s2->RelV x v->RelV y u->R x y H2->wpAny (model X.prog X.w) X.A (f v u) Q X.xe s2) :
  wpAny (model X.prog X.w) X.A (eval a X.env) (λ v s₁=>wpAny (model X.prog X.w) X.A (eval b X.env) (λ u s₂=>wpAny (model X.prog X.w) X.A (f v u) Q X.xe s₂) X.xe s₁) X.xe s:=by
 refine dM (ha pins s σ H _ I h) λ v s1 hq5=>L2.ex5 hq5 λ x H1 I1 r1 q1=>?_;refine dM (hb pins s1 σ H1 _ I1 q1) λ u s2 hq5=>L2.ex5 hq5 λ y H2 I2 r2 q2=>?_;exact hf v u s2 x y H2 I2 r1 r2 q2
def HB {op:Operator}{r:R2}(ho:jG X (binaryOp op) r)(ha:PE X a ta)(hb:PE X b tb):PE X (.BinOp a op b pos) (JQ r ta tb):=by
 intro pins s σ H Q I h;exact wpAny_BinOp (HJ ha hb I h λ v u s2 x y H2 I2 rx ry q=>ho pins s2 σ H2 x y v u Q I2 rx ry q)
def ER {op:UnaryOp}{r:V->Hp->VK->Prop}(ho:JH X (unaryOp op) r)(ha:PE X a ta):PE X (.UnaryOp op a pos) (KH r ta):=by
 intro pins s σ H Q I h;exact UnaryOp_ (dM (ha pins s σ H _ I h) λ v s1 hq5=>L2.ex5 hq5 λ x H1 I1 r1 q1=>ho pins s1 σ H1 x v Q I1 r1 q1)
def HC {f:Value->Value->Sem Value}{C:Int->Int->Prop}{g:Int->Int->Int}
  (rule:∀ (i j:Int) (t u:Tok) (s:Shared) (Q:Value->Shared->Prop) (E:Value->Shared->Prop),C i j->Q (.int (g i j) s.toks) { s with toks:=s.toks+1 }->wpAny (model X.prog X.w) X.A (f (.int i t) (.int j u)) Q E s) :
  jG X f (rI C λ i j=>.int (g i j)):=by
 intro pins s σ H x y v u Q I rx ry h;obtain⟨i,j,rfl,rfl,hc,q⟩:=h;obtain⟨t,rfl⟩:=rx;obtain⟨t',rfl⟩:=ry;exact rule i j t t' s _ _ hc ⟨.int (g i j),H,I.tok _,⟨_,rfl⟩,q⟩
def HA {f:Value->Value->Sem Value}{g:Int->Int->Int}
  (rule:∀ (i j:Int) (t u:Tok) (s:Shared) (Q:Value->Shared->Prop) (E:Value->Shared->Prop),Q (.int (g i j) s.toks) { s with toks:=s.toks+1 }->wpAny (model X.prog X.w) X.A (f (.int i t) (.int j u)) Q E s) :
  jG X f (Ak λ i j=>.int (g i j)):=by
 intro pins s σ H x y v u Q I rx ry h;obtain⟨i,j,rfl,rfl,q⟩:=h;obtain⟨t,rfl⟩:=rx;obtain⟨t',rfl⟩:=ry;exact rule i j t t' s _ _ ⟨.int (g i j),H,I.tok _,⟨_,rfl⟩,q⟩
def HR {f:Value->Value->Sem Value}{g:Int->Int->Bool}
  (rule:∀ (i j:Int) (t u:Tok) (s:Shared) (Q:Value->Shared->Prop) (E:Value->Shared->Prop),Q (.bool (g i j)) s->wpAny (model X.prog X.w) X.A (f (.int i t) (.int j u)) Q E s) :
  jG X f (Ak λ i j=>.bl (g i j)):=by
 intro pins s σ H x y v u Q I rx ry h;obtain⟨i,j,rfl,rfl,q⟩:=h;obtain⟨t,rfl⟩:=rx;obtain⟨t',rfl⟩:=ry;exact rule i j t t' s _ _ ⟨.bl (g i j),H,I,rfl,q⟩
def ir (i j:Int):Prop:=0<j/\j<1073741824
def iF (i j:Int):Prop:=0<=j/\j<=1000000/\i.natAbs<2^64
def Ar (i j:Int):Prop:=(-(2^64)<i/\i<2^64)\/(-(2^64)<j/\j<2^64)
def Ar.ok {i j:Int}(h:Ar i j):IntMulOk i j:=by
 rcases h with ⟨h1,h2⟩|⟨h1,h2⟩
 ·exact .of_left (intBits_le_64 h1 h2)
 ·exact .of_right (intBits_le_64 h1 h2)
def vO (k:Nat):(0:Int)<=2^k:=by
 rw[two_pow_cast];exact Int.natCast_nonneg _
def FQ:jG X (binaryOp .Add) (Ak λ i j=>.int (i+j)):=HA λ _ _ _ _ _ _ _ q=>add_int q
def vJ:jG X (binaryOp .Sub) (Ak λ i j=>.int (i-j)):=HA λ _ _ _ _ _ _ _ q=>sub_int q
def bY:jG X (binaryOp .FloorDiv) (rI ir λ i j=>.int (i/j)):=HC λ i j _ _ _ _ _ hc q=>by
 have h1:(0:Int)<j:=hc.1;have h2:j<1073741824:=hc.2;exact floordiv_int (by omega) (by rw[OI i (by omega)];exact q) (.inl (PyProof.noPylong_small (by omega)))
def bj:jG X (binaryOp .Mod) (rI (λ _ j=>0<j) λ i j=>.int (i%j)):=HC λ i j _ _ _ _ _ hc q=>by
 have h1:(0:Int)<j:=hc;exact mod_int' (by omega) (by rw[Int.fmod_eq_emod_of_nonneg i (by omega)];exact q)
def rX:jG X (binaryOp .Pow) (rI iF λ i j=>.int (i^j.toNat)):=HC λ _ _ _ _ _ _ _ hc q=>pow_int_small hc.1 hc.2.1 hc.2.2 q
def FT:jG X (binaryOp .RShift) (rI (λ _ j=>0<=j) λ i j=>.int (i/2^j.toNat)):=HC λ i j _ _ _ _ _ hc q=>
 rshift_int hc (by rw[OI i (vO _)];exact q)
def K1 {f:Value->Sem Value}{g:Int->Int}
  (rule:∀ (i:Int) (t:Tok) (s:Shared) (Q:Value->Shared->Prop) (E:Value->Shared->Prop),Q (.int (g i) s.toks) { s with toks:=s.toks+1 }->wpAny (model X.prog X.w) X.A (f (.int i t)) Q E s) :
  JH X f (rU λ i=>.int (g i)):=by
 intro pins s σ H x v Q I rx h;obtain⟨i,rfl,q⟩:=h;obtain⟨t,rfl⟩:=rx;exact rule i t s _ _ ⟨.int (g i),H,I.tok _,⟨_,rfl⟩,q⟩
def Aq:JH X (unaryOp .USub) (rU λ i=>.int (-i)):=K1 λ _ _ _ _ _ q=>neg_int q
end
def FY:V->V->Bool
 |.bg,.bg=>true|.bg,.int _=>true|.int _,.bg=>true|.bg,.bl _=>true|.bl _,.bg=>true|.bg,.str _=>true|.str _,.bg=>true
 |.int _,.int _=>true|.bl _,.bl _=>true|.str _,.str _=>true|.yL _,.yL _=>true
 |.int _,.str _=>true|.str _,.int _=>true|.bl _,.str _=>true|.str _,.bl _=>true
 |_,_=>false
def KG:R2:=λ x y H Q=>FY x y=true/\Q (.bl (decide (x=y))) H
def KC:R2:=λ x y H Q=>FY x y=true/\Q (.bl (!decide (x=y))) H
def xj {i j:Int}:decide (V.int i=V.int j)=(i == j):=by
 rw[Nl];simp
def Av {i j:Bool}:decide (V.bl i=V.bl j)=(i == j):=by
 rw[Nl];simp
def xm {i j:Str}:decide (V.str i=V.str j)=(i == j):=by
 rw[Nl];simp
def xu {i j:Array UInt8}:decide (V.yL i=V.yL j)=(i.toList == j.toList):=by
 rw[Nl];cases i;cases j;simp
section
variable{a b:Expr}{tc:TE}
def bz{Q:VK}{k k':Bool}(I:Inv X pins σ H s)(q:Q (.bl k) H)(e:k=k'):EP X pins σ Q (.bool k') s:=by
 subst e;exact⟨.bl k,H,I,rfl,q⟩
def fu:jG X (compareOp .Eq) KG:=by
 intro pins s σ H x y v u Q I rx ry h;obtain⟨hs,q⟩:=h;cases x with
 | bg =>
  cases rx;cases y with
  |bg=>cases ry;exact PySem.EqNone.eq_none_none (bz I q (by simp))|bl j=>cases ry;exact PySem.EqNone.eq_none_bool (bz I q (by simp))|int j=>obtain⟨t',rfl⟩:=ry;exact PySem.EqNone.eq_none_int (bz I q (by simp))|str j=>obtain⟨t',rfl⟩:=ry;exact PySem.EqNone.eq_none_str (bz I q (by simp))|_=>exact absurd (show false=true from hs) Li
 | bl i =>
  cases rx;cases y with
  |bg=>cases ry;exact PySem.EqNone.eq_bool_none (bz I q (by simp))|bl j=>cases ry;exact eq_bool (bz I q Av)|str j=>obtain⟨t',rfl⟩:=ry;exact PySem.EqMixed.eq_bool_str (bz I q (by simp))|_=>exact absurd (show false=true from hs) Li
 | int i =>
  obtain⟨t,rfl⟩:=rx;cases y with
  |bg=>cases ry;exact PySem.EqNone.eq_int_none (bz I q (by simp))|int j=>obtain⟨t',rfl⟩:=ry;exact eq_int (bz I q xj)|str j=>obtain⟨t',rfl⟩:=ry;exact PySem.EqMixed.eq_int_str (bz I q (by simp))|_=>exact absurd (show false=true from hs) Li
 | str i =>
  obtain⟨t,rfl⟩:=rx;cases y with
  |bg=>cases ry;exact PySem.EqNone.eq_str_none (bz I q (by simp))|bl j=>cases ry;exact PySem.EqMixed.eq_str_bool (bz I q (by simp))|int j=>obtain⟨t',rfl⟩:=ry;exact PySem.EqMixed.eq_str_int (bz I q (by simp))|str j=>obtain⟨t',rfl⟩:=ry;exact eq_str (bz I q xm)|_=>exact absurd (show false=true from hs) Li
 | yL i =>
  obtain⟨t,rfl⟩:=rx;cases y with
  |yL j=>obtain⟨t',rfl⟩:=ry;exact PySem.W.eq_bytes (bz I q xu)|_=>exact absurd (show false=true from hs) Li
 |_=>cases y<;>exact absurd (show false=true from hs) Li
def uv:jG X (compareOp .NotEq) KC:=by
 intro pins s σ H x y v u Q I rx ry h;obtain⟨hs,q⟩:=h;cases x with
 | bg =>
  cases rx;cases y with
  |bg=>cases ry;exact PySem.EqNone.ne_none_none (bz I q (by simp))|bl j=>cases ry;exact PySem.EqNone.ne_none_bool (bz I q (by simp))|int j=>obtain⟨t',rfl⟩:=ry;exact PySem.EqNone.ne_none_int (bz I q (by simp))|str j=>obtain⟨t',rfl⟩:=ry;exact PySem.EqNone.ne_none_str (bz I q (by simp))|_=>exact absurd (show false=true from hs) Li
 | bl i =>
  cases rx;cases y with
  |bg=>cases ry;exact PySem.EqNone.ne_bool_none (bz I q (by simp))|bl j=>cases ry;exact ne_bool (bz I q (MG not Av))|str j=>obtain⟨t',rfl⟩:=ry;exact PySem.EqMixed.ne_bool_str (bz I q (by simp))|_=>exact absurd (show false=true from hs) Li
 | int i =>
  obtain⟨t,rfl⟩:=rx;cases y with
  |bg=>cases ry;exact PySem.EqNone.ne_int_none (bz I q (by simp))|int j=>obtain⟨t',rfl⟩:=ry;exact ne_int (bz I q (MG not xj))|str j=>obtain⟨t',rfl⟩:=ry;exact PySem.EqMixed.ne_int_str (bz I q (by simp))|_=>exact absurd (show false=true from hs) Li
 | str i =>
  obtain⟨t,rfl⟩:=rx;cases y with
  |bg=>cases ry;exact PySem.EqNone.ne_str_none (bz I q (by simp))|bl j=>cases ry;exact PySem.EqMixed.ne_str_bool (bz I q (by simp))|int j=>obtain⟨t',rfl⟩:=ry;exact PySem.EqMixed.ne_str_int (bz I q (by simp))|str j=>obtain⟨t',rfl⟩:=ry;exact ne_str (bz I q (MG not xm))|_=>exact absurd (show false=true from hs) Li
 | yL i =>
  obtain⟨t,rfl⟩:=rx;cases y with
  |yL j=>obtain⟨t',rfl⟩:=ry;exact PySem.W.ne_bytes (bz I q (MG not xu))|_=>exact absurd (show false=true from hs) Li
 |_=>cases y<;>exact absurd (show false=true from hs) Li
def ES:jG X (compareOp .Lt) (Ak λ i j=>.bl (decide (i<j))):=HR λ _ _ _ _ _ _ _ q=>lt_int q
def ET:jG X (compareOp .Gt) (Ak λ i j=>.bl (decide (j<i))):=HR λ _ _ _ _ _ _ _ q=>gt_int q
def F1:jG X (compareOp .Is) (λ x y H Q=>y=.bg/\Q (.bl (decide (x=.bg))) H):=by
 intro pins s σ H x y v u Q I rx ry h;obtain⟨rfl,q⟩:=h;cases ry;refine is_none_gen (bz I q ?_);cases x<;>first
  |(cases rx;rfl)
  |(obtain⟨t,rfl⟩:=rx;rfl)
def rW:jG X (compareOp .IsNot) (λ x y H Q=>y=.bg/\Q (.bl (!decide (x=.bg))) H):=by
 intro pins s σ H x y v u Q I rx ry h;obtain⟨rfl,q⟩:=h;cases ry;refine isnot_none_gen (bz I q ?_);cases x<;>first
  |(cases rx;rfl)
  |(obtain⟨t,rfl⟩:=rx;rfl)
def mP (b:Expr){op:CmpOp}(h:op ≠ .In:=by decide)(h2:op ≠ .NotIn:=by decide):behindInMarks op b=false:=by
 have e1:(op == CmpOp.In)=false:=by cases op<;>first|rfl|exact absurd rfl h
 have e2:(op == CmpOp.NotIn)=false:=by cases op<;>first|rfl|exact absurd rfl h2
 cases b<;>simp[behindInMarks,e1,e2]
def HF (t:TE):TT:=λ σ H Q=>t σ H λ x H'=>∃ k,x=.bl k/\Q k H'
def Df {op:CmpOp}{r:R2}(ho:jG X (compareOp op) r)(ha:PE X a ta)(hb:PE X b tb)(hm:behindInMarks op b=false):PT X (.Compare a [op] [b] pos) (HF (JQ r ta tb)):=by
 intro pins s σ H Q I h;refine wpAny_isTrue_Compare1 (dM (ha pins s σ H _ I h) λ v s1 hq5=>L2.ex5 hq5 λ x H1 I1 r1 q1=>dM (hb pins s1 σ H1 _ I1 q1) λ u s2 hq5=>L2.ex5 hq5 λ y H2 I2 r2 q2=>
  dM (ho pins s2 σ H2 x y v u _ I2 r1 r2 q2) λ c s3 ⟨z,H3,I3,r3,k,e,q3⟩=>?_) hm
 subst e;cases r3;exact NL ⟨H3,I3,q3⟩
def HL (K:PySem.W.Frag)(x:V)(H:Hp)(k:Bool):Prop:=
 match x with
 |.bg=>k=false
 |.bl b=>k=b
 |.int i=>k=(i != 0)
 |.str y=>y.length<=sizeLine/\k=((y.length:Int) != 0)
 |.yL y=>y.size<=sizeLine/\k=((y.size:Int) != 0)
 |.ref p=>(∃ xs,c8 K H p xs/\k = !xs.isEmpty)\/(∃ xs,iZ K H p xs/\k = !xs.isEmpty)\/∃ kvs ep,H p=some (.dK kvs ep)/\k = !kvs.isEmpty
 |_=>False
def vK {κ:Type}{kvs:List (κ×V)}{vs:List (κ×Value)}(r:KV kvs vs):(!vs.isEmpty) = !kvs.isEmpty:=by
 cases r<;>rfl
def oS{its:List Value}(r:Vals xs its):(!its.toArray.isEmpty) = !xs.isEmpty:=by
 cases r<;>simp
def mR:(sizeLine:Nat)<2^63:=by rw[Ma];decide
def FL:JV X (λ x H Q=>∃ k,HL X.K x H k/\Q k H):=by
 intro pins s σ H x v Q I rx h;obtain⟨k,e,q⟩:=h;have hl:=mR;have hs:sizeLine=16777216:=Ma;cases x with
 | bg =>
  cases rx;have e':k=false:=e;subst e';exact truthy_none ⟨H,I,q⟩
 | bl b =>
  cases rx;have e':k=b:=e;subst e';exact NL ⟨H,I,q⟩
 | int i =>
  obtain⟨t,rfl⟩:=rx;have e':k=(i != 0):=e;subst e';exact PySem.P.truthy_int ⟨H,I,q⟩
 | str y =>
  obtain⟨t,rfl⟩:=rx;obtain⟨hy,e'⟩:y.length<=sizeLine/\k=((y.length:Int) != 0):=e;subst e';exact PySem.P.truthy_str (by omega) ⟨H,I.tok _,q⟩
 | yL y =>
  obtain⟨t,rfl⟩:=rx;obtain⟨hy,e'⟩:y.size<=sizeLine/\k=((y.size:Int) != 0):=e;subst e';exact PySem.W.truthy_bytes (by omega) ⟨H,I.tok _,q⟩
 | ref p =>
  cases rx;have e':(∃ xs,c8 X.K H p xs/\k = !xs.isEmpty)\/(∃ xs,iZ X.K H p xs/\k = !xs.isEmpty)\/∃ kvs ep,H p=some (.dK kvs ep)/\k = !kvs.isEmpty:=e;rcases e' with ⟨xs,hx,e'⟩|⟨xs,hx,e'⟩|⟨kvs,ep,hx,e'⟩
  ·subst e';obtain⟨its,r,pl,hz⟩:=I.list hx;have hlen:=r.length;exact wpAny_truthy_list pl.isList (by simp only[Lm];omega) ⟨H,I.tok _,by rw[oS r];exact q⟩
  ·subst e';obtain⟨its,r,pl,hz⟩:=I.tuple hx;have hlen:=r.length;exact truthy_tuple pl (by simp only[Lm];omega) ⟨H,I.tok _,by rw[oS r];exact q⟩
  ·subst e';obtain⟨hz,hS,vs,r,m⟩:kvs.length<=sizeLine/\(p == sysModules)=false/\∃ vs,KV kvs vs/\s.heap.DictAt (bN X.prog X.w) p vs ep:=I.hok p _ hx;have hlen:kvs.length=vs.length:=MR r;exact wpAny_truthy_dict hS m.dictOf (by omega) ⟨H,I.tok _,by rw[vK r];exact q⟩
 |_=>exact(show False from e).elim
def As (ha:PE X a ta)(he:∀ whole,isTrue a X.env whole=(do let v <-whole;standAt a.pos;holding [v] (truthy v))) :
  PT X a (λ σ H Q=>ta σ H λ x H'=>∃ k,HL X.K x H' k/\Q k H'):=by
 intro pins s σ H Q I h;exact isTrue_plain (dM (ha pins s σ H _ I h) λ v s1 hq5=>L2.ex5 hq5 λ x H1 I1 r1 q1=>FL pins s1 σ H1 x v Q I1 r1 q1) (he _)
def vL:jG X (binaryOp .Add) (λ x y H Q=>∃ i j,x=.str i/\y=.str j/\i.length+j.length<=sizeLine/\Q (.str (i++j)) H):=by
 intro pins s σ H x y v u Q I rx ry h;obtain⟨i,j,rfl,rfl,hz,q⟩:=h;obtain⟨t,rfl⟩:=rx;obtain⟨t',rfl⟩:=ry;exact add_str (λ t' tk=>⟨.str (i++j),H,I.tok _,⟨_,rfl⟩,q⟩) hz
def vals1 {x:V}(r:Vals [x] us):∃ u,us=[u]/\RelV x u:=by
 cases r with
 |cons r1 r2=>cases r2;exact⟨_,rfl,r1⟩
def vals2 {x y:V}(r:Vals [x,y] us):∃ u w',us=[u,w']/\RelV x u/\RelV y w':=by
 cases r with
 | cons r1 r2 =>
  cases r2 with
  |cons r3 r4=>cases r4;exact⟨_,_,rfl,r1,r3⟩
def mQ (hc:X.calm=true):d7 X (.builtin "max") (λ xs H Q=>∃ i j,xs=[.int i,.int j]/\Q (.int (if j>i then j else i)) H):=by
 intro pins s σ H xs us Q I r h;obtain⟨i,j,rfl,q⟩:=h;obtain⟨u,w',rfl,⟨t,rfl⟩,⟨t',rfl⟩⟩:=vals2 r;refine max_two_ints (I.ok.hd hc) λ h' tk k=>⟨_,H,I.kept k,?_,q⟩;by_cases hj:j>i
 ·rw[Lr hj,Lr hj];exact⟨_,rfl⟩
 ·rw[Lw hj,Lw hj];exact⟨_,rfl⟩
def qN (hc:X.calm=true):d7 X (.builtin "min") (λ xs H Q=>∃ i j,xs=[.int i,.int j]/\Q (.int (if j<i then j else i)) H):=by
 intro pins s σ H xs us Q I r h;obtain⟨i,j,rfl,q⟩:=h;obtain⟨u,w',rfl,⟨t,rfl⟩,⟨t',rfl⟩⟩:=vals2 r;refine min_two_ints (I.ok.hd hc) λ h' tk k=>⟨_,H,I.kept k,?_,q⟩;by_cases hj:j<i
 ·rw[Lr hj,Lr hj];exact⟨_,rfl⟩
 ·rw[Lw hj,Lw hj];exact⟨_,rfl⟩
end
structure Fq (h:Heap)(x dx C:Addr)(mA:Str->Option Value):Prop where
 obj:h.get? x=some (PySem.W.instObj C dx)
 ns:h.Ns1 dx mA
 ne:dx≠x
def yN(n:h.Ns1 dx mA):∃ od,h.get? dx=some od/\∀ name,PySem.W.lookIn name od=some (mA name):=by
 obtain⟨o,es,ep,ho,hd,hk,_,hm⟩:=n;refine⟨o,ho,λ name=>?_⟩;have e:=hm name;unfold nsFind findBy at e;rw[<-Array.find?_toList]at e;unfold PySem.W.lookIn;rw[hd];dsimp only;split
 ·rename_i y q;rw[q]at e;exact MG some e
 ·rename_i q;rw[q]at e;have a:es.toList.any (·.refKey)=false:=by
   rw[N4];intro y hy;obtain⟨z,t,hkey⟩:=hk y (Array.mem_toList_iff.mp hy);simp[DictEntry.refKey,hkey]
  have a':¬ es.toList.any (·.refKey)=true:=by rw[a];exact Li
  rw[Lw a'];exact MG some e
def Fq.look{x:Addr}(I:Fq h x dx C mA):∃ od,PySem.W.InstAt h x (PySem.W.instObj C dx) C (some od)/\∀ name,PySem.W.lookIn name od=some (mA name):=
 let ⟨od,ho,hl⟩:=yN I.ns
 ⟨od,⟨I.obj,rfl,rfl,ho⟩,hl⟩
section
variable {prog:Program}{K:PySem.W.Frag}{x:Addr}{name:Str}{v:Value}
end
def n6.some_of{o:Option Value}(r:n6 (some v) o):∃ u,o=some u/\RelV v u:=by
 cases o with
 |none=>exact(show False from r).elim|some u=>exact⟨u,rfl,r⟩
section
variable{fs fs':List (Str×V)}
def Dd (hok:i6 P w H h)(e:H a=some (.ins C dx fs)):∃ mA,Fq h a dx C mA/\(∀ f,n6 (fs.lookup f) (mA f))/\PySem.Within mA (fs.map (·.1))/\fs.length<=1000/\H dx=some (.own a):=by
 obtain⟨d,z,ne,ob,mA,n,r,q⟩:=(show bQ P w H h a (.ins C dx fs) from hok a _ e);exact⟨mA,⟨ob,n,ne⟩,r,q,z,d⟩
end
structure JC (K:PySem.W.Frag)(C:Addr):Prop where
 pg:PySem.W.plainGet K C Str.empty=true
 hd:PySem.W.hasDictIn K C=true
 po:PySem.W.plainOver K C=true
 sa:PySem.W.findIn K (.ref C) "__setattr__" = some (some (.builtin "object.__setattr__"))
def JC.get {K:PySem.W.Frag}(c:JC K C)(f:Str):PySem.W.plainGet K C f=true:=c.pg
section
variable{fs:List (Str×V)}{f:Str}
end
section
variable{o value:Expr}{f:Str}{pos' tpos:Pos}{tv:TE}
end
section
variable{c:Value}{b:Bool}
inductive lH (K:PySem.W.Frag)(H:Hp):V->Value->Prop where
 |bg:lH K H .bg (.type "NoneType")
 |bl (x:Bool):lH K H (.bl x) (.type "bool")
 |int (i:Int):lH K H (.int i) (.type "int")
 |str (x:Str):lH K H (.str x) (.type "str")
 |Hn (x:UInt64):lH K H (.Hn x) (.type "float")
 |lst {a:Addr}{xs:List V} (e:H a=some (.lst xs)):lH K H (.ref a) (.type "list")
 |aq {a:Addr}{o:Obj}{xs:List V} (e:H a=some (.aq o (.lst xs))):lH K H (.ref a) (.type "list")
 |tup {a:Addr}{xs:List V} (e:H a=some (.tup xs)):lH K H (.ref a) (.type "tuple")
 |dK {a:Addr}{kvs:List (Key×V)}{ep:Nat} (e:H a=some (.dK kvs ep)):lH K H (.ref a) (.type "dict")
 |dT {a:Addr}{kvs:List (List Key×V)}{ep:Nat} (e:H a=some (.dT kvs ep)):lH K H (.ref a) (.type "dict")
 | ins {a C dx:Addr}{fs:List (Str×V)} (e:H a=some (.ins C dx fs)) (cl:JC K C) (ha:PySem.W.findIn K (.ref C) "__class__" = some (some (.builtin "object.__class__")))
   (hn:PySem.W.specialIn K (.builtin "object.__class__") "__get__" = some (some (.builtin "getset_descriptor.__get__"))) (htk:PySem.W.takesIn K (.builtin "object.__class__")=some true)
   (hm:PySem.W.mroIn K C (.type "object")=some true):lH K H (.ref a) (.ref C)
def yP {x:V}{t:Value}(I:Inv X pins σ H s)(rx:RelV x u)(ty:lH X.K H x t)(e:PySem.W.kitOne X.K t c=some b)(h:∀ tk,Q (.bool b) { s with toks:=tk }) :
  wpAny (model X.prog X.w) A (call (.builtin "isinstance") [u,c]) Q E s:=by
 cases ty with
 |bg=>cases (show u=Value.none from rx);exact Mm PySem.W.kitx_none I.rZ True.intro e (λ z=>nomatch z) h|bl y=>cases (show u=Value.bool y from rx);exact Mm PySem.W.kitx_bool I.rZ True.intro e (λ z=>nomatch z) h|int i=>obtain⟨t,q⟩:=(show ∃ t,u=Value.int i t from rx);cases q;exact Mm PySem.W.kitx_int I.rZ True.intro e (λ z=>nomatch z) h|str y=>obtain⟨t,q⟩:=(show ∃ t,u=Value.str y t from rx);cases q;exact Mm PySem.W.kitx_str I.rZ True.intro e (λ z=>nomatch z) h|Hn y=>obtain⟨t,q⟩:=(show ∃ t,u=Value.float y t from rx);cases q;exact Mm PySem.W.kitx_float I.rZ True.intro e (λ z=>nomatch z) h
 | @lst a xs ea =>
  cases (show u=Value.ref a from rx);obtain⟨_,_,n,_,h1⟩:=(show bQ X.prog X.w H s.heap a (.lst xs) from I.hok a _ ea);exact Mm OZ I.rZ ⟨_,h1,rfl⟩ e (λ z=>nomatch z) h
 | @aq a ob xs ea =>
  cases (show u=Value.ref a from rx);obtain⟨_,_,_,n,_,h1⟩:=(show bQ X.prog X.w H s.heap a (.aq ob (.lst xs)) from I.hok a _ ea);exact Mm OZ I.rZ ⟨_,h1,rfl⟩ e (λ z=>nomatch z) h
 | @tup a xs ea =>
  cases (show u=Value.ref a from rx);obtain⟨_,_,_,p⟩:=(show bQ X.prog X.w H s.heap a (.tup xs) from I.hok a _ ea);obtain⟨o,h1,h2,_⟩:=p.is;exact Mm PySem.W.kitx_tuple I.rZ ⟨o,h1,h2⟩ e (λ z=>nomatch z) h
 | @dK a kvs ep ea =>
  cases (show u=Value.ref a from rx);obtain⟨_,_,vs,_,p⟩:=(show bQ X.prog X.w H s.heap a (.dK kvs ep) from I.hok a _ ea);obtain⟨o,es,h1,h2,_⟩:=p;exact Mm PySem.W.kitx_dict I.rZ ⟨o,h1,h2.1⟩ e (λ z=>nomatch z) h
 | @dT a kvs ep ea =>
  cases (show u=Value.ref a from rx);obtain⟨_,_,xs,_,o,es,h1,h2,_⟩:=(show bQ X.prog X.w H s.heap a (.dT kvs ep) from I.hok a _ ea);exact Mm PySem.W.kitx_dict I.rZ ⟨o,h1,h2.1⟩ e (λ z=>nomatch z) h
 | @ins a C dx fs ea cl ha hn htk hm =>
  cases (show u=Value.ref a from rx);obtain⟨mA,O,_⟩:=Dd I.hok ea;obtain⟨od,J,_⟩:=O.look;exact Mm (PySem.W.kitx_own (cl.get _) cl.hd ha hn htk hm) I.rZ J e (λ z=>nomatch z) h
end
structure fY (k:Nat)(A:Around):Prop where
 hd:A.handled=none
 dp:A.depth+3*k+5<recursionLimit
 un:A.units+16*k+200<cLine
def fY.mono {j k:Nat}(r:fY k A)(h:j<=k):fY j A:=⟨r.hd,by have:=r.dp;omega,by have:=r.un;omega⟩
def fY.deeper {k:Nat}(r:fY (k+1) A)(env:Env):fY k (A.deeper env):=
 ⟨r.hd,by have:=r.dp;show A.depth+1+3*k+5<_;omega,by have:=r.un;show A.units+3+16*k+200<_;omega⟩
def fY.depth {k:Nat}(r:fY k A):A.depth<recursionLimit:=by have:=r.dp;omega
def fY.units {k:Nat}(r:fY k A):A.units+64<cLine:=by have:=r.un;omega
def ql:TA:=λ _ H Q=>Q [] H
def lJ (ta:TE)(tr:TA):TA:=λ σ H Q=>ta σ H λ x H1=>tr σ H1 λ xs H2=>Q (x::xs) H2
section
variable{t:TA}
def dJ:PA X [] ql:=λ _ _ _ _ H Q I h=>O0 ⟨[],H,I,.nil,h⟩
def cR (ha:PE X e te)(hr:PA X es t)(hs:starEach (e::es) X.env=(false,eval e X.env)::starEach es X.env:=by rfl):PA X (e::es) (lJ te t):=by
 intro pos pins s σ H Q I h;rw[hs];show wpAny _ _ (spliced ((false,eval e X.env)::backTo pos (starEach es X.env))) _ _ s;refine OJ (dM (ha pins s σ H _ I h) λ u s1 hq5=>L2.ex5 hq5 λ x H1 I1 r1 q1=>?_);exact dM (hr pos pins s1 σ H1 _ I1 q1) λ us s2 hq5=>L2.ex5 hq5 λ xs H2 I2 r2 q2=>⟨x::xs,H2,I2,.cons r1 r2,q2⟩
def JP (t:TA):TE:=λ σ H Q=>t σ H λ xs H1=>xs.length<=sizeLine/\∀ p,H1 p=none->Q (.ref p) (upd H1 p (.tup xs))
def De (t:TA):TE:=λ σ H Q=>t σ H λ xs H1=>xs.length<=sizeLine/\∀ p,H1 p=none->Q (.ref p) (upd H1 p (.lst xs))
def FI {x1}(h:PA X es t):PE X (.Tuple es x1 pos) (JP t):=by
 intro pins s σ H Q I hq;refine wpAny_Tuple_spliced (dM (h pos pins s σ H _ I hq) λ us s1 ⟨xs,H1,I1,r,z,q⟩=>⟨by rw[<-r.length];exact z,?_⟩);have hf:H1 s1.heap.objs.size=none:=I1.hok.fresh (Ll _);refine⟨.ref s1.heap.objs.size,upd H1 s1.heap.objs.size (.tup xs),I1.laid (t':=s1.toks) (λ b u e=>Lb _ e) (Ll _) ?_,rfl,q _ hf⟩;exact⟨z,us,r,⟨_,Lj _ rfl⟩⟩
def sd (h:PA X es t):PE X (.List es pos) (De t):=by
 intro pins s σ H Q I hq;refine wpAny_List_spliced (dM (h pos pins s σ H _ I hq) λ us s1 ⟨xs,H1,I1,r,z,q⟩=>⟨by rw[<-r.length];exact z,?_⟩);have hf:H1 s1.heap.objs.size=none:=I1.hok.fresh (Ll _);refine⟨.ref s1.heap.objs.size,upd H1 s1.heap.objs.size (.lst xs),I1.laid (t':=s1.toks) (λ b u e=>Lb _ e) (Ll _) ?_,rfl,q _ hf⟩;exact⟨z,us,0,r,Lj _ rfl⟩
end
abbrev Sp:=List V->Hp->VK->XK->Prop
variable {sp:Sp}
abbrev AB:=List Env->Hp->Shared->XK->Value->Shared->Prop
variable {CX:AB}
structure C6 (P:Program)(w:World)(K:PySem.W.Frag)(mg:Str->Option Value)(base:Heap)(A:Around)(outer:List Env)(s:Shared)(H:Hp):Prop where
 frames:A.frames=some outer
 mod:Mod K mg base
 bs:∀ b o,base.get? b=some o->s.heap.get? b=some o/\H b=none
 Dg:base.objs.size<=s.heap.objs.size
 nZ:s.heap.FunFrames base outer
 Ft:∀ b∈frs outer,H b=none
 hok:i6 P w H s.heap
 bare:AllBare s.gens
def CE (outer:List Env)(P:Program)(w:World)(H:Hp)(s:Shared)(Q:VK)(u:Value)(s':Shared):Prop:=
 ∃ v H',s'.os=s.os/\AllBare s'.gens/\Un (frs outer) [] H H' s.heap s'.heap/\i6 P w H' s'.heap/\RelV v u/\Q v H'
def CR (CX:AB)(outer:List Env)(P:Program)(w:World)(H:Hp)(s:Shared)(Q:VK)(E:XK)(r:Result)(s':Shared):Prop:=
 match r with
 |.ok (.ret u)=>CE outer P w H s Q u s'
 |.ok _=>False
 |.error e=>CX outer H s E e s'
structure oQ (P:Program)(w:World)(K:PySem.W.Frag)(mg:Str->Option Value)(base:Heap)(CX:AB)(k:Nat)(f:Addr)(fd:FuncData)(ps:List Str)(sp:Sp):Prop where
 len:∀ vs H Q E,sp vs H Q E->vs.length=ps.length
 run:∀ (A:Around) (outer:List Env) (s:Shared) (H:Hp) (args:Args) (us:List Value) (vs:List V) (Q:VK) (E:XK),fY k A->C6 P w K mg base A outer s H->BindsTo s fd args (ps.zip us)->Vals vs us->sp vs H Q E ->
  codeAny (model P w) A (.call (.ref f) args) (CR CX outer P w H s Q E) s
section
def Inv.JU (I:Inv X pins σ H s):C6 X.prog X.w X.K X.mg X.base X.A X.stack s H:=
 ⟨I.ok.frames,I.ok.mod,I.bs,MC I.ok.Dg I.sz,I.stack,I.xq,I.hok,I.bare⟩
def Inv.after {Q:VK}(I:Inv X pins σ H s)(h:CE X.stack X.prog X.w H s Q u s'):EP X pins σ Q u s':=by
 obtain⟨v,H',os,bare,un,hok,r,q⟩:=h;obtain⟨hh,g,d,t,os'⟩:=s';obtain rfl:os'=s.os:=os;exact⟨v,H',I.call (h':=hh) (g':=g) (d':=d) (t':=t) (ch:=[]) un hok bare (λ b z=>absurd z (by simp)),r,q⟩
end
def EV (sp:Sp)(dvs:List V)(E:XK)(t:TA):TE:=λ σ H Q=>t σ H λ vs H1=>sp (vs++dvs) H1 Q E
def Binds (K:PySem.W.Frag)(fd:FuncData)(ps:List Str)(ds:List Value):Prop:=
 ∀ (s:Shared) (us:List Value),K.In s.heap->(us++ds).length=ps.length->BindsTo s fd ⟨us,[]⟩ (ps.zip (us++ds))
def Binds.all {K:PySem.W.Frag}(h:∀ us:List Value,us.length=ps.length->bindArgs fd ⟨us,[]⟩=pure (ps.zip us)):Binds K fd ps []:=λ s us _ hl=>by
 rw[LZ]at hl ⊢;exact .of_eq (h us hl)
def Passes (CX:AB)(X:Cx)(E:XK):Prop:=∀ (pins:List (Addr×Obj)) (σ:St) (H:Hp) (s:Shared) (e:Value) (s':Shared),Inv X pins σ H s->CX X.stack H s E e s'->X.xe e s'
section
variable{k:Nat}{dvs:List V}{ds:List Value}{E:XK}{m:Str}{apos:Pos}{o:Expr}{t:TA}
def FG{Q:VK}{vs:List V}(F:oQ X.prog X.w X.K X.mg X.base CX k f fd ps sp)(hr:fY k X.A)(hb:Binds X.K fd ps ds)(hd:Vals dvs ds)(hx:Passes CX X E)
  (I:Inv X pins σ H s) (r:Vals vs us) (h:sp (vs++dvs) H Q E):wpAny (model X.prog X.w) X.A (call (.ref f) us) (EP X pins σ Q) X.xe s:=by
 have r2:Vals (vs++dvs) (us++ds):=r.append hd;have hl:(us++ds).length=ps.length:=by rw[<-r2.length];exact F.len _ _ _ _ h
 refine wpAny_call (OG (F.run X.A X.stack s H ⟨us,[]⟩ (us++ds) (vs++dvs) Q E hr I.JU (hb s us I.rZ hl) r2 h) λ r s' hq=>?_);cases r with
 |error e=>exact hx pins σ H s e s' I hq
 | ok fl =>
  cases fl with
  |ret u=>exact I.after hq|next=>exact False.elim hq|brk=>exact False.elim hq|cont=>exact False.elim hq
def Dh (F:oQ X.prog X.w X.K X.mg X.base CX k f fd ps sp)(hr:fY k X.A)(hg:Gl X x)(hm:X.mg x=some (.ref f))(hk:PySem.W.keepIn X.K (.ref f)=true)(hb:Binds X.K fd ps ds)(hd:Vals dvs ds)(hx:Passes CX X E)
  (ha:PA X (e::es) t) (hdb:(x == ("__debug__" : Str))=false:=by decide) (he:starEach (e::es) X.env=(false,eval e X.env)::starEach es X.env:=by rfl) (hpl:(backTo pos (starEach es X.env)).any (·.1)=false:=by rfl) :
  PE X (.Call (.Name x p) (e::es) [] pos) (EV sp dvs E t):=by
 intro pins s σ H Q I h;refine MF (Dj I hg hm ?_ hdb);refine PySem.W.callWith_K (h₀:=X.base) I.ok.mod.JL hk (dM (ha pos pins s σ H _ I h) λ us s1 hq5=>L2.ex5 hq5 λ vs H1 I1 r q=>⟨I1.rZ,?_⟩) he hpl;exact FG F hr hb hd hx I1 r q
end
section
variable{k:Nat}{ks:List Str}{E:XK}{m:Str}{apos kpos:Pos}{o:Expr}{kws:List Keyword}{t tk:TA}{nm:Option Str}
variable {g:List Value->List Value->List Value}{gV:List V->List V->List V}
end
structure aW (N P:List Str)(sc:Scope):Prop where
 kind:sc.kind=.function
 co:sc.isCoroutine=false
 gen:sc.isGenerator=false
 nd:N.Nodup
 pre:N.take P.length=P
 par:∀ x∈P,sc.names.lookup x=some .local\/sc.names.lookup x=some .cell
 Fy:∀ y∈sc.names,y.2 ≠ .free
def qI {kindOf:Str->Option NameKind}{x:Str}:∀ {binds:List (Str×Value)}{m:Str->Option Value},(∀ v,(x,v)∉binds)->bindL kindOf binds m x=m x
 |[],_,_=>rfl
 | (n,v)::r,m,h=>by
  unfold bindL;rw[qI λ w hw=>h w (Ld _ hw)];split
  ·have:x≠n:=by rintro rfl;exact h v Le
   simp[this]
  ·rfl
def qL {kindOf:Str->Option NameKind}{x:Str}:∀ {binds:List (Str×Value)}{m:Str->Option Value},(∀ v,(x,v)∉binds)->bindC kindOf binds m x=m x
 |[],_,_=>rfl
 | (n,v)::r,m,h=>by
  unfold bindC;rw[qL λ w hw=>h w (Ld _ hw)];split
  ·rfl
  ·have:x≠n:=by rintro rfl;exact h v Le
   simp[this]
def qK {kindOf:Str->Option NameKind}{x:Str}{v:Value}:∀ {P:List Str}{vs:List Value}{i:Nat}{m:Str->Option Value},P.Nodup->P[i]?=some x->vs[i]?=some v->kindOf x=some .local ->
  bindL kindOf (P.zip vs) m x=some v
 |[],_,_,_,_,h,_,_=>by simp at h
 |_::_,[],_,_,_,_,h,_=>by simp at h
 | p::P,w::vs,0,m,nd,h1,h2,hk=>by
  simp at h1 h2;subst h1;subst h2;show bindL kindOf ((p,w)::P.zip vs) m p=_;unfold bindL;rw[qI λ v hv=>(Lv.mp nd).1 (Pk hv).1,Lr hk];simp
 | p::P,w::vs,i+1,m,nd,h1,h2,hk=>by
  show bindL kindOf ((p,w)::P.zip vs) m x=_;unfold bindL;exact qK (i:=i) (Lv.mp nd).2 (by simpa using h1) (by simpa using h2) hk
def qJ {kindOf:Str->Option NameKind}{x:Str}{v:Value}:∀ {P:List Str}{vs:List Value}{i:Nat}{m:Str->Option Value},P.Nodup->P[i]?=some x->vs[i]?=some v->kindOf x≠some .local ->
  bindC kindOf (P.zip vs) m x=some v
 |[],_,_,_,_,h,_,_=>by simp at h
 |_::_,[],_,_,_,_,h,_=>by simp at h
 | p::P,w::vs,0,m,nd,h1,h2,hk=>by
  simp at h1 h2;subst h1;subst h2;show bindC kindOf ((p,w)::P.zip vs) m p=_;unfold bindC;rw[qL λ v hv=>(Lv.mp nd).1 (Pk hv).1,Lw hk];simp
 | p::P,w::vs,i+1,m,nd,h1,h2,hk=>by
  show bindC kindOf ((p,w)::P.zip vs) m x=_;unfold bindC;exact qJ (i:=i) (Lv.mp nd).2 (by simpa using h1) (by simpa using h2) hk
def start (N:List Str)(vs:List V):St:=vs.map some++List.replicate (N.length-vs.length) none
def qk (CX:AB)(P:Program)(w:World)(K:PySem.W.Frag)(mg:Str->Option Value)(base:Heap)(N:List Str)(qual:Str)(scope:Scope)(f:Addr)(cd:Value)(A:Around)(outer:List Env)(s:Shared)(H:Hp)(E:XK):Cx where
 prog:=P
 w:=w
 K:=K
 mg:=mg
 base:=base
 A:=A.deeper (envOfC qual scope s.heap.objs.size f cd)
 N:=N
 s₀:=s
 H₀:=H
 env:=envOfC qual scope s.heap.objs.size f cd
 outer:=outer
 stack:=envOfC qual scope s.heap.objs.size f cd::outer
 ex:=[]
 calm:=true
 fn:=λ _=>true
 pn:=[]
 xe:=λ e s'=>wpAny (model P w) (A.deeper (envOfC qual scope s.heap.objs.size f cd)) (leaving (envOfC qual scope s.heap.objs.size f cd) e) (λ _ s''=>CX outer H s E e s'') (λ e' s''=>CX outer H s E e' s'') s'
def uA {sc:Scope}{n:Nat}(h:sc.names.lookup x=some .cell):∃ c,(cellsFrom n sc.names []).lookup x=some c:=by
 have q:=NF sc.names n [] (.inl h);exact Np.mp q
def yJ{K:PySem.W.Frag}{mg:Str->Option Value}{base:Heap}{qual:Str}{scope:Scope}{cd:Value}{outer:List Env}{s1:Shared}{E:XK}{vs:List V}
  (S:aW N ps scope) (hd:A.handled=none) (e0:C6 P w K mg base A outer s H) (hl:vs.length=ps.length) (r:Vals vs us)
  (x:InCallC s s.heap.objs.size (bindL (envOfC qual scope s.heap.objs.size f cd).kindOf (ps.zip us) λ _=>none) (cellsFrom (s.heap.objs.size+1) scope.names []) (bindC (envOfC qual scope s.heap.objs.size f cd).kindOf (ps.zip us) λ _=>none) s1) :
  Inv (qk CX P w K mg base N qual scope f cd A outer s H E) [] (start N vs) H s1:=by
 have hpl:ps.length<=N.length:=by have:=MG List.length S.pre;rw[MQ]at this;omega
 obtain⟨h1,tk,rfl,hk⟩:=x.done;have noA:∀ b:Addr,b∉(qk CX P w K mg base N qual scope f cd A outer s H E).ex:=λ b z=>absurd (show b∈([]:List Addr) from z) (by simp);refine⟨⟨e0.mod,S.kind,rfl,rfl,Ll _,λ y z c h1 h2=>?_,λ y hy=>?_,λ y c _ h=>?_,λ _=>hd,Around.frames_deeper e0.frames,.inr ⟨rfl,rfl⟩,λ b z=>absurd z (noA b),e0.bs,e0.Dg,λ b _ _=>noA b,λ b z=>absurd z (noA b),e0.nZ,e0.Ft⟩,
  rfl,e0.bare,Un.kept hk,⟨_,x.toInCall.ns,λ i y v h1 h2 h3=>?_⟩,λ y c h=>⟨_,x.cell y c h⟩,e0.hok.fresh (Ll _),λ y c h=>?_,λ p hp=>absurd (show p∈([]:List (Addr×Obj)) from hp) (by simp),e0.hok.kept hk,?_⟩
 ·exact name_of_addr x.apart (Nt h1) (Nt h2)
 ·have hy:scope.names.lookup y=some .cell\/scope.names.lookup y=some .free:=hy;rcases hy with hy|hy
  ·exact uA hy
  ·exact absurd rfl (S.Fy _ (Nt hy))
 ·exact ND (x.above y c (Nt h))
 ·have hi:i<vs.length:=by
   unfold start at h2;by_cases hi:i<vs.length
   ·exact hi
   ·rw[MJ (by simpa using hi)]at h2;rw[List.getElem?_replicate]at h2;split at h2<;>cases h2
  have ha:vs[i]?=some v:=by
   unfold start at h2;rw[OV (by simpa using hi),LG]at h2;cases e:vs[i]? with
   |none=>rw[e]at h2;cases h2|some a=>rw[e]at h2;cases h2;rfl
  obtain⟨u,hu,rv⟩:=r.get ha;have hp:ps[i]?=some y:=by
   rw[<-S.pre,List.getElem?_take_of_lt (by omega)];exact h1
  have ndP:ps.Nodup:=by rw[<-S.pre];exact S.nd.sublist (List.take_sublist _ _)
  refine⟨u,rv,?_⟩;rcases S.par y (Oo hp) with k|k
  ·exact .inl ⟨k,qK ndP hp hu k⟩
  ·obtain⟨c,e⟩:=uA (n:=s.heap.objs.size+1) k;refine .inr ⟨.inl k,c,e,?_⟩;have q:=x.cell y c e;rw[qJ ndP hp hu (by show scope.names.lookup y≠_;rw[k];decide)]at q;exact q
 ·exact e0.hok.fresh (ND (x.above y c (Nt h)))
 ·unfold start;show _=N.length;rw[Lo,Lc,List.length_replicate];omega
def Hz{K:PySem.W.Frag}{mg:Str->Option Value}{base:Heap}{k:Nat}{name qual:Str}{params:Arguments}{scope:Scope}{dV kV doc pm cdv ct oc:Value}{an od:Option Addr}
  {osl:Array (Option Value)} (lk:K.lookup f=some ⟨oc,od,.func (PySem.W.fnOf name qual params body scope dV kV doc pm an cdv ct),osl⟩) (hcd:PySem.W.codeIn K cdv qual=true) (S:aW N ps scope)
  (len:∀ vs H Q E,sp vs H Q E->vs.length=ps.length)
  (hbody:∀ (A:Around) (outer:List Env) (s:Shared) (H:Hp) (vs:List V) (Q:VK) (E:XK),fY k (A.deeper (envOfC qual scope s.heap.objs.size f cdv))->sp vs H Q E ->
   ∃ t,kg (qk CX P w K mg base N qual scope f cdv A outer s H E) body t/\t { nx:=λ _ H'=>Q .bg H',rt:=Q } (start N vs) H) :
  oQ P w K mg base CX (k+1) f (PySem.W.fnOf name qual params body scope dV kV doc pm an cdv ct) ps sp:=by
 refine⟨len,λ A outer s H args us vs Q E hr e0 hb r hsp=>?_⟩;have hl:=len _ _ _ _ hsp;have KX:K.In s.heap:=e0.mod.JL.keeps λ b o e=>(e0.bs b o e).1;have lim:s.heap.NoLimit:=e0.mod.nolimit.keeps λ b o e=>(e0.bs b o e).1;have hkind:∀ y∈ps.zip us,scope.names.lookup y.1=some .local\/(scope.names.lookup y.1=some .cell/\((cellsFrom (s.heap.objs.size+1) scope.names []).lookup y.1).isSome=true):=λ ⟨n,v⟩ hy=>by
  rcases S.par n (Pk hy).1 with q|q
  ·exact .inl q
  ·exact .inr ⟨q,NF _ _ _ (.inl q)⟩
 refine codeAny_call_function hr.depth (KX _ _ lk) rfl S.co S.gen rfl (PySem.W.codeRec_of KX hcd) (hb _ _ _ _ ?_);refine wpAny_newFunctionEnv_cells S.kind hkind λ env he s1 x=>?_;subst he;refine⟨lim.keeps x.toInCall.keep,codeAny_func ?_⟩;obtain⟨t,ht,hq⟩:=hbody A outer s H vs Q E (hr.deeper _) hsp;have I:Inv (qk CX P w K mg base N qual scope f cdv A outer s H E) [] (start N vs) H s1:=yJ S hr.hd e0 hl r x;refine MP (ht [] s1 (start N vs) H _ I hq) (λ fl s' hs=>?_) λ e s' hs=>hs;have fin:∀ {σ':St}{H':Hp}{v:V}{u:Value},Inv (qk CX P w K mg base N qual scope f cdv A outer s H E) [] σ' H' s'->RelV v u->Q v H'->CE outer P w H s Q u s':=
  λ {σ' H' v u} J rv q=>⟨v,H',J.os,J.bare,J.base,J.hok,rv,q⟩
 cases fl with
 | ret u =>
  obtain⟨v,σ',H',J,rv,q⟩:=hs;exact fin J rv q
 | next =>
  obtain⟨σ',H',J,q⟩:=hs;exact fin (v:=V.bg) (u:=Value.none) J rfl q
 | brk =>
  obtain⟨_,_,_,q⟩:=hs;exact False.elim q
 | cont =>
  obtain⟨_,_,_,q⟩:=hs;exact False.elim q
section
variable{t:TA}{id T:String}{r:List V->Hp->VK->Prop}
def KA (r:List V->Hp->VK->Prop)(t:TA):TE:=λ σ H Q=>t σ H λ vs H1=>r vs H1 Q
def oO (hc:d7 X (.builtin id) r)(hg:Gl X x)(hm:X.mg x=none)(hv:bootBuiltins x=some (.builtin id))(ha:PA X (e::es) t)(hn:x ≠ "__name__" :=by decide)(hdb:(x == ("__debug__" : Str))=false:=by decide)
  (he:starEach (e::es) X.env=(false,eval e X.env)::starEach es X.env:=by rfl) (hpl:(backTo pos (starEach es X.env)).any (·.1)=false:=by rfl):PE X (.Call (.Name x p) (e::es) [] pos) (KA r t):=by
 intro pins s σ H Q I h;refine MF (i7 I hg hm hv ?_ hn hdb);exact Oe (dM (ha pos pins s σ H _ I h) λ us s1 hq5=>L2.ex5 hq5 λ vs H1 I1 r1 q1=>hc pins s1 σ H1 vs us Q I1 r1 q1) he hpl
def yK (hc:d7 X (.type T) r)(hg:Gl X x)(hm:X.mg x=none)(hv:bootBuiltins x=some (.type T))(ha:PA X (e::es) t)(hn:x ≠ "__name__" :=by decide)(hdb:(x == ("__debug__" : Str))=false:=by decide)
  (he:starEach (e::es) X.env=(false,eval e X.env)::starEach es X.env:=by rfl) (hpl:(backTo pos (starEach es X.env)).any (·.1)=false:=by rfl):PE X (.Call (.Name x p) (e::es) [] pos) (KA r t):=by
 intro pins s σ H Q I h;refine MF (i7 I hg hm hv ?_ hn hdb);exact Mz (dM (ha pos pins s σ H _ I h) λ us s1 hq5=>L2.ex5 hq5 λ vs H1 I1 r1 q1=>hc pins s1 σ H1 vs us Q I1 r1 q1) he hpl
end
end L2
namespace HT
open PySem PyProof.Rows
section
open PySem.SeqAt
open PySem.AutoSeq1 (wpAny_loadPart')
open PySem.MeetsSeq PySem.MeetsSeq2 PySem.MeetsSeq3
end
section
variable {prog:Program}{w:World}{A:Around}{E:Value->Shared->Prop}{s:Shared}
def Dp {t b:Addr}{vs ws:List Value}{Q:Value->Shared->Prop}(ht:IsTup s.heap t vs.toArray)(hb:IsTup s.heap b ws.toArray)(hv:vs≠[])
  (h1:ws=[]->Q (.ref t) s) (h2:ws≠[]->Q (.ref s.heap.objs.size) { s with heap:=s.heap.push { cls:=.type "tuple",data:=.seq (vs++ws).toArray } })
  (hsz:vs.length+ws.length<=sizeLine):wpAny (model prog w) A (binaryOp .Add (.ref t) (.ref b)) Q E s:=by
 obtain⟨⟨cls,dd,data,sl⟩,ho,hc,n,hd⟩:=id ht;obtain⟨⟨cls2,dd2,data2,sl2⟩,ho2,hc2,n2,hd2⟩:=id hb;simp only at hc hd hc2 hd2;subst hc hd hc2 hd2;have e:vs.toArray++ws.toArray=(vs++ws).toArray:=by simp
 by_cases hw:ws=[]
 ·exact concat_meets ⟨_,ho,rfl⟩ ⟨_,ho2,rfl⟩ noFill_tuple_add seq_tuple_add PySem.F.slot_tuple_add PySem.F.entry_tuple_add (PySem.F.args_tuple_add_2 _ _)
   (tuple_addW1 t b vs.toArray ws.toArray n n2 dd dd2 sl sl2 (by simpa using hv) (by simp[hw])) ⟨ho,ho2,h1 hw⟩
 ·refine concat_meets ⟨_,ho,rfl⟩ ⟨_,ho2,rfl⟩ noFill_tuple_add seq_tuple_add PySem.F.slot_tuple_add PySem.F.entry_tuple_add (PySem.F.args_tuple_add_2 _ _)
   (tuple_addW2 t b vs.toArray ws.toArray n n2 dd dd2 sl sl2 (by simpa using hv) (by simpa using hw) (by rw[Lm,Lm];exact hsz)) ⟨ho,ho2,?_⟩
  rw[e];exact h2 hw
def eS (n d:Nat):Option Int->Nat
 |none=>d
 |some v=>if v<0 then (v+(n:Int)).toNat else min v.toNat n
def F2 (n d:Nat)(hd:d<=n)(o:Option Int):eS n d o<=n:=by
 cases o with
 |none=>exact hd
 | some v =>
  show(if v<0 then (v+(n:Int)).toNat else min v.toNat n)<=n;by_cases hv:v<0
  ·rw[Lr hv];omega
  ·rw[Lw hv];exact Nat.min_le_right _ _
def xw (v:Int)(n d:Nat):(if v<0 then max (v+(n:Int)) 0 else min v (n:Int))=((eS n d (some v):Nat):Int):=by
 show(if v<0 then max (v+(n:Int)) 0 else min v (n:Int))=(((if v<0 then (v+(n:Int)).toNat else min v.toNat n):Nat):Int);by_cases hv:v<0
 ·simp only[Lr hv];omega
 ·simp only[Lw hv];omega
def vR (lo hi:Option Int)(n:Nat):Builtin.Slice.sliceAdjust lo hi 1 (n:Int)=(((eS n 0 lo:Nat):Int),((eS n n hi:Nat):Int)):=by
 have h1:¬ ((1:Int)<0):=by omega
 unfold Builtin.Slice.sliceAdjust;simp only[h1,Nx];refine Prod.ext ?_ ?_
 ·cases lo with
  |none=>rfl|some v=>exact xw v n 0
 ·cases hi with
  |none=>rfl|some v=>exact xw v n n
def vS (i j:Nat):Builtin.Slice.slicePlaces (i:Int) (j:Int) 1=j-i:=by
 unfold Builtin.Slice.slicePlaces;have h1:(1:Int)>0:=by omega
 simp only[h1,Nh,Int.ediv_one];split<;>omega
def oX {v:Value}{o:Option Int}{Q:Option Int->Shared->Prop}(p:IsPart v o)(h:Q o s):wpAny (model prog w) A (Builtin.Slice.slicePartIndex v) Q E s:=by
 cases p with
 |none=>exact slicePart_none h|int i t=>exact slicePart_int h
def mS {sl:Addr}{vl vu:Value}{lo hi:Option Int}{n:Nat}{Q:Int×Int×Nat->Shared->Prop}(hs:s.heap.IsSliceOf sl vl vu .none)(pl:IsPart vl lo)(pu:IsPart vu hi)
  (h:Q (((eS n 0 lo:Nat):Int),1,eS n n hi-eS n 0 lo) s):wpAny (model prog w) A (Builtin.Slice.sliceApplied (.ref sl) (pure (n:Int))) Q E s:=by
 obtain⟨os,hos,hcs,hds⟩:=id hs;unfold Builtin.Slice.sliceApplied Builtin.Slice.sliceFields;refine La (La (Mb hos hds (x:=vl) rfl (La (Mb hos hds (x:=vu) rfl (La (Mb hos hds (x:=.none) rfl (Lf ?_)))))));refine La (slicePart_none ?_);show wpAny _ _ (if ((1:Int) == 0)=true then _ else _) _ _ s;rw[Lw (by decide)];refine La (oX pl (La (oX pu (La (Lf ?_)))));show wpAny _ _ (match Builtin.Slice.sliceAdjust lo hi 1 (n:Int) with|(lo,hi)=>pure (lo,(1:Int),Builtin.Slice.slicePlaces lo hi 1)) _ _ s;rw[vR lo hi n];show wpAny _ _ (pure (((eS n 0 lo:Nat):Int),(1:Int),Builtin.Slice.slicePlaces ((eS n 0 lo:Nat):Int) ((eS n n hi:Nat):Int) 1)) _ _ s;rw[vS];exact Lf h
def AI (xs:Array Value)(i k:Nat):((List.range k).filterMap λ (m:Nat)=>xs[((i:Int)+(m:Int)*1).toNat]?).toArray=((xs.toList.drop i).take k).toArray:=by
 have e:(λ (m:Nat)=>xs[((i:Int)+(m:Int)*1).toNat]?)=λ m=>xs[i+m]?:=by
  funext m;have:((i:Int)+(m:Int)*1).toNat=i+m:=by omega
  rw[this]
 rw[e];have:=pick_run xs i k;rw[List.filterMap_map]at this;have e2:((λ x=>xs[x]?)∘λ x=>i+x)=λ m=>xs[i+m]?:=rfl;rw[e2]at this;rw[this]
def lM {t sl:Addr}{items:Array Value}{vl vu:Value}{lo hi:Option Int}{Q:Value->Shared->Prop}(ht:IsTup s.heap t items)(hs:s.heap.IsSliceOf sl vl vu .none)(pl:IsPart vl lo)(pu:IsPart vu hi)
  (hw:¬ (eS items.size 0 lo=0/\eS items.size items.size hi=items.size))
  (h:Q (.ref s.heap.objs.size) { s with heap:=s.heap.push { cls:=.type "tuple",data:=.seq ((items.toList.drop (eS items.size 0 lo)).take (eS items.size items.size hi-eS items.size 0 lo)).toArray } })
  (hsz:items.size<=sizeLine):wpAny (model prog w) A (getItem (.ref t) (.ref sl)) Q E s:=by
 have htake:sizeOk (.seq ((items.toList.drop (eS items.size 0 lo)).take (eS items.size items.size hi-eS items.size 0 lo)).toArray):=by
  show((items.toList.drop (eS items.size 0 lo)).take (eS items.size items.size hi-eS items.size 0 lo)).toArray.size<=sizeLine;rw[Lm,MQ,NP,LF];omega
 have hj:eS items.size items.size hi<=items.size:=F2 _ _ (Ll _) hi;obtain⟨os,hos,hcs,hds⟩:=id hs;have hTs:s.TypeIs (.ref sl) "slice" :=⟨os,hos,hcs⟩;unfold getItem
 try with_reducible refine MS ?_
 first|refine La (Lf ?_)|skip
 refine La (wpAny_sequenceKey ht.typeIs (by decide) ?_);refine La (LX (name:=Str.ofString "__getitem__") ht.typeIs N9
  (LV N9 ht.typeIs entry_tuple_getitem ?_ (args_tuple_getitem _ _)))
 show wpAny _ _ (Builtin.Tuple.tupleItemsOf (.ref t) >>= _) _ _ s;refine La (tupleItemsOf_ ht ?_);refine La (OH hTs ?_);rw[Lr (by decide)];refine La (mS hs pl pu ?_);have hno:¬ ((((eS items.size 0 lo:Nat):Int) == 0&&(1:Int) == 1&&(eS items.size items.size hi-eS items.size 0 lo) == items.size)=true):=by
  intro q;rw[LW,LW]at q;have q1:((eS items.size 0 lo:Nat):Int)=0:=eq_of_beq q.1.1;have q2:eS items.size items.size hi-eS items.size 0 lo=items.size:=eq_of_beq q.2;exact hw ⟨by omega,by omega⟩
 show wpAny _ _ (if (((eS items.size 0 lo:Nat):Int) == 0&&(1:Int) == 1&&(eS items.size items.size hi-eS items.size 0 lo) == items.size)=true then _ else _) _ _ s;rw[Lw hno,AI]
 first
  |exact La (m:=Builtin.Tuple.tupleExact _) (L3 (Lf ⟨_,rfl,Lf h⟩) htake)
  |exact La (m:=Builtin.Tuple.tupleExact _) (L3 (La (Lf (Lf ⟨_,rfl,Lf h⟩))) htake)
  |exact La (La (m:=Builtin.Tuple.tupleExact _) (L3 (Lf (Lf ⟨_,rfl,Lf h⟩)) htake))
  |exact La (La (m:=Builtin.Tuple.tupleExact _) (L3 (Lf ⟨_,rfl,Lf h⟩) htake))
end
end HT
namespace L2
open PySem PySem.Spec PyProof.Rows
variable {a b:Addr}{A:Around}{X:Cx}{e:Expr}{H:Hp}{pins:List (Addr×Obj)}{xs:List (List Key×Addr×Value)}{kvs:List (List Key×V)}{us:List Value}{n t':Nat}{o:Option V}{pos:Pos}{P:Program}{s:Shared}{σ:St}{T:String}{α:Type}{x y:V}{u:Value}{E:Value->Shared->Prop}{w:World}
abbrev TO:=St->Hp->(Option Int->Hp->Prop)->Prop
def PO (X:Cx)(e:Option Expr)(t:TO):Prop:=
 ∀ (pins:List (Addr×Obj)) (s:Shared) (σ:St) (H:Hp) (Q:Option Int->Hp->Prop),Inv X pins σ H s->t σ H Q ->
  wpAny (model X.prog X.w) X.A (evalPart e X.env) (λ u s'=>∃ o H',Inv X pins σ H' s'/\IsPart u o/\Q o H') X.xe s
def Dl:TO:=λ _ H Q=>Q none H
def HY (t:TE):TO:=λ σ H Q=>t σ H λ x H1=>∃ i,x=.int i/\Q (some i) H1
def intsAre_of {ns:List Int}:∀ {us:List Value},Vals (ns.map V.int) us->IntsAre us ns:=by
 induction ns with
 |nil=>intro us r;rw[List.map_nil]at r;cases r;exact .nil
 | cons n ns ih =>
  intro us r;rw[LA]at r;cases r with
  | cons r1 r2 =>
   obtain⟨t,e⟩:=r1;subst e;exact .cons n t (ih r2)
section
variable{te:TE}{lo hi:Option Expr}{tl th:TO}{p2:Pos}
def Dt:PO X none Dl:=by
 intro pins s σ H Q I h;rw[evalPart_none];exact Lf ⟨none,H,I,.none,h⟩
def Dz (h:PE X e te):PO X (some e) (HY te):=by
 intro pins s σ H Q I hw;rw[evalPart_some];refine dM (h pins s σ H _ I hw) λ u s1 hq5=>L2.ex5 hq5 λ x H1 I1 r1 q1=>?_;obtain⟨i,rfl,q⟩:=q1;obtain⟨t,rfl⟩:=r1;exact⟨some i,H1,I1,.int i t,q⟩
def EX (X:Cx)(r:V->Option Int->Option Int->Hp->VK->Prop):Prop:=
 ∀ (pins:List (Addr×Obj)) (s:Shared) (σ:St) (H:Hp) (x:V) (v vl vu:Value) (lo hi:Option Int) (sl:Addr) (Q:VK),Inv X pins σ H s->RelV x v->s.heap.IsSliceOf sl vl vu .none->IsPart vl lo->IsPart vu hi->r x lo hi H Q ->
  ∃ T id,typeLookup (.type T) "__getitem__" = pure (some (.builtin id))/\s.TypeIs v T/\wpAny (model X.prog X.w) X.A (getItem v (.ref sl)) (EP X pins σ Q) X.xe s
def EX.or {r r':V->Option Int->Option Int->Hp->VK->Prop}(h:EX X r)(h':EX X r'):EX X (λ x lo hi H Q=>r x lo hi H Q\/r' x lo hi H Q):=by
 intro pins s σ H x v vl vu lo hi sl Q I rx hs pl pu q;rcases q with q|q
 ·exact h pins s σ H x v vl vu lo hi sl Q I rx hs pl pu q
 ·exact h' pins s σ H x v vl vu lo hi sl Q I rx hs pl pu q
def K2 (r:V->Option Int->Option Int->Hp->VK->Prop)(te:TE)(tl th:TO):TE:=λ σ H Q=>te σ H λ x H1=>tl σ H1 λ l H2=>th σ H2 λ u H3=>r x l u H3 Q
def AH {r:V->Option Int->Option Int->Hp->VK->Prop}(hr:EX X r)(he:PE X e te)(hl:PO X lo tl)(hu:PO X hi th):PE X (.Subscript e (.Slice lo hi none p2) pos) (K2 r te tl th):=by
 intro pins s σ H Q I h;refine Subscript_ (dM (he pins s σ H _ I h) λ v s1 hq5=>L2.ex5 hq5 λ x H1 I1 r1 q1=>?_);refine wpAny_Slice (dM (hl pins s1 σ H1 _ I1 q1) λ vl s2 hq5=>L2.ex5 hq5 λ l H2 I2 pl q2=>dM (hu pins s2 σ H2 _ I2 q2) λ vu s3 hq5=>L2.ex5 hq5 λ u H3 I3 pu q3=>?_);rw[evalPart_none];refine Lf ?_;have I4:Inv X pins σ H3 { s3 with heap:=s3.heap.push { cls:=.type "slice",data:=.fields #[vl,vu,.none] } }:=I3.kept (t':=s3.toks) λ b ob q=>Lb _ q;obtain⟨T,id,hT,ht,hg⟩:=hr pins { s3 with heap:=s3.heap.push { cls:=.type "slice",data:=.fields #[vl,vu,.none] } } σ H3 x v vl vu l u s3.heap.objs.size Q I4 r1 (Heap.IsSliceOf.new ..) pl pu q3;show wpAny (model X.prog X.w) X.A (subscriptTail e (.Slice lo hi none p2) v (.ref s3.heap.objs.size)) (EP X pins σ Q) X.xe { s3 with heap:=s3.heap.push { cls:=.type "slice",data:=.fields #[vl,vu,.none] } };exact tail_any (ops:=[.ref s3.heap.objs.size,v]) ht hT hg (by with_unfolding_all rfl)
def uE (xs:List V)(lo hi:Option Int):List V:=(xs.drop (HT.eS xs.length 0 lo)).take (HT.eS xs.length xs.length hi-HT.eS xs.length 0 lo)
def nE (xs:List V)(lo hi:Option Int):(uE xs lo hi).length<=xs.length:=by
 unfold uE;rw[MQ,NP];omega
def JZ (K:PySem.W.Frag):V->Option Int->Option Int->Hp->VK->Prop:=λ x lo hi H Q=>∃ a xs,x=.ref a/\iZ K H a xs /\
 ¬ (HT.eS xs.length 0 lo=0/\HT.eS xs.length xs.length hi=xs.length)/\∀ p,H p=none->Q (.ref p) (upd H p (.tup (uE xs lo hi)))
def F6:EX X (JZ X.K):=by
 intro pins s σ H x v vl vu lo hi sl Q I rx hs pl pu h;obtain⟨a,xs,rfl,hx,hw,q⟩:=h;cases rx;obtain⟨its,r,ht,hz⟩:=I.tuple hx;have hlen:its.toArray.size=xs.length:=by rw[Lm];exact r.length.symm
 refine⟨"tuple",_,PyProof.Rows.slot_tuple_getitem.lookup,ht.typeIs,?_⟩;refine HT.lM ht hs pl pu (by rw[hlen];exact hw) ?_ (by rw[hlen];exact hz);rw[hlen];refine⟨.ref s.heap.objs.size,_,I.laid (t':=s.toks) (o:=.tup (uE xs lo hi)) (λ b ob q=>Lb _ q) (Ll _) ?_,rfl,q _ (I.hok.fresh (Ll _))⟩;exact⟨MC (nE xs lo hi) hz,_,(r.drop (HT.eS xs.length 0 lo)).take (HT.eS xs.length xs.length hi-HT.eS xs.length 0 lo),uw.new _ _⟩
def EY (K:PySem.W.Frag):R2:=λ x y H Q=>∃ a b xs ys,x=.ref a/\y=.ref b/\iZ K H a xs/\iZ K H b ys/\xs≠[]/\xs.length+ys.length<=sizeLine /\
 (ys=[]->Q (.ref a) H)/\(ys≠[]->∀ p,H p=none->Q (.ref p) (upd H p (.tup (xs++ys))))
def Vals.kh {xs:List V}(r:Vals xs us):us=[]↔xs=[]:=by
 cases r with
 |nil=>simp|cons _ _=>simp
def Dy:jG X (binaryOp .Add) (EY X.K):=by
 intro pins s σ H x y v u Q I rx ry h;obtain⟨a,b,xs,ys,rfl,rfl,ha,hb,hx,hz,q1,q2⟩:=h;cases rx;cases ry;obtain⟨its,r1,p1,_⟩:=I.tuple ha;obtain⟨its2,r2,p2,_⟩:=I.tuple hb;refine HT.Dp p1 p2 (λ z=>hx (r1.kh.mp z)) (λ z=>⟨.ref a,H,I,rfl,q1 (r2.kh.mp z)⟩) (λ z=>?_) (by rw[<-r1.length,<-r2.length];exact hz);refine⟨.ref s.heap.objs.size,_,I.laid (t':=s.toks) (o:=.tup (xs++ys)) (λ b ob q=>Lb _ q) (Ll _) ?_,rfl,q2 (λ w=>z (r2.kh.mpr w)) _ (I.hok.fresh (Ll _))⟩;exact⟨by rw[Lo];exact hz,_,r1.append r2,uw.new _ _⟩
end
def Dw (n:Nat)(i:Int):Option Nat:=if 0<=i then (if i<n then some i.toNat else none) else if -(n:Int)<=i then some (i+n).toNat else none
def qq(xs:List α)(i:Int):Option α:=(Dw xs.length i).bind λ j=>xs[j]?
def Du{i:Int}{j:Nat}(h:Dw n i=some j):seqIndex? i n=some j/\j<n /\ -(n:Int)<=i/\i<n:=by
 unfold Dw at h;by_cases h0:0<=i
 ·rw[Lr h0]at h;by_cases h1:i<n
  ·rw[Lr h1]at h;have e:i.toNat=j:=L5 h;exact⟨by rw[seqIndex_of h0 h1,e],by omega,by omega,h1⟩
  ·rw[Lw h1]at h;cases h
 ·rw[Lw h0]at h;by_cases h1 : -(n:Int)<=i
  ·rw[Lr h1]at h;have e:(i+n).toNat=j:=L5 h;exact⟨by rw[seqIndex_neg (by omega) h1,e],by omega,h1,by omega⟩
  ·rw[Lw h1]at h;cases h
def sC{xs:List α}{i:Int}{v:α}(h:qq xs i=some v):∃ j,seqIndex? i xs.length=some j/\xs[j]?=some v/\j<xs.length /\ -(xs.length:Int)<=i/\i<xs.length:=by
 unfold qq at h;cases e:Dw xs.length i with
 |none=>rw[e]at h;cases h
 | some j =>
  rw[e]at h;obtain⟨h1,h2,h3,h4⟩:=Du e;exact⟨j,h1,h,h2,h3,h4⟩
def Ds{xs:List α}{j:Nat}{v:α}(h:xs[j]?=some v):qq xs (j:Int)=some v:=by
 have hj:j<xs.length:=(Lh.mp h).1;have e:Dw xs.length (j:Int)=some j:=by
  unfold Dw;rw[Lr (by omega),Lr (by omega)];simp
 unfold qq;rw[e];exact h
def sE (b:Expr):Prop:=∀ o i,subscripted b false o i=operate [o,i] (getItem o i)
def C4 (X:Cx)(r:R2):Prop:=
 ∀ (value slice:Expr) (pins:List (Addr×Obj)) (s:Shared) (σ:St) (H:Hp) (x y:V) (v u:Value) (Q:VK),Inv X pins σ H s->RelV x v->RelV y u->r x y H Q ->
  subscripted slice false v u=operate [v,u] (getItem v u)->wpAny (model X.prog X.w) X.A (subscriptTail value slice v u) (EP X pins σ Q) X.xe s
def KJ (X:Cx)(id:String)(r:V->List V->Hp->VK->Prop):Prop:=
 ∀ (pins:List (Addr×Obj)) (s:Shared) (σ:St) (H:Hp) (x:V) (xs:List V) (v:Value) (us:List Value) (Q:VK),Inv X pins σ H s->RelV x v->Vals xs us->r x xs H Q ->
  wpAny (model X.prog X.w) X.A (call (.builtin id) (v::us)) (EP X pins σ Q) X.xe s
section
variable{a b:Expr}{ta tb:TE}
def C4.or {r r':R2}(h:C4 X r)(h':C4 X r'):C4 X (λ x y H Q=>r x y H Q\/r' x y H Q):=by
 intro value slice pins s σ H x y v u Q I rx ry q hs;rcases q with q|q
 ·exact h value slice pins s σ H x y v u Q I rx ry q hs
 ·exact h' value slice pins s σ H x y v u Q I rx ry q hs
def HV {r:R2}(hr:C4 X r)(ha:PE X a ta)(hb:PE X b tb)(hs:sE b):PE X (.Subscript a b pos) (JQ r ta tb):=by
 intro pins s σ H Q I h;exact Subscript_ (HJ ha hb I h λ v u s2 x y H2 I2 rx ry q=>hr a b pins s2 σ H2 x y v u Q I2 rx ry q (hs _ _))
def Ia (K:PySem.W.Frag):R2:=λ x y H Q=>∃ p xs i v,x=.ref p/\y=.int i/\c8 K H p xs/\qq xs i=some v/\Q v H
def HZ (K:PySem.W.Frag):R2:=λ x y H Q=>∃ p xs i v,x=.ref p/\y=.int i/\iZ K H p xs/\qq xs i=some v/\Q v H
def HW:R2:=λ x y H Q=>∃ z i c,x=.str z/\y=.int i/\z.length<=sizeLine/\qq z.cps.toList i=some c/\Q (.str ⟨#[c]⟩) H
def Dm:C4 X (Ia X.K):=by
 intro value slice pins s σ H x y v u Q I rx ry h hs;obtain⟨p,xs,i,z,rfl,rfl,hq,he,q⟩:=h;cases rx;obtain⟨t,rfl⟩:=ry;obtain⟨its,r,pl,hz⟩:=I.list hq;obtain⟨j,h1,h2,h3,h4,h5⟩:=sC he;obtain⟨w,ew,rw'⟩:=r.get h2;have hl:=r.length;have hn:=mR;have fin:EP X pins σ Q w s:=⟨z,H,I,rw',q⟩;by_cases h0:0<=i
 ·have hj:i.toNat=j:=by
   rw[seqIndex_of h0 h5]at h1;exact L5 h1
  exact item_listR pl.isList h0 (by omega) (by rw[hj];simpa using ew) fin hs
 ·have hj:(i+(its.toArray.size:Int)).toNat=j:=by
   rw[seqIndex_neg (by omega) h4]at h1;rw[Lm,<-hl];exact L5 h1
  exact subscriptTail_builtinR (x:=w) pl.isList.typeIs slot_list_getitem.lookup
   (wpAny_getItem_list_neg (Q:=λ r s'=>r=w/\EP X pins σ Q r s') pl.isList (by omega) (by rw[Lm]<;>omega) (by omega) (by rw[hj];simpa using ew) ⟨rfl,fin⟩) hs
def i9:C4 X (HZ X.K):=by
 intro value slice pins s σ H x y v u Q I rx ry h hs;obtain⟨p,xs,i,z,rfl,rfl,hq,he,q⟩:=h;cases rx;obtain⟨t,rfl⟩:=ry;obtain⟨its,r,pl,hz⟩:=I.tuple hq;obtain⟨j,h1,h2,h3,h4,h5⟩:=sC he;obtain⟨w,ew,rw'⟩:=r.get h2;have hl:=r.length;have hn:=mR;have fin:EP X pins σ Q w s:=⟨z,H,I,rw',q⟩;exact subscriptTail_builtinR (x:=w) pl.typeIs slot_tuple_getitem.lookup
  (getItem_tuple (j:=j) (Q:=λ r s'=>r=w/\EP X pins σ Q r s') pl (by omega) (by omega) (by rw[Lm,<-hl];exact h1) (by simpa using ew) ⟨rfl,fin⟩) hs
def F5:C4 X HW:=by
 intro value slice pins s σ H x y v u Q I rx ry h hs;obtain⟨z,i,c,rfl,rfl,hz,he,q⟩:=h;obtain⟨t,rfl⟩:=rx;obtain⟨t',rfl⟩:=ry;obtain⟨j,h1,h2,h3,h4,h5⟩:=sC he;have hl:z.cps.toList.length=z.length:=by simp[Str.length]
 rw[hl]at h1 h4 h5;have hn:=mR;exact tail_any (typeIs_str s z t) slot_str_getitem.lookup (getItem_str (c:=c) (by
  have e1:decide (i < -(2^63:Int))=false:=LD (by omega);have e2:decide (i≥2^63)=false:=LD (by omega);rw[e1,e2,Bool.or_false]) (by rw[h1];simpa using h2) ⟨.str ⟨#[c]⟩,H,I.tok _,⟨_,rfl⟩,q⟩) hs
def KI (K:PySem.W.Frag):R2:=λ x y H Q=>Ia K x y H Q\/HZ K x y H Q\/HW x y H Q
def F7:C4 X (KI X.K):=Dm.or (i9.or F5)
def sr (lo hi:Option Int)(n:Nat):(sliceBounds lo hi none n).1=((HT.eS n 0 lo:Nat):Int)/\(sliceBounds lo hi none n).2.1=((HT.eS n n hi:Nat):Int)/\(sliceBounds lo hi none n).2.2=1:=by
 refine⟨?_,?_,rfl⟩
 ·cases lo with
  |none=>simp[sliceBounds,HT.eS]
  | some i =>
   simp only[sliceBounds,HT.eS,O9,show(1:Int)>0 by decide,Nh];by_cases h:i<0
   ·simp only[h,Nh]<;>omega
   ·simp only[h,Nx]<;>omega
 ·cases hi with
  |none=>simp[sliceBounds,HT.eS]
  | some i =>
   simp only[sliceBounds,HT.eS,O9,show(1:Int)>0 by decide,Nh];by_cases h:i<0
   ·simp only[h,Nh]<;>omega
   ·simp only[h,Nx]<;>omega
def qo (its:List Value)(lo hi:Option Int):slicePick its.toArray lo hi none=((its.drop (HT.eS its.length 0 lo)).take (HT.eS its.length its.length hi-HT.eS its.length 0 lo)).toArray:=by
 obtain⟨h1,h2,h3⟩:=sr lo hi its.toArray.size;unfold slicePick;rw[h1,h2,h3];simp only[sliceRange_one,pick_run,Lm]<;>rfl
def J3 (K:PySem.W.Frag):V->Option Int->Option Int->Hp->VK->Prop:=λ x lo hi H Q=>∃ a xs,x=.ref a/\c8 K H a xs/\∀ p,H p=none->Q (.ref p) (upd H p (.lst (uE xs lo hi)))
def Dq:EX X (J3 X.K):=by
 intro pins s σ H x v vl vu lo hi sl Q I rx hs pl pu h;obtain⟨a,xs,rfl,hx,q⟩:=h;cases rx;obtain⟨its,r,ht,hz⟩:=I.list hx;have hlen:=r.length;refine⟨"list",_,slot_list_getitem.lookup,ht.isList.typeIs,?_⟩;refine wpAny_getItem_list_slice ht.isList hs pl pu .none (by simp) ?_ (by rw[Lm]<;>omega);rw[qo,<-hlen];refine⟨.ref s.heap.objs.size,_,I.laid (t':=s.toks) (o:=.lst (uE xs lo hi)) (λ b ob q=>Lb _ q) (Ll _) ?_,rfl,q _ (I.hok.fresh (Ll _))⟩;exact⟨MC (nE xs lo hi) hz,_,0,(r.drop (HT.eS xs.length 0 lo)).take (HT.eS xs.length xs.length hi-HT.eS xs.length 0 lo),Lj _ rfl⟩
def kP:V->Bool
 |.bg=>true
 |.bl _=>true
 |.int _=>true
 |.str _=>true
 |_=>false
def C5:V->V->Bool
 |.bg,.bg=>true
 |.bl a,.bl b=>a == b
 |.bl a,.int b=>(if a then 1 else 0) == b
 |.int a,.bl b=>a == (if b then 1 else 0)
 |.int a,.int b=>a == b
 |.str a,.str b=>a == b
 |_,_=>false
def F4{v:Value}(ry:RelV y u)(rx:RelV x v)(fy:kP y=true)(fx:kP x=true):SeqAt.EqAt A s u v (C5 y x):=by
 cases y with
 | bg =>
  cases ry;cases x with
  |bg=>cases rx;exact SeqAt.EqAt.same _|bl b=>cases rx;exact SeqAt.EqAt.none_bool b|int b=>obtain⟨t,rfl⟩:=rx;exact SeqAt.EqAt.none_int b t|str b=>obtain⟨t,rfl⟩:=rx;exact SeqAt.EqAt.none_str b t|_=>exact absurd (show false=true from fx) Li
 | bl a =>
  cases ry;cases x with
  |bg=>cases rx;exact SeqAt.EqAt.bool_none a|bl b=>cases rx;exact SeqAt.EqAt.bool_bool a b|int b=>obtain⟨t,rfl⟩:=rx;exact SeqAt.EqAt.bool_int a b t|str b=>obtain⟨t,rfl⟩:=rx;exact SeqAt.EqAt.bool_str a b t|_=>exact absurd (show false=true from fx) Li
 | int a =>
  obtain⟨t',rfl⟩:=ry;cases x with
  |bg=>cases rx;exact SeqAt.EqAt.int_none a t'| bl b=>cases rx;exact SeqAt.EqAt.int_bool a t' b|int b=>obtain⟨t,rfl⟩:=rx;exact SeqAt.EqAt.int_int a t' b t|str b=>obtain⟨t,rfl⟩:=rx;exact SeqAt.EqAt.int_str a t' b t|_=>exact absurd (show false=true from fx) Li
 | str a =>
  obtain⟨t',rfl⟩:=ry;cases x with
  |bg=>cases rx;exact SeqAt.EqAt.str_none a t'| bl b=>cases rx;exact SeqAt.EqAt.str_bool a t' b|int b=>obtain⟨t,rfl⟩:=rx;exact SeqAt.EqAt.str_int a t' b t|str b=>obtain⟨t,rfl⟩:=rx;exact SeqAt.EqAt.str_str a t' b t|_=>exact absurd (show false=true from fx) Li
 |_=>exact absurd (show false=true from fy) Li
def Dv (x:V)(u:Value):Bool:=match u with
 |.none=>C5 .bg x
 |.bool b=>C5 (.bl b) x
 |.int i _=>C5 (.int i) x
 |.str z _=>C5 (.str z) x
 |_=>false
def AG(r:RelV y u)(f:kP y=true):Dv x u=C5 y x:=by
 cases y with
 |bg=>cases r;rfl|bl b=>cases r;rfl|int i=>obtain⟨t,rfl⟩:=r;rfl|str z=>obtain⟨t,rfl⟩:=r;rfl|_=>exact absurd (show false=true from f) Li
def sF {x:V}:∀ {xs:List V}{us:List Value},Vals xs us->xs.all kP=true->us.any (Dv x)=xs.any λ y=>C5 y x
 |_,_,.nil,_=>rfl
 | y::xs,u::us,.cons r t,f=>by
  rw[O5,LW]at f;rw[Nb,Nb,AG r f.1,sF t f.2]
def oY {A:Around}{s:Shared}{x:V}{v:Value}(rx:RelV x v)(fx:kP x=true):∀ {xs:List V}{us:List Value},Vals xs us->xs.all kP=true->∀ u∈us,SeqAt.EqAt A s u v (Dv x u)
 |_,_,.nil,_=>λ u hu=>by cases hu
 | y::xs,u::us,.cons r t,f=>λ u' hu=>by
  rw[O5,LW]at f;rcases Ln.mp hu with rfl|hu
  ·rw[AG r f.1];exact F4 r rx f.1 fx
  ·exact oY rx fx t f.2 u' hu
def Jq (x:V)(xs:List V):Bool:=xs.any λ y=>C5 y x
def KN (K:PySem.W.Frag)(neg:Bool):R2:=λ x y H Q=>∃ p xs,y=.ref p/\(c8 K H p xs\/iZ K H p xs)/\kP x=true/\xs.all kP=true/\Q (.bl (if neg then !Jq x xs else Jq x xs)) H
def fB:jG X (compareOp .NotIn) (KN X.K true):=by
 intro pins s σ H x y v u Q I rx ry h;obtain⟨p,xs,rfl,hq,fx,fs,q⟩:=h;cases ry;rcases hq with hq|hq
 ·obtain⟨its,r,pl,hz⟩:=I.list hq;refine SeqAt.notIn_listAt (Dv x) pl.isList (λ w hw=>oY rx fx r fs w (by simpa using hw)) ⟨.bl _,H,I,rfl,?_⟩;rw[show its.toArray.any (Dv x)=its.any (Dv x) by simp,sF r fs];exact q
 ·obtain⟨its,r,pl,hz⟩:=I.tuple hq;refine SeqAt.notIn_tupleAt (Dv x) pl (λ w hw=>oY rx fx r fs w (by simpa using hw)) ⟨.bl _,H,I,rfl,?_⟩;rw[show its.toArray.any (Dv x)=its.any (Dv x) by simp,sF r fs];exact q
def su:d7 X (.builtin "len") (λ xs H Q=>∃ p ys,xs=[.ref p]/\(c8 X.K H p ys\/iZ X.K H p ys)/\Q (.int ys.length) H):=by
 intro pins s σ H xs us Q I r h;obtain⟨p,ys,rfl,hq,q⟩:=h;obtain⟨u,rfl,rx⟩:=vals1 r;cases rx;have hn:=mR;rcases hq with hq|hq
 ·obtain⟨its,r',pl,hz⟩:=I.list hq;have hlen:=r'.length;exact Calls.call_len_list pl.isList (by simp only[Lm]<;>omega) ⟨.int ys.length,H,I.tok _,⟨s.toks+1,by rw[Lm,hlen]⟩,q⟩
 ·obtain⟨its,r',pl,hz⟩:=I.tuple hq;have hlen:=r'.length;exact len_tuple pl (by simp only[Lm]<;>omega) ⟨.int ys.length,H,I.tok _,⟨s.toks+1,by rw[Lm,hlen]⟩,q⟩
def sA:d7 X (.builtin "len") (λ xs H Q=>∃ z,xs=[.str z]/\z.length<=sizeLine/\Q (.int z.length) H):=by
 intro pins s σ H xs us Q I r h;obtain⟨z,rfl,hz,q⟩:=h;obtain⟨u,rfl,t,rfl⟩:=vals1 r;have hn:=mR;exact len_str (by omega) ⟨.int z.length,H,I.tok _,⟨_,rfl⟩,q⟩
def d7.or {f:Value}{r r':List V->Hp->VK->Prop}(h:d7 X f r)(h':d7 X f r'):d7 X f (λ xs H Q=>r xs H Q\/r' xs H Q):=by
 intro pins s σ H xs us Q I rs q;rcases q with q|q
 ·exact h pins s σ H xs us Q I rs q
 ·exact h' pins s σ H xs us Q I rs q
def lL:d7 X (.type "list") (λ xs H Q=>∃ p ys,xs=[.ref p]/\(c8 X.K H p ys\/iZ X.K H p ys)/\∀ l,H l=none->Q (.ref l) (upd H l (.lst ys))):=by
 intro pins s σ H xs us Q I r h;obtain⟨p,ys,rfl,hq,q⟩:=h;obtain⟨u,rfl,rx⟩:=vals1 r;cases rx;have fin:∀ (its:List Value),Vals ys its->ys.length<=sizeLine->∀ (h':Heap) (c':Nat),(∀ b o',s.heap.get? b=some o'->h'.get? b=some o') ->
   h'.get? s.heap.objs.size=some { cls:=.type "list",dict:=none,data:=.seq its.toArray c',slots:=#[] }->EP X pins σ Q (.ref s.heap.objs.size) { s with heap:=h' }:=λ its r' hz h' c' kp e=>
  ⟨.ref s.heap.objs.size,_,I.laid (t':=s.toks) kp (Ll _) (show bQ X.prog X.w _ h' _ (.lst ys) from ⟨hz,its,c',r',e⟩),rfl,q _ (I.hok.fresh (Ll _))⟩
 rcases hq with hq|hq
 ·obtain⟨its,r',pl,hz⟩:=I.list hq;have hlen:=r'.length;obtain⟨o,ho,hc,n,hd⟩:=pl.isList;exact call_list_seq p (.inl rfl) ho hc hd (λ h' c' kp e=>fin its r' hz h' c' kp e) (by simp only[Lm]<;>omega)
 ·obtain⟨its,r',pl,hz⟩:=I.tuple hq;have hlen:=r'.length;obtain⟨o,ho,hc,n,hd⟩:=pl;exact call_list_seq p (.inr rfl) ho hc hd (λ h' c' kp e=>fin its r' hz h' c' kp e) (by simp only[Lm]<;>omega)
def iu:d7 X (.type "tuple") (λ xs H Q=>∃ p ys,xs=[.ref p]/\((c8 X.K H p ys/\∀ l,H l=none->Q (.ref l) (upd H l (.tup ys)))\/(iZ X.K H p ys/\Q (.ref p) H))):=by
 intro pins s σ H xs us Q I r h;obtain⟨p,ys,rfl,h⟩:=h;obtain⟨u,rfl,rx⟩:=vals1 r;cases rx;rcases h with ⟨hq,q⟩|⟨hq,q⟩
 ·obtain⟨its,r',pl,hz⟩:=I.list hq;have hlen:=r'.length;refine call_tuple_list pl.isList (λ h' kp=>?_) (by simp only[Lm]<;>omega);have I1:Inv X pins σ H { s with heap:=h' }:=I.kept (t':=s.toks) kp;have I2:Inv X pins σ (upd H h'.objs.size (.tup ys)) { s with heap:=h'.push { cls:=.type "tuple",data:=.seq its.toArray } }:=
   I1.laid (t':=s.toks) (λ b o e=>Lb _ e) (Ll _) (show bQ X.prog X.w _ _ _ (.tup ys) from ⟨hz,its,r',uw.new _ _⟩)
  exact⟨.ref h'.objs.size,_,I2,rfl,q _ (I1.hok.fresh (Ll _))⟩
 ·obtain⟨its,r',pl,hz⟩:=I.tuple hq;exact call_tuple_same pl ⟨.ref p,H,I,rfl,q⟩
def Jp (K:PySem.W.Frag)(T:String)(x:V)(H:Hp):Prop:=match x with
 |.str _=>T = "str"
 |.int _=>T = "int"
 | .ref p=>(T = "list" /\ ∃ xs,c8 K H p xs)\/(T = "tuple" /\ ∃ o,K.lookup p=some o/\o.cls=.type "tuple" /\ o.dict=none) ∨
   (T = "dict" /\ ((∃ kvs ep,H p=some (.dK kvs ep))\/∃ kvs ep,H p=some (.dT kvs ep)))\/(T = "set" /\ ∃ S n,H p=some (.set S n))
 |_=>False
def sD{v:Value}(I:Inv X pins σ H s)(r:RelV x v)(ty:Jp X.K T x H) :
  s.TypeIs v T/\∀ a,v=.ref a->∃ ob,s.heap.get? a=some ob/\ob.dict=none:=by
 cases x with
 | str z =>
  obtain⟨t,rfl⟩:=r;cases (show T = "str" from ty);exact⟨typeIs_str s z t,λ _ e=>nomatch e⟩
 | int i =>
  obtain⟨t,rfl⟩:=r;cases (show T = "int" from ty);exact⟨typeIs_int s i t,λ _ e=>nomatch e⟩
 | ref p =>
  cases r;rcases ty with ⟨rfl,xs,hq⟩|⟨rfl,o,hk,hc,hd⟩|⟨rfl,hk⟩|⟨rfl,S,n,hk⟩
  ·obtain⟨its,_,pl,_⟩:=I.list hq;refine⟨pl.isList.typeIs,λ a e=>?_⟩;cases e;obtain⟨o,n,e,c,hd,_⟩:=pl;exact⟨o,e,hd⟩
  ·refine⟨⟨o,I.rZ p o hk,hc⟩,λ a e=>?_⟩;cases e;exact⟨o,I.rZ _ o hk,hd⟩
  ·have z:∃ o,s.heap.get? p=some o/\o.ExactDict:=by
    rcases hk with ⟨kvs,ep,hk⟩|⟨kvs,ep,hk⟩
    ·obtain⟨_,_,_,_,o,_,e,ex,_⟩:=I.hok p _ hk;exact⟨o,e,ex⟩
    ·obtain⟨_,_,_,_,o,_,e,ex,_⟩:=I.hok p _ hk;exact⟨o,e,ex⟩
   obtain⟨o,e,ex⟩:=z;refine⟨⟨o,e,ex.1⟩,λ a e2=>?_⟩;cases e2;exact⟨o,e,ex.2.1⟩
  ·obtain⟨o,_,_,_,e,ex,_⟩:=I.hok p _ hk;refine⟨⟨o,e,ex.1⟩,λ a e2=>?_⟩;cases e2;exact⟨o,e,ex.2.1⟩
 |_=>exact False.elim ty
def J0 (K:PySem.W.Frag)(T:String)(r:V->List V->Hp->VK->Prop)(to:TE):TE:=λ σ H Q=>to σ H λ x H1=>Jp K T x H1/\r x [] H1 Q
def Hq (K:PySem.W.Frag)(T:String)(r:V->List V->Hp->VK->Prop)(to:TE)(t:TA):TE:=λ σ H Q=>to σ H λ x H1=>Jp K T x H1/\t σ H1 λ xs H2=>r x xs H2 Q
variable {o:Expr}{es:List Expr}{to:TE}{t:TA}{name:Str}{apos cpos:Pos}{id:String}{r:V->List V->Hp->VK->Prop}
def AD (pa:PlainAttrs T)(slot:Slot T name id)(hty:typeOf (.builtin id)=pure (.type "method_descriptor"))(hm:KJ X id r)(ho:PE X o to)
  (hbase:attributeBase o name X.env (eval o X.env)=eval o X.env:=by rfl) (hline:(apos.endLine == cpos.line)=true:=by rfl):PE X (.Call (.Attribute o name apos) [] [] cpos) (J0 X.K T r to):=by
 intro pins s σ H Q I h;refine N1 hbase hline (dM (ho pins s σ H _ I h) λ v s1 ⟨x,H1,I1,r1,ty,q1⟩=>?_);obtain⟨h1,h2⟩:=sD I1 r1 ty;exact⟨T,id,pa,slot,hty,h1,h2,M8 rfl (OC (hm pins s1 σ H1 x [] v [] Q I1 r1 .nil q1))⟩
def lK (pa:PlainAttrs T)(slot:Slot T name id)(hty:typeOf (.builtin id)=pure (.type "method_descriptor"))(hm:KJ X id r)(ho:PE X o to)(ha:PA X (e::es) t)
  (hbase:attributeBase o name X.env (eval o X.env)=eval o X.env:=by rfl)
  (hfew:((backTo cpos (starEach (e::es) X.env)).all (λ x=>!x.1)&&(backToKw cpos (keywordEach [] X.env)).all (λ x=>x.1.isSome)
   && decide ((e::es).length+([]:List Keyword).length+(if ([]:List Keyword).isEmpty then 0 else 1)<30))=true:=by rfl)
  (hline:(apos.endLine == cpos.line)=true:=by rfl) (hs:starEach (e::es) X.env=(false,eval e X.env)::starEach es X.env:=by rfl) (hplain:(backTo cpos (starEach es X.env)).any (·.1)=false:=by rfl) :
  PE X (.Call (.Attribute o name apos) (e::es) [] cpos) (Hq X.K T r to t):=by
 intro pins s σ H Q I h;refine wpAny_Call_method_late hbase hfew hline rfl (dM (ho pins s σ H _ I h) λ v s1 ⟨x,H1,I1,r1,ty,q1⟩=>?_);obtain⟨h1,h2⟩:=sD I1 r1 ty;refine⟨T,id,pa,slot,hty,h1,h2,?_⟩;have hA:=ha cpos pins s1 σ H1 _ I1 q1;rw[hs]at hA ⊢;refine M8 (by show(false||(backTo cpos (starEach es X.env)).any (·.1))=false;rw[hplain]<;>rfl) (Calls.evalArgs_plain ?_);exact dM hA λ us s2 hq5=>L2.ex5 hq5 λ vs H2 I2 r2 q2=>hm pins s2 σ H2 x vs v us Q I2 r1 r2 q2
end
def EW (X:Cx)(id:String)(r:V->List V->Hp->VK->Prop):Prop:=
 ∀ (pins:List (Addr×Obj)) (s:Shared) (σ:St) (H:Hp) (x:V) (xs:List V) (v:Value) (us:List Value) (Q:VK),Inv X pins σ H s->RelV x v->Vals xs us->r x xs H Q ->
  wpAny (model X.prog X.w) X.A (call (.builtin id) (v::us)) (EP X pins σ Q) X.xe s
def Vals.one(h:Vals [x] us):∃ u,us=[u]/\RelV x u:=by
 cases h with
 |cons r h=>cases h;exact⟨_,rfl,r⟩
def Vals.two(h:Vals [x,y] us):∃ u v,us=[u,v]/\RelV x u/\RelV y v:=by
 cases h with
 | cons r h =>
  cases h with
  |cons q h=>cases h;exact⟨_,_,rfl,r,q⟩
def Vals.zero:∀ {us:List Value},Vals [] us->us=[]
 |_,.nil=>rfl
def Vals.dropLast {xs:List V}(h:Vals xs us):Vals xs.dropLast us.dropLast:=by
 induction h with
 |nil=>exact .nil
 | cons r t ih =>
  cases t with
  |nil=>exact .nil|cons q t'=>exact .cons r ih
def Vals.reverse {xs:List V}(h:Vals xs us):Vals xs.reverse us.reverse:=by
 induction h with
 |nil=>exact .nil|cons r t ih=>rw[N5,N5];exact Vals.append ih (.cons r .nil)
def vQ(l:List α):l.eraseIdx (l.length-1)=l.dropLast:=by
 induction l with
 |nil=>rfl
 | cons a r ih =>
  cases r with
  |nil=>rfl
  | cons b r =>
   have e:(a::b::r).length-1=((b::r).length-1)+1:=by
    have h1:(a::b::r).length=r.length+2:=rfl;have h2:(b::r).length=r.length+1:=rfl;omega
   rw[e,List.eraseIdx_cons_succ,ih]
   all_goals rfl
section
variable{l:Addr}{xs ys zs:List V}
def Inv.AF {its its':List Value}{f:Array Value->Array Value}(I:Inv X pins σ H s)(hH:H l=some (.lst xs))
  (e:s.heap.get? l=some { cls:=.type "list",data:=.seq its.toArray n }) (hf:f its.toArray=its'.toArray) (hv:Vals ys its') (hz:ys.length<=sizeLine) :
  Inv X pins σ (upd H l (.lst ys)) { s with heap:=s.heap.update l (Obj.mapSeq f),toks:=t' }:=by
 have q:=PySem.IsL.update e f;rw[hf]at q;refine I.write (x:=l) (e:=l) (by rw[hH];exact trivial) (.inl rfl) (λ b' u hb hu=>(M9 s.heap (Obj.mapSeq f) (My hb)).trans hu) ⟨_,q⟩ ?_;exact⟨hz,its',_,hv,q⟩
def Inv.HX {its:List Value}(I:Inv X pins σ H s)(hv:Vals ys its)(hz:ys.length<=sizeLine) :
  Inv X pins σ (upd H s.heap.objs.size (.lst ys)) { s with heap:=s.heap.push { cls:=.type "list",data:=.seq its.toArray },toks:=t' }:=
 I.laid (λ _ _ q=>Lb _ q) (Ll _) ⟨hz,its,0,hv,Lj _ rfl⟩
def Inv.fresh (I:Inv X pins σ H s):H s.heap.objs.size=none:=I.hok.fresh (Ll _)
def Inv.yX (I:Inv X pins σ H s)(hH:H l=some (.lst xs)):xs.length<=sizeLine/\∃ (its:List Value) (n:Nat),Vals xs its/\xs.length=its.length/\s.heap.get? l=some { cls:=.type "list",data:=.seq its.toArray n }:=by
 obtain⟨z,its,n,r,e⟩:=I.hok l _ hH;exact⟨z,its,n,r,r.length,e⟩
def uF(h:n<=sizeLine):Builtin.List.listTooLong n=false:=by
 unfold Builtin.List.listTooLong;exact LD (by omega)
end
section
def oA:V->List V->Hp->VK->Prop:=λ x vs H Q=>∃ l xs y,x=.ref l/\vs=[y]/\H l=some (.lst xs)/\xs.length<sizeLine/\Q .bg (upd H l (.lst (xs++[y])))
def gI:EW X "list.append" oA:=by
 intro pins s σ H x vs v us Q I rx rv h;obtain⟨l,xs,y,rfl,rfl,hH,hz,q⟩:=h;cases rx;obtain⟨u,rfl,ru⟩:=rv.one;obtain⟨z,its,n,r,hl,e⟩:=I.yX hH;refine Of F.slot_list_append ⟨_,e,rfl⟩ F.entry_list_append (F.args_list_append_2 _ _) (PySem.list_append l its.toArray n u (by rw[Lm];omega)) ⟨e,?_⟩;refine⟨.bg,_,I.AF (its':=its++[u]) hH e (by simp) (r.append (.cons ru .nil)) ?_,rfl,q⟩;rw[Lo,L6];omega
def DA:V->List V->Hp->VK->Prop:=λ x vs H Q=>∃ l b xs zs,x=.ref l/\vs=[.ref b]/\H l=some (.lst xs)/\H b=some (.lst zs)/\xs.length+zs.length<=sizeLine/\Q .bg (upd H l (.lst (xs++zs)))
def yY:EW X "list.extend" DA:=by
 intro pins s σ H x vs v us Q I rx rv h;obtain⟨l,b,xs,zs,rfl,rfl,hH,hB,hz,q⟩:=h;cases rx;obtain⟨u,rfl,ru⟩:=rv.one;cases ru;obtain⟨z,its,n,r,hl,e⟩:=I.yX hH;obtain⟨z2,its2,n2,r2,hl2,e2⟩:=I.yX hB;have hsz:its.toArray.size+its2.toArray.size<=sizeLine:=by rw[Lm,Lm];omega
 have hlong:¬ (!its.toArray.isEmpty&&Builtin.List.listTooLong (its.toArray.size+its2.toArray.size))=true:=by
  rw[uF hsz,Bool.and_false];exact Li
 refine Of F.slot_list_extend ⟨_,e,rfl⟩ F.entry_list_extend (F.args_list_extend_2 _ _)
  (AutoSeq1.list_extend_list_list_0 l its.toArray n b its2.toArray n2 hlong (by rw[Lm];omega) (by omega)) ⟨e,e2,?_⟩
 refine⟨.bg,_,I.AF (its':=its++its2) hH e (by simp) (r.append r2) ?_,rfl,q⟩;rw[Lo];omega
def JY:V->List V->Hp->VK->Prop:=λ x vs H Q=>∃ l xs y,x=.ref l/\vs=[]/\H l=some (.lst xs)/\xs[xs.length-1]?=some y/\Q y (upd H l (.lst xs.dropLast))
def F3:EW X "list.pop" JY:=by
 intro pins s σ H x vs v us Q I rx rv h;obtain⟨l,xs,y,rfl,rfl,hH,hy,q⟩:=h;cases rx;have hus:=rv.zero;subst hus;obtain⟨z,its,n,r,hl,e⟩:=I.yX hH;obtain⟨u,hu,ru⟩:=r.get hy;have hy':its.toArray[its.toArray.size-1]?=some u:=by
  show its.toArray[its.length-1]?=some u;rw[<-L1,<-hl];exact hu
 refine Of F.slot_list_pop ⟨_,e,rfl⟩ F.entry_list_pop (F.args_list_pop_1 _) (MeetsSeq.list_pop_last l its.toArray n u hy' (by rw[Lm];omega)) ⟨e,?_⟩;refine⟨y,_,I.AF (its':=its.dropLast) hH e ?_ r.dropLast ?_,ru,q⟩
 ·show its.toArray.eraseIdxIfInBounds (its.toArray.size-1)=its.dropLast.toArray;rw[Lm,List.eraseIdxIfInBounds_toArray,vQ]
 ·rw[List.length_dropLast];omega
def AE:V->List V->Hp->VK->Prop:=λ x vs H Q=>∃ l xs,x=.ref l/\vs=[]/\H l=some (.lst xs)/\Q .bg (upd H l (.lst xs.reverse))
def vU:EW X "list.reverse" AE:=by
 intro pins s σ H x vs v us Q I rx rv h;obtain⟨l,xs,rfl,rfl,hH,q⟩:=h;cases rx;have hus:=rv.zero;subst hus;obtain⟨z,its,n,r,hl,e⟩:=I.yX hH;refine Of F.slot_list_reverse ⟨_,e,rfl⟩ F.entry_list_reverse (F.args_list_reverse_1 _) (AutoSeq1.list_reverse_list_0 l its.toArray n (by rw[Lm];omega)) ⟨e,?_⟩;refine⟨.bg,_,I.AF (its':=its.reverse) hH e (by simp) r.reverse ?_,rfl,q⟩;rw[List.length_reverse];omega
end
section
variable {prog:Program}
end
section
end
section
variable {κ:Type}[DecidableEq κ]
def iG (kvs:List (κ×V))(k:κ):Option V:=(kvs.find? λ kv=>decide (kv.1=k)).map (·.2)
def putK (kvs:List (κ×V))(k:κ)(v:V):List (κ×V):=
 if (kvs.any λ kv=>decide (kv.1=k))=true then kvs.map (λ kv=>if kv.1=k then (kv.1,v) else kv) else kvs++[(k,v)]
def jI {p:κ×V}{r:List (κ×V)}{k:κ}(e:p.1=k):iG (p::r) k=some p.2:=by simp[iG,Nm,e]
def iH {p:κ×V}{r:List (κ×V)}{k:κ}(e:¬ p.1=k):iG (p::r) k=iG r k:=by simp[iG,Nm,e]
def uI (k:κ):∀ kvs:List (κ×V),(kvs.any λ kv=>decide (kv.1=k))=(iG kvs k).isSome
 |[]=>rfl
 | p::r=>by
  rw[Nb];by_cases e:p.1=k
  ·simp only[jI e,LO e,Bool.true_or,Option.isSome_some]
  ·rw[iH e,LD e,Bool.false_or];exact uI k r
def nH (kvs:List (κ×V))(k:κ)(v:V):(putK kvs k v).length<=kvs.length+1:=by
 unfold putK;split
 ·rw[Lc];omega
 ·rw[Lo,Ly,Mn];omega
def n6.y9{u:Option Value}(r:n6 o u):o.isSome=u.isSome:=by
 cases o with
 | none=>cases u with
  |none=>rfl|some _=>exact(show False from r).elim
 | some _=>cases u with
  |none=>exact(show False from r).elim|some _=>rfl
def KV.val {kvs:List (κ×V)}{vs:List (κ×Value)}(r:KV kvs vs)(k:κ):n6 (iG kvs k) (valueAt vs k):=by
 unfold KV at r
 induction r with
 |nil=>exact True.intro
 | @cons p q ps qs h t ih =>
  obtain⟨h1,h2⟩:=h;by_cases e:p.1=k
  ·have e':q.1=k:=h1.symm.trans e;have b:valueAt (q::qs) k=some q.2:=by simp[valueAt,Nm,e']
   rw[jI e,b];exact h2
  ·have e':¬ q.1=k:=λ z=>e (h1.trans z);have b:valueAt (q::qs) k=valueAt qs k:=by simp[valueAt,Nm,e']
   rw[iH e,b];exact ih
def KV.any {kvs:List (κ×V)}{vs:List (κ×Value)}(r:KV kvs vs)(k:κ):(kvs.any λ kv=>decide (kv.1=k))=vs.any λ kv=>decide (kv.1=k):=by
 unfold KV at r
 induction r with
 |nil=>rfl|cons h t ih=>rw[Nb,Nb,ih,h.1]
def KV.repl {kvs:List (κ×V)}{vs:List (κ×Value)}(r:KV kvs vs)(k:κ)(ry:RelV y u) :
  KV (kvs.map λ kv=>if kv.1=k then (kv.1,y) else kv) (vs.map λ kv=>if kv.1=k then (kv.1,u) else kv):=by
 unfold KV at r ⊢
 induction r with
 |nil=>exact .nil
 | @cons p q ps qs h t ih =>
  rw[LA,LA];refine .cons ?_ ih;obtain⟨h1,h2⟩:=h;by_cases e:p.1=k
  ·rw[Lr e,Lr (h1.symm.trans e)];exact⟨h1,ry⟩
  ·rw[Lw e,Lw (λ z=>e (h1.trans z))];exact⟨h1,h2⟩
def KV.put {kvs:List (κ×V)}{vs:List (κ×Value)}(r:KV kvs vs)(k:κ)(ry:RelV y u):KV (putK kvs k y) (stored vs k u):=by
 unfold putK stored;rw[r.any k];by_cases e:(vs.any λ kv=>decide (kv.1=k))=true
 ·rw[Lr e,Lr e];exact r.repl k ry
 ·rw[Lw e,Lw e];exact Paired.snoc r ⟨rfl,ry⟩
def KV.length {kvs:List (κ×V)}{vs:List (κ×Value)}(r:KV kvs vs):kvs.length=vs.length:=MR r
end
def uG{k:Key}(r:RelV (kV k) u):(bN P w).is k u=true:=by
 cases k with
 |inl i=>obtain⟨t,e⟩:=(show ∃ t,u=Value.int i t from r);subst e;exact uC P w i t|inr x=>obtain⟨t,e⟩:=(show ∃ t,u=Value.str x t from r);subst e;exact uz P w x t
def qO {P:Program}{w:World}:∀ {ks:List Key}{us:List Value},Vals (ks.map kV) us->ItemsAre (bN P w) ks us
 |[],_,r=>by rw[List.map_nil]at r;cases r;exact .nil
 | k::ks,_,r=>by
  rw[LA]at r;cases r with
  |cons h t=>exact .cons (uG h) (qO t)
abbrev KT (H:Hp):List (List Key×V)->List (List Key×Addr×Value)->Prop:=Paired λ p q=>p.1=q.1/\H q.2.1=some (.tup (p.1.map kV))/\RelV p.2 q.2.2
def KT.val(r:KT H kvs xs)(k:List Key):n6 (iG kvs k) ((atKey xs k).map (·.2)):=by
 induction r with
 |nil=>exact True.intro
 | @cons p q ps qs h t ih =>
  obtain⟨h1,_,h2⟩:=h;by_cases e:p.1=k
  ·have e':q.1=k:=h1.symm.trans e;have b:atKey (q::qs) k=some q.2:=by simp[atKey,Nm,e']
   rw[jI e,b];exact h2
  ·have e':¬ q.1=k:=λ z=>e (h1.trans z);have b:atKey (q::qs) k=atKey qs k:=by simp[atKey,Nm,e']
   rw[iH e,b];exact ih
def KT.repl(r:KT H kvs xs)(k:List Key)(ry:RelV y u) :
  KT H (kvs.map λ kv=>if kv.1=k then (kv.1,y) else kv) (xs.map (putAt k u)):=by
 induction r with
 |nil=>exact .nil
 | @cons p q ps qs h t ih =>
  rw[LA,LA];refine .cons ?_ ih;obtain⟨h1,h2,h3⟩:=h;unfold putAt;by_cases e:p.1=k
  ·rw[Lr e,Lr (h1.symm.trans e)];exact⟨h1,h2,ry⟩
  ·rw[Lw e,Lw (λ z=>e (h1.trans z))];exact⟨h1,h2,h3⟩
def KT.put(r:KT H kvs xs)(k:List Key)(hb:H b=some (.tup (k.map kV)))(ry:RelV y u) :
  KT H (putK kvs k y) (storedH xs k b u):=by
 have e:(kvs.any λ kv=>decide (kv.1=k))=(atKey xs k).isSome:=by
  rw[uI,(r.val k).y9,Option.isSome_map]
 unfold putK storedH;rw[e];by_cases q:(atKey xs k).isSome=true
 ·rw[Lr q,Lr q];exact r.repl k ry
 ·rw[Lw q,Lw q];exact Paired.snoc r ⟨rfl,hb,ry⟩
def KT.keeps {H':Hp}(r:KT H kvs xs)(ht:∀ b ys,H b=some (.tup ys)->H' b=some (.tup ys)):KT H' kvs xs:=
 Paired.Fv r λ _ _ z=>⟨z.1,ht _ _ z.2.1,z.2.2⟩
section
variable{h:Heap}
def EZ {u:HO}(ok:i6 P w H h)(e:Rd H a u):bQ P w H h a u:=e.ok ok
def J5 (H:Hp)(a:Addr)(kvs:List (Key×V)):Prop:=∃ ep,Rd H a (.dK kvs ep)
def J4 (H:Hp)(a:Addr)(kvs:List (List Key×V)):Prop:=∃ ep,Rd H a (.dT kvs ep)
def HK (H:Hp)(a:Addr)(kvs:List (Key×V)):Prop:=∃ ep,H a=some (.dK kvs ep)
def HT (H:Hp)(a:Addr)(kvs:List (List Key×V)):Prop:=∃ ep,H a=some (.dT kvs ep)
def HK.rd{kvs:List (Key×V)}(e:HK H a kvs):J5 H a kvs:=let ⟨ep,e⟩:=e;⟨ep,.inl e⟩
def HT.rd(e:HT H a kvs):J4 H a kvs:=let ⟨ep,e⟩:=e;⟨ep,.inl e⟩
def AQ {kvs:List (Key×V)}(ok:i6 P w H h)(e:J5 H a kvs):kvs.length<=sizeLine/\(a == sysModules)=false/\∃ vs,KV kvs vs/\h.DictOf (bN P w) a vs:=
 by
 obtain⟨ep,e⟩:=e;obtain⟨z,y,vs,r,d⟩:=(show bQ P w H h a (.dK kvs ep) from EZ ok e);exact⟨z,y,vs,r,d.dictOf⟩
def E1 {kvs:List (Key×V)}(ok:i6 P w H h)(e:HK H a kvs):kvs.length<=sizeLine/\(a == sysModules)=false/\∃ vs,KV kvs vs/\h.DictOf (bN P w) a vs:=AQ ok e.rd
def vV {ks:List Key}(ok:i6 P w H h)(e:H a=some (.tup (ks.map kV))):(tupleKind (bN P w)).is h ks a:=by
 obtain⟨_,its,r,tn⟩:=(show bQ P w H h a (.tup (ks.map kV)) from ok a _ e);obtain⟨o,h1,h2,n,h3⟩:=tn.is;exact⟨o,its.toArray,n,h1,h2,h3,by simpa using qO r⟩
def AM(ok:i6 P w H h)(e:J4 H a kvs):kvs.length<=sizeLine/\(a == sysModules)=false /\
  ∃ xs,KT H kvs xs/\h.DictOfH (tupleKind (bN P w)) a xs:=by
 obtain⟨ep,e⟩:=e;obtain⟨z,y,xs,r,o,es,h1,h2,h3,h4,h5⟩:=(show bQ P w H h a (.dT kvs ep) from EZ ok e);refine⟨z,y,xs,r,o,es,ep,h1,h2,h3,h4,λ x hx=>?_,h5⟩;have all:∀ {l:List (List Key×V)}{m:List (List Key×Addr×Value)},KT H l m->∀ x∈m,(tupleKind (bN P w)).is h x.1 x.2.1:=by
  intro l m q
  induction q with
  |nil=>intro x hx;exact nomatch hx
  | @cons p q ps qs hq t ih =>
   intro x hx;rcases Ln.mp hx with e|hx
   ·subst e;exact vV ok (by rw[<-hq.1];exact hq.2.1)
   ·exact ih x hx
 exact all r x hx
def Ie(ok:i6 P w H h)(e:HT H a kvs):kvs.length<=sizeLine/\(a == sysModules)=false /\
  ∃ xs,KT H kvs xs/\h.DictOfH (tupleKind (bN P w)) a xs:=AM ok e.rd
end
def lN (H:Hp)(a:Addr)(y:V)(r:Option V):Prop:=
 (∃ kvs k,J5 H a kvs/\y=kV k/\r=iG kvs k)\/∃ kvs k b,J4 H a kvs/\y=.ref b/\H b=some (.tup (k.map kV))/\r=iG kvs k
def Ib (H:Hp)(a:Addr)(y v:V)(K:Hp->Prop):Prop:=
 (∃ kvs k,HK H a kvs/\y=kV k/\kvs.length<sizeLine/\∀ ep,K (upd H a (.dK (putK kvs k v) ep))) ∨
 ∃ kvs k b,HT H a kvs/\y=.ref b/\H b=some (.tup (k.map kV))/\kvs.length<sizeLine/\∀ ep,K (upd H a (.dT (putK kvs k v) ep))
def lN.k{kvs:List (Key×V)}{k:Key}(e:HK H a kvs):lN H a (kV k) (iG kvs k):=.inl ⟨kvs,k,e.rd,rfl,rfl⟩
def lN.t{k:List Key}(e:HT H a kvs)(eb:H b=some (.tup (k.map kV))):lN H a (.ref b) (iG kvs k):=.inr ⟨kvs,k,b,e.rd,rfl,eb,rfl⟩
section
variable{v:V}{r:Value}
def Inv.big (I:Inv X pins σ H s):sysModules<s.heap.objs.size:=by
 have h:mainGlobals<s.heap.objs.size:=(I.mod.glob.keeps I.bk).lt;exact Pj (by decide) h
def zb {Q:Value->Shared->Prop}(hu:A.units+1<cLine)(I:Inv X pins σ H s)(g:lN H a y (some v))(ry:RelV y u)(h:∀ w' s',Inv X pins σ H s'->RelV v w'->Q w' s') :
  wpAny (model X.prog X.w) A (getItem (.ref a) u) Q E s:=by
 rcases g with ⟨kvs,k,e,ey,l⟩|⟨kvs,k,b,e,ey,eb,l⟩
 ·subst ey;obtain⟨z,hd,vs,rel,dd⟩:=AQ I.hok e;obtain⟨w',hw,rw'⟩:=n6.some_of (v:=v) (o:=valueAt vs k) (by rw[l];exact rel.val k);exact wpAny_getItem_of (uG ry) dd.mapOf hw (h w' _ (I.tok _) rw')
 ·subst ey;cases (show u=Value.ref b from ry);obtain⟨z,hd,xs,rel,dd⟩:=AM I.hok e;obtain⟨w',hw,rw'⟩:=n6.some_of (v:=v) (o:=(atKey xs k).map (·.2)) (by rw[l];exact rel.val k);obtain⟨p,hp,hp2⟩:=Option.map_eq_some_iff.mp hw;refine wpAny_getItem_heap (tupleKind_room_in1 hu) (vV I.hok eb) dd hp ?_;rw[hp2];exact h w' _ (I.tok _) rw'
def sG {h':Heap}{ob:HO}(I:Inv X pins σ H s)(mu:HH (H a))(hs:Heap.SameBut a s.heap h')(he:∃ q,h'.get? a=some q)(new:bQ X.prog X.w (upd H a ob) h' a ob) :
  Inv X pins σ (upd H a ob) { s with heap:=h',toks:=t' }:=
 I.write (x:=a) (e:=a) mu (.inl rfl) (λ b q hb z=>(hs.2 b hb).trans z) he new
def AO{H':Hp}{h':Heap}{kvs:List (Key×V)}{vs:List (Key×Value)}{ep:Nat}(z:kvs.length<=sizeLine)(hd:(a == sysModules)=false)(rel:KV kvs vs)(dd:h'.DictAt (bN P w) a vs ep) :
  bQ P w H' h' a (.dK kvs ep):=⟨z,hd,vs,rel,dd⟩
def yZ {K:Hp->Prop}{Q:Unit->Shared->Prop}(hu:A.units+1<cLine)(I:Inv X pins σ H s)(g:Ib H a y v K)(ry:RelV y u)(rv:RelV v r)(h:∀ H' s',K H'->Inv X pins σ H' s'->Q () s') :
  wpAny (model X.prog X.w) A (setItem (.ref a) u r) Q E s:=by
 rcases g with ⟨kvs,k,e,ey,l,eH⟩|⟨kvs,k,b,e,ey,eb,l,eH⟩
 ·subst ey;obtain⟨ep0,e0⟩:=id e;obtain⟨z,hd,vs,rel,dd⟩:=E1 I.hok e;have hz:vs.length<=sizeLine:=by rw[<-rel.length];exact z
  have hl:(putK kvs k v).length<=sizeLine:=by have:=nH kvs k v;omega
  refine wpAny_setItem_pairs (hsz:=hz) (uG ry) dd λ h' dd' hs=>?_;obtain⟨ep',dd'⟩:=dd'.dictAt;refine h _ _ (eH ep') ?_;have he:∃ q,h'.get? a=some q:=let ⟨q,_,hq,_⟩:=dd';⟨q,hq⟩
  exact sG I (by rw[e0];exact True.intro) hs he (AO hl hd (rel.put k rv) dd')
 ·subst ey;obtain⟨ep0,e0⟩:=id e;cases (show u=Value.ref b from ry);obtain⟨z,hd,xs,rel,dd⟩:=Ie I.hok e;have hz:xs.length<=sizeLine:=by rw[<-MR rel];exact z
  have hl:(putK kvs k v).length<=sizeLine:=by have:=nH kvs k v;omega
  refine wpAny_setItem_heap (hsz:=hz) (tupleKind_room_in1 hu) (vV I.hok eb) dd λ h' dd' hs=>?_;obtain⟨q,es,ep,hq,h2,h3,h4,_,h5⟩:=dd';refine h _ _ (eH ep) ?_;refine sG I (by rw[e0];exact True.intro) hs ⟨q,hq⟩ ⟨hl,hd,_,(rel.put k eb rv).keeps λ c ys ec=>?_,q,es,hq,h2,h3,h4,h5⟩;rw[aG (HM ec e0 (λ z=>nomatch z))];exact ec
end
section
variable{kvs:List (Key×V)}{k:Key}
end
def DC (i:Expr):Prop:=∀ ov iv,subscripted i false ov iv=operate [ov,iv] (getItem ov iv)
def DB {prog:Program}{env:Env}{value slice:Expr}{id:String}{Q:Value->Shared->Prop}
  (hl:typeLookup (.type T) "__getitem__" = pure (some (.builtin id))) (hs:DC slice)
  (h:wpAny (model prog w) A (eval value env) (λ o s₁=>wpAny (model prog w) A (eval slice env) (λ i s₂=>s₂.TypeIs o T/\wpAny (model prog w) A (getItem o i) Q E s₂) E s₁) E s) :
  wpAny (model prog w) A (eval (.Subscript value slice pos) env) Q E s:=by
 refine Subscript_ (MP h (λ o s₁ h₁=>MP h₁ (λ i s₂ h₂=>?_) λ _ _ x=>x) λ _ _ x=>x);obtain⟨hT,h₂⟩:=h₂;unfold subscriptTail;refine La ?_;rw[getitemInPython_of_ne hT.not_modules];refine La (wpAny_specialOf hT hl ?_);have fin:wpAny (model prog w) A (subscripted slice false o i) (λ r s₃=>wpAny (model prog w) A (letTemporaryGo value o r >>= λ _=>pure r) Q E s₃) E s₂:=by
  rw[hs o i];exact wpAny_operating (MP h₂ (λ r s₃ h₃=>La (wpAny_letTemporaryGo (Lf h₃))) λ _ _ x=>x)
 first
  |exact Lf (La fin)
  |exact La (Lf (La fin))
  |exact La fin
def uH(I:Inv X pins σ H s)(g:lN H a y o):s.TypeIs (.ref a) "dict" :=by
 rcases g with ⟨kvs,k,e,_,_⟩|⟨kvs,k,b,e,_,_,_⟩
 ·obtain⟨_,_,vs,_,dd⟩:=AQ I.hok e;exact dd.typeIs
 ·obtain⟨_,_,xs,_,dd⟩:=AM I.hok e;exact dd.typeIs
def Ic (td ty:TE):TE:=λ σ H Q=>td σ H λ x H1=>ty σ H1 λ y H2=>∃ a v,x=.ref a/\lN H2 a y (some v)/\Q v H2
def Ig (td ty tv:TE):TS:=λ D σ H=>tv σ H λ v H1=>td σ H1 λ x H2=>ty σ H2 λ y H3=>∃ a,x=.ref a/\Ib H3 a y v (D.nx σ)
section
variable{o i value:Expr}{pos' tpos:Pos}{td ty tv:TE}
def xA (hu:X.A.units+1<cLine)(ho:PE X o td)(hi:PE X i ty)(hs:DC i):PE X (.Subscript o i pos) (Ic td ty):=by
 intro pins s σ H Q I h;refine DB PySem.F.slot_dict_getitem.lookup hs (dM (ho pins s σ H _ I h) λ u s1 hq5=>L2.ex5 hq5 λ x H1 I1 rx q1=>dM (hi pins s1 σ H1 _ I1 q1) λ iv s2 ⟨y,H2,I2,ry,a,v,ex,g,q2⟩=>?_);subst ex;obtain rfl:u=Value.ref a:=rx;exact⟨uH I2 g,zb hu I2 g ry λ w' s3 I3 rw'=>⟨v,H2,I3,rw',q2⟩⟩
def xy (hu:X.A.units+1<cLine)(ho:PE X o td)(hi:PE X i ty)(hv:PE X value tv)(hs:swapsWith value (some (.Subscript o i pos')) pos.line X.env=pure false) :
  PS X (.Assign [.Subscript o i pos'] value pos) (Ig td ty tv):=by
 intro pins s σ H D I h;refine wpAny_Assign_Subscript (dM (hv pins s σ H _ I h) λ r s1 hq5=>L2.ex5 hq5 λ v H1 I1 rv q1=>dM (ho pins s1 σ H1 _ I1 q1) λ u s2 hq5=>L2.ex5 hq5 λ x H2 I2 rx q2=>dM (hi pins s2 σ H2 _ I2 q2) λ iv s3 ⟨y,H3,I3,ry,a,ex,g⟩=>?_) hs;subst ex;obtain rfl:u=Value.ref a:=rx;exact yZ hu I3 g ry rv λ H4 s4 q3 I4=>⟨σ,H4,I4,q3⟩
end
def AR(h:Heap)(hb:sysModules<h.objs.size):bQ P w H (h.push { cls:=.type "dict",data:=.dict #[] }) h.objs.size (.dK [] 0):=
 ⟨Mk _,Nr.mpr (My (LH hb)),[],.nil,_,#[],Lj _ rfl,⟨rfl,rfl,rfl⟩,rfl,λ _ he=>by simp at he,Pairs.nil,Mu⟩
def AJ(h:Heap)(hb:sysModules<h.objs.size):bQ P w H (h.push { cls:=.type "dict",data:=.dict #[] }) h.objs.size (.dT [] 0):=
 ⟨Mk _,Nr.mpr (My (LH hb)),[],.nil,_,#[],Lj _ rfl,⟨rfl,rfl,rfl⟩,rfl,rfl,Mu⟩
def F9:TE:=λ _ H Q=>∀ p,H p=none->Q (.ref p) (upd H p (.dK [] 0))
def F8:TE:=λ _ H Q=>∀ p,H p=none->Q (.ref p) (upd H p (.dT [] 0))
section
def AN:PE X (.Dict [] [] pos) F9:=λ pins s σ H Q I h=>
 wpAny_Dict_empty ⟨.ref s.heap.objs.size,_,I.laid (a:=s.heap.objs.size) (o:=.dK [] 0) (t':=s.toks) (λ _ _ q=>Lb _ q) (Ll _) (AR s.heap I.big),rfl,h _ (I.hok.fresh (Ll _))⟩
def AK:PE X (.Dict [] [] pos) F8:=λ pins s σ H Q I h=>
 wpAny_Dict_empty ⟨.ref s.heap.objs.size,_,I.laid (a:=s.heap.objs.size) (o:=.dT [] 0) (t':=s.toks) (λ _ _ q=>Lb _ q) (Ll _) (AJ s.heap I.big),rfl,h _ (I.hok.fresh (Ll _))⟩
end
section
variable{d:V}{r:Value}
end
section
variable{o f:Expr}{apos cpos:Pos}{td ty tx:TE}
end
section
variable{kvs:List (Key×V)}
end
section
end
end L2
namespace KO
open PySem PySem.W PySem.Calls PyProof.Rows
def n8 {P:Params}{h:Heap}:∀ (ns:List Int) (vs:List Value),WellAll P h vs (ns.map WData.int)->IntsAre vs ns:=by
 intro ns
 induction ns with
 | nil =>
  intro vs w;rw[List.map_nil]at w;cases w;exact .nil
 | cons n ns ih =>
  intro vs w;rw[LA]at w;cases w with
  | cons a b =>
   cases a;exact .cons _ _ (ih _ b)
def zh {l:OpenLaw}{n:Nat}(hn:l.most=some n){P:Params}{h:Heap}{args:List WData}{vals:List Value}
  (hpre:l.row.toRowW.claim.pre args=true) (hwl:WellAll P h vals args) :
  ∃ a vs ns,vals=[Value.ref a]/\args=[WData.list (ns.map WData.int)]/\h.get? a=some { cls:=.type "list",data:=.seq vs.toArray }/\IntsAre vs ns/\ns.length<=n:=by
 have hsh:WShape.hasAll [] args [.list .int]=true:=(pre_splitW hpre).1;have hc:l.pre.holds [] { args:=args }=true:=(pre_splitW hpre).2;obtain⟨d,r,rfl,h1,h2⟩:=hasAllW_cons hsh;obtain rfl:=hasAllW_nil h2;obtain⟨xs,rfl,h3⟩:=hasW_list h1;obtain⟨ns,rfl⟩:=items_int h3;have hlen:ns.length<=n:=by
  unfold OpenLaw.pre at hc;have h4:(WTm.not (.lt (.lit (.int (n:Int))) (.len (.arg 0)))).holds [] { args:=[.list (ns.map .int)] }=true:=by
   have h4:=(holds_andW hc).1;rw[hn]at h4;exact h4
  have h5:=condW_of h4 (w_not (w_lt w_lit (w_len_list (w_arg rfl))));rw[Lc]at h5;refine Nat.le_of_not_lt λ q=>?_;have q':(n:Int)<((ns.length:Nat):Int):=by omega
  first
   |(rw[LO q']at h5;exact absurd h5 (by decide))
   |(simp at h5;omega)
 cases hwl with
 | cons w1 w2 =>
  cases w2;cases w1 with
  |list ho hall=>exact⟨_,_,ns,rfl,rfl,ho,n8 ns _ hall,hlen⟩
def zg (l:OpenLaw)(args:List WData):l.row.toRowW.claim.post args (.bool true) args=true:=
 postW_of (r:=l.row.toRowW) (X:=(true == true))
  (show WShape.has [] (.bool true) .bool=true by first|rfl|decide|simp[WShape.has,WShape.arms,WShape.armsAll])
  (show(WTm.eq .res (.lit (.bool true))).value [] { args:=args,res:=some (.bool true),after:=args }=some (.bool (true == true)) from w_eq_bool (w_res rfl) w_lit) rfl
def uJ {l:OpenLaw}{n:Nat}{q:Program}{loose:List Str}{XP:(Str->Option Value)->Heap->Prop}{YP:World->Heap->Prop}{d:DefRec}
  (hn:l.most=some n) (hdf:d.params.defaults=[])
  (call:∀ (w:World) (s₀ s₁:Shared) (mg mb:Str->Option Value) (fa:Addr) (o:Obj) (pm cd doc:Value) (a:Addr) (vs:List Value) (ns:List Int),
   Ground q loose [] XP w s₀ mg mb s₁.heap->YP w s₁.heap ->
   s₁.heap.get? fa=some o->o.data=.func (docDef d.name d.params d.body d.scope pm cd doc)->s₁.heap.CodeRec cd d.name->mg d.name=some (.ref fa) ->
   s₁.heap.get? a=some { cls:=.type "list",data:=.seq vs.toArray }->IntsAre vs ns->ns.length<=n->s₁.gens = #[] ->
   codeAny (model l.prog w) callerA (.call (.ref fa) ⟨[.ref a],[]⟩) (λ r s'=>r=.ok (.ret (.bool true))/\OldK s₁.heap s'.heap/\s'.os=s₁.os/\AllBare s'.gens) s₁) :
  WalkO q loose XP YP l.row.toRowW d [] (λ f vs=>PySem.call f vs):=by
 intro w s₀ s₁ mg mb G Y fa o pm cd doc dV kV ho hd hcd hD hmg hg args vals as hpre hlay hrd hwl hlo;obtain rfl:dV=.none:=Dflts.none hD hdf;obtain rfl:kV=.none:=Dflts.noKw hD;obtain⟨a,vs,ns,rfl,rfl,hobj,hints,hlen⟩:=zh hn hpre hwl;refine enter_call (OG (call w s₀ s₁ mg mb fa o pm cd doc a vs ns G Y ho (fd_plain hd) hcd hmg hobj hints hlen hg) λ r s' hq=>?_);obtain⟨rfl,h2,h3,h4⟩:=hq;exact⟨.inl ⟨.bool true,.bool true,[],rfl,λ _=>rfl,.bool true,zg l _,λ _=>⟨List.Pairwise.nil,λ _ hm=>(nomatch hm)⟩⟩,h2,h3,h4⟩
section
variable {prog:Program}{w:World}{A:Around}{E:Value->Shared->Prop}{s:Shared}{K:Frag}
end
end KO
namespace L2
open PySem PySem.Spec PyProof.Rows
variable {a e f it:Addr}{A:Around}{items:Array Value}{X:Cx}{cm:Cx->Prop}{env:Env}{fd:FuncData}{H H':Hp}{pins:List (Addr×Obj)}{cl:List (Str×Addr)}{cap:List (Str×Nat)}{fp:List Addr}{ps:List Str}{i:Nat}{pos:Pos}{P:Program}{scope:Scope}{s:Shared}{sp:Sp}{σ:St}{st:Stmt}{qual x y:Str}{E Q:Value->Shared->Prop}{w:World}
def ki:∀ {vs:List Value}{ns:List Int},IntsAre vs ns->Vals (ns.map V.int) vs
 |_,_,.nil=>.nil
 |_,_,.cons n t h=>.cons ⟨t,rfl⟩ (ki h)
def Ga (H:Hp):Prop:=∀ b,H b=none\/∃ o xs,H b=some (.aq o (.lst xs))
def AS{K:PySem.W.Frag}{mg mb:Str->Option Value}{CX:AB}{k:Nat}{fa:Addr}{s₁:Shared}{vs:List Value}{ns:List Int}
  (KX:K.In s₁.heap) (hns:s₁.heap.Ns mainGlobals mg) (hb:s₁.heap.Ns builtinsNs mb) (hbb:∀ x:Str,x ≠ "__name__" -> mb x=bootBuiltins x) (hlim:s₁.heap.NoLimit) (hg:s₁.gens = #[])
  (ha:s₁.heap.get? a=some { cls:=.type "list",data:=.seq vs.toArray }) (hi:IntsAre vs ns) (hl:ns.length<=sizeLine) (hr:fY k callerA)
  (F:∀ base:Heap,K.In base->base.Ns mainGlobals mg->oQ P w K mg base CX k fa fd [x] sp) (hbind:∀ (s:Shared) (u:Value),BindsTo s fd ⟨[u],[]⟩ [(x,u)])
  (hsp:∀ H:Hp,Ga H->c8 K H a (ns.map V.int)->sp [.ref a] H (λ v _=>v=.bl true) λ _ _ _=>False)
  (hCX:∀ H e s',CX [] H s₁ (λ _ _ _=>False) e s'->False) :
  codeAny (model P w) callerA (.call (.ref fa) ⟨[.ref a],[]⟩) (λ r s'=>r=.ok (.ret (.bool true))/\OldK s₁.heap s'.heap/\s'.os=s₁.os/\AllBare s'.gens) s₁:=by
 have rv:=ki hi;have lenV:=hi.length;have core:∀ H:Hp,Ga H->c8 K H a (ns.map V.int)->i6 P w H s₁.heap->(∀ b,H b≠none->b=a)->(H a≠none->K.lookup a=none) ->
   codeAny (model P w) callerA (.call (.ref fa) ⟨[.ref a],[]⟩) (λ r s'=>r=.ok (.ret (.bool true))/\OldK s₁.heap s'.heap/\s'.os=s₁.os/\AllBare s'.gens) s₁:=by
  intro H hO hS hok hA hK;have base_of:∀ {b:Addr}{o:Obj},s₁.heap.get? b=some o->H b=none->(se s₁.heap H).get? b=some o:=λ e n=>Ay e n;have noA:∀ {b:Addr}{o:Obj}{es:Array DictEntry}{ep:Nat},s₁.heap.get? b=some o->o.data=.dict es ep->H b=none:=λ {b o es ep} e d=>by
   cases q:H b with
   |none=>rfl
   | some u =>
    have e':b=a:=hA b (by rw[q];simp);subst e';rw[ha]at e;cases e;have d':Data.seq vs.toArray _=Data.dict es ep:=d;cases d'
  have nsK:∀ {b:Addr}{m:Str->Option Value},s₁.heap.Ns b m->(se s₁.heap H).Ns b m:=λ {b m} ⟨o,es,ep,e,d,r⟩=>⟨o,es,ep,base_of e (noA e d),d,r⟩;have hKb:K.In (se s₁.heap H):=λ b o e=>base_of (KX b o e) (by
   cases q:H b with
   |none=>rfl
   | some u =>
    have e':b=a:=hA b (by rw[q];simp);subst e';rw[hK (by rw[q];simp)]at e;cases e)
  have hM:Mod K mg (se s₁.heap H):=⟨hKb,nsK hns,⟨mb,nsK hb,hbb⟩,let ⟨mc,h1,h2⟩:=hlim;⟨mc,nsK h1,h2⟩⟩;have e0:C6 P w K mg (se s₁.heap H) callerA [] s₁ H:=⟨rfl,hM,λ b o e=>Dk e,Nat.le_of_eq (yI _ _),trivial,λ b hb=>absurd (show b∈([]:List Addr) from hb) (by simp),hok,.of_eq hg⟩;refine OG ((F _ hKb (nsK hns)).run callerA [] s₁ H ⟨[.ref a],[]⟩ [.ref a] [.ref a] _ _ hr e0 (hbind s₁ (.ref a)) (.cons rfl .nil) (hsp H hO hS)) λ r s' h=>?_;cases r with
  |error e=>exact(hCX H e s' h).elim
  | ok fl =>
   cases fl with
   |next=>exact False.elim h|brk=>exact False.elim h|cont=>exact False.elim h
   | ret u =>
    obtain⟨v,H',os,bare,un,hok',r',q⟩:=h;have q':v=.bl true:=q;subst q';obtain rfl:u=Value.bool true:=r';refine⟨rfl,OldK.of_keep λ b o e=>?_,os,bare⟩;cases q:H b with
    |none=>exact un.keep b o e q (by intro z;exact absurd (show b∈([]:List Addr) from z) (by simp)) (by simp)
    | some u =>
     rcases hO b with z|⟨ob,xs,z⟩
     ·rw[q]at z;cases z
     ·have z2:=un.qi b ob _ z;obtain⟨e1,_⟩:=hok b _ z;obtain⟨e2,_⟩:=hok' b _ z2;rw[e]at e1;cases e1;exact e2
 cases hk:K.lookup a with
 | some o =>
  have e:=KX a o hk;rw[ha]at e;cases e;refine core (λ _=>none) (λ _=>.inl rfl) (.inr ⟨_,vs.toArray,_,hk,rfl,rfl,rfl,by rw[Lm,lenV];exact hl,by simpa using rv⟩) (λ b u z=>by have z':(none:Option HO)=some u:=z;cases z') (λ b z=>absurd rfl z) λ z=>absurd rfl z
 | none =>
  refine core (λ b=>if b=a then some (.aq { cls:=.type "list",data:=.seq vs.toArray } (.lst (ns.map V.int))) else none) (λ b=>?_) (.inl (.inr ⟨{ cls:=.type "list",data:=.seq vs.toArray },Lr rfl⟩)) (λ b u z=>?_) (λ b z=>?_) λ _=>hk
  ·by_cases hb:b=a
   ·exact .inr ⟨_,_,Lr hb⟩
   ·exact .inl (Lw hb)
  ·by_cases hb:b=a
   ·have z':=(Lr hb).symm.trans z;cases z';subst hb;exact⟨ha,by rw[Lc];exact hl,vs,_,rv,ha⟩
   ·have z':=(Lw hb).symm.trans z;cases z'
  ·by_cases hb:b=a
   ·exact hb
   ·exact absurd (Lw hb) z
def DG {l:PySem.W.OpenLaw}{n k:Nat}{q:Program}{loose:List Str}{XP:(Str->Option Value)->Heap->Prop}{YP:World->Heap->Prop}{d:DefRec}{K:Params->PySem.W.Frag}{CX:World->AB}{sp:World->Sp}
  (hn:l.most=some n) (hn2:n<=sizeLine) (hdf:d.params.defaults=[]) (hr:fY k callerA)
  (hY:∀ (w:World) (h:Heap),YP w h->(K w.params).In h)
  (F:∀ (w:World) (mg:Str->Option Value) (fa:Addr) (h:Heap),(K w.params).In h->h.Ns mainGlobals mg->mg d.name=some (.ref fa) ->
   ∃ fd:FuncData,(∀ (s:Shared) (u:Value),BindsTo s fd ⟨[u],[]⟩ [(x,u)]) /\
    ∀ base:Heap,(K w.params).In base->base.Ns mainGlobals mg->oQ l.prog w (K w.params) mg base (CX w) k fa fd [x] (sp w))
  (hsp:∀ (w:World) (H:Hp) (a:Addr) (ns:List Int),ns.length<=n->Ga H->c8 (K w.params) H a (ns.map V.int)->sp w [.ref a] H (λ v _=>v=.bl true) λ _ _ _=>False)
  (hCX:∀ (w:World) (H:Hp) (s:Shared) (e:Value) (s':Shared),CX w [] H s (λ _ _ _=>False) e s'->False) :
  PySem.W.WalkO q loose XP YP l.row.toRowW d [] (λ f vs=>PySem.call f vs):=by
 refine KO.uJ hn hdf λ w s₀ s₁ mg mb fa o pm cd doc a vs ns G Y ho hd hcd hmg hobj hints hlen hg=>?_;have KX:=hY w _ Y;obtain⟨fd,hb,hF⟩:=F w mg fa _ KX G.T.g hmg;exact AS KX G.T.g G.T.b G.T.builtins G.T.nolimit hg hobj hints (MC hlen hn2) hr hF hb (λ H hO hS=>hsp w H a ns hlen hO hS) λ H e s'=>hCX w H s₁ e s'
def gY (s:Stmt):Arguments:=match s with
 |.FunctionDef _ a _ _ _ _ _ _ _ _=>a
 |_=>{ posonlyargs:=[],args:=[],vararg:=none,kwonlyargs:=[],kw_defaults:=[],kwarg:=none,defaults:=[] }
def dW (s:Stmt):List Stmt:=match s with
 |.FunctionDef _ _ b _ _ _ _ _ _ _=>b
 |_=>[]
def aA (s:Stmt):Scope:=match s with
 |.FunctionDef _ _ _ _ _ _ sc _ _ _=>sc
 |_=>{ kind:=.function,names:=[],isGenerator:=false,isCoroutine:=false }
abbrev zd:AB:=λ _ _ _ _ _ _=>False
abbrev E0:XK:=λ _ _ _=>False
def Ii:Passes zd X E0:=λ _ _ _ _ _ _ _ h=>h.elim
structure DE (K:PySem.W.Frag)(x qual:Str)(st:Stmt)(f:Addr)(fd:FuncData):Prop where
 ex:∃ (oc:Value) (od:Option Addr) (kV doc pm:Value) (an:Option Addr) (cdv ct:Value) (osl:Array (Option Value)),
  fd=PySem.W.fnOf x qual (gY st) (dW st) (aA st) .none kV doc pm an cdv ct/\K.lookup f=some ⟨oc,od,.func fd,osl⟩/\PySem.W.codeIn K cdv qual=true
 kp:PySem.W.keepIn K (.ref f)=true
section
variable{K:PySem.W.Frag}{mg:Str->Option Value}{base:Heap}
def DE.ok{N:List Str}{k:Nat}(F:DE K x qual st f fd)(S:aW N ps (aA st))(len:∀ vs H Q E,sp vs H Q E->vs.length=ps.length)
  (hbody:∀ (cdv:Value) (A:Around) (outer:List Env) (s:Shared) (H:Hp) (vs:List V) (Q:VK) (E:XK),fY k (A.deeper (envOfC qual (aA st) s.heap.objs.size f cdv))->sp vs H Q E ->
   ∃ t,kg (qk zd P w K mg base N qual (aA st) f cdv A outer s H E).EU (dW st) t/\t { nx:=λ _ H'=>Q .bg H',rt:=Q } (start N vs) H):oQ P w K mg base zd (k+1) f fd ps sp:=by
 obtain⟨oc,od,kV,doc,pm,an,cdv,ct,osl,rfl,lk,hcd⟩:=F.ex;refine Hz lk hcd S len λ A outer s H vs Q E hr hsp=>?_;obtain⟨t,h,q⟩:=hbody cdv A outer s H vs Q E hr hsp;exact⟨t,h.EU,q⟩
def DE.binds(F:DE K x qual st f fd)
  (h:∀ (kV doc pm:Value) (an:Option Addr) (cdv ct:Value) (us:List Value),us.length=ps.length->bindArgs (PySem.W.fnOf x qual (gY st) (dW st) (aA st) .none kV doc pm an cdv ct) ⟨us,[]⟩=pure (ps.zip us)):Binds K fd ps []:=by
 obtain⟨oc,od,kV,doc,pm,an,cdv,ct,osl,rfl,lk,hcd⟩:=F.ex;exact .all (h kV doc pm an cdv ct)
def vW{oc:Value}{od an:Option Addr}{osl:Array (Option Value)}{kV doc pm cdv ct:Value}(l:K.lookup f=some ⟨oc,od,.func (PySem.W.fnOf x qual (gY st) (dW st) (aA st) .none kV doc pm an cdv ct),osl⟩)
  (c:PySem.W.codeIn K cdv qual=true) (k:PySem.W.keepIn K (.ref f)=true):DE K x qual st f (PySem.W.fnOf x qual (gY st) (dW st) (aA st) .none kV doc pm an cdv ct):=⟨⟨oc,od,kV,doc,pm,an,cdv,ct,osl,rfl,l,c⟩,k⟩
end
def dG{k:Nat}(hr:fY k A):A.units+1<cLine:=Nat.lt_of_le_of_lt (Nat.add_le_add_left (by decide:1<=64) _) hr.units
section
end
def au (H H':Hp):Prop:=∀ b o,H b=some o->H' b=some o
def au.refl (H:Hp):au H H:=λ _ _ h=>h
def au.trans {H1 H2:Hp}(a:au H H1)(b:au H1 H2):au H H2:=λ c o h=>b c o (a c o h)
def au.free(e:au H H'){l:Addr}(h:H' l=Option.none):H l=Option.none:=by
 cases q:H l with
 |none=>rfl
 | some o =>
  rw[e l o q]at h;cases h
def au.seq {K:PySem.W.Frag}{xs:List V}(e:au H H')(h:c8 K H a xs):c8 K H' a xs:=by
 rcases h with (h|⟨o,h⟩)|h
 ·exact .inl (.inl (e _ _ h))
 ·exact .inl (.inr ⟨o,e _ _ h⟩)
 ·exact .inr h
section
end
section
variable {κ:Type}[DecidableEq κ]
end
section
variable{s':Shared}
end
def lookup_mem {α:Type}{y:Str}{v:α}:∀ {l:List (Str×α)},l.lookup y=some v->(y,v)∈l
 |[],h=>by cases h
 | (n,k)::r,h=>by
  rw[MH]at h;cases hb:y == n with
  | true =>
   rw[hb]at h;cases h;rw[Nq.mp hb];exact Le
  | false =>
   rw[hb]at h;exact Ld _ (lookup_mem h)
def gB {α:Type}{y:Str}{v:α}:∀ {l:List (Str×α)},(l.map (·.1)).Nodup->(y,v)∈l->l.lookup y=some v
 |[],_,h=>by cases h
 | (n,k)::r,hn,h=>by
  have hn':(n::r.map (·.1)).Nodup:=hn;obtain⟨h1,h2⟩:=Lv.mp hn';rw[MH];rcases Ln.mp h with e|e
  ·cases e;simp
  ·have hne:(y == n)=false:=by
    refine Nr.mpr λ z=>h1 ?_;rw[<-z];exact Lq.mpr ⟨(y,v),e,rfl⟩
   rw[hne];exact gB h2 e
def zk (env:Env)(y:Str)(k:NameKind):NameKind:=if (k == NameKind.free&&env.scope.kind == .function&&env.kindOf y == some .cell)=true then .cell else k
def jJ (scope:Scope)(env:Env)(y:Str):(relabel scope env).names.lookup y=(scope.names.lookup y).map (zk env y):=by
 show(scope.names.map λ (n,k)=>if (k == NameKind.free&&env.scope.kind == .function&&env.kindOf n == some .cell)=true then (n,NameKind.cell) else (n,k)).lookup y=_
 induction scope.names with
 |nil=>rfl
 | cons p r ih =>
  obtain⟨n,k⟩:=p;rw[LA];by_cases hc:(k == NameKind.free&&env.scope.kind == .function&&env.kindOf n == some .cell)=true
  ·simp only[Lr hc,MH];cases hb:y == n with
   | true =>
    have e:y=n:=Nq.mp hb;subst e;simp only[NU,zk,Lr hc]
   |false=>exact ih
  ·simp only[Lw hc,MH];cases hb:y == n with
   | true =>
    have e:y=n:=Nq.mp hb;subst e;simp only[NU,zk,Lw hc]
   |false=>exact ih
def lg {env:Env}(f:Str×NameKind->List (Str×Addr)->Sem (ForInStep (List (Str×Addr))))
  (hf:∀ name kind cs,f (name,kind) cs=if (kind == .free)=true then (do let a <-cellOf env name;pure (.yield ((name,a)::cs))) else pure (.yield cs)) :
  ∀ (names:List (Str×NameKind)) (acc:List (Str×Addr)),(∀ y∈names,y.2=.free->∃ c,env.cells.lookup y.1=some c) ->
   ∃ cl,(forIn names acc f:Sem (List (Str×Addr)))=pure cl/\(∀ y c,cl.lookup y=some c->acc.lookup y=some c\/(env.cells.lookup y=some c/\(y,NameKind.free)∈names)) /\
    (∀ y,(y,NameKind.free)∈names\/(acc.lookup y).isSome=true->∃ c,cl.lookup y=some c)
 | [],acc,_=>⟨acc,by rw [OL],λ y c e=>.inl e,λ y h=>by
   rcases h with h|h
   ·cases h
   ·exact Np.mp h⟩
 | (name,kind)::r,acc,h=>by
  have hr:∀ y∈r,y.2=.free->∃ c,env.cells.lookup y.1=some c:=λ y hy=>h y (Ld _ hy);by_cases hk:(kind == NameKind.free)=true
  ·have e:kind=.free:=Nq.mp hk;subst e;obtain⟨c0,hc0⟩:=h (name,.free) Le rfl;have hc0:env.cells.lookup name=some c0:=hc0;obtain⟨cl,h1,h2,h3⟩:=lg f hf r ((name,c0)::acc) hr;refine⟨cl,?_,λ y c e=>?_,λ y hy=>?_⟩
   ·rw[NV,hf,Lr hk];unfold cellOf;rw[hc0];exact h1
   ·rcases h2 y c e with q|⟨q1,q2⟩
    ·rw[MH]at q;cases hb:y == name with
     | true =>
      rw[hb]at q;cases q;have e:y=name:=Nq.mp hb;subst e;exact .inr ⟨hc0,Le⟩
     | false =>
      rw[hb]at q;exact .inl q
    ·exact .inr ⟨q1,Ld _ q2⟩
   ·refine h3 y ?_;rw[MH];cases hb:y == name with
    |true=>exact .inr rfl
    | false =>
     rcases hy with hy|hy
     ·rcases Ln.mp hy with z|z
      ·cases z;simp at hb
      ·exact .inl z
     ·exact .inr hy
  ·obtain⟨cl,h1,h2,h3⟩:=lg f hf r acc hr;refine⟨cl,?_,λ y c e=>(h2 y c e).imp id λ q=>⟨q.1,Ld _ q.2⟩,λ y hy=>h3 y (hy.imp (λ hy=>?_) id)⟩
   ·rw[NV,hf,Lw hk];exact h1
   ·rcases Ln.mp hy with z|z
    ·cases z;exact absurd rfl hk
    ·exact z
def vY(h:∀ y∈scope.names,y.2=.free->∃ c,env.cells.lookup y.1=some c) :
  ∃ cl,closureFor scope env=pure cl/\(∀ y c,cl.lookup y=some c->env.cells.lookup y=some c/\(y,NameKind.free)∈scope.names)/\(∀ y,(y,NameKind.free)∈scope.names->∃ c,cl.lookup y=some c):=by
 have key:∀ f:Str×NameKind->List (Str×Addr)->Sem (ForInStep (List (Str×Addr))),
   (∀ name kind cs,f (name,kind) cs=if (kind == .free)=true then (do let a <-cellOf env name;pure (.yield ((name,a)::cs))) else pure (.yield cs)) ->
   closureFor scope env=(forIn scope.names [] f >>= λ r=>pure r) ->
   ∃ cl,closureFor scope env=pure cl/\(∀ y c,cl.lookup y=some c->env.cells.lookup y=some c/\(y,NameKind.free)∈scope.names)/\(∀ y,(y,NameKind.free)∈scope.names->∃ c,cl.lookup y=some c):=by
  intro f hf e;obtain⟨cl,h1,h2,h3⟩:=lg f hf scope.names [] h;refine⟨cl,?_,λ y c q=>(h2 y c q).resolve_left (λ z=>by cases z),λ y hy=>h3 y (.inl hy)⟩;rw[e,h1];rfl
 refine key _ (λ name kind cs=>?_) rfl;by_cases hk:(kind == NameKind.free)=true
 ·simp only[hk,Nh]
 ·simp only[hk,Nx]
def jK:∀ (names:List (Str×NameKind)) (h:Heap) (acc:List (Str×Addr)) (y:Str) (c:Addr),(cellsFrom h.objs.size names acc).lookup y=some c ->
  acc.lookup y=some c\/(h.objs.size<=c/\(y,NameKind.cell)∈names/\(pushCells h names).IsCell c none)
 |[],_,_,_,_,e=>.inl e
 | (name,kind)::r,h,acc,y,c,e=>by
  unfold cellsFrom at e;unfold pushCells;by_cases hk:(kind == NameKind.cell)=true
  ·rw[Lr hk]at e ⊢;have ek:kind=.cell:=Nq.mp hk;subst ek;have sz:(h.push { cls:=.type "cell",data:=.cell none }).objs.size=h.objs.size+1:=Mf ..;rw[<-sz]at e;rcases jK r _ _ y c e with q|⟨q1,q2,q3⟩
   ·rw[MH]at q;cases hb:y == name with
    | true =>
     rw[hb]at q;cases q;have e:y=name:=Nq.mp hb;subst e;exact .inr ⟨Ll _,Le,⟨_,Ow _ _ _ _ (Lj _ rfl),rfl⟩⟩
    | false =>
     rw[hb]at q;exact .inl q
   ·rw[sz]at q1;exact .inr ⟨NN q1,Ld _ q2,q3⟩
  ·rw[Lw hk]at e ⊢;rcases jK r _ _ y c e with q|⟨q1,q2,q3⟩
   ·exact .inl q
   ·exact .inr ⟨q1,Ld _ q2,q3⟩
def mT:∀ (names:List (Str×NameKind)) (n:Nat) (acc:List (Str×Addr)),(∀ y z c,acc.lookup y=some c->acc.lookup z=some c->y=z)->(∀ y c,acc.lookup y=some c->c<n) ->
  ∀ y z c,(cellsFrom n names acc).lookup y=some c->(cellsFrom n names acc).lookup z=some c->y=z
 |[],_,_,h,_,y,z,c,e1,e2=>h y z c e1 e2
 | (name,kind)::r,n,acc,h,hl,y,z,c,e1,e2=>by
  unfold cellsFrom at e1 e2;by_cases hk:(kind == NameKind.cell)=true
  ·rw[Lr hk]at e1 e2;refine mT r (n+1) _ (λ y z c q1 q2=>?_) (λ y c q=>?_) y z c e1 e2
   ·rw[MH]at q1 q2;cases b1:y == name with
    | true =>
     rw[b1]at q1;cases q1;cases b2:z == name with
     |true=>rw[Nq.mp b1,Nq.mp b2]
     | false =>
      rw[b2]at q2;exact absurd (hl z _ q2) (Mj _)
    | false =>
     rw[b1]at q1;cases b2:z == name with
     | true =>
      rw[b2]at q2;cases q2;exact absurd (hl y _ q1) (Mj _)
     | false =>
      rw[b2]at q2;exact h y z c q1 q2
   ·rw[MH]at q;cases b:y == name with
    | true =>
     rw[b]at q;cases q;exact Og _
    | false =>
     rw[b]at q;exact NO (hl y c q)
  ·rw[Lw hk]at e1 e2;exact mT r n acc h hl y z c e1 e2
def vX {M:Model}{Q:Env->Shared->Prop}
  (hQ:Q { scope:=scope,locals:=s.heap.objs.size,globals:=env.globals,cells:=cellsFrom (s.heap.objs.size+1) scope.names cl,qual:=env.qual,func:=none,code:=env.code,frame:=env.frame,builtins:=env.builtins }
   { s with heap:=pushCells (s.heap.push { cls:=.type "dict",data:=.dict #[] }) scope.names }) :
  wpAny M A (newFunctionEnv scope env.globals cl [] env.qual none .none (some env)) Q E s:=by
 simp only[newFunctionEnv,Option.isSome_some,Nh];refine La (wpAny_alloc ?_);refine La (wpAny_layCells _ (λ name kind cells=>by cases hkc:kind == NameKind.cell<;>simp[hkc]) _ _ _ _ ?_);rw[show({ s with heap:=s.heap.push { cls:=.type "dict",data:=.dict #[] } }:Shared).heap.objs.size=s.heap.objs.size+1 from Mf ..];refine La ?_;rw[OL];exact Lf (Lf hQ)
section
variable {prog:Program}{R:Result->Shared->Prop}
def zm {elt target iter:Expr}{ifs:List Expr}{it acc:Value}(I:Nat->Shared->Prop)
  (turn:∀ n s,I n s->wpAny (model prog w) A (pyNext it) (λ r s₁=>match r with
   |none=>R (.ok .next) s₁
   | some v=>wpAny (model prog w) A (letOwnedTupleGo target it v) (λ _ s₁'=>wpAny (model prog w) A (assign target env v) (λ _ s₂ =>
     wpAny (model prog w) A (forIn ifs true λ c r=>if r=true then do let ok <-isTrue c env (eval c env);pure (ForInStep.yield ok) else pure (ForInStep.yield r)) (λ ok s₂'=>
      if ok=true then wpAny (model prog w) A (eval elt env) (λ x s₃=>
       wpAny (model prog w) A (call (.builtin "list.append") [acc,x]) (λ _ s₄=>∃ m,m<n/\I m s₄) (λ _ _=>False) s₃) (λ _ _=>False) s₂'
      else ∃ m,m<n/\I m s₂') (λ _ _=>False) s₂) (λ _ _=>False) s₁') (λ _ _=>False) s₁) (λ _ _=>False) s)
  (n:Nat) (h:I n s):codeAny (model prog w) A (.compLoop (.ListComp elt [⟨target,iter,ifs,0⟩] scope pos) 0 it acc env) R s:=by
 refine codeAny_loop rfl I (λ n s hI=>?_) n h;show wpAny _ _ ((compTurn (.ListComp elt [⟨target,iter,ifs,0⟩] scope pos) 0 it acc env).onRaise (λ x=>do noteFrame x env;theTreesLotGoes x)) _ _ s;refine wpAny_noted ?_;rw[compTurn_list];refine La (wpAny_standAt (La (MP (turn n s hI) (λ r s₁ h₁=>?_) λ _ _ h'=>h'.elim)));cases r with
 |none=>exact Lf h₁
 | some v =>
  refine La (MP h₁ (λ _ s₁' h₁'=>?_) λ _ _ h'=>h'.elim);refine La (MP h₁' (λ _ s₂ h₂=>La (MP h₂ (λ ok s₃ h₃=>?_) λ _ _ h'=>h'.elim)) λ _ _ h'=>h'.elim);cases ok with
  |false=>exact Lf ⟨rfl,h₃⟩
  | true =>
   exact La (La (MP h₃ (λ x s₄ h₄=>La (MP h₄ (λ _ s₅ h₅=>Lf (Lf ⟨rfl,h₅⟩)) λ _ _ h'=>h'.elim)) λ _ _ h'=>h'.elim))
def Ij (X:Cx)(ifs:List Expr)(t:TT):Prop:=∀ (pins:List (Addr×Obj)) (s:Shared) (σ:St) (H:Hp) (Q:Bool->Hp->Prop),Inv X pins σ H s->t σ H Q ->
 wpAny (model X.prog X.w) X.A (forIn ifs true λ c r=>if r=true then do let ok <-isTrue c X.env (eval c X.env);pure (ForInStep.yield ok) else pure (ForInStep.yield r)) (TP X pins σ Q) X.xe s
def J6:TT:=λ _ H Q=>Q true H
def DJ:Ij X [] J6:=λ pins s σ H Q I h=>wpAny_tests_nil ⟨H,I,h⟩
def DH{c:Expr}{t:TT}(h:PT X c t):Ij X [c] t:=λ pins s σ H Q I hw=>wpAny_tests_one (h pins s σ H Q I hw)
end
structure gh (X:Cx)(scope:Scope)(own:List Str)(cap:List (Str×Nat)):Prop where
 kind:scope.kind=.function
 nd:(scope.names.map (·.1)).Nodup
 free:∀ y∈scope.names,y.2=.free->X.env.kindOf y.1=some .cell\/X.env.kindOf y.1=some .free
 J7:∀ p∈cap,X.N[p.2]?=some p.1/\(p.1,NameKind.free)∈scope.names
def oZ (σ:St)(cap:List (Str×Nat)):St:=cap.map λ p=>(σ[p.2]?).join
def iw (X:Cx)(scope:Scope)(cs:List (Str×Addr))(C:Addr)(N:List Str)(s0:Shared)(H0:Hp)(fp:List Addr):Cx where
 prog:=X.prog
 w:=X.w
 K:=X.K
 mg:=X.mg
 base:=X.base
 A:=X.A
 N:=N
 s₀:=s0
 H₀:=H0
 env:=compEnvC scope cs C X.env
 outer:=X.stack
 stack:=X.stack
 ex:=fp
 fn:=λ y=>decide (scope.names.lookup y=some .cell)
 calm:=X.calm
 pn:=X.pn
 xe:=λ _ _=>False
section
def uL(h:env.kindOf y=some .cell\/env.kindOf y=some .free):rY env.scope y:=.inr h
def AU{own:List Str}(I:Inv X pins σ H s)(ok:gh X scope own cap)
  (hcl:∀ y c,cl.lookup y=some c->X.env.cells.lookup y=some c/\(y,NameKind.free)∈scope.names) (hcl2:∀ y,(y,NameKind.free)∈scope.names->∃ c,cl.lookup y=some c)
  (f2:∀ b∈fp,n5 X pins H b) (fo:∀ b∈fp,b<s.heap.objs.size) :
  Inv (iw X scope (cellsFrom (s.heap.objs.size+1) scope.names cl) s.heap.objs.size (own++cap.map (·.1)) s H fp) pins (List.replicate own.length none++oZ σ cap) H
   { s with heap:=pushCells (s.heap.push { cls:=.type "dict",data:=.dict #[] }) scope.names }:=by
 have szC:(s.heap.push { cls:=.type "dict",data:=.dict #[] }).objs.size=s.heap.objs.size+1:=Mf ..;have kp:∀ b o,s.heap.get? b=some o->(pushCells (s.heap.push { cls:=.type "dict",data:=.dict #[] }) scope.names).get? b=some o:=λ b o e=>Ow _ _ b o (Lb _ e);have sp:∀ y c,(cellsFrom (s.heap.objs.size+1) scope.names cl).lookup y=some c->(X.env.cells.lookup y=some c/\(y,NameKind.free)∈scope.names) ∨
   (s.heap.objs.size+1<=c/\(y,NameKind.cell)∈scope.names/\(pushCells (s.heap.push { cls:=.type "dict",data:=.dict #[] }) scope.names).IsCell c none):=λ y c e=>by
  rw[<-szC]at e;rcases jK _ _ _ y c e with q|q
  ·exact .inl (hcl y c q)
  ·rw[szC]at q;exact .inr q
 have clt:∀ y c,X.env.cells.lookup y=some c->c<s.heap.objs.size:=λ y c e=>by
  obtain⟨v,o,ho,_⟩:=I.cell y c e;exact Lk ho
 have kfree:∀ y,(y,NameKind.free)∈scope.names->scope.names.lookup y=some .free:=λ y h=>gB ok.nd h;have kcell:∀ y,(y,NameKind.cell)∈scope.names->scope.names.lookup y=some .cell:=λ y h=>gB ok.nd h;have okY:(iw X scope (cellsFrom (s.heap.objs.size+1) scope.names cl) s.heap.objs.size (own++cap.map (·.1)) s H fp).Ok:={
  mod:=I.ok.mod
  kind:=ok.kind
  glob:=I.ok.glob
  blt:=I.ok.blt
  above:=Ll _
  inj:=λ x y c e1 e2=>mT scope.names (s.heap.objs.size+1) cl (λ y z c q1 q2=>I.ok.inj y z c (hcl y c q1).1 (hcl z c q2).1) (λ y c q=>NO (clt y c (hcl y c q).1)) x y c e1 e2
  has:=λ y hy=>by
   have hy':(relabel scope X.env).names.lookup y=some .cell\/(relabel scope X.env).names.lookup y=some .free:=hy;rw[jJ]at hy';refine Np.mp (NF scope.names _ _ ?_);cases q:scope.names.lookup y with
   | none =>
    rw[q]at hy';rcases hy' with z|z<;>cases z
   | some k =>
    by_cases hk:k=.cell
    ·subst hk;exact .inl rfl
    ·by_cases hf:k=.free
     ·subst hf;obtain⟨c,hc⟩:=hcl2 y (lookup_mem q);exact .inr (by rw[hc];rfl)
     ·rw[q]at hy';exfalso;have hb:(k == NameKind.free)=false:=by simpa using hf
      rcases hy' with z|z
      ·simp[zk,hb]at z;exact hk z
      ·simp[zk,hb]at z;exact hf z
  Ho:=λ y c hf e=>by
   have hf':scope.names.lookup y=some .cell:=of_decide_eq_true hf;rcases sp y c e with ⟨_,q⟩|⟨q,_⟩
   ·rw[kfree y q]at hf';cases hf'
   ·exact NN q
  hd:=I.ok.hd
  frames:=I.ok.frames
  Hy:=.inl rfl
  Jo:=λ b hb=>⟨LH (fo b hb),λ x c e z=>by
   subst z;rcases sp x c e with ⟨q,_⟩|⟨q,_⟩
   ·exact(f2 c hb).2.2.2.2.1 x c q rfl
   ·exact absurd (LR (fo c hb) (NN q)) (Mj _)⟩
  bs:=I.bs
  Dg:=MC I.ok.Dg I.sz
  yQ:=λ b o e hb=>by
   rcases (f2 b hb).2.2.2.1 with q|q
   ·exact I.ok.yQ b o e q
   ·exact absurd (LR (Lk e) (MC I.ok.Dg q)) (Mj _)
  yT:=λ b hb z=>by
   rcases Ln.mp (I.r8 b z) with q|q
   ·exact(f2 b hb).2.1 q
   ·exact(f2 b hb).2.2.1 q
  nZ:=I.stack
  Ft:=I.xq }
 obtain⟨m,hns,hl⟩:=id I.loc;refine⟨okY,rfl,I.bare,Un.kept kp,⟨λ _=>none,(Heap.Ns.new s.heap (.type "dict")).keeps (Ow _ _),λ i x v e1 e2 e3=>?_⟩,λ y c e=>?_,I.fresh,λ y c e=>?_,λ p hp=>?_,I.hok.kept kp,?_⟩
 ·
  have e1:(own++cap.map (·.1))[i]?=some x:=e1;by_cases hi:i<own.length
  ·rw[OV (by simpa using hi)]at e2;simp[hi]at e2
  ·have hi':own.length<=i:=Nat.not_lt.mp hi;rw[MJ (by simpa using hi')]at e2;rw[MJ hi']at e1;rw[List.length_replicate]at e2;unfold oZ at e2;rw[LG]at e1 e2;cases q:cap[i-own.length]? with
   | none =>
    rw[q]at e1;cases e1
   | some p =>
    rw[q]at e1 e2;obtain⟨p1,p2⟩:=p;have e1:p1=x:=L5 e1;subst e1;have e2:(σ[p2]?).join=some v:=L5 e2;have e2:σ[p2]?=some (some v):=by
     cases z:σ[p2]? with
     |none=>rw[z]at e2;cases e2|some z'=>rw[z]at e2;exact MG some e2
    obtain⟨hN,hfr⟩:=ok.J7 (p1,p2) (Oo q);have hk:=ok.free (p1,.free) hfr rfl;obtain⟨u,r,L⟩:=hl p2 p1 v hN e2 (uL hk);refine⟨u,r,?_⟩;rcases L with ⟨k,_⟩|⟨_,c,hc,hcell⟩
    ·have hk:X.env.kindOf p1=some .cell\/X.env.kindOf p1=some .free:=hk;rw[k]at hk;rcases hk with z|z<;>cases z
    ·refine .inr ⟨?_,c,?_,hcell.keeps kp⟩
     ·show(relabel scope X.env).names.lookup p1=some .cell\/(relabel scope X.env).names.lookup p1=some .free;rw[jJ,kfree _ hfr,NU];unfold zk;split
      ·exact .inl rfl
      ·exact .inr rfl
     ·obtain⟨c',hc'⟩:=hcl2 p1 hfr;obtain⟨c2,hc2⟩:=Np.mp (NF scope.names (s.heap.objs.size+1) cl (.inr (by rw[hc'];rfl):scope.names.lookup p1=some .cell\/(cl.lookup p1).isSome=true));have hc2':(cellsFrom (s.heap.objs.size+1) scope.names cl).lookup p1=some c2:=hc2;rcases sp p1 c2 hc2' with ⟨q1,_⟩|⟨_,q2,_⟩
      ·rw[hc]at q1;cases q1;exact hc2'
      ·have:=kcell p1 q2;rw[kfree p1 hfr]at this;cases this
 ·rcases sp y c e with ⟨q,_⟩|⟨_,_,q⟩
  ·obtain⟨v,hv⟩:=I.cell y c q;exact⟨v,hv.keeps kp⟩
  ·exact⟨none,q⟩
 ·rcases sp y c e with ⟨q,_⟩|⟨q,_⟩
  ·exact I.jH y c q
  ·exact I.hok.fresh (NN q)
 ·obtain⟨a1,a2,a3,a4,a5⟩:=I.pin p hp;refine⟨kp _ _ a1,a2,LH (Lk a1),λ z=>?_,a5⟩;rcases Ln.mp (I.r8 p.1 z) with q|q
  ·exact a3 q
  ·exact a4 q
 ·show(List.replicate own.length none++oZ σ cap).length=(own++cap.map (·.1)).length;simp[oZ]
def uK{cs:List (Str×Addr)}{C:Addr}{N:List Str}{τ:St}{s':Shared}{h':Heap}(I:Inv X pins σ H s)(f2:∀ b∈fp,n5 X pins H b)
  (hC:s.heap.objs.size<=C) (J:Inv (iw X scope cs C N s H fp) pins τ H' s') (hs:Heap.SameBut C s'.heap h'):Inv X pins σ H' { s' with heap:=h' }:=by
 have u:Un (frs X.stack) fp H H' s.heap s'.heap:=J.base;have ne:∀ b o,s.heap.get? b=some o->b≠C:=λ b o e=>LH (LR (Lk e) hC);refine I.HS (s':={ s' with heap:=h' }) (ch:=fp) J.os ⟨λ b o e n hf hx=>?_,λ b o e n hf hx=>?_,u.free,λ b o e hx=>?_,u.tups,u.qi,u.sq⟩ (λ a o e=>?_) J.bare λ b hb=>⟨(f2 b hb).2.2.2.1,(f2 b hb).2.1,(f2 b hb).2.2.2.2.1,(f2 b hb).2.2.2.2.2⟩
 ·exact(hs.2 b (ne b o e)).trans (u.keep b o e n hf hx)
 ·obtain⟨sl,q⟩:=u.slot b o e n hf hx;exact⟨sl,(hs.2 b (ne b o e)).trans q⟩
 ·obtain⟨o',q⟩:=u.there b o e hx;exact⟨o',(hs.2 b (ne b o e)).trans q⟩
 ·refine(J.hok a o e).stay (λ b v hb q=>(hs.2 b ?_).trans q) (λ _ q=>q) λ _ _ q=>q;rintro rfl;have fr:H' b=none:=J.free;rcases hb with rfl|hb
  ·rw[fr]at e;cases e
  ·rw[fr]at hb;cases hb
end
def qP (wi:TI)(g:TG)(tt:TT)(te:TE)(k:Nat)(cap:List (Str×Nat)):TE:=λ σ H Q=>wi σ H λ J H1=>∀ acc,H1 acc=none->∃ W:Nat->Nat->St->List V->Hp->Prop,
 (∃ m,W 0 m (List.replicate k none++oZ σ cap) [] (upd H1 acc (.lst []))) /\
 ∀ i m τ ys H,W i m τ ys H->(J.stop i H/\Q (.ref acc) H)\/(J.go i H/\∀ x H',J.vM i H x H'->g x τ H' λ τ2 H2=>tt τ2 H2 λ b H2'=>if b=true then te τ2 H2' λ v H3=>
  H3 acc=some (.lst ys)/\ys.length<sizeLine/\∃ m',m' < m/\W (i+1) m' τ2 (ys++[v]) (upd H3 acc (.lst (ys++[v]))) else ∃ m',m' < m/\W (i+1) m' τ2 ys H2')
structure gZ (X:Cx)(scope:Scope)(own:List Str)(cap:List (Str×Nat))(tg:Expr)(ifs:List Expr)(elt:Expr)(g:TG)(tt:TT)(te:TE):Prop where
 K4:∀ cs C s0 H0 fp,PG (iw X scope cs C (own++cap.map (·.1)) s0 H0 fp) tg g
 K6:∀ cs C s0 H0 fp,Ij (iw X scope cs C (own++cap.map (·.1)) s0 H0 fp) ifs tt
 K5:∀ cs C s0 H0 fp,PE (iw X scope cs C (own++cap.map (·.1)) s0 H0 fp) elt te
section
variable{tg elt iter:Expr}{ifs:List Expr}{tt:TT}{own:List Str}{wi:TI}{g:TG}{te:TE}
def o4{H2:Hp}{s2:Shared}{Q:VK}{tn:Nat->Heap->Prop}{J:It}{RR:Value->Addr->Result->Shared->Prop} (ok:gh X scope own cap) (hc:∀ cs C N s0 H0 fp,Inv X pins σ H0 s0->cm (iw X scope cs C N s0 H0 fp)) (B:gZ X scope own cap tg ifs elt g tt te)
  (hcl:∀ y c,cl.lookup y=some c->X.env.cells.lookup y=some c/\(y,NameKind.free)∈scope.names) (hcl2:∀ y,(y,NameKind.free)∈scope.names->∃ c,cl.lookup y=some c)
  (I2:Inv X pins σ H2 s2) (T:Al cm X.prog X.w X.K tg J fp it tn) (st2:tn 0 s2.heap) (f2:∀ b∈fp,n5 X pins H2 b)
  (h:∀ acc,H2 acc=none->∃ W:Nat->Nat->St->List V->Hp->Prop,(∃ m,W 0 m (List.replicate own.length none++oZ σ cap) [] (upd H2 acc (.lst []))) /\
   ∀ i m τ ys H,W i m τ ys H->(J.stop i H/\Q (.ref acc) H)\/(J.go i H/\∀ x H',J.vM i H x H'->g x τ H' λ τ2 H2=>tt τ2 H2 λ b H2'=>if b=true then te τ2 H2' λ v H3=>
    H3 acc=some (.lst ys)/\ys.length<sizeLine/\∃ m',m' < m/\W (i+1) m' τ2 (ys++[v]) (upd H3 acc (.lst (ys++[v]))) else ∃ m',m' < m/\W (i+1) m' τ2 ys H2'))
  (hR:∀ D C H' s',(∀ h',Heap.SameBut C s'.heap h'->Inv X pins σ H' { s' with heap:=h' })->(∃ m,s'.heap.Ns C m)->H' C=none->X.s₀.heap.objs.size<=C->C≠X.env.locals->(∀ x c,X.env.cells.lookup x=some c->c≠C)->(∀ p∈X.pn++pins,p.1≠C) ->
   Q (.ref D) H'->RR (.ref D) C (.ok .next) s') :
  wpAny (model X.prog X.w) X.A (newList []) (λ acc s₃=>wpAny (model X.prog X.w) X.A (newFunctionEnv scope X.env.globals cl [] X.env.qual none .none (some X.env)) (λ cenv s₄=>
   codeAny (model X.prog X.w) X.A (.compStart (.ListComp elt [⟨tg,iter,ifs,0⟩] scope pos) 0 (.ref it) acc { cenv with scope:=relabel scope X.env }) (RR acc cenv.locals) s₄) E s₃) E s2:=by
 refine L3 ?_;have fresh:H2 s2.heap.objs.size=none:=I2.fresh;have I3:Inv X pins σ (upd H2 s2.heap.objs.size (.lst [])) { s2 with heap:=s2.heap.push { cls:=.type "list",data:=.seq ([]:List Value).toArray } }:=I2.HX (its:=[]) (ys:=[]) (t':=s2.toks) .nil (Mk _);have ob2:=T.obj _ _ st2;have lt2:∀ b∈fp,b<s2.heap.objs.size:=λ b hb=>let ⟨o,e,_⟩:=ob2 b hb;Lk e
 have f3:∀ b∈fp,n5 X pins (upd H2 s2.heap.objs.size (.lst [])) b:=λ b hb=>⟨by rw[aG (LH (lt2 b hb))];exact(f2 b hb).1,(f2 b hb).2⟩;have kp3:∀ b o,s2.heap.get? b=some o->(s2.heap.push { cls:=.type "list",data:=.seq ([]:List Value).toArray }).get? b=some o:=λ b o e=>Lb _ e;generalize hs3:({ s2 with heap:=s2.heap.push { cls:=.type "list",data:=.seq ([]:List Value).toArray } }:Shared)=s3 at I3 ⊢;have k3:∀ b o,s2.heap.get? b=some o->s3.heap.get? b=some o:=λ b o e=>by rw[<-hs3];exact kp3 b o e
 refine vX ?_;have KW:∀ b∈fp,b<s3.heap.objs.size:=λ b hb=>let ⟨o,e,_⟩:=ob2 b hb;Lk (k3 b o e)
 have I4:=AU (own:=own) (cap:=cap) (fp:=fp) I3 ok hcl hcl2 f3 KW;have st4:tn 0 (pushCells (s3.heap.push { cls:=.type "dict",data:=.dict #[] }) scope.names):=T.keep _ _ _ st2 λ b _ o e=>Ow _ _ b o (Lb _ (k3 b o e));obtain⟨W,⟨m0,w0⟩,turn⟩:=h s2.heap.objs.size fresh
 let Y:=iw X scope (cellsFrom (s3.heap.objs.size+1) scope.names cl) s3.heap.objs.size (own++cap.map (·.1)) s3 (upd H2 s2.heap.objs.size (.lst [])) fp
 have I4:Inv Y pins (List.replicate own.length none++oZ σ cap) (upd H2 s2.heap.objs.size (.lst [])) { s3 with heap:=pushCells (s3.heap.push { cls:=.type "dict",data:=.dict #[] }) scope.names }:=I4;have f4:∀ {H':Hp},(∀ b∈fp,H' b=none)->∀ b∈fp,n5 Y pins H' b:=λ {H'} hn b hb=>by
  refine⟨hn b hb,LH (KW b hb),λ z=>?_,.inl hb,(I4.ok.Jo b hb).2,(f2 b hb).2.2.2.2.2⟩;exact I4.ok.yT b hb z
 have loop:codeAny (model X.prog X.w) X.A (.compLoop (.ListComp elt [⟨tg,iter,ifs,0⟩] scope pos) 0 (.ref it) (.ref s2.heap.objs.size) Y.env) (RR (.ref s2.heap.objs.size) s3.heap.objs.size)
   { s3 with heap:=pushCells (s3.heap.push { cls:=.type "dict",data:=.dict #[] }) scope.names }:=by
  refine zm (λ n s'=>∃ i τ ys H',Inv Y pins τ H' s'/\tn i s'.heap/\(∀ b∈fp,H' b=none)/\W i n τ ys H') ?_ m0 ⟨0,_,[],_,I4,st4,λ b hb=>(f3 b hb).1,w0⟩;rintro n s5 ⟨i,τ,ys,H5,I5,st5,fr5,w5⟩;rcases turn i n τ ys H5 w5 with ⟨stop,q⟩|⟨go,step⟩
  ·refine dM (T.done Y rfl rfl rfl (hc _ _ _ _ _ _ I3) i pins s5 τ H5 (λ _ _=>False) I5 (f4 fr5) st5 stop) λ r s6 ⟨hr,I6⟩=>?_;subst hr;obtain⟨m,hns,_⟩:=I6.loc;have hC:X.s₀.heap.objs.size<=s3.heap.objs.size:=I3.sz;refine hR _ _ H5 s6 (λ h' hs'=>uK I3 f3 (Ll _) I6 hs') ⟨m,hns⟩ I6.free hC (λ z=>?_) (λ x c e z=>?_) (λ p hp z=>?_) q
   ·exact Mj _ (z▸I3.lt)
   ·obtain⟨v,o,ho,_⟩:=I3.cell x c e;rw[z]at ho;exact Mj _ (Lk ho)
   ·have e:=(I3.pin p hp).1;rw[z]at e;exact Mj _ (Lk e)
  ·refine dM (T.item Y rfl rfl rfl (hc _ _ _ _ _ _ I3) i pins s5 τ H5 (λ _ _=>False) I5 (f4 fr5) st5 go) λ r s6 ⟨u,hr,h6⟩=>?_;subst hr;refine dM h6 λ _ s7 ⟨x,H7,I7,r7,y7,st7,fr7⟩=>?_;have I7':=I7.pinned (f4 fr7) (T.obj _ _ st7);refine dM (B.K4 _ _ _ _ _ _ s7 τ H7 x u _ I7' r7 (step x H7 y7)) λ _ s8 ⟨τ8,H8,I8,q8⟩=>?_;refine dM (B.K6 _ _ _ _ _ _ s8 τ8 H8 _ I8 q8) λ ok s8' ⟨H8',I8',q8'⟩=>?_;have again:∀ {H':Hp}{s':Shared},Inv Y (pins++oW fp s7.heap) τ8 H' s'->Inv Y pins τ8 H' s'/\tn (i+1) s'.heap/\∀ b∈fp,H' b=none:=λ {H' s'} I'=>by
    refine⟨I'.lI,T.keep _ _ _ st7 λ b hb o e=>(I'.pin (b,o) (Lx _ (Lx _ (i8 hb e)))).1,λ b hb=>?_⟩;obtain⟨o,e,d⟩:=T.obj _ _ st7 b hb;exact(I'.pin (b,o) (Lx _ (Lx _ (i8 hb e)))).2.1
   cases ok with
   | false =>
    rw[Lw Li]at q8' ⊢;obtain⟨m',hm,w9⟩:=q8';obtain⟨z1,z2,z3⟩:=again I8';exact⟨m',hm,i+1,τ8,ys,H8',z1,z2,z3,w9⟩
   | true =>
    rw[Lr rfl]at q8' ⊢;refine dM (B.K5 _ _ _ _ _ _ s8' τ8 H8' _ I8' q8') λ v s9 ⟨y,H9,I9,r9,hacc,hlen,m',hm,w9⟩=>?_;refine dM (gI _ s9 τ8 H9 (.ref s2.heap.objs.size) [y] (.ref s2.heap.objs.size) [v] (λ z H'=>z=.bg/\H'=upd H9 s2.heap.objs.size (.lst (ys++[y]))) I9 rfl (.cons r9 .nil) ⟨_,ys,y,rfl,rfl,hacc,hlen,rfl,rfl⟩) λ _ s10 ⟨z,H10,I10,_,_,e10⟩=>?_;subst e10;obtain⟨z1,z2,z3⟩:=again I10;exact⟨m',hm,i+1,τ8,ys++[y],_,z1,z2,z3,w9⟩
 exact codeAny_compStart_list loop (T.self X.A 0 _ _ _ st4 loop)
def lO(I:Inv X pins σ H s)(ok:gh X scope own cap):∃ cl,closureFor scope X.env=pure cl/\(∀ y c,cl.lookup y=some c->X.env.cells.lookup y=some c/\(y,NameKind.free)∈scope.names)/\(∀ y,(y,NameKind.free)∈scope.names->∃ c,cl.lookup y=some c):=
 vY λ y hy hk=>I.ok.has y.1 (ok.free y hy hk)
def o5 (ok:gh X scope own cap):∀ x∈scope.names,x.2=.local->scope.names.lookup x.1=some .local:=λ x hx hl=>gB ok.nd (by rw[<-hl];exact hx)
def J8 (cm:Cx->Prop)(X:Cx)(pins:List (Addr×Obj))(σ:St)(tg:Expr)(R:It->Hp->Prop)(itv:Value)(s2:Shared):Prop:=
 ∃ (it:Addr) (fp:List Addr) (tn:Nat->Heap->Prop) (J:It) (H':Hp),itv=.ref it/\Inv X pins σ H' s2/\Al cm X.prog X.w X.K tg J fp it tn/\tn 0 s2.heap/\(∀ b∈fp,n5 X pins H' b)/\R J H'
def KP (cm:Cx->Prop)(X:Cx)(tg iter:Expr)(wi:TI):Prop:=
 ∀ (pins:List (Addr×Obj)) (s:Shared) (σ:St) (H:Hp) (R:It->Hp->Prop),Inv X pins σ H s->wi σ H R ->
  wpAny (model X.prog X.w) X.A (eval iter X.env) (λ v s1=>wpAny (model X.prog X.w) X.A (pyIter v) (J8 cm X pins σ tg R) X.xe s1) X.xe s
def AV(ok:gh X scope own cap)(hc:∀ pins σ cs C N s0 H0 fp,Inv X pins σ H0 s0->cm (iw X scope cs C N s0 H0 fp))(hi:KP cm X tg iter wi)(B:gZ X scope own cap tg ifs elt g tt te)(hs:∀ x,foldedSetIterable iter X.env x=pure x:=by intro _;rfl) :
  PE X (.ListComp elt [⟨tg,iter,ifs,0⟩] scope pos) (qP wi g tt te own.length cap):=by
 intro pins s σ H Q I h;obtain⟨cl,hclos,hcl,hcl2⟩:=lO I ok;rw[eval_ListComp];refine wpAny_comprehension_free (use:=none) rfl hs hclos ok.kind (o5 ok) (dM (hi pins s σ H _ I h) λ xv s1 h1=>dM h1 λ itv s2 h2=>?_);obtain⟨it,fp,tn,J,H2,e,I2,T,st2,f2,hW⟩:=h2;subst e;refine o4 (Q:=Q) (RR:=λ acc C=>compPost (model X.prog X.w) X.A X.xe none (EP X pins σ Q) acc C) ok (hc pins σ) B hcl hcl2 I2 T st2 f2 hW ?_;rintro D C H' s' hI ⟨m,hm⟩ _ _ _ _ _ q;exact⟨m,hm,λ h' hs'=>⟨.ref D,H',hI h' hs',rfl,q⟩⟩
def uM{py spos:Pos}(hN:X.N.Nodup)(hi':X.N[i]?=some y)(hy:Loc X.env.scope y)(ok:gh X scope own cap)(hc:∀ pins σ cs C N s0 H0 fp,Inv X pins σ H0 s0->cm (iw X scope cs C N s0 H0 fp))(hi:KP cm X tg iter wi)(B:gZ X scope own cap tg ifs elt g tt te)
  (hsw:swapsWith (.ListComp elt [⟨tg,iter,ifs,0⟩] scope pos) (some (.Name y py)) spos.line X.env=pure true:=by rfl)
  (hf:X.fn y=true\/X.env.scope.names.lookup y=some .local:=by first|exact .inl rfl|exact .inr rfl) (hs:∀ x,foldedSetIterable iter X.env x=pure x:=by intro _;rfl) :
  PS X (.Assign [.Name y py] (.ListComp elt [⟨tg,iter,ifs,0⟩] scope pos) spos) (FD (qP wi g tt te own.length cap) (oU i)):=by
 intro pins s σ H D I h;obtain⟨cl,hclos,hcl,hcl2⟩:=lO I ok;rw[exec_Assign_Name_used _ _ _ _ hsw];refine La (wpAny_standAt (La ?_));show wpAny _ X.A (do let _ <-comprehension (.ListComp elt [⟨tg,iter,ifs,0⟩] scope pos) scope X.env _ (newList []) false (eval iter X.env) (some (assign (.Name y py) X.env))) _ _ s;refine La (MP (wpAny_comprehension_free (use:=some (assign (.Name y py) X.env)) (Q:=λ _ s'=>SP X pins D .next s') rfl hs hclos ok.kind (o5 ok) (dM (hi pins s σ H _ I h) λ xv s1 h1=>dM h1 λ itv s2 h2=>?_)) (λ _ s' hq=>Lf (Lf hq)) λ _ _ e=>e);obtain⟨it,fp,tn,J,H2,e,I2,T,st2,f2,hW⟩:=h2;subst e;refine o4 (Q:=λ v H'=>oU i v σ H' D.nx) (RR:=λ acc C=>compPost (model X.prog X.w) X.A X.xe (some (assign (.Name y py) X.env)) (λ _ s'=>SP X pins D .next s') acc C) ok (hc pins σ) B hcl hcl2 I2 T st2 f2 hW ?_;rintro D' C H' s' hI ⟨m,hm⟩ hHC hC1 hC2 hC3 hC4 q;have I':Inv X pins σ H' s':=hI s'.heap (.refl ..);show wpAny _ X.A (assign (.Name y py) X.env (.ref D')) _ _ s';refine wpAny_assign_Name (qM I' hN hi' hy (show RelV (.ref D') (.ref D') from rfl) (λ s'' I'' ⟨a,hsa,ha⟩=>?_) hf);have ne:C≠a:=by
  rcases ha with rfl|ha
  ·exact hC2
  ·exact λ z=>hC3 y a ha z.symm
 refine⟨m,hm.sameBut hsa ne,λ h' hs'=>?_⟩;refine⟨_,H',I''.turned (t':=s''.toks) (h':=h') (it:=C) (λ b o hb e=>(hs'.2 b hb).trans e) hHC hC2 (.inr hC1) (λ x c e z=>hC3 x c e z) hC4,q⟩
def DK (ok:gh X scope own cap)(hc:X.calm=true)(hi:PI X tg iter wi)(B:gZ X scope own cap tg ifs elt g tt te)(hs:∀ x,foldedSetIterable iter X.env x=pure x:=by intro _;rfl) :
  PE X (.ListComp elt [⟨tg,iter,ifs,0⟩] scope pos) (qP wi g tt te own.length cap):=AV (cm:=λ X=>X.calm=true) ok (λ _ _ _ _ _ _ _ _ _=>hc) hi B hs
def vZ{py spos:Pos}(hN:X.N.Nodup)(hi':X.N[i]?=some y)(hy:Loc X.env.scope y)(ok:gh X scope own cap)(hc:X.calm=true)(hi:PI X tg iter wi)(B:gZ X scope own cap tg ifs elt g tt te)
  (hsw:swapsWith (.ListComp elt [⟨tg,iter,ifs,0⟩] scope pos) (some (.Name y py)) spos.line X.env=pure true:=by rfl)
  (hf:X.fn y=true\/X.env.scope.names.lookup y=some .local:=by first|exact .inl rfl|exact .inr rfl) (hs:∀ x,foldedSetIterable iter X.env x=pure x:=by intro _;rfl) :
  PS X (.Assign [.Name y py] (.ListComp elt [⟨tg,iter,ifs,0⟩] scope pos) spos) (FD (qP wi g tt te own.length cap) (oU i)):=
 uM (cm:=λ X=>X.calm=true) hN hi' hy ok (λ _ _ _ _ _ _ _ _ _=>hc) hi B hsw hf hs
end
section
variable {prog:Program}
def jm {t:Addr}{x:Value}(hit:s.heap.IsTupleIter it t i)(ht:s.heap.IsTuple t items)(hx:items[i]?=some x)
  (hQ:∀ h',h'.IsTupleIter it t (i+1)->Heap.SameBut it s.heap h'->Q x { s with heap:=h' }):wpAny (model prog w) A (Builtin.SmallTypes.nextOf (.ref it)) Q E s:=by
 obtain⟨o,ho,hc,hd⟩:=id hit;obtain⟨ot,hot,_,nt,hdt⟩:=ht;unfold Builtin.SmallTypes.nextOf;refine La (LX (name:=Str.ofString "__next__") hit.typeIs Ng (LV Ng hit.typeIs F.entry_tuple_iterator_next ?_ (F.args_tuple_iterator_next_1 _)));show wpAny _ _ (field (.ref it) 0 >>= _) _ _ s;refine La (Mb ho hd (x:=.ref t) rfl ?_);show wpAny _ _ (if (Value.ref t == Value.none)=true then _ else _) _ _ s;rw[Lw (λ z:(Value.ref t == Value.none)=true=>Li z)];show wpAny _ _ (field (.ref it) 1 >>= _) _ _ s;refine La (Mb ho hd (x:=.int i 0) rfl ?_);show wpAny _ _ (seqItems? (.ref t) >>= _) _ _ s;refine La (ME hot hdt ?_);simp only[LY,hx];refine La (OM ho hd (by simp) (Lf ⟨x,rfl,Lf (hQ _ ⟨_,MO _ ho (Obj.isFreed_of_fields (Obj.data_mapFields hd _)),(Obj.cls_mapFields ..).trans hc,?_⟩ (MN ..))⟩));rw[Obj.data_mapFields hd];simp[rawInt]
def jL {t:Addr}(hh:A.handled=none)(hit:s.heap.IsTupleIter it t i)(ht:s.heap.IsTuple t items)(hx:items[i]?=none)
  (hE:∀ h' e,Heap.ExtBut it s.heap h'->(∃ o,h'.get? e=some o/\o.cls=.type "StopIteration")->E (.ref e) { s with heap:=h' }):wpAny (model prog w) A (Builtin.SmallTypes.nextOf (.ref it)) Q E s:=by
 obtain⟨o,ho,hc,hd⟩:=id hit;obtain⟨ot,hot,_,nt,hdt⟩:=ht;unfold Builtin.SmallTypes.nextOf;refine La (LX (name:=Str.ofString "__next__") hit.typeIs Ng (LV Ng hit.typeIs F.entry_tuple_iterator_next ?_ (F.args_tuple_iterator_next_1 _)));show wpAny _ _ (field (.ref it) 0 >>= _) _ _ s;refine La (Mb ho hd (x:=.ref t) rfl ?_);show wpAny _ _ (if (Value.ref t == Value.none)=true then _ else _) _ _ s;rw[Lw (λ z:(Value.ref t == Value.none)=true=>Li z)];show wpAny _ _ (field (.ref it) 1 >>= _) _ _ s;refine La (Mb ho hd (x:=.int i 0) rfl ?_);show wpAny _ _ (seqItems? (.ref t) >>= _) _ _ s;refine La (ME hot hdt ?_);simp only[LY,hx];refine La (NG (La (OM ho hd (by simp) ?_)));show wpAny _ _ (newExc (.type "StopIteration") [] >>= _) _ _ _;refine La ?_;simp only[newExc,newTuple];refine La (L3 ?_ (by size_fits));refine La (m:=firstArgMember _ _) (wpAny_of_eq (a:=Value.none) (by first|rfl|(simp only[firstArgMember];rfl)) ?_);refine L3 ?_ (by size_fits);simp only[raiseNew];refine La (O6 ?_)
 first|rw[show A.in1.handled=none from hh]|rw[hh]
 exact La (Lf (wpAny_throw (hE _ _ (((MN ..).extBut.push _).push _) ⟨_,Lj _ rfl,rfl⟩)))
def zo{x old:Value}{R:Obj->Prop}{Q:Option Value->Shared->Prop}(he:IsEnum s.heap e it i old)(hne:e≠it)
  (hn:∀ (A':Around) (E' Q':Value->Shared->Prop),(∀ h',(∃ o,h'.get? it=some o/\R o)->Heap.SameBut it s.heap h'->Q' x { s with heap:=h' })->wpAny (model prog w) A' (Builtin.SmallTypes.nextOf (.ref it)) Q' E' s)
  (hQ:∀ h',IsEnumOut h' e it ((i:Int)+1) x s.heap.objs.size->(∃ o,h'.get? it=some o/\R o)->h'.get? s.heap.objs.size=some { cls:=.type "tuple",data:=.seq #[.int i s.toks,x] }->h'.objs.size=s.heap.objs.size+1 ->
   (∀ b o,b≠e->b≠it->s.heap.get? b=some o->h'.get? b=some o)->Q (some (.ref s.heap.objs.size)) { s with heap:=h',toks:=s.toks+1 }) :
  wpAny (model prog w) A (pyNext (.ref e)) Q E s:=by
 have hT:s.TypeIs (.ref e) "enumerate" :=⟨_,he,rfl⟩;unfold pyNext;refine La (MT (LX (name:=Str.ofString "__next__") hT NK (LV NK hT F.entry_enumerate_next ?_ (F.args_enumerate_next_1 _))));obtain⟨hp,g,d,tk,os⟩:=s;show wpAny _ _ (field (.ref e) 2 >>= _) _ _ _;refine La (Mb he rfl (x:=.ref it) rfl (La (hn _ _ _ λ h₁ hit₁ hs₁=>?_)));replace hs₁:Heap.SameBut it hp h₁:=hs₁;have he₁:IsEnum h₁ e it i old:=(hs₁.2 e hne).trans he;show wpAny _ _ (field (.ref e) 3 >>= _) _ _ ⟨h₁,g,d,tk,os⟩;refine La (Mb he₁ rfl (x:=rawInt i) rfl ?_);show wpAny _ _ (field (.ref e) 4 >>= _) _ _ ⟨h₁,g,d,tk,os⟩;refine La (Mb he₁ rfl (x:=.none) rfl ?_);show wpAny _ _ (mkInt i >>= _) _ _ ⟨h₁,g,d,tk,os⟩;refine La (wpAny_mkInt ?_);show wpAny _ _ (setField (.ref e) 3 (rawInt ((i:Int)+1)) >>= _) _ _ ⟨h₁,g,d,tk+1,os⟩;refine La (LK he₁ (by simp) λ h₂ he₂ hs₂=>?_);replace hs₂:Heap.SameBut e h₁ h₂:=hs₂;replace he₂:IsEnum h₂ e it ((i:Int)+1) old:=he₂;show wpAny _ _ (setField (.ref e) 4 .none >>= _) _ _ ⟨h₂,g,d,tk+1,os⟩;refine La (LK he₂ (by simp) λ h₃ he₃ hs₃=>?_);replace hs₃:Heap.SameBut e h₂ h₃:=hs₃;replace he₃:IsEnum h₃ e it ((i:Int)+1) old:=he₃;show wpAny _ _ (newTuple [.int i tk,x] >>= _) _ _ ⟨h₃,g,d,tk+1,os⟩;refine La (ON ?_);have sz:h₃.objs.size=hp.objs.size:=by rw[hs₃.1,hs₂.1,hs₁.1]
 have hel:e<hp.objs.size:=Lk he;obtain⟨h₄,hh₄⟩:∃ h₄,h₄=h₃.push { cls:=.type "tuple",data:=.seq #[.int i tk,x] }:=⟨_,rfl⟩;have he₄:IsEnum h₄ e it ((i:Int)+1) old:=by rw[hh₄];exact Lb _ he₃
 have ht₄:h₄.get? hp.objs.size=some { cls:=.type "tuple",data:=.seq #[.int i tk,x] }:=by rw[hh₄,<-sz];exact Lj _ rfl
 have hz₄:h₄.objs.size=hp.objs.size+1:=by rw[hh₄,Mf,sz]
 have hk₄:∀ b o,b≠e->b≠it->hp.get? b=some o->h₄.get? b=some o:=λ b o hbe hbi hb=>by
  rw[hh₄];exact Lb _ (hs₃.extBut b o hbe (hs₂.extBut b o hbe (hs₁.extBut b o hbi hb)))
 have hit₄:∃ o,h₄.get? it=some o/\R o:=by
  obtain⟨o,ho,r⟩:=hit₁;rw[hh₄];exact⟨o,Lb _ (hs₃.extBut it o (My hne) (hs₂.extBut it o (My hne) ho)),r⟩
 rw[<-hh₄];show wpAny _ _ (Builtin.SmallTypes.ownedTupleIsFree (.ref e) >>= _) _ _ ⟨h₄,g,d,tk+1,os⟩;rw[sz];clear hh₄ he₃ hs₃ he₂ hs₂ he₁ hs₁ hit₁ sz h₃ h₂ h₁;refine La ?_;unfold Builtin.SmallTypes.ownedTupleIsFree;refine La (Mb he₄ rfl (x:=.none) rfl (Lf ?_));simp only[Nh];refine La (NG (La (Mb he₄ rfl (x:=old) rfl (La (LK he₄ (by simp) λ h₅ he₅ hs₅=>?_)))));replace hs₅:Heap.SameBut e h₄ h₅:=hs₅;replace he₅:IsEnum h₅ e it ((i:Int)+1) x:=he₅;show wpAny _ _ (Builtin.SmallTypes.ownedTupleHandOut (.ref e) (.ref hp.objs.size) >>= _) _ _ ⟨h₅,g,d,tk+1,os⟩;refine La ?_;unfold Builtin.SmallTypes.ownedTupleHandOut;refine La (LK he₅ (by simp) λ h₆ he₆ hs₆=>?_);replace hs₆:Heap.SameBut e h₅ h₆:=hs₆;replace he₆:IsEnumOut h₆ e it ((i:Int)+1) x hp.objs.size:=he₆;refine LK he₆ (by simp) λ h₇ he₇ hs₇=>?_;replace hs₇:Heap.SameBut e h₆ h₇:=hs₇;replace he₇:IsEnumOut h₇ e it ((i:Int)+1) x hp.objs.size:=he₇;have up:∀ b o,b≠e->h₄.get? b=some o->h₇.get? b=some o:=λ b o hb q=>hs₇.extBut b o hb (hs₆.extBut b o hb (hs₅.extBut b o hb q));refine La (O1 (Lf ⟨_,rfl,Lf (hQ h₇ he₇ ?_ (up _ _ (M7 hel) ht₄) (by rw[hs₇.1,hs₆.1,hs₅.1,hz₄]) λ b o hbe hbi hb=>up b o hbe (hk₄ b o hbe hbi hb))⟩));obtain⟨o,ho,r⟩:=hit₄;exact⟨o,up it o (My hne) ho,r⟩
def AW{old:Value}{Q:Option Value->Shared->Prop}(he:IsEnum s.heap e it i old)
  (hn:∀ (A':Around) (E' Q':Value->Shared->Prop),A'.handled=A.handled->(∀ h' x,Heap.ExtBut it s.heap h'->(∃ o,h'.get? x=some o/\o.cls=.type "StopIteration")->E' (.ref x) { s with heap:=h' })->wpAny (model prog w) A' (Builtin.SmallTypes.nextOf (.ref it)) Q' E' s)
  (hQ:∀ h',Heap.ExtBut it s.heap h'->Q none { s with heap:=h' }):wpAny (model prog w) A (pyNext (.ref e)) Q E s:=by
 have hT:s.TypeIs (.ref e) "enumerate" :=⟨_,he,rfl⟩;unfold pyNext;refine La (MT (LX (name:=Str.ofString "__next__") hT NK (LV NK hT F.entry_enumerate_next ?_ (F.args_enumerate_next_1 _))));show wpAny _ _ (field (.ref e) 2 >>= _) _ _ _;refine La (Mb he rfl (x:=.ref it) rfl (La (hn _ _ _ rfl λ h' x he' hx'=>?_)));obtain⟨o,ho,hc⟩:=hx';exact La (Ny (T:="StopIteration") (b:=true) ⟨o,ho,hc⟩ isSubtype_stop (Lf (hQ _ he')))
set_option maxHeartbeats 4000000 in
def n9 (t:Addr)(items:Array Value)(n:Nat)(dct:Option Addr)(sl:Array (Option Value)) :
  Meets (Builtin.«enumerate.__new__» ⟨[.type "enumerate",.ref t],[]⟩) (λ _ R s=>s.heap.get? t=some { cls:=.type "tuple",dict:=dct,data:=.seq items n,slots:=sl } /\
   R (.ok (.ret (.ref (s.heap.push { cls:=.type "tuple_iterator",data:=.fields #[.ref t,.int 0 0] }).objs.size)))
    { s with heap:=(s.heap.push { cls:=.type "tuple_iterator",data:=.fields #[.ref t,.int 0 0] }).push { cls:=.type "enumerate",data:=.fields #[.none,.bool false,.ref s.heap.objs.size,rawInt 0,.none,.none] } }):=
 .of_wp λ prog w A R s h=>by
  obtain⟨hp,g,d,tk,os⟩:=s;obtain⟨ht,h⟩:=h;have hsub:=sub_enumerate;have hT:Heap.IsTuple (Shared.heap ⟨hp,g,d,tk,os⟩) t items:=⟨_,ht,rfl,n,rfl⟩
  wp_walk using NS ht
  refine wpAny_stack_any λ st=>Lf ?_;split
  ·rename_i c _ _ _ _ _;cases (c == Value.type "enumerate")<;>(wp_walk using NS ht,NY hT;exact⟨_,rfl,h⟩)
  ·wp_walk using NS ht,NY hT
   exact⟨_,rfl,h⟩
def qr {t:Addr}(hT:s.heap.IsTuple t items)
  (h:∀ h',IsEnum h' (s.heap.objs.size+1) s.heap.objs.size 0 .none->h'.IsTupleIter s.heap.objs.size t 0->(∀ b o,s.heap.get? b=some o->h'.get? b=some o)->Q (.ref (s.heap.objs.size+1)) { s with heap:=h' }) :
  wpAny (model prog w) A (call (.type "enumerate") [.ref t]) Q E s:=by
 obtain⟨⟨c,dct,dt,sl⟩,hl,hc,n,hd⟩:=hT;have hc:c=.type "tuple" :=hc;have hd:dt=.seq items n:=hd;subst hc hd;refine callType_new F.called_enumerate (by decide) (F.typeCall_enumerate_1 _) (F.newCall_enumerate_1 _) (λ obj=>F.args_object_init_2 obj _) F.entry_enumerate_new (n9 t items n dct sl) ⟨hl,?_⟩;have hz:(s.heap.push { cls:=.type "tuple_iterator",data:=.fields #[.ref t,.int 0 0] }).objs.size=s.heap.objs.size+1:=Mf ..;show _/\_;rw[hz];have q:=Lj (s.heap.push { cls:=.type "tuple_iterator",data:=.fields #[.ref t,.int 0 0] }) (o:={ cls:=.type "enumerate",data:=.fields #[.none,.bool false,.ref s.heap.objs.size,rawInt 0,.none,.none] }) rfl;rw[hz]at q;exact⟨⟨_,q,rfl⟩,h _ q ⟨_,Lb _ (Lj _ rfl),rfl,rfl⟩ λ b o x=>Lb _ (Lb _ x)⟩
end
def sI{h:Heap}{p:Addr}{o:HO}(x:i6 P w H h)(hn:H p=none)(new:bQ P w (upd H p o) h p o):i6 P w (upd H p o) h:=λ a u e=>by
 by_cases q:a=p
 ·subst q;rw[aI]at e;cases e;exact new
 ·rw[aG q]at e;exact(x a u e).stay (λ _ _ _ z=>z) (λ b z=>by rw[aG (bo z hn)];exact z) λ b xs z=>by rw[aG (bo z hn)];exact z
def Jr (src:Hp->List V->Prop):It:=
 ⟨λ i H=>∃ xs x,src H xs/\xs[i]?=some x,λ i H x H'=>∃ p y,x=.ref p/\H p=none/\H'=upd H p (.tup [.int i,y])/\∀ xs,src H xs->xs[i]?=some y,λ i H=>∃ xs,src H xs/\xs.length<=i⟩
structure Src (P:Program)(w:World)(K:PySem.W.Frag)(a it:Addr)(src:Hp->List V->Prop)(nx:Nat->Obj->Prop):Prop where
 dat:∀ i o,nx i o->∀ v,o.data ≠ .cell v
 item:∀ (X:Cx),X.prog=P->X.w=w->X.K=K->∀ (pins:List (Addr×Obj)) (σ:St) (H:Hp) (s:Shared) (xs:List V) (i:Nat) (x:V),Inv X pins σ H s->src H xs->xs[i]?=some x->(∃ o,s.heap.get? it=some o/\nx i o) ->
  ∃ u,RelV x u/\∀ (A':Around) (E' Q':Value->Shared->Prop),(∀ h',(∃ o,h'.get? it=some o/\nx (i+1) o)->Heap.SameBut it s.heap h'->Q' u { s with heap:=h' })->wpAny (model P w) A' (Builtin.SmallTypes.nextOf (.ref it)) Q' E' s
 done:∀ (X:Cx),X.prog=P->X.w=w->X.K=K->∀ (pins:List (Addr×Obj)) (σ:St) (H:Hp) (s:Shared) (xs:List V) (i:Nat),Inv X pins σ H s->src H xs->xs.length<=i->(∃ o,s.heap.get? it=some o/\nx i o) ->
  ∀ (A':Around) (E' Q':Value->Shared->Prop),A'.handled=none->(∀ h' x,Heap.ExtBut it s.heap h'->(∃ o,h'.get? x=some o/\o.cls=.type "StopIteration")->E' (.ref x) { s with heap:=h' })->wpAny (model P w) A' (Builtin.SmallTypes.nextOf (.ref it)) Q' E' s
 inj:∀ (X:Cx),X.prog=P->X.w=w->X.K=K->∀ (pins:List (Addr×Obj)) (σ:St) (H:Hp) (s:Shared) (xs ys:List V),Inv X pins σ H s->src H xs->src H ys->xs=ys
def src_list{K:PySem.W.Frag}(a it:Addr):Src P w K a it (λ H xs=>c8 K H a xs) (λ i o=>o.cls=.type "list_iterator" /\ o.data=.fields #[.ref a,.int i 0]) where
 dat:=λ i o h v z=>by rw[h.2]at z;cases z
 item:=by
  intro X hP hw hK pins σ H s xs i x I hq hx ho;subst hP hw hK;obtain⟨its,rv,p,hz⟩:=I.list hq;obtain⟨u,hu,ru⟩:=rv.get hx;obtain⟨o,h1,h2,h3⟩:=ho;exact⟨u,ru,λ A' E' Q' hQ=>wpAny_nextOf_list_item ⟨o,h1,h2,h3⟩ p.isList (by simpa using hu) λ h' st sb=>hQ h' st sb⟩
 done:=by
  intro X hP hw hK pins σ H s xs i I hq hx ho A' E' Q' hh hE;subst hP hw hK;obtain⟨its,rv,p,hz⟩:=I.list hq;obtain⟨o,h1,h2,h3⟩:=ho;have hl:=rv.length;exact wpAny_nextOf_list_end hh ⟨o,h1,h2,h3⟩ p.isList (by simp;omega) hE
 inj:=by
  intro X hP hw hK pins σ H s xs ys I h1 h2;subst hP hw hK;exact I.oT h1 h2
def fN {h:Heap}{its:Array Value}(x:IsTup h a its):h.IsTuple a its:=by
 obtain⟨o,h1,h2,h3⟩:=x;exact⟨o,h1,h2,h3⟩
def DM{K:PySem.W.Frag}(a it:Addr):Src P w K a it (λ H xs=>iZ K H a xs) (λ i o=>o.cls=.type "tuple_iterator" /\ o.data=.fields #[.ref a,.int i 0]) where
 dat:=λ i o h v z=>by rw[h.2]at z;cases z
 item:=by
  intro X hP hw hK pins σ H s xs i x I hq hx ho;subst hP hw hK;obtain⟨its,rv,p,hz⟩:=I.tuple hq;obtain⟨u,hu,ru⟩:=rv.get hx;obtain⟨o,h1,h2,h3⟩:=ho;exact⟨u,ru,λ A' E' Q' hQ=>jm ⟨o,h1,h2,h3⟩ (fN p) (by simpa using hu) λ h' st sb=>hQ h' st sb⟩
 done:=by
  intro X hP hw hK pins σ H s xs i I hq hx ho A' E' Q' hh hE;subst hP hw hK;obtain⟨its,rv,p,hz⟩:=I.tuple hq;obtain⟨o,h1,h2,h3⟩:=ho;have hl:=rv.length;exact jL hh ⟨o,h1,h2,h3⟩ (fN p) (by simp;omega) hE
 inj:=by
  intro X hP hw hK pins σ H s xs ys I h1 h2;subst hP hw hK;exact I.mO h1 h2
def qQ{K:PySem.W.Frag}{elts:List Expr}{x1:Nat}{tp:Pos}{src:Hp->List V->Prop}{nx:Nat->Obj->Prop}(S:Src P w K a it src nx)(hne:e≠it) :
  Turn P w K (.Tuple elts x1 tp) (Jr src) [e,it] e (λ i h=>(∃ old,IsEnum h e it (i:Nat) old)/\∃ o,h.get? it=some o/\nx i o) where
 mem:=by simp
 obj:=λ i h st b hb=>by
  obtain⟨⟨old,h1⟩,o,h2,h3⟩:=st;rcases Ln.mp hb with q|q
  ·subst q;exact⟨_,h1,λ v z=>by cases z⟩
  ·have q:b=it:=by simpa using q
   subst q;exact⟨o,h2,S.dat i o h3⟩
 keep:=λ i h h' st k=>by
  obtain⟨⟨old,h1⟩,o,h2,h3⟩:=st;exact⟨⟨old,k e (by simp) _ h1⟩,o,k it (by simp) o h2,h3⟩
 item:=by
  intro X hP hw hK hc i pins s σ H E I hf st hg;obtain⟨xs,x,hq,hx⟩:=hg;obtain⟨⟨old,h1⟩,ho⟩:=st;obtain⟨u,ru,hnx⟩:=S.item X hP hw hK pins σ H s xs i x I hq hx ho;have inj:=λ ys (hy:src H ys)=>S.inj X hP hw hK pins σ H s ys xs I hy hq;obtain⟨f0,f1,f2,f3,f4,f5⟩:=hf e (by simp);obtain⟨g0,g1,g2,g3,g4,g5⟩:=hf it (by simp);subst hP hw hK;have hel:e<s.heap.objs.size:=Lk h1;refine zo h1 hne hnx λ h' k1 k2 k3 k4 k5=>⟨_,rfl,wpAny_letOwnedTupleGo_enum k1 λ h'' m1 m2=>?_⟩;have m2:Heap.SameBut e h' h'':=m2;have fr:H s.heap.objs.size=none:=I.fresh;have kp:∀ b o,b≠e->b≠it->s.heap.get? b=some o->h''.get? b=some o:=λ b o hb hb' q=>(m2.2 b hb).trans (k5 b o hb hb' q);have tp:h''.get? s.heap.objs.size=some { cls:=.type "tuple",data:=.seq #[.int i s.toks,u] }:=(m2.2 _ (M7 hel)).trans k3;have ok1:i6 X.prog X.w H h'':=λ b o hb=>(I.hok b o hb).stay (λ c v hcb q=>kp c v (λ z=>by
    subst z;rcases hcb with z|z
    ·subst z;rw[f0]at hb;cases hb
    ·rw[f0]at z;cases z) (λ z=>by
    subst z;rcases hcb with z|z
    ·subst z;rw[g0]at hb;cases hb
    ·rw[g0]at z;cases z) q) (λ _ z=>z) λ _ _ z=>z
  have ok2:i6 X.prog X.w (upd H s.heap.objs.size (.tup [.int i,x])) h'':=sI ok1 fr ⟨by show 2<=sizeLine;decide,[.int i s.toks,u],.cons ⟨_,rfl⟩ (.cons ru .nil),⟨_,tp⟩⟩;have I2:Inv X pins σ (upd H s.heap.objs.size (.tup [.int i,x])) { s with heap:=h'',toks:=s.toks+1 }:=by
   refine I.step (g':=s.gens) (d':=s.drawn) (ch:=[e,it]) (λ b hb=>?_) (λ b o _ _ hb q _=>kp b o (λ z=>hb (by simp[z])) (λ z=>hb (by simp[z])) q) (λ b o _ _ hb q _=>⟨o.slots,kp b o (λ z=>hb (by simp[z])) (λ z=>hb (by simp[z])) q⟩)
    (λ b o _ q n=>by rw[aG (LH (Lk q))];exact n) (λ b o hb q=>⟨o,kp b o (λ z=>hb (by simp[z])) (λ z=>hb (by simp[z])) q⟩)
    (λ b ys q=>by rw[aG (bo q fr)];exact q) (λ b o v q=>by rw[aG (bo q fr)];exact q) (λ b ps q=>⟨#[],by rw[aG (bo q fr),NZ];exact q⟩)
    (λ m hm=>hm.at λ o q=>kp _ o (My f1) (My g1) q) ok2 I.bare
   rcases Ln.mp hb with z|z
   ·subst z;exact⟨f3,f1,f4,f5⟩
   ·have z:b=it:=by simpa using z
    subst z;exact⟨g3,g1,g4,g5⟩
  obtain⟨oi,hoi,ri⟩:=k2;refine⟨.ref s.heap.objs.size,_,I2,rfl,⟨_,x,rfl,fr,rfl,λ ys hy=>by rw[inj ys hy];exact hx⟩,⟨⟨u,?_⟩,oi,(m2.2 it (My hne)).trans hoi,ri⟩,λ b hb=>?_⟩
  ·have m1:IsEnum h'' e it ((i:Int)+1) u:=m1;have z:(((i+1:Nat)):Int)=(i:Int)+1:=by omega
   rw[z];exact m1
  ·have lt:b<s.heap.objs.size:=by
    rcases Ln.mp hb with z|z
    ·rw[z];exact hel
    ·have z:b=it:=by simpa using z
     obtain⟨o,q,_⟩:=ho;rw[z];exact Lk q
   rw[aG (LH lt)];exact(hf b hb).1
 done:=by
  intro X hP hw hK hc i pins s σ H E I hf st hg;obtain⟨xs,hq,hx⟩:=hg;obtain⟨⟨old,h1⟩,ho⟩:=st;have hd:=S.done X hP hw hK pins σ H s xs i I hq hx ho;obtain⟨g0,g1,g2,g3,g4,g5⟩:=hf it (by simp);subst hP hw hK;exact AW h1 (λ A' E' Q' hA hE=>hd A' E' Q' (hA.trans (I.ok.hd hc)) hE) λ h' eb=>⟨rfl,I.turned (t':=s.toks) (λ b o hb q=>eb b o hb q) g0 g1 g3 g4 g5⟩
 self:=λ _ _ _ _ _ st h=>by
  obtain⟨⟨old,h1⟩,_⟩:=st;exact O2 h1 h
section
variable{elts:List Expr}{x1:Nat}{tp p:Pos}{l:Expr}{ta:TA}
end
section
def eY:d7 X (.builtin "sorted") (λ xs H Q=>∃ (a:Addr) (ns:List Int),xs=[.ref a]/\c8 X.K H a (ns.map V.int)/\ns.length<64/\∀ (p:Addr) (ns':List Int),H p=none->ns'.Perm ns->ns'.Pairwise (· <= ·)->Q (.ref p) (upd H p (.lst (ns'.map V.int)))):=by
 intro pins s σ H xs us Q I r h;obtain⟨a,ns,rfl,hq,hl,q⟩:=h;obtain⟨u,rfl,ru⟩:=vals1 r;cases ru;obtain⟨its,rv,pl,hz⟩:=I.list hq;have hi:=intsAre_of rv;have hlen:=rv.length;rw[Lc]at hlen;refine sorted_ints pl.isList hi (by omega) λ out ns' a1 a2 a3=>?_;obtain⟨e,he⟩:=sortedAll_at s.heap its out;refine⟨.ref (s.heap.objs.size+1),_,I.laid (t':=s.toks) (λ b o z=>sortedAll_old z) (Nc _) ?_,rfl,q _ ns' (I.hok.fresh (Nc _)) a2 a3⟩;refine⟨?_,out.toList,e,ki a1,by rw[Oq];exact he⟩;rw[Lc,a2.length_eq];exact MC (ND hl) (by decide)
def dd (ns:List Int):List Int:=firstMet (λ i=>ns.getD i 0) ns.length
end
def AX (scope sc:Scope):Scope:=
 { scope with names:=scope.names.map λ (n,k)=>if (k == .free&&sc.kind == .function&&sc.names.lookup n == some .cell) then (n,.cell) else (n,k) }
def Gd (scope:Scope)(env:Env):relabel scope env=AX scope env.scope:=rfl
def xB (sc:Scope)(N:List Str)(scope:Scope)(cap:List (Str×Nat)):Bool:=
 decide (scope.kind=.function)&&decide ((scope.names.map (·.1)).Nodup) &&
 (scope.names.all λ y=>!(y.2 == .free)||(sc.names.lookup y.1 == some .cell||sc.names.lookup y.1 == some .free)) &&
 (cap.all λ p=>(N[p.2]? == some p.1)&&scope.names.contains (p.1,NameKind.free))
def dD{own:List Str}(sc:Scope)(hsc:X.env.scope=sc)(N:List Str)(hN:X.N=N)(h:xB sc N scope cap=true):gh X scope own cap:=by
 simp only[xB,LW,MK]at h;obtain⟨⟨⟨h1,h2⟩,h3⟩,h4⟩:=h;refine⟨h1,h2,λ y hy hk=>?_,λ p hp=>?_⟩
 ·have q:=NQ.mp h3 y hy;show X.env.scope.names.lookup y.1=some .cell\/X.env.scope.names.lookup y.1=some .free;rw[hsc];rw[hk]at q;simpa using q
 ·have q:=NQ.mp h4 p hp;rw[LW]at q;rw[hN];exact⟨by simpa using q.1,by simpa using q.2⟩
structure mJ (P:Program)(w:World)(K:PySem.W.Frag)(mg:Str->Option Value)(base:Heap)(k:Nat)(x:Str)(ps:List Str)(sp:Sp):Prop where
 ex:∃ f fd,mg x=some (.ref f)/\PySem.W.keepIn K (.ref f)=true/\Binds K fd ps []/\oQ P w K mg base zd k f fd ps sp
structure nI (K:PySem.W.Frag)(mg:Str->Option Value)(x:Str)(st:Stmt)(ps:List Str):Prop where
 ex:∃ f fd,DE K x x st f fd/\mg x=some (.ref f)/\Binds K fd ps []
section
variable{k:Nat}{p:Pos}{e:Expr}{es:List Expr}{t:TA}
def Gb (C:mJ X.prog X.w X.K X.mg X.base k x ps sp)(hr:fY k X.A)(hg:Gl X x)(ha:PA X (e::es) t)(hdb:(x == ("__debug__" : Str))=false:=by decide)
  (he:starEach (e::es) X.env=(false,eval e X.env)::starEach es X.env:=by rfl) (hpl:(backTo pos (starEach es X.env)).any (·.1)=false:=by rfl):PE X (.Call (.Name x p) (e::es) [] pos) (EV sp [] E0 t):=by
 obtain⟨f,fd,hm,hk,hb,F⟩:=C.ex;exact Dh F hr hg hm hk hb .nil Ii ha hdb he hpl
end
end L2
namespace DL
open PySem PySem.Spec PyProof.Rows L2
variable {a:Addr}{F F':Addr->Prop}{X:Cx}{e l tg:Expr}{o:HO}{base:Heap}{B B' B0 B1 H H' H0 H1:Hp}{σ:L2.St}{cap:List (Str×Nat)}{P f fp g:List Addr}{es rest:List Expr}{N ps:List Str}{vs:List V}{i n:Nat}{p p1 pos pos':Pos}{C:Prop}{r:R2}{st:Stmt}{x:Str}{mg:Str->Option Value}{T:String}{α β:Type}{v:V}{Q:VK}{w:World}
inductive Tg where|own|bor|aq|len (a:Addr)
 deriving DecidableEq
abbrev KT:=Sum Key (List Key)
variable {ks:List KT}
inductive D where
 |bg|bl (b:Bool)|int (i:Int)|str (x:Str)
 |tup (xs:List D)|lst (t:Tg) (xs:List D)|dct (t:Tg) (k:Bool) (ks:List KT) (vs:List D)
 |exc (C:Addr)
variable {d:D}{ds xs:List D}
abbrev SD:=List (Option D)
variable {τ:SD}
inductive Res (α:Type) where|ok (a:α)|fT (C:Addr)|bad
variable {it:SD->Res (Bool×List D)}{c gc tt:SD->Res Bool}{elt fe:SD->Res D}
def Res.bind:Res α->(α->Res β)->Res β
 |.ok a,f=>f a
 |.fT c,_=>.fT c
 |.bad,_=>.bad
def Res.map(f:α->β)(r:Res α):Res β:=r.bind λ a=>.ok (f a)
@[simp] theorem Res.aH(a:α)(f:α->Res β):(Res.ok a).bind f=f a:=rfl
@[simp] theorem Res.iJ(c:Addr)(f:α->Res β):(Res.fT c:Res α).bind f=.fT c:=rfl
@[simp] theorem Res.iI(f:α->Res β):(Res.bad:Res α).bind f=.bad:=rfl
@[simp] theorem Res.AY(a:α)(f:α->β):Res.map f (Res.ok a)=.ok (f a):=rfl
def Tg.jN:Tg->Bool|.own=>true|.len _=>true|_=>false
def Tg.view:Tg->Tg|.own=>.bor|.len _=>.bor|t=>t
def Tg.aP:Tg->Tg|.aq=>.bor|t=>t
mutual
def D.view:D->D
 |.tup xs=>.tup (bR xs)
 |.lst t xs=>.lst t.view (bR xs)
 |.dct t k ks vs=>.dct t.view k ks (bR vs)
 |d=>d
def bR:List D->List D
 |[]=>[]
 |d::r=>d.view::bR r
end
mutual
def D.aq:D->D
 |.tup xs=>.tup (aE xs)
 |.lst _ xs=>.lst .aq (aE xs)
 |.dct _ k ks vs=>.dct .aq k ks (aE vs)
 |d=>d
def aE:List D->List D
 |[]=>[]
 |d::r=>d.aq::aE r
end
mutual
def D.aP:D->D
 |.tup xs=>.tup (bA xs)
 |.lst t xs=>.lst t.aP (bA xs)
 |.dct t k ks vs=>.dct t.aP k ks (bA vs)
 |d=>d
def bA:List D->List D
 |[]=>[]
 |d::r=>d.aP::bA r
end
mutual
def D.aw:D->Bool
 |.tup xs=>av xs
 |.lst t xs=>decide (t=.bor)||av xs
 |.dct t _ _ vs=>decide (t=.bor)||av vs
 |_=>false
def av:List D->Bool
 |[]=>false
 |d::r=>d.aw||av r
end
mutual
def D.pure:D->Bool
 |.tup xs=>aJ xs
 |.lst _ _=>false
 |.dct _ _ _ _=>false
 |_=>true
def aJ:List D->Bool
 |[]=>true
 |d::r=>d.pure&&aJ r
end
mutual
def qS:∀ d:D,d.pure=true->d.view=d
 |.bg,_=>rfl|.bl _,_=>rfl|.int _,_=>rfl|.str _,_=>rfl|.exc _,_=>rfl
 | .tup xs,h=>by
  have h:aJ xs=true:=h;show D.tup (bR xs)=_;rw[dO xs h]
 |.lst _ _,h=>by cases h
 |.dct _ _ _ _,h=>by cases h
def dO:∀ xs:List D,aJ xs=true->bR xs=xs
 |[],_=>rfl
 | d::r,h=>by
  have h:(d.pure&&aJ r)=true:=h;rw[LW]at h;show d.view::bR r=_;rw[qS d h.1,dO r h.2]
end
mutual
def bG:∀ d:D,d.pure=true->d.aq=d
 |.bg,_=>rfl|.bl _,_=>rfl|.int _,_=>rfl|.str _,_=>rfl|.exc _,_=>rfl
 | .tup xs,h=>by
  have h:aJ xs=true:=h;show D.tup (aE xs)=_;rw[dE xs h]
 |.lst _ _,h=>by cases h
 |.dct _ _ _ _,h=>by cases h
def dE:∀ xs:List D,aJ xs=true->aE xs=xs
 |[],_=>rfl
 | d::r,h=>by
  have h:(d.pure&&aJ r)=true:=h;rw[LW]at h;show d.aq::aE r=_;rw[bG d h.1,dE r h.2]
end
mutual
def o6:∀ d:D,d.pure=true->d.aP=d
 |.bg,_=>rfl|.bl _,_=>rfl|.int _,_=>rfl|.str _,_=>rfl|.exc _,_=>rfl
 | .tup xs,h=>by
  have h:aJ xs=true:=h;show D.tup (bA xs)=_;rw[eZ xs h]
 |.lst _ _,h=>by cases h
 |.dct _ _ _ _,h=>by cases h
def eZ:∀ xs:List D,aJ xs=true->bA xs=xs
 |[],_=>rfl
 | d::r,h=>by
  have h:(d.pure&&aJ r)=true:=h;rw[LW]at h;show d.aP::bA r=_;rw[o6 d h.1,eZ r h.2]
end
mutual
def bx:∀ d:D,d.pure=true->d.aw=false
 |.bg,_=>rfl|.bl _,_=>rfl|.int _,_=>rfl|.str _,_=>rfl|.exc _,_=>rfl|.tup xs,h=>bZ xs h
 |.lst _ _,h=>by cases h
 |.dct _ _ _ _,h=>by cases h
def bZ:∀ xs:List D,aJ xs=true->av xs=false
 |[],_=>rfl
 | d::r,h=>by
  have h:(d.pure&&aJ r)=true:=h;rw[LW]at h;show(d.aw||av r)=false;rw[bx d h.1,bZ r h.2];rfl
end
def bH:∀ {xs:List D},(∀ d∈xs,d.pure=true)->aJ xs=true
 |[],_=>rfl
 | d::r,h=>by
  show(d.pure&&aJ r)=true;rw[h d Le,bH λ x hx=>h x (Ld _ hx)];rfl
def qR:∀ {xs:List D},aJ xs=true->∀ d∈xs,d.pure=true
 | d::r,h,x,hx=>by
  have h:(d.pure&&aJ r)=true:=h;rw[LW]at h;rcases Ln.mp hx with e|e
  ·rw[e];exact h.1
  ·exact qR h.2 x e
def jM:∀ xs:List D,bR xs=xs.map D.view
 |[]=>rfl|d::r=>by rw[bR,jM r];rfl
def kj:∀ xs:List D,aE xs=xs.map D.aq
 |[]=>rfl|d::r=>by rw[aE,kj r];rfl
def mU:∀ xs:List D,bA xs=xs.map D.aP
 |[]=>rfl|d::r=>by rw[bA,mU r];rfl
def o7:∀ xs:List D,av xs=xs.any D.aw
 |[]=>rfl|d::r=>by rw[av,o7 r];rfl
def DictAt (H:Hp)(a:Addr)(k:Bool)(ks:List KT)(vs:List V):Prop:=
 (k=false/\∃ (kvs:List (Key×V)) (ep:Nat),H a=some (.dK kvs ep)/\ks=kvs.map (λ p=>Sum.inl p.1)/\vs=kvs.map (·.2)) ∨
 (k=true/\∃ (kvs:List (List Key×V)) (ep:Nat),H a=some (.dT kvs ep)/\ks=kvs.map (λ p=>Sum.inr p.1)/\vs=kvs.map (·.2))
def ExcAt (H:Hp)(a C:Addr):Prop:=∃ (t:Addr) (tb:Value) (u:HO),H a=some (.aq { cls:=.ref C,data:=.fields #[.ref t,tb,.none,.none,.bool false,.none] } u)
mutual
def Rep (K:PySem.W.Frag)(B:Hp)(S:Addr->Prop)(H:Hp):D->V->List Addr->Prop
 |.bg,v,fp=>v=.bg/\fp=[]
 |.bl b,v,fp=>v=.bl b/\fp=[]
 |.int i,v,fp=>v=.int i/\fp=[]
 |.str x,v,fp=>v=.str x/\fp=[]
 |.exc x,v,fp=>(∃ a,v=.ref a/\ExcAt H a x)/\fp=[]
 |.tup xs,v,fp=>∃ a vs,v=.ref a/\H a=some (.tup vs)/\ai K B S H xs vs fp
 |.lst .own xs,v,fp=>∃ a vs f,v=.ref a/\H a=some (.lst vs)/\ai K B S H xs vs f/\fp=a::f
 |.lst .bor xs,v,fp=>∃ a vs,v=.ref a/\((S a/\c8 K H a vs)\/c8 K B a vs)/\ai K B S H xs vs []/\fp=[]
 |.lst .aq xs,v,fp=>∃ a vs,v=.ref a/\c8 K B a vs/\ai K B (λ _=>False) H xs vs []/\fp=[]
 |.lst (.len _) _,_,_=>False
 |.dct (.len p) k ks xs,v,fp=>∃ vs f,v=.ref p/\DictAt H p k ks vs/\ai K B S H xs vs f/\fp=p::f
 |.dct .own k ks xs,v,fp=>∃ a vs f,v=.ref a/\DictAt H a k ks vs/\ai K B S H xs vs f/\fp=a::f
 |.dct .bor k ks xs,v,fp=>∃ a vs,v=.ref a/\((S a/\DictAt H a k ks vs)\/DictAt B a k ks vs)/\ai K B S H xs vs []/\fp=[]
 |.dct .aq k ks xs,v,fp=>∃ a vs,v=.ref a/\DictAt B a k ks vs/\ai K B (λ _=>False) H xs vs []/\fp=[]
def ai (K:PySem.W.Frag)(B:Hp)(S:Addr->Prop)(H:Hp):List D->List V->List Addr->Prop
 |[],vs,fp=>vs=[]/\fp=[]
 |d::ds,vs,fp=>∃ v r f g,vs=v::r/\Rep K B S H d v f/\ai K B S H ds r g/\fp=f++g
end
def dH {K:PySem.W.Frag}(s:au H H'){xs:List V}(h:c8 K H a xs):c8 K H' a xs:=s.seq h
def DictAt.mono(s:au H H'){k:Bool}(h:DictAt H a k ks vs):DictAt H' a k ks vs:=by
 rcases h with ⟨z,kvs,ep,h,r⟩|⟨z,kvs,ep,h,r⟩
 ·exact .inl ⟨z,kvs,ep,s _ _ h,r⟩
 ·exact .inr ⟨z,kvs,ep,s _ _ h,r⟩
def ExcAt.mono(s:au H H'){C:Addr}(h:ExcAt H a C):ExcAt H' a C:=let ⟨t,tb,u,h⟩:=h;⟨t,tb,u,s _ _ h⟩
section
variable {K:PySem.W.Frag}
mutual
def Rep.mono {B B' H H':Hp}{S S':Addr->Prop}(sH:au H H')(sB:au B B')(sS:∀ a,S a->S' a):∀ {d:D}{v:V}{fp:List Addr},Rep K B S H d v fp->Rep K B' S' H' d v fp
 |.bg,_,_,h=>h
 |.bl _,_,_,h=>h
 |.int _,_,_,h=>h
 |.str _,_,_,h=>h
 |.exc _,_,_,h=>let ⟨⟨a,e,z⟩,r⟩:=h;⟨⟨a,e,z.mono sH⟩,r⟩
 |.tup xs,v,fp,h=>let ⟨a,vs,e,q,r⟩:=h;⟨a,vs,e,sH _ _ q,ai.mono sH sB sS r⟩
 |.lst .own xs,v,fp,h=>let ⟨a,vs,f,e,q,r,z⟩:=h;⟨a,vs,f,e,sH _ _ q,ai.mono sH sB sS r,z⟩
 |.lst .bor xs,v,fp,h=>let ⟨a,vs,e,q,r,z⟩:=h;⟨a,vs,e,q.imp (λ y=>⟨sS _ y.1,dH sH y.2⟩) (λ y=>dH sB y),ai.mono sH sB sS r,z⟩
 |.lst .aq xs,v,fp,h=>let ⟨a,vs,e,q,r,z⟩:=h;⟨a,vs,e,dH sB q,ai.mono sH sB (λ _ x=>x) r,z⟩
 |.lst (.len _) _,_,_,h=>h.elim
 |.dct (.len a) k ks xs,v,fp,h=>let ⟨vs,f,e,q,r,z⟩:=h;⟨vs,f,e,q.mono sH,ai.mono sH sB sS r,z⟩
 |.dct .own k ks xs,v,fp,h=>let ⟨a,vs,f,e,q,r,z⟩:=h;⟨a,vs,f,e,q.mono sH,ai.mono sH sB sS r,z⟩
 |.dct .bor k ks xs,v,fp,h=>let ⟨a,vs,e,q,r,z⟩:=h;⟨a,vs,e,q.imp (λ y=>⟨sS _ y.1,y.2.mono sH⟩) (λ y=>y.mono sB),ai.mono sH sB sS r,z⟩
 |.dct .aq k ks xs,v,fp,h=>let ⟨a,vs,e,q,r,z⟩:=h;⟨a,vs,e,q.mono sB,ai.mono sH sB (λ _ x=>x) r,z⟩
def ai.mono {B B' H H':Hp}{S S':Addr->Prop}(sH:au H H')(sB:au B B')(sS:∀ a,S a->S' a):∀ {ds:List D}{vs:List V}{fp:List Addr},ai K B S H ds vs fp->ai K B' S' H' ds vs fp
 |[],_,_,h=>h
 |d::ds,vs,fp,h=>let ⟨v,r,f,g,e,h1,h2,z⟩:=h;⟨v,r,f,g,e,Rep.mono sH sB sS h1,ai.mono sH sB sS h2,z⟩
end
def ai.length {B H:Hp}{S:Addr->Prop}:∀ {ds:List D}{vs:List V}{fp:List Addr},ai K B S H ds vs fp->ds.length=vs.length
 |[],_,_,h=>by rw[h.1];rfl
 | d::ds,vs,fp,h=>by
  obtain⟨v,r,f,g,e,h1,h2,z⟩:=h;rw[e,Ly,Ly,ai.length h2]
def kQ(h:([]:List Addr)=f++g):f=[]/\g=[]:=List.append_eq_nil_iff.mp h.symm
def ai.get {B H:Hp}{S:Addr->Prop}:∀ {ds:List D}{vs:List V}{fp:List Addr}{i:Nat}{d:D},ai K B S H ds vs fp->ds[i]?=some d->∃ v f,vs[i]?=some v/\Rep K B S H d v f/\List.Sublist f fp
 |[],_,_,i,_,_,e=>by simp at e
 | d::ds,vs,fp,0,d',h,e=>by
  obtain⟨v,r,f,g,e1,h1,h2,z⟩:=h;have e:d=d':=by simpa using e
  subst e e1 z;exact⟨v,f,rfl,h1,LS _ _⟩
 | d::ds,vs,fp,i+1,d',h,e=>by
  obtain⟨v,r,f,g,e1,h1,h2,z⟩:=h;subst e1 z;obtain⟨w,f',a1,a2,a3⟩:=ai.get (i:=i) h2 (by simpa using e);exact⟨w,f',by simpa using a1,a2,a3.trans (LI _ _)⟩
def ai.append {B H:Hp}{S:Addr->Prop}:∀ {xs ys:List D}{us vs:List V}{f g:List Addr},ai K B S H xs us f->ai K B S H ys vs g->ai K B S H (xs++ys) (us++vs) (f++g)
 | [],ys,us,vs,f,g,h,h'=>by
  obtain⟨rfl,rfl⟩:=h;exact h'
 | d::ds,ys,us,vs,f,g,h,h'=>by
  obtain⟨v,r,f1,f2,e1,h1,h2,z⟩:=h;subst e1 z;exact⟨v,r++vs,f1,f2++g,rfl,h1,ai.append h2 h',by rw[LM]⟩
def ai.one{S:Addr->Prop}(h:Rep K B S H d v f):ai K B S H [d] [v] f:=⟨v,[],f,[],rfl,h,⟨rfl,rfl⟩,(LZ _).symm⟩
def ai.split {B H:Hp}{S:Addr->Prop}:∀ {xs ys:List D}{vs:List V}{f:List Addr},ai K B S H (xs++ys) vs f->∃ us ws g h,vs=us++ws/\f=g++h/\ai K B S H xs us g/\ai K B S H ys ws h
 |[],ys,vs,f,h=>⟨[],vs,[],f,rfl,rfl,⟨rfl,rfl⟩,h⟩
 | d::ds,ys,vs,f,h=>by
  obtain⟨v,r,f1,f2,e1,h1,h2,z⟩:=h;subst e1 z;obtain⟨us,ws,g,h',e1,e2,a,b⟩:=ai.split h2;subst e1 e2;exact⟨v::us,ws,f1++g,h',rfl,by rw[LM],⟨v,us,f1,g,rfl,h1,a,rfl⟩,b⟩
def lP{S:Addr->Prop}:(∀ (d:D) {v:V}{fp:List Addr},d.pure=true->Rep K B S H d v fp->fp=[])/\(∀ (ds:List D) {vs:List V}{fp:List Addr},aJ ds=true->ai K B S H ds vs fp->fp=[]):=by
 refine⟨λ d=>?_,λ ds=>?_⟩
 ·exact D.rec (motive_1:=λ d=>∀ {v:V}{fp:List Addr},d.pure=true->Rep K B S H d v fp->fp=[]) (motive_2:=λ ds=>∀ {vs:List V}{fp:List Addr},aJ ds=true->ai K B S H ds vs fp->fp=[])
   (λ _ h=>h.2) (λ _ _ _ _ h=>h.2) (λ _ _ _ _ h=>h.2) (λ _ _ _ _ h=>h.2) (λ xs ih _ _ p h=>let ⟨_,_,_,_,r⟩:=h;ih p r) (λ _ _ _ _ _ p=>by cases p) (λ _ _ _ _ _ _ _ p=>by cases p) (λ _ _ _ _ h=>h.2) (λ _ h=>h.2)
   (λ d r ih1 ih2 _ _ p h=>by
    have p:(d.pure&&aJ r)=true:=p;rw[LW]at p;obtain⟨_,_,_,_,_,h1,h2,z⟩:=h;rw[z,ih1 p.1 h1,ih2 p.2 h2];rfl) d
 ·exact D.rec_1 (motive_1:=λ d=>∀ {v:V}{fp:List Addr},d.pure=true->Rep K B S H d v fp->fp=[]) (motive_2:=λ ds=>∀ {vs:List V}{fp:List Addr},aJ ds=true->ai K B S H ds vs fp->fp=[])
   (λ _ h=>h.2) (λ _ _ _ _ h=>h.2) (λ _ _ _ _ h=>h.2) (λ _ _ _ _ h=>h.2) (λ xs ih _ _ p h=>let ⟨_,_,_,_,r⟩:=h;ih p r) (λ _ _ _ _ _ p=>by cases p) (λ _ _ _ _ _ _ _ p=>by cases p) (λ _ _ _ _ h=>h.2) (λ _ h=>h.2)
   (λ d r ih1 ih2 _ _ p h=>by
    have p:(d.pure&&aJ r)=true:=p;rw[LW]at p;obtain⟨_,_,_,_,_,h1,h2,z⟩:=h;rw[z,ih1 p.1 h1,ih2 p.2 h2];rfl) ds
end
abbrev No:Addr->Prop:=λ _=>False
section
variable {K:PySem.W.Frag}
mutual
def Rep.view {B H:Hp}{S:Addr->Prop}:∀ {d:D}{v:V}{fp:List Addr},Rep K B No H d v fp->(∀ a∈fp,S a)->Rep K B S H d.view v []
 |.bg,_,_,h,_=>⟨h.1,rfl⟩
 |.bl _,_,_,h,_=>⟨h.1,rfl⟩
 |.int _,_,_,h,_=>⟨h.1,rfl⟩
 |.str _,_,_,h,_=>⟨h.1,rfl⟩
 |.exc _,_,_,h,_=>⟨h.1,rfl⟩
 |.tup xs,v,fp,h,hs=>let ⟨a,vs,e,q,r⟩:=h;⟨a,vs,e,q,ai.view r hs⟩
 | .lst .own xs,v,fp,h,hs=>by
  obtain⟨a,vs,f,e,q,r,z⟩:=h;subst z;exact⟨a,vs,e,.inl ⟨hs a Le,c8.of q⟩,ai.view r λ b hb=>hs b (Ld _ hb),rfl⟩
 |.lst .bor xs,v,fp,h,hs=>let ⟨a,vs,e,q,r,z⟩:=h;⟨a,vs,e,.inr (q.resolve_left λ y=>y.1),ai.view r (λ _ x=>by cases x),rfl⟩
 |.lst .aq xs,v,fp,h,hs=>let ⟨a,vs,e,q,r,z⟩:=h;⟨a,vs,e,q,ai.view (S:=No) r (λ _ x=>by cases x),rfl⟩
 |.lst (.len _) _,_,_,h,_=>h.elim
 | .dct (.len a) kd ks xs,v,fp,h,hs=>by
  obtain⟨vs,f,e,q,r,z⟩:=h;subst z;exact⟨a,vs,e,.inl ⟨hs a Le,q⟩,ai.view r λ b hb=>hs b (Ld _ hb),rfl⟩
 | .dct .own kd ks xs,v,fp,h,hs=>by
  obtain⟨a,vs,f,e,q,r,z⟩:=h;subst z;exact⟨a,vs,e,.inl ⟨hs a Le,q⟩,ai.view r λ b hb=>hs b (Ld _ hb),rfl⟩
 |.dct .bor kd ks xs,v,fp,h,hs=>let ⟨a,vs,e,q,r,z⟩:=h;⟨a,vs,e,.inr (q.resolve_left λ y=>y.1),ai.view r (λ _ x=>by cases x),rfl⟩
 |.dct .aq kd ks xs,v,fp,h,hs=>let ⟨a,vs,e,q,r,z⟩:=h;⟨a,vs,e,q,ai.view (S:=No) r (λ _ x=>by cases x),rfl⟩
def ai.view {B H:Hp}{S:Addr->Prop}:∀ {ds:List D}{vs:List V}{fp:List Addr},ai K B No H ds vs fp->(∀ a∈fp,S a)->ai K B S H (bR ds) vs []
 |[],_,_,h,_=>⟨h.1,rfl⟩
 | d::ds,vs,fp,h,hs=>by
  obtain⟨v,r,f,g,e,h1,h2,z⟩:=h;subst z;exact⟨v,r,[],[],e,Rep.view h1 (λ b hb=>hs b (Lu _ hb)),ai.view h2 (λ b hb=>hs b (Lx _ hb)),rfl⟩
end
def AZ{S:Addr->Prop}(sB:au B B')(hs:∀ a o,S a->H a=some o->B' a=some o)(q:(S a/\c8 K H a vs)\/c8 K B a vs):c8 K B' a vs:=by
 rcases q with ⟨s,(q|⟨o,q⟩)|q⟩|q
 ·exact .inl (.inl (hs _ _ s q))
 ·exact .inl (.inr ⟨o,hs _ _ s q⟩)
 ·exact .inr q
 ·exact sB.seq q
def km{S:Addr->Prop}{kd:Bool}(sB:au B B')(hs:∀ a o,S a->H a=some o->B' a=some o)(q:(S a/\DictAt H a kd ks vs)\/DictAt B a kd ks vs):DictAt B' a kd ks vs:=by
 rcases q with ⟨s,⟨z,kvs,ep,q,r⟩|⟨z,kvs,ep,q,r⟩⟩|q
 ·exact .inl ⟨z,kvs,ep,hs _ _ s q,r⟩
 ·exact .inr ⟨z,kvs,ep,hs _ _ s q,r⟩
 ·exact q.mono sB
mutual
def Rep.aq {B B' H:Hp}{S:Addr->Prop}(sB:au B B')(hs:∀ a o,S a->H a=some o->B' a=some o):∀ {d:D}{v:V}{fp:List Addr},Rep K B S H d v fp->(∀ a∈fp,∀ o,H a=some o->B' a=some o)->Rep K B' No H d.aq v []
 |.bg,_,_,h,_=>⟨h.1,rfl⟩
 |.bl _,_,_,h,_=>⟨h.1,rfl⟩
 |.int _,_,_,h,_=>⟨h.1,rfl⟩
 |.str _,_,_,h,_=>⟨h.1,rfl⟩
 |.exc _,_,_,h,_=>⟨h.1,rfl⟩
 |.tup xs,v,fp,h,hf=>let ⟨a,vs,e,q,r⟩:=h;⟨a,vs,e,q,ai.aq sB hs r hf⟩
 | .lst .own xs,v,fp,h,hf=>by
  obtain⟨a,vs,f,e,q,r,z⟩:=h;subst z;exact⟨a,vs,e,c8.of (hf a Le _ q),ai.aq sB hs r λ b hb=>hf b (Ld _ hb),rfl⟩
 |.lst .bor xs,v,fp,h,hf=>let ⟨a,vs,e,q,r,z⟩:=h;⟨a,vs,e,AZ sB hs q,ai.aq sB hs r (λ _ x=>by cases x),rfl⟩
 |.lst .aq xs,v,fp,h,hf=>let ⟨a,vs,e,q,r,z⟩:=h;⟨a,vs,e,dH sB q,ai.aq sB (λ _ _ x=>x.elim) r (λ _ x=>by cases x),rfl⟩
 |.lst (.len _) _,_,_,h,_=>h.elim
 | .dct (.len a) kd ks xs,v,fp,h,hf=>by
  obtain⟨vs,f,e,q,r,z⟩:=h;subst z;refine⟨a,vs,e,?_,ai.aq sB hs r λ b hb=>hf b (Ld _ hb),rfl⟩;exact km (S:=λ b=>b=a) sB (λ b o eb=>by rw[eb];exact hf a Le o) (.inl ⟨rfl,q⟩)
 | .dct .own kd ks xs,v,fp,h,hf=>by
  obtain⟨a,vs,f,e,q,r,z⟩:=h;subst z;refine⟨a,vs,e,?_,ai.aq sB hs r λ b hb=>hf b (Ld _ hb),rfl⟩;exact km (S:=λ b=>b=a) sB (λ b o eb=>by rw[eb];exact hf a Le o) (.inl ⟨rfl,q⟩)
 |.dct .bor kd ks xs,v,fp,h,hf=>let ⟨a,vs,e,q,r,z⟩:=h;⟨a,vs,e,km sB hs q,ai.aq sB hs r (λ _ x=>by cases x),rfl⟩
 |.dct .aq kd ks xs,v,fp,h,hf=>let ⟨a,vs,e,q,r,z⟩:=h;⟨a,vs,e,q.mono sB,ai.aq sB (λ _ _ x=>x.elim) r (λ _ x=>by cases x),rfl⟩
def ai.aq {B B' H:Hp}{S:Addr->Prop}(sB:au B B')(hs:∀ a o,S a->H a=some o->B' a=some o):∀ {ds:List D}{vs:List V}{fp:List Addr},ai K B S H ds vs fp->(∀ a∈fp,∀ o,H a=some o->B' a=some o)->ai K B' No H (aE ds) vs []
 |[],_,_,h,_=>⟨h.1,rfl⟩
 | d::ds,vs,fp,h,hf=>by
  obtain⟨v,r,f,g,e,h1,h2,z⟩:=h;subst z;exact⟨v,r,[],[],e,Rep.aq sB hs h1 (λ b hb=>hf b (Lu _ hb)),ai.aq sB hs h2 (λ b hb=>hf b (Lx _ hb)),rfl⟩
end
def uN{S:Addr->Prop}(sH:au B H)(hb:∀ a o,B a=some o->B' a=some o\/S a)(q:c8 K B a vs):(S a/\c8 K H a vs)\/c8 K B' a vs:=by
 rcases q with (q|⟨o,q⟩)|q
 ·exact(hb _ _ q).symm.imp (λ s=>⟨s,c8.of (sH _ _ q)⟩) λ z=>.inl (.inl z)
 ·exact(hb _ _ q).symm.imp (λ s=>⟨s,.inl (.inr ⟨o,sH _ _ q⟩)⟩) λ z=>.inl (.inr ⟨o,z⟩)
 ·exact .inr (.inr q)
def nJ{S:Addr->Prop}{kd:Bool}(sH:au B H)(hb:∀ a o,B a=some o->B' a=some o\/S a)(q:DictAt B a kd ks vs):(S a/\DictAt H a kd ks vs)\/DictAt B' a kd ks vs:=by
 rcases q with ⟨y,kvs,ep,q,r⟩|⟨y,kvs,ep,q,r⟩
 ·exact(hb _ _ q).symm.imp (λ s=>⟨s,.inl ⟨y,kvs,ep,sH _ _ q,r⟩⟩) λ z=>.inl ⟨y,kvs,ep,z,r⟩
 ·exact(hb _ _ q).symm.imp (λ s=>⟨s,.inr ⟨y,kvs,ep,sH _ _ q,r⟩⟩) λ z=>.inr ⟨y,kvs,ep,z,r⟩
mutual
def Rep.aP {B B' H:Hp}{S:Addr->Prop}(sH:au B H)(hb:∀ a o,B a=some o->B' a=some o\/S a):∀ {d:D}{v:V}{fp:List Addr},Rep K B No H d v fp->Rep K B' S H d.aP v fp
 |.bg,_,_,h=>h
 |.bl _,_,_,h=>h
 |.int _,_,_,h=>h
 |.str _,_,_,h=>h
 |.exc _,_,_,h=>h
 |.tup xs,v,fp,h=>let ⟨a,vs,e,q,r⟩:=h;⟨a,vs,e,q,ai.aP sH hb r⟩
 |.lst .own xs,v,fp,h=>let ⟨a,vs,f,e,q,r,z⟩:=h;⟨a,vs,f,e,q,ai.aP sH hb r,z⟩
 |.lst .bor xs,v,fp,h=>let ⟨a,vs,e,q,r,z⟩:=h;⟨a,vs,e,uN sH hb (q.resolve_left λ y=>y.1),ai.aP sH hb r,z⟩
 |.lst .aq xs,v,fp,h=>let ⟨a,vs,e,q,r,z⟩:=h;⟨a,vs,e,uN sH hb q,ai.aP sH hb r,z⟩
 |.lst (.len _) _,_,_,h=>h.elim
 |.dct (.len a) kd ks xs,v,fp,h=>let ⟨vs,f,e,q,r,z⟩:=h;⟨vs,f,e,q,ai.aP sH hb r,z⟩
 |.dct .own kd ks xs,v,fp,h=>let ⟨a,vs,f,e,q,r,z⟩:=h;⟨a,vs,f,e,q,ai.aP sH hb r,z⟩
 |.dct .bor kd ks xs,v,fp,h=>let ⟨a,vs,e,q,r,z⟩:=h;⟨a,vs,e,nJ sH hb (q.resolve_left λ y=>y.1),ai.aP sH hb r,z⟩
 |.dct .aq kd ks xs,v,fp,h=>let ⟨a,vs,e,q,r,z⟩:=h;⟨a,vs,e,nJ sH hb q,ai.aP sH hb r,z⟩
def ai.aP {B B' H:Hp}{S:Addr->Prop}(sH:au B H)(hb:∀ a o,B a=some o->B' a=some o\/S a):∀ {ds:List D}{vs:List V}{fp:List Addr},ai K B No H ds vs fp->ai K B' S H (bA ds) vs fp
 |[],_,_,h=>h
 |d::ds,vs,fp,h=>let ⟨v,r,f,g,e,h1,h2,z⟩:=h;⟨v,r,f,g,e,Rep.aP sH hb h1,ai.aP sH hb h2,z⟩
end
mutual
def Rep.gy {B H:Hp}{S:Addr->Prop}:∀ {d:D}{v:V}{fp:List Addr},d.aw=false->Rep K B S H d v fp->Rep K B No H d v fp
 |.bg,_,_,_,h=>h
 |.bl _,_,_,_,h=>h
 |.int _,_,_,_,h=>h
 |.str _,_,_,_,h=>h
 |.exc _,_,_,_,h=>h
 |.tup xs,v,fp,p,h=>let ⟨a,vs,e,q,r⟩:=h;⟨a,vs,e,q,ai.gy (ds:=xs) p r⟩
 |.lst .own xs,v,fp,p,h=>let ⟨a,vs,f,e,q,r,z⟩:=h;⟨a,vs,f,e,q,ai.gy (ds:=xs) (by simpa[D.aw] using p) r,z⟩
 |.lst .bor xs,v,fp,p,h=>by simp[D.aw]at p
 |.lst .aq xs,v,fp,p,h=>h
 |.lst (.len _) _,_,_,_,h=>h.elim
 |.dct (.len a) kd ks xs,v,fp,p,h=>let ⟨vs,f,e,q,r,z⟩:=h;⟨vs,f,e,q,ai.gy (ds:=xs) (by simpa[D.aw] using p) r,z⟩
 |.dct .own kd ks xs,v,fp,p,h=>let ⟨a,vs,f,e,q,r,z⟩:=h;⟨a,vs,f,e,q,ai.gy (ds:=xs) (by simpa[D.aw] using p) r,z⟩
 |.dct .bor kd ks xs,v,fp,p,h=>by simp[D.aw]at p
 |.dct .aq kd ks xs,v,fp,p,h=>h
def ai.gy {B H:Hp}{S:Addr->Prop}:∀ {ds:List D}{vs:List V}{fp:List Addr},av ds=false->ai K B S H ds vs fp->ai K B No H ds vs fp
 |[],_,_,_,h=>h
 | d::ds,vs,fp,p,h=>by
  obtain⟨v,r,f,g,e,h1,h2,z⟩:=h;have p:(d.aw||av ds)=false:=p;rw[MX]at p;exact⟨v,r,f,g,e,Rep.gy p.1 h1,ai.gy p.2 h2,z⟩
end
def qt:HO->Prop
 |.lst _=>True
 |.dK _ _=>True
 |.dT _ _=>True
 |_=>False
structure iK (H H':Hp)(M:List Addr):Prop where
 keep:∀ a o,H a=some o->a∉M->H' a=some o
 J9:∀ a∈M,∃ o,H a=some o/\qt o
def iK.v9{M:List Addr}(k:iK H H' M)(h:H a=some o)(n:¬ qt o):H' a=some o:=k.keep a o h λ m=>by
 obtain⟨u,e,z⟩:=k.J9 a m;rw[h]at e;cases e;exact n z
mutual
def Rep.keep {B H H':Hp}{M:List Addr}(k:iK H H' M):∀ {d:D}{v:V}{fp:List Addr},Rep K B No H d v fp->(∀ a∈fp,a∉M)->Rep K B No H' d v fp
 |.bg,_,_,h,_=>h
 |.bl _,_,_,h,_=>h
 |.int _,_,_,h,_=>h
 |.str _,_,_,h,_=>h
 |.exc _,_,_,h,_=>let ⟨⟨a,e,t,tb,u,h1⟩,r⟩:=h;⟨⟨a,e,t,tb,u,k.v9 h1 (λ x=>x)⟩,r⟩
 | .tup xs,v,fp,h,hf=>by
  obtain⟨a,vs,e,q,r⟩:=h;exact⟨a,vs,e,k.v9 q (λ x=>x),ai.keep k r hf⟩
 | .lst .own xs,v,fp,h,hf=>by
  obtain⟨a,vs,f,e,q,r,z⟩:=h;subst z;exact⟨a,vs,f,e,k.keep _ _ q (hf a Le),ai.keep k r λ b hb=>hf b (Ld _ hb),rfl⟩
 |.lst .bor xs,v,fp,h,hf=>let ⟨a,vs,e,q,r,z⟩:=h;⟨a,vs,e,.inr (q.resolve_left λ y=>y.1),ai.keep k r (λ _ x=>by cases x),z⟩
 |.lst .aq xs,v,fp,h,hf=>let ⟨a,vs,e,q,r,z⟩:=h;⟨a,vs,e,q,ai.keep k r (λ _ x=>by cases x),z⟩
 |.lst (.len _) _,_,_,h,_=>h.elim
 | .dct (.len a) kd ks xs,v,fp,h,hf=>by
  obtain⟨vs,f,e,q,r,z⟩:=h;subst z;have hm:=hf a Le;refine⟨vs,f,e,?_,ai.keep k r λ b hb=>hf b (Ld _ hb),rfl⟩;rcases q with ⟨y,kvs,ep,q,w⟩|⟨y,kvs,ep,q,w⟩
  ·exact .inl ⟨y,kvs,ep,k.keep _ _ q hm,w⟩
  ·exact .inr ⟨y,kvs,ep,k.keep _ _ q hm,w⟩
 | .dct .own kd ks xs,v,fp,h,hf=>by
  obtain⟨a,vs,f,e,q,r,z⟩:=h;subst z;have hm:=hf a Le;refine⟨a,vs,f,e,?_,ai.keep k r λ b hb=>hf b (Ld _ hb),rfl⟩;rcases q with ⟨y,kvs,ep,q,w⟩|⟨y,kvs,ep,q,w⟩
  ·exact .inl ⟨y,kvs,ep,k.keep _ _ q hm,w⟩
  ·exact .inr ⟨y,kvs,ep,k.keep _ _ q hm,w⟩
 |.dct .bor kd ks xs,v,fp,h,hf=>let ⟨a,vs,e,q,r,z⟩:=h;⟨a,vs,e,.inr (q.resolve_left λ y=>y.1),ai.keep k r (λ _ x=>by cases x),z⟩
 |.dct .aq kd ks xs,v,fp,h,hf=>let ⟨a,vs,e,q,r,z⟩:=h;⟨a,vs,e,q,ai.keep k r (λ _ x=>by cases x),z⟩
def ai.keep {B H H':Hp}{M:List Addr}(k:iK H H' M):∀ {ds:List D}{vs:List V}{fp:List Addr},ai K B No H ds vs fp->(∀ a∈fp,a∉M)->ai K B No H' ds vs fp
 |[],_,_,h,_=>h
 | d::ds,vs,fp,h,hf=>by
  obtain⟨v,r,f,g,e,h1,h2,z⟩:=h;subst z;exact⟨v,r,f,g,e,Rep.keep k h1 (λ b hb=>hf b (Lu _ hb)),ai.keep k h2 (λ b hb=>hf b (Lx _ hb)),rfl⟩
end
mutual
def Rep.own {B H:Hp}{S:Addr->Prop}:∀ {d:D}{v:V}{fp:List Addr},Rep K B S H d v fp->∀ a∈fp,∃ o,H a=some o/\qt o
 |.bg,_,_,h=>by rw[h.2];intro a m;cases m
 |.bl _,_,_,h=>by rw[h.2];intro a m;cases m
 |.int _,_,_,h=>by rw[h.2];intro a m;cases m
 |.str _,_,_,h=>by rw[h.2];intro a m;cases m
 |.exc _,_,_,h=>by rw[h.2];intro a m;cases m
 |.tup xs,v,fp,h=>let ⟨a,vs,e,q,r⟩:=h;ai.own r
 | .lst .own xs,v,fp,h=>by
  obtain⟨a,vs,f,e,q,r,z⟩:=h;subst z;intro b hb;rcases Ln.mp hb with e|e
  ·subst e;exact⟨_,q,trivial⟩
  ·exact ai.own r b e
 |.lst .bor xs,v,fp,h=>by obtain⟨a,vs,e,q,r,z⟩:=h;rw[z];intro a m;cases m
 |.lst .aq xs,v,fp,h=>by obtain⟨a,vs,e,q,r,z⟩:=h;rw[z];intro a m;cases m
 |.lst (.len _) _,_,_,h=>h.elim
 | .dct (.len a) kd ks xs,v,fp,h=>by
  obtain⟨vs,f,e,q,r,z⟩:=h;subst z;intro b hb;rcases Ln.mp hb with e|e
  ·subst e;rcases q with ⟨y,kvs,ep,q,w⟩|⟨y,kvs,ep,q,w⟩
   ·exact⟨_,q,trivial⟩
   ·exact⟨_,q,trivial⟩
  ·exact ai.own r b e
 | .dct .own kd ks xs,v,fp,h=>by
  obtain⟨a,vs,f,e,q,r,z⟩:=h;subst z;intro b hb;rcases Ln.mp hb with e|e
  ·subst e;rcases q with ⟨y,kvs,ep,q,w⟩|⟨y,kvs,ep,q,w⟩
   ·exact⟨_,q,trivial⟩
   ·exact⟨_,q,trivial⟩
  ·exact ai.own r b e
 |.dct .bor kd ks xs,v,fp,h=>by obtain⟨a,vs,e,q,r,z⟩:=h;rw[z];intro a m;cases m
 |.dct .aq kd ks xs,v,fp,h=>by obtain⟨a,vs,e,q,r,z⟩:=h;rw[z];intro a m;cases m
def ai.own {B H:Hp}{S:Addr->Prop}:∀ {ds:List D}{vs:List V}{fp:List Addr},ai K B S H ds vs fp->∀ a∈fp,∃ o,H a=some o/\qt o
 |[],_,_,h=>by rw[h.2];intro a m;cases m
 | d::ds,vs,fp,h=>by
  obtain⟨v,r,f,g,e,h1,h2,z⟩:=h;subst z;intro b hb;rcases Ls.mp hb with e|e
  ·exact Rep.own h1 b e
  ·exact ai.own h2 b e
end
def cK (K:PySem.W.Frag)(B H:Hp):SD->L2.St->List Addr->Prop
 |[],σ,P=>σ=[]/\P=[]
 |none::r,σ,P=>∃ o τ,σ=o::τ/\cK K B H r τ P
 |some d::r,σ,P=>∃ v τ f g,σ=some v::τ/\Rep K B No H d v f/\cK K B H r τ g/\P=f++g
structure SI (K:PySem.W.Frag)(H0 B0 B H:Hp)(σ:L2.St)(τ:SD)(P:List Addr)(F:Addr->Prop):Prop where
 bh:au B H
 h0:au H0 H
 b0:au B0 B
 nb:∀ a,B a≠none->B0 a≠none\/H0 a=none
 rep:cK K B H τ σ P
 nd:P.Nodup
 own:∀ a∈P,B a=none/\H0 a=none/\¬ F a
 fr:∀ a,F a->B a=none/\H a≠none
structure fL (H0 B H:Hp)(P:List Addr)(F:Addr->Prop)(fp:List Addr):Prop where
 nd:fp.Nodup
 own:∀ a∈fp,B a=none/\H0 a=none/\H a≠none/\a∉P/\¬ F a
def fL.nil:fL H0 B H P F []:=⟨Mu,λ a m=>by cases m⟩
def fL.sub{fq:List Addr}(h:fL H0 B H P F fp)(s:List.Sublist fq fp):fL H0 B H P F fq:=⟨h.nd.sublist s,λ a m=>h.own a (s.subset m)⟩
def cK.own {B H:Hp}:∀ {τ:SD}{σ:L2.St}{P:List Addr},cK K B H τ σ P->∀ a∈P,∃ o,H a=some o/\qt o
 |[],_,_,h=>by rw[h.2];intro a m;cases m
 |none::r,σ,P,h=>by obtain⟨o,τ,e,h⟩:=h;exact cK.own h
 | some d::r,σ,P,h=>by
  obtain⟨v,τ,f,g,e,h1,h2,z⟩:=h;subst z;intro b hb;rcases Ls.mp hb with e|e
  ·exact Rep.own h1 b e
  ·exact cK.own h2 b e
def cK.mono {B B' H H':Hp}(sH:au H H')(sB:au B B'):∀ {τ:SD}{σ:L2.St}{P:List Addr},cK K B H τ σ P->cK K B' H' τ σ P
 |[],_,_,h=>h
 |none::r,σ,P,h=>let ⟨o,τ,e,h⟩:=h;⟨o,τ,e,cK.mono sH sB h⟩
 |some d::r,σ,P,h=>let ⟨v,τ,f,g,e,h1,h2,z⟩:=h;⟨v,τ,f,g,e,Rep.mono sH sB (λ _ x=>x) h1,cK.mono sH sB h2,z⟩
def cK.get {B H:Hp}:∀ {τ:SD}{σ:L2.St}{P:List Addr}{i:Nat}{d:D},cK K B H τ σ P->τ[i]?=some (some d)->∃ v f,σ[i]?=some (some v)/\Rep K B No H d v f/\List.Sublist f P
 |[],_,_,i,_,_,e=>by simp at e
 |none::r,σ,P,0,d,h,e=>by simp at e
 | none::r,σ,P,i+1,d,h,e=>by
  obtain⟨o,τ,e1,h⟩:=h;subst e1;obtain⟨v,f,a1,a2,a3⟩:=cK.get (i:=i) h (by simpa using e);exact⟨v,f,by simpa using a1,a2,a3⟩
 | some d::r,σ,P,0,d',h,e=>by
  obtain⟨v,τ,f,g,e1,h1,h2,z⟩:=h;have e:d=d':=by simpa using e
  subst e e1 z;exact⟨v,f,rfl,h1,LS _ _⟩
 | some d::r,σ,P,i+1,d',h,e=>by
  obtain⟨v,τ,f,g,e1,h1,h2,z⟩:=h;subst e1 z;obtain⟨w,f',a1,a2,a3⟩:=cK.get (i:=i) h2 (by simpa using e);exact⟨w,f',by simpa using a1,a2,a3.trans (LI _ _)⟩
def SI.stands (I:SI K H0 B0 B H σ τ P F)(h:a∈P):H a≠none:=by
 obtain⟨o,e,_⟩:=I.rep.own a h;rw[e];exact λ z=>by cases z
def SI.mV(I:SI K H0 B0 B H σ τ P F)(h:∀ a,F' a->F a):SI K H0 B0 B H σ τ P F':=
 ⟨I.bh,I.h0,I.b0,I.nb,I.rep,I.nd,λ a m=>let ⟨x,y,z⟩:=I.own a m;⟨x,y,λ q=>z (h a q)⟩,λ a m=>I.fr a (h a m)⟩
def SI.hold(I:SI K H0 B0 B H σ τ P F)(v:fL H0 B H P F fp):SI K H0 B0 B H σ τ P (λ a=>a∈fp\/F a):=
 ⟨I.bh,I.h0,I.b0,I.nb,I.rep,I.nd,λ a m=>let ⟨x,y,z⟩:=I.own a m;⟨x,y,λ q=>q.elim (λ r=>(v.own a r).2.2.2.1 m) z⟩,λ a m=>m.elim (λ r=>⟨(v.own a r).1,(v.own a r).2.2.1⟩) (I.fr a)⟩
def SI.grow(I:SI K H0 B0 B H σ τ P F)(s:au H H'):SI K H0 B0 B H' σ τ P F:=
 ⟨I.bh.trans s,I.h0.trans s,I.b0,I.nb,I.rep.mono s (λ _ _ x=>x),I.nd,I.own,λ a m=>⟨(I.fr a m).1,λ z=>(I.fr a m).2 (s.free z)⟩⟩
def fL.grow(v:fL H0 B H P F fp)(s:au H H')(hb:∀ a∈fp,B' a=none):fL H0 B' H' P F fp:=
 ⟨v.nd,λ a m=>let ⟨x,y,z,p,q⟩:=v.own a m;⟨hb a m,y,λ n=>z (s.free n),p,q⟩⟩
def SI.xD (I:SI K H0 B0 B H σ τ P F){p:Addr}(h:H p=none):B p=none/\H0 p=none/\p∉P/\¬ F p:=
 ⟨I.bh.free h,I.h0.free h,λ m=>I.stands m h,λ m=>(I.fr p m).2 h⟩
end
def ex8 {α β γ δ ε ζ:Sort _}{p q:α->β->γ->δ->ε->ζ->Prop}(h:∃ a b c d e f,p a b c d e f/\q a b c d e f)(k:∀ a b c d e f,p a b c d e f->q a b c d e f->C):C:=h.elim λ a h=>h.elim λ b h=>h.elim λ c h=>h.elim λ d h=>h.elim λ e h=>h.elim λ f h=>k a b c d e f h.1 h.2
def ex7 {α β γ δ ε:Sort _}{p q:α->β->γ->δ->ε->Prop}(h:∃ a b c d e,p a b c d e/\q a b c d e)(k:∀ a b c d e,p a b c d e->q a b c d e->C):C:=h.elim λ a h=>h.elim λ b h=>h.elim λ c h=>h.elim λ d h=>h.elim λ e h=>k a b c d e h.1 h.2
def ex12 {α β γ δ ε ζ η θ:Sort _}{p q r s:α->β->γ->δ->ε->ζ->η->θ->Prop}(h:∃ a b c d e f g i,p a b c d e f g i/\q a b c d e f g i/\r a b c d e f g i/\s a b c d e f g i)(k:∀ a b c d e f g i,p a b c d e f g i->q a b c d e f g i->r a b c d e f g i->s a b c d e f g i->C):C:=h.elim λ a h=>h.elim λ b h=>h.elim λ c h=>h.elim λ d h=>h.elim λ e h=>h.elim λ f h=>h.elim λ g h=>h.elim λ i h=>k a b c d e f g i h.1 h.2.1 h.2.2.1 h.2.2.2
structure XY where
 ex:Addr->L2.St->Hp->Prop
 ln:Bool
variable {Y:XY}
instance:CoeFun XY λ _=>Addr->L2.St->Hp->Prop:=⟨XY.ex⟩
abbrev xF:XY:=⟨λ _ _ _=>False,false⟩
section
variable (K:PySem.W.Frag)(Y:XY)(H0 B0 B H:Hp)(σ:L2.St)(τ:SD)(P:List Addr)(F:Addr->Prop)
def Out (Q:VK)(d:D):Prop:=∀ v H' B' fp,SI K H0 B0 B' H' σ τ P F->au H H'->au B B'->Rep K B' (· ∈ P) H' d v fp->fL H0 B' H' P F fp->Q v H'
def lh (C:Addr):Prop:=∀ H' B',SI K H0 B0 B' H' σ τ P F->au H H'->au B B'->Y C σ H'
def Kc (Q:List V->Hp->Prop)(ds:List D):Prop:=∀ vs H' B' fp,SI K H0 B0 B' H' σ τ P F->au H H'->au B B'->ai K B' (· ∈ P) H' ds vs fp->fL H0 B' H' P F fp->Q vs H'
def Ka (Q:Bool->Hp->Prop)(b:Bool):Prop:=∀ H' B',SI K H0 B0 B' H' σ τ P F->au H H'->au B B'->Q b H'
def Goal (Q:VK):Res D->Prop
 |.ok d=>Out K H0 B0 B H σ τ P F Q d
 |.fT C=>lh K Y H0 B0 B H σ τ P F C
 |.bad=>False
def Ik (Q:List V->Hp->Prop):Res (List D)->Prop
 |.ok d=>Kc K H0 B0 B H σ τ P F Q d
 |.fT C=>lh K Y H0 B0 B H σ τ P F C
 |.bad=>False
def nK (Q:Bool->Hp->Prop):Res Bool->Prop
 |.ok d=>Ka K H0 B0 B H σ τ P F Q d
 |.fT C=>lh K Y H0 B0 B H σ τ P F C
 |.bad=>False
end
def tM (K:PySem.W.Frag)(Y:XY)(f:SD->Res D):TE:=λ σ H Q=>∃ H0 B0 B τ P F,SI K H0 B0 B H σ τ P F/\Goal K Y H0 B0 B H σ τ P F Q (f τ)
def oB (K:PySem.W.Frag)(Y:XY)(f:SD->Res (List D)):TA:=λ σ H Q=>∃ H0 B0 B τ P F,SI K H0 B0 B H σ τ P F/\Ik K Y H0 B0 B H σ τ P F Q (f τ)
def jE (K:PySem.W.Frag)(Y:XY)(f:SD->Res Bool):TT:=λ σ H Q=>∃ H0 B0 B τ P F,SI K H0 B0 B H σ τ P F/\nK K Y H0 B0 B H σ τ P F Q (f τ)
section
variable {K:PySem.W.Frag}
def lh.later{C:Addr}(h:lh K Y H0 B0 B H σ τ P F C)(sH:au H H1)(sB:au B B1)(hF:∀ a,F a->F' a):lh K Y H0 B0 B1 H1 σ τ P F' C:=
 λ H' B' I s b=>h H' B' (I.mV hF) (sH.trans s) (sB.trans b)
def Out.later(h:Out K H0 B0 B H σ τ P F Q d)(sH:au H H1)(sB:au B B1):Out K H0 B0 B1 H1 σ τ P F Q d:=
 λ v H' B' fp I s b r k=>h v H' B' fp I (sH.trans s) (sB.trans b) r k
def Goal.later{r:Res D}(h:Goal K Y H0 B0 B H σ τ P F Q r)(sH:au H H1)(sB:au B B1):Goal K Y H0 B0 B1 H1 σ τ P F Q r:=by
 cases r with
 |ok d=>exact Out.later h sH sB|fT C=>exact lh.later h sH sB λ _ x=>x
 |bad=>exact h
def Out.here(h:Out K H0 B0 B H σ τ P F Q d)(I:SI K H0 B0 B H σ τ P F)(r:Rep K B (· ∈ P) H d v []):Q v H:=h v H B [] I (au.refl _) (au.refl _) r fL.nil
def Out.xE(h:Out K H0 B0 B H σ τ P F Q d)(I:SI K H0 B0 B H σ τ P F)(r:Rep K B (· ∈ P) H d v fp)(k:fL H0 B H P F fp):Q v H:=h v H B fp I (au.refl _) (au.refl _) r k
def dm {p:Addr}(h:H p=none):au H (upd H p o):=λ b u e=>by
 rw[aG (bo e h)];exact e
def Out.wa{p:Addr}(h:Out K H0 B0 B H σ τ P F Q (.lst .own ds))(I:SI K H0 B0 B H σ τ P F)(r:ai K B (· ∈ P) H ds vs fp)(k:fL H0 B H P F fp)(hp:H p=none):Q (.ref p) (upd H p (.lst vs)):=by
 have s:=dm (o:=.lst vs) hp;obtain⟨n1,n2,n3,n4⟩:=I.xD hp;refine h (.ref p) _ B (p::fp) (I.grow s) s (au.refl _) ⟨p,vs,fp,rfl,aI,r.mono s (au.refl _) (λ _ x=>x),rfl⟩ ⟨Lv.mpr ⟨λ m=>(k.own p m).2.2.1 hp,k.nd⟩,λ a m=>?_⟩;rcases Ln.mp m with e|e
 ·subst e;exact⟨n1,n2,(by rw[aI];exact Mw _),n3,n4⟩
 ·obtain⟨a1,a2,a3,a4,a5⟩:=k.own a e;exact⟨a1,a2,λ z=>a3 (s.free z),a4,a5⟩
def Out.DN{p:Addr}(h:Out K H0 B0 B H σ τ P F Q (.tup ds))(I:SI K H0 B0 B H σ τ P F)(r:ai K B (· ∈ P) H ds vs fp)(k:fL H0 B H P F fp)(hp:H p=none):Q (.ref p) (upd H p (.tup vs)):=by
 have s:=dm (o:=.tup vs) hp;exact h (.ref p) _ B fp (I.grow s) s (au.refl _) ⟨p,vs,rfl,aI,r.mono s (au.refl _) (λ _ x=>x)⟩ (k.grow s λ a m=>(k.own a m).1)
def fL.both(k:fL H0 B H P F f)(sH:au H H1)(I1:SI K H0 B0 B1 H1 σ τ P (λ a=>a∈f\/F a))(k':fL H0 B1 H1 P (λ a=>a∈f\/F a) g):fL H0 B1 H1 P F (f++g):=by
 refine⟨Lp.mpr ⟨k.nd,k'.nd,λ a ha b hb e=>?_⟩,λ a m=>?_⟩
 ·subst e;exact(k'.own a hb).2.2.2.2 (.inl ha)
 ·rcases Ls.mp m with e|e
  ·obtain⟨a1,a2,a3,a4,a5⟩:=k.own a e;exact⟨(I1.fr a (.inl e)).1,a2,(I1.fr a (.inl e)).2,a4,a5⟩
  ·obtain⟨a1,a2,a3,a4,a5⟩:=k'.own a e;exact⟨a1,a2,a3,a4,λ z=>a5 (.inr z)⟩
def fL.left(k:fL H0 B H P F (f++g)):fL H0 B H P F f:=k.sub (LS _ _)
def fL.right(k:fL H0 B H P F (f++g)):fL H0 B H P F g:=k.sub (LI _ _)
def PE.imp{t t':TE}(h:PE X e t)(hi:∀ σ H Q,t' σ H Q->t σ H Q):PE X e t':=λ pins s σ H Q I hw=>h pins s σ H Q I (hi σ H Q hw)
def PT.imp{t t':TT}(h:PT X e t)(hi:∀ σ H Q,t' σ H Q->t σ H Q):PT X e t':=λ pins s σ H Q I hw=>h pins s σ H Q I (hi σ H Q hw)
def PA.imp{t t':TA}(h:PA X es t)(hi:∀ σ H Q,t' σ H Q->t σ H Q):PA X es t':=λ pos pins s σ H Q I hw=>h pos pins s σ H Q I (hi σ H Q hw)
def PS.imp{t t':TS}(h:PS X st t)(hi:∀ E σ H,t' E σ H->t E σ H):PS X st t':=λ pins s σ H E I hw=>h pins s σ H E I (hi E σ H hw)
def kg.imp{st:List Stmt}{t t':TS}(h:kg X st t)(hi:∀ E σ H,t' E σ H->t E σ H):kg X st t':=λ pins s σ H E I hw=>h pins s σ H E I (hi E σ H hw)
def tM.seq {f:SD->Res D}{Q':V->Hp->Prop}{g:D->Res D}(I:SI K H0 B0 B H σ τ P F)(h:Goal K Y H0 B0 B H σ τ P F Q ((f τ).bind g))
  (k:∀ d v H1 B1 fp,f τ=.ok d->SI K H0 B0 B1 H1 σ τ P F->au H H1->au B B1->Rep K B1 (· ∈ P) H1 d v fp->fL H0 B1 H1 P F fp->Goal K Y H0 B0 B1 H1 σ τ P F Q (g d)->Q' v H1):tM K Y f σ H Q':=by
 refine⟨H0,B0,B,τ,P,F,I,?_⟩;cases e:f τ with
 | ok d =>
  rw[e]at h;intro v H1 B1 fp I1 s1 b1 r1 k1;exact k d v H1 B1 fp e I1 s1 b1 r1 k1 (Goal.later h s1 b1)
 |fT C=>rw[e]at h;exact h|bad=>rw[e]at h;exact h
def tM.sL {f1 f2:SD->Res D}{Q':V->V->Hp->Prop}{g:D->D->Res D}(I:SI K H0 B0 B H σ τ P F)(h:Goal K Y H0 B0 B H σ τ P F Q ((f1 τ).bind λ x=>(f2 τ).bind (g x)))
  (k:∀ d1 d2 v1 v2 H2 B2 fp1 fp2,f1 τ=.ok d1->f2 τ=.ok d2->SI K H0 B0 B2 H2 σ τ P F->au H H2->au B B2->Rep K B2 (· ∈ P) H2 d1 v1 fp1->Rep K B2 (· ∈ P) H2 d2 v2 fp2->fL H0 B2 H2 P F (fp1++fp2)->Goal K Y H0 B0 B2 H2 σ τ P F Q (g d1 d2)->Q' v1 v2 H2) :
  tM K Y f1 σ H λ x H1=>tM K Y f2 σ H1 λ y H2=>Q' x y H2:=by
 refine tM.seq (g:=λ x=>(f2 τ).bind (g x)) I h λ d1 v1 H1 B1 fp1 e1 I1 s1 b1 r1 k1 h1=>?_;refine⟨H0,B0,B1,τ,P,_,I1.hold k1,?_⟩;cases e:f2 τ with
 | ok d2 =>
  rw[e]at h1;intro v2 H2 B2 fp2 I2 s2 b2 r2 k2;exact k d1 d2 v1 v2 H2 B2 fp1 fp2 e1 e (I2.mV λ a x=>.inr x) (s1.trans s2) (b1.trans b2) (r1.mono s2 b2 λ _ x=>x) r2 (k1.both s2 I2 k2) (Goal.later h1 s2 b2)
 | fT C =>
  rw[e]at h1;exact lh.later h1 (au.refl _) (au.refl _) λ a x=>.inr x
 |bad=>rw[e]at h1;exact h1
def aa (i:Nat)(τ:SD):Res D:=match τ[i]? with
 |some (some d)=>.ok d.view
 |_=>.bad
def eC (d:D)(_:SD):Res D:=.ok d
def qv(i:Nat)(hN:X.N[i]?=some x:=by rfl)(hv:rY X.env.scope x:=by first|exact Or.inl rfl|exact Or.inr (Or.inl rfl)|exact Or.inr (Or.inr rfl))(hd:(x == ("__debug__" : Str))=false:=by decide)
  (hcd:(x == ("__classdict__" : Str))=false:=by decide):PE X (.Name x pos) (tM X.K Y (aa i)):=by
 refine PE.imp (dg hN hv hd hcd) ?_;rintro σ H Q ⟨H0,B0,B,τ,P,F,I,h⟩;unfold aa at h;cases e:τ[i]? with
 |none=>rw[e]at h;exact h.elim
 | some o =>
  cases o with
  |none=>rw[e]at h;exact h.elim
  | some d =>
   rw[e]at h;obtain⟨v,f,h1,h2,h3⟩:=I.rep.get e;exact⟨v,h1,Out.here h I (h2.view λ a m=>h3.subset m)⟩
def qc(h:PE X e (tC v))(hr:∀ K B S H,Rep K B S H d v []):PE X e (tM X.K Y (eC d)):=PE.imp h λ σ H Q hq=>ex8 hq λ H0 B0 B τ P F I h=>Out.here h I (hr _ _ _ _)
def aj{i:Int}{j pos}:PE X (.Constant (.int i) j pos) (tM X.K Y (eC (.int i))):=qc Az λ _ _ _ _=>⟨rfl,rfl⟩
def uO{b:Bool}{j pos}:PE X (.Constant (.bool b) j pos) (tM X.K Y (eC (.bl b))):=qc HN λ _ _ _ _=>⟨rfl,rfl⟩
def o9{j pos}:PE X (.Constant .none j pos) (tM X.K Y (eC .bg)):=qc FZ λ _ _ _ _=>⟨rfl,rfl⟩
def o8 (K:PySem.W.Frag)(Y:XY)(r:R2)(g:D->D->Res D):Prop:=∀ {H0 B0 B H:Hp}{σ:L2.St}{τ:SD}{P:List Addr}{F:Addr->Prop}{d1 d2:D}{x y:V}{f1 f2:List Addr}{Q:VK},
 SI K H0 B0 B H σ τ P F->Rep K B (· ∈ P) H d1 x f1->Rep K B (· ∈ P) H d2 y f2->fL H0 B H P F (f1++f2)->Goal K Y H0 B0 B H σ τ P F Q (g d1 d2)->r x y H Q
def af (g:D->D->Res D)(a b:SD->Res D)(τ:SD):Res D:=(a τ).bind λ x=>(b τ).bind (g x)
def jG.or{f:Value->Value->Sem Value}{r':R2}(h:jG X f r)(h':jG X f r'):jG X f (λ x y H Q=>r x y H Q\/r' x y H Q):=by
 intro pins s σ H x y v u Q I rx ry q;rcases q with q|q
 ·exact h pins s σ H x y v u Q I rx ry q
 ·exact h' pins s σ H x y v u Q I rx ry q
variable{a b c:Expr}{fa fb fc:SD->Res D}
def aK {op:Operator}{g:D->D->Res D}(ho:jG X (binaryOp op) r)(hg:o8 X.K Y r g)(ha:PE X a (tM X.K Y fa))(hb:PE X b (tM X.K Y fb)):PE X (.BinOp a op b pos) (tM X.K Y (af g fa fb)):=
 PE.imp (HB ho ha hb) λ σ H Q hq=>ex8 hq λ H0 B0 B τ P F I h=>tM.sL I h λ d1 d2 v1 v2 H2 B2 f1 f2 _ _ I2 _ _ r1 r2 k h2=>hg I2 r1 r2 k h2
def Kd{g:D->D->Res D}(ho:C4 X r)(hg:o8 X.K Y r g)(ha:PE X a (tM X.K Y fa))(hb:PE X b (tM X.K Y fb))(hs:sE b):PE X (.Subscript a b pos) (tM X.K Y (af g fa fb)):=
 PE.imp (HV ho ha hb hs) λ σ H Q hq=>ex8 hq λ H0 B0 B τ P F I h=>tM.sL I h λ d1 d2 v1 v2 H2 B2 f1 f2 _ _ I2 _ _ r1 r2 k h2=>hg I2 r1 r2 k h2
def qu:D->Res Bool|.bl b=>.ok b|_=>.bad
def uP {Q:Bool->Hp->Prop}{r:Res D}(h:nK K Y H0 B0 B H σ τ P F Q (r.bind qu)):Goal K Y H0 B0 B H σ τ P F (λ x H1=>∃ c,x=.bl c/\Q c H1) r:=by
 cases r with
 | ok d =>
  intro v H' B' fp I s b r k;cases d with
  |bl c=>obtain⟨rfl,rfl⟩:=r;exact⟨c,rfl,h H' B' I s b⟩| _=>exact h.elim
 |fT C=>exact h|bad=>exact h
def eT (f:SD->Res D)(τ:SD):Res Bool:=(f τ).bind qu
def sJ (ha:PE X a (tM X.K Y fa))(he:∀ whole,isTrue a X.env whole=(do let v <-whole;standAt a.pos;holding [v] (truthy v)):=by intro _;rfl):PT X a (jE X.K Y (eT fa)):=
 PT.imp (Fp ha he) λ σ H Q hq=>ex8 hq λ H0 B0 B τ P F I h=>⟨H0,B0,B,τ,P,F,I,uP h⟩
def mW {op:CmpOp}{g:D->D->Res D}(ho:jG X (compareOp op) r)(hg:o8 X.K Y r g)(ha:PE X a (tM X.K Y fa))(hb:PE X b (tM X.K Y fb))(hm:behindInMarks op b=false):PT X (.Compare a [op] [b] pos) (jE X.K Y (eT (af g fa fb))):=
 PT.imp (Df ho ha hb hm) λ σ H Q hq=>ex8 hq λ H0 B0 B τ P F I h=>tM.sL I (uP h) λ d1 d2 v1 v2 H2 B2 f1 f2 _ _ I2 _ _ r1 r2 k h2=>hg I2 r1 r2 k h2
end
section
variable {K:PySem.W.Frag}
def Rep.lst (I:SI K H0 B0 B H σ τ P F){t:Tg}(r:Rep K B (· ∈ P) H (.lst t xs) v f):∃ a vs g,v=.ref a/\c8 K H a vs/\ai K B (· ∈ P) H xs vs g/\List.Sublist g f:=by
 cases t with
 |len a=>exact False.elim r
 | own =>
  obtain⟨a,vs,g,e,q,r,z⟩:=r;subst z;exact⟨a,vs,g,e,c8.of q,r,NH _ _⟩
 | bor =>
  obtain⟨a,vs,e,q,r,z⟩:=r;subst z;exact⟨a,vs,[],e,q.elim (λ y=>y.2) λ y=>dH I.bh y,r,Mi _⟩
 | aq =>
  obtain⟨a,vs,e,q,r,z⟩:=r;subst z;exact⟨a,vs,[],e,dH I.bh q,r.mono (au.refl _) (au.refl _) (λ _ x=>x.elim),Mi _⟩
def Rep.tp(r:Rep K B (· ∈ P) H (.tup xs) v f):∃ a vs,v=.ref a/\iZ K H a vs/\ai K B (· ∈ P) H xs vs f:=let ⟨a,vs,e,q,r⟩:=r;⟨a,vs,e,iZ.of q,r⟩
def fC(h:c8 K H a vs):c8 K H a vs:=h
def E2 (K:PySem.W.Frag):R2:=λ x y H Q=>∃ l b xs zs,x=.ref l/\y=.ref b/\c8 K H l xs/\c8 K H b zs/\xs.length+zs.length<=sizeLine/\∀ p,H p=none->Q (.ref p) (upd H p (.lst (xs++zs)))
def DP:jG X (binaryOp .Add) (E2 X.K):=by
 intro pins s σ H x y v u Q I rx ry h;obtain⟨l,b,xs,zs,rfl,rfl,hH,hB,hz,q⟩:=h;cases rx;cases ry;obtain⟨its,r,pl,z⟩:=I.list hH;obtain⟨its2,r2,pl2,z2⟩:=I.list hB;obtain⟨⟨cls,dd,data,sl⟩,ho,hc,n,hd⟩:=id pl.isList;obtain⟨⟨cls2,dd2,data2,sl2⟩,ho2,hc2,n2,hd2⟩:=id pl2.isList;simp only at hc hd hc2 hd2;subst hc hd hc2 hd2;have e:its.toArray++its2.toArray=(its++its2).toArray:=by simp
 have l1:=r.length;have l2:=r2.length;refine concat_meets ⟨_,ho,rfl⟩ ⟨_,ho2,rfl⟩ noFill_list_add seq_list_add PySem.F.slot_list_add PySem.F.entry_list_add (PySem.F.args_list_add_2 _ _) (list_addW l b its.toArray its2.toArray n n2 dd dd2 sl sl2 (by rw[Lm,Lm];omega)) ⟨ho,ho2,?_⟩;rw[e];exact⟨.ref _,_,I.HX (t':=s.toks) (r.append r2) (by rw[Lo];omega),rfl,q _ I.fresh⟩
def bq:D->D->Res D
 |.int i,.int j=>.ok (.int (i+j))
 |.str i,.str j=>if i.length+j.length<=16777216 then .ok (.str (i++j)) else .bad
 |.lst _ xs,.lst _ ys=>if xs.length+ys.length<=16777216 then .ok (.lst .own (xs++ys)) else .bad
 |.tup xs,.tup ys=>if xs≠[]/\ys≠[]/\xs.length+ys.length<=16777216 then .ok (.tup (xs++ys)) else .bad
 |_,_=>.bad
def Ge(h:n<=16777216):n<=sizeLine:=by rw[Ma];exact h
def ai.kh {S:Addr->Prop}(r:ai K B S H xs vs f):vs=[]↔xs=[]:=by
 have:=r.length;cases xs<;>cases vs<;>simp_all
abbrev HD (K:PySem.W.Frag):R2:=λ x y H Q=>Ak (λ i j=>.int (i+j)) x y H Q\/((∃ i j,x=.str i/\y=.str j/\i.length+j.length<=sizeLine/\Q (.str (i++j)) H)\/(E2 K x y H Q\/EY K x y H Q))
def aT:jG X (binaryOp .Add) (HD X.K):=jG.or FQ (jG.or vL (jG.or DP Dy))
def cC:o8 K Y (HD K) bq:=by
 intro H0 B0 B H σ τ P F d1 d2 x y f1 f2 Q I r1 r2 k h;unfold bq at h;split at h
 ·obtain⟨rfl,rfl⟩:=r1;obtain⟨rfl,rfl⟩:=r2;exact .inl ⟨_,_,rfl,rfl,Out.here h I ⟨rfl,rfl⟩⟩
 ·obtain⟨rfl,rfl⟩:=r1;obtain⟨rfl,rfl⟩:=r2;split at h
  ·rename_i hl;exact .inr (.inl ⟨_,_,rfl,rfl,Ge hl,Out.here h I ⟨rfl,rfl⟩⟩)
  ·exact h.elim
 ·obtain⟨a,vs,g1,rfl,q1,l1,s1⟩:=r1.lst I;obtain⟨b,ws,g2,rfl,q2,l2,s2⟩:=r2.lst I;split at h
  ·rename_i hl;refine .inr (.inr (.inl ⟨_,_,_,_,rfl,rfl,q1,q2,by rw[<-l1.length,<-l2.length];exact Ge hl,λ p hp=>?_⟩));exact Out.wa h I (l1.append l2) (k.sub (s1.append s2)) hp
  ·exact h.elim
 ·obtain⟨a,vs,rfl,q1,l1⟩:=r1.tp;obtain⟨b,ws,rfl,q2,l2⟩:=r2.tp;split at h
  ·rename_i hl;obtain⟨n1,n2,hl⟩:=hl;refine .inr (.inr (.inr ⟨_,_,_,_,rfl,rfl,q1,q2,λ z=>n1 (l1.kh.mp z),by rw[<-l1.length,<-l2.length];exact Ge hl,λ z=>absurd (l2.kh.mp z) n2,λ _ p hp=>?_⟩));exact Out.DN h I (l1.append l2) k hp
  ·exact h.elim
 ·exact h.elim
def oh (C:Int->Int->Prop)[∀ i j,Decidable (C i j)](g:Int->Int->D):D->D->Res D
 |.int i,.int j=>if C i j then .ok (g i j) else .bad
 |_,_=>.bad
def qy (g:Int->Int->D):D->D->Res D
 |.int i,.int j=>.ok (g i j)
 |_,_=>.bad
def A1 {C:Int->Int->Prop}[∀ i j,Decidable (C i j)]{g:Int->Int->D}{gv:Int->Int->V}(hg:∀ i j K B S H,Rep K B S H (g i j) (gv i j) []):o8 K Y (rI C gv) (oh C g):=by
 intro H0 B0 B H σ τ P F d1 d2 x y f1 f2 Q I r1 r2 k h;unfold oh at h;split at h
 ·obtain⟨rfl,rfl⟩:=r1;obtain⟨rfl,rfl⟩:=r2;split at h
  ·rename_i hc;exact⟨_,_,rfl,rfl,hc,Out.here h I (hg ..)⟩
  ·exact h.elim
 ·exact h.elim
def A3 {g:Int->Int->D}{gv:Int->Int->V}(hg:∀ i j K B S H,Rep K B S H (g i j) (gv i j) []):o8 K Y (Ak gv) (qy g):=by
 intro H0 B0 B H σ τ P F d1 d2 x y f1 f2 Q I r1 r2 k h;unfold qy at h;split at h
 ·obtain⟨rfl,rfl⟩:=r1;obtain⟨rfl,rfl⟩:=r2;exact⟨_,_,rfl,rfl,Out.here h I (hg ..)⟩
 ·exact h.elim
instance (i j:Int):Decidable (ir i j):=inferInstanceAs (Decidable (_/\_))
instance (i j:Int):Decidable (iF i j):=inferInstanceAs (Decidable (_/\_/\_))
instance (i j:Int):Decidable (Ar i j):=inferInstanceAs (Decidable ((_/\_)\/(_/\_)))
def jn (i j:Int):Prop:=Ar i j\/(i.natAbs<2^1024/\j.natAbs<2^1024)
instance (i j:Int):Decidable (jn i j):=inferInstanceAs (Decidable (_\/(_/\_)))
def qT {i:Int}(h:i.natAbs<2^1024):Builtin.Int.intBits i<=2^20:=by
 unfold Builtin.Int.intBits;split
 ·exact Mk _
 ·by_cases e:i.natAbs=0
  ·rw[e];decide
  ·have:=(Nat.log2_lt e).mpr h;omega
def ja:jG X (binaryOp .Mult) (rI jn λ i j=>.int (i*j)):=HC λ _ _ _ _ _ _ _ hc q=>mul_int q (hc.elim Ar.ok λ z=>IntMulOk.of_bits (qT z.1) (qT z.2))
abbrev Hs (g:Int->Int->Int):∀ i j K B S H,Rep K B S H (.int (g i j)) (.int (g i j)) []:=λ _ _ _ _ _ _=>⟨rfl,rfl⟩
abbrev KQ (g:Int->Int->Bool):∀ i j K B S H,Rep K B S H (.bl (g i j)) (.bl (g i j)) []:=λ _ _ _ _ _ _=>⟨rfl,rfl⟩
abbrev DO:=qy λ i j=>.int (i-j)
abbrev pe:=oh jn λ i j=>.int (i*j)
abbrev bV:=oh ir λ i j=>.int (i/j)
abbrev bB:=oh (λ _ j=>0<j) λ i j=>.int (i%j)
abbrev qx:=oh iF λ i j=>.int (i^j.toNat)
abbrev Gf:=oh (λ _ j=>0<=j) λ i j=>.int (i/2^j.toNat)
abbrev Js:=qy λ i j=>.bl (decide (i<j))
abbrev Hr:=qy λ i j=>.bl (decide (j<i))
def A2:o8 K Y (Ak λ i j=>.int (i-j)) DO:=A3 (Hs _)
def ph:o8 K Y (rI jn λ i j=>.int (i*j)) pe:=A1 (Hs _)
def cV:o8 K Y (rI ir λ i j=>.int (i/j)) bV:=A1 (Hs _)
def b6:o8 K Y (rI (λ _ j=>0<j) λ i j=>.int (i%j)) bB:=A1 (Hs _)
def xG:o8 K Y (rI iF λ i j=>.int (i^j.toNat)) qx:=A1 (Hs λ i j=>i^j.toNat)
def Im:o8 K Y (rI (λ _ j=>0<=j) λ i j=>.int (i/2^j.toNat)) Gf:=A1 (Hs λ i j=>i/2^j.toNat)
def Io:o8 K Y (Ak λ i j=>.bl (decide (i<j))) Js:=A3 (KQ λ i j=>decide (i<j))
def Il:o8 K Y (Ak λ i j=>.bl (decide (j<i))) Hr:=A3 (KQ λ i j=>decide (j<i))
end
section
variable {K:PySem.W.Frag}{a b c:Expr}{fa fb fc:SD->Res D}{ga gb:SD->Res Bool}
def fL.Iv(k:fL H0 B H P F f)(sH:au H H1)(I1:SI K H0 B0 B1 H1 σ τ P (λ a=>a∈f\/F a)):fL H0 B1 H1 P F f:=⟨k.nd,λ a m=>let ⟨_,a2,_,a4,a5⟩:=k.own a m;⟨(I1.fr a (.inl m)).1,a2,(I1.fr a (.inl m)).2,a4,a5⟩⟩
def D.flat:D->Bool|.bg=>true|.bl _=>true|.int _=>true|.str _=>true|_=>false
def cW:D->D->Option Bool
 |.bg,.bg=>some true|.bg,.int _=>some false|.int _,.bg=>some false|.bg,.bl _=>some false|.bl _,.bg=>some false|.bg,.str _=>some false|.str _,.bg=>some false
 |.int i,.int j=>some (decide (i=j))|.bl i,.bl j=>some (decide (i=j))|.str i,.str j=>some (decide (i=j))
 |.int _,.str _=>some false|.str _,.int _=>some false|.bl _,.str _=>some false|.str _,.bl _=>some false
 |_,_=>none
def qV {S S':Addr->Prop}{d1 d2:D}{x y:V}{f1 f2:List Addr}{r:Bool}(e:cW d1 d2=some r)(r1:Rep K B S H d1 x f1)(r2:Rep K B S' H d2 y f2):FY x y=true/\decide (x=y)=r:=by
 cases d1<;>cases d2<;>first|(cases e;done)|(obtain⟨rfl,rfl⟩:=r1;obtain⟨rfl,rfl⟩:=r2;cases e;first|exact⟨rfl,rfl⟩|exact⟨rfl,by simp⟩)
def uo (neg:Bool):Option Bool->Res D|some b=>.ok (.bl (xor neg b))|none=>.bad
def gJ (d1 d2:D):Res D:=uo false (cW d1 d2)
def oE (d1 d2:D):Res D:=uo true (cW d1 d2)
def jb:o8 K Y KG gJ:=by
 intro H0 B0 B H σ τ P F d1 d2 x y f1 f2 Q I r1 r2 k h;unfold gJ at h;cases e:cW d1 d2 with
 |none=>rw[e]at h;exact h.elim
 | some r =>
  rw[e]at h;obtain⟨s,z⟩:=qV e r1 r2;refine⟨s,?_⟩;rw[z];exact Out.here h I ⟨by simp,rfl⟩
def A4:o8 K Y KC oE:=by
 intro H0 B0 B H σ τ P F d1 d2 x y f1 f2 Q I r1 r2 k h;unfold oE at h;cases e:cW d1 d2 with
 |none=>rw[e]at h;exact h.elim
 | some r =>
  rw[e]at h;obtain⟨s,z⟩:=qV e r1 r2;refine⟨s,?_⟩;rw[z];exact Out.here h I ⟨by simp,rfl⟩
def gm (neg:Bool):D->D->Res D
 |.bg,.bg=>.ok (.bl (!neg))
 |_,.bg=>.ok (.bl neg)
 |_,_=>.bad
def D.K7:D->Bool|.bg=>true|_=>false
def xH {S:Addr->Prop}(r:Rep K B S H d v f):decide (v=.bg)=d.K7:=by
 cases d with
 |bg=>rw[r.1];rfl|bl _=>rw[r.1];rfl|int _=>rw[r.1];rfl|str _=>rw[r.1];rfl|exc _=>obtain⟨⟨a,rfl,_⟩,_⟩:=r;rfl|tup _=>obtain⟨a,_,rfl,_⟩:=r;rfl|lst t _=>cases t<;>first|exact False.elim r|(obtain⟨a,_,r⟩:=r;first|(obtain⟨_,rfl,_⟩:=r;rfl)|(obtain⟨rfl,_⟩:=r;rfl))
 |dct t _ _ _=>cases t<;>(obtain⟨a,_,r⟩:=r;first|(obtain⟨_,rfl,_⟩:=r;rfl)|(obtain⟨rfl,_⟩:=r;rfl))
def IA:o8 K Y (λ x y H Q=>y=.bg/\Q (.bl (decide (x=.bg))) H) (gm false):=by
 intro H0 B0 B H σ τ P F d1 d2 x y f1 f2 Q I r1 r2 k h;have e:=xH r1;unfold gm at h;split at h
 ·rw[r2.1];rw[e];exact⟨rfl,Out.here h I ⟨rfl,rfl⟩⟩
 ·rename_i hn;rw[r2.1];rw[e];refine⟨rfl,Out.here h I ⟨?_,rfl⟩⟩;cases d1<;>first|rfl|exact(hn rfl).elim
 ·exact h.elim
def wc:o8 K Y (λ x y H Q=>y=.bg/\Q (.bl (!decide (x=.bg))) H) (gm true):=by
 intro H0 B0 B H σ τ P F d1 d2 x y f1 f2 Q I r1 r2 k h;have e:=xH r1;unfold gm at h;split at h
 ·rw[r2.1];rw[e];exact⟨rfl,Out.here h I ⟨rfl,rfl⟩⟩
 ·rename_i hn;rw[r2.1];rw[e];refine⟨rfl,Out.here h I ⟨?_,rfl⟩⟩;cases d1<;>first|rfl|exact(hn rfl).elim
 ·exact h.elim
def Gg:D->D->Bool
 |.bg,.bg=>true
 |.bl a,.bl b=>a == b
 |.bl a,.int b=>(if a then 1 else 0) == b
 |.int a,.bl b=>a == (if b then 1 else 0)
 |.int a,.int b=>a == b
 |.str a,.str b=>a == b
 |_,_=>false
def ko (x:D)(xs:List D):Bool:=xs.any λ y=>Gg y x
def pj {S:Addr->Prop}(h:d.flat=true)(r:Rep K B S H d v f):kP v=true:=by
 cases d<;>first|exact absurd (show false=true from h) Li|(obtain⟨rfl,_⟩:=r;rfl)
def Gh {S:Addr->Prop}{e:D}{u:V}(h:d.flat=true)(h':e.flat=true)(r:Rep K B S H d v f)(r':Rep K B S H e u g):C5 v u=Gg d e:=by
 cases d<;>cases e<;>first|exact absurd (show false=true from h) Li|exact absurd (show false=true from h') Li|(obtain⟨rfl,_⟩:=r;obtain⟨rfl,_⟩:=r';rfl)
def pq {S:Addr->Prop}{x:D}{u:V}{g:List Addr}(hx:x.flat=true)(rx:Rep K B S H x u g):∀ {xs:List D}{vs:List V}{f:List Addr},xs.all D.flat=true->ai K B S H xs vs f->vs.all kP=true/\Jq u vs=ko x xs
 |[],vs,f,_,r=>by obtain⟨rfl,_⟩:=r;exact⟨rfl,rfl⟩
 | d::ds,vs,f,h,r=>by
  obtain⟨v,w,f1,f2,rfl,r1,r2,_⟩:=r;rw[O5,LW]at h;obtain⟨i1,i2⟩:=pq hx rx h.2 r2;refine⟨by rw[O5,pj h.1 r1,i1];rfl,?_⟩;show(C5 v u||Jq u w)=(Gg d x||ko x ds);rw[i2,Gh h.1 hx r1 rx]
def inD (neg:Bool):D->D->Res D
 |x,.lst _ xs=>if x.flat=true/\xs.all D.flat=true then .ok (.bl (if neg then !ko x xs else ko x xs)) else .bad
 |x,.tup xs=>if x.flat=true/\xs.all D.flat=true then .ok (.bl (if neg then !ko x xs else ko x xs)) else .bad
 |_,_=>.bad
def AL (neg:Bool):o8 K Y (KN K neg) (inD neg):=by
 intro H0 B0 B H σ τ P F d1 d2 x y f1 f2 Q I r1 r2 k h;unfold inD at h;split at h
 ·split at h
  ·rename_i hc;obtain⟨a,vs,g,rfl,q,l,s⟩:=r2.lst I;obtain⟨z1,z2⟩:=pq hc.1 r1 hc.2 l;refine⟨a,vs,rfl,.inl (fC q),pj hc.1 r1,z1,?_⟩;rw[z2];exact Out.here h I ⟨rfl,rfl⟩
  ·exact h.elim
 ·split at h
  ·rename_i hc;obtain⟨a,vs,rfl,q,l⟩:=r2.tp;obtain⟨z1,z2⟩:=pq hc.1 r1 hc.2 l;refine⟨a,vs,rfl,.inr q,pj hc.1 r1,z1,?_⟩;rw[z2];exact Out.here h I ⟨rfl,rfl⟩
  ·exact h.elim
 ·exact h.elim
def cz:D->D->Res D
 |.lst _ xs,.int i=>match qq xs i with|some d=>.ok d|none=>.bad
 |.tup xs,.int i=>match qq xs i with|some d=>.ok d|none=>.bad
 |.str z,.int i=>if z.length<=16777216 then match qq z.cps.toList i with|some c=>.ok (.str ⟨#[c]⟩)|none=>.bad else .bad
 |_,_=>.bad
def ai.qq {S:Addr->Prop}{i:Int}(r:ai K B S H xs vs f)(e:qq xs i=some d):∃ v g,L2.qq vs i=some v/\Rep K B S H d v g/\List.Sublist g f:=by
 unfold L2.qq at e ⊢;rw[r.length]at e;cases z:Dw vs.length i with
 |none=>rw[z]at e;cases e
 | some j =>
  rw[z]at e;obtain⟨v,g,h1,h2,h3⟩:=r.get (i:=j) e;exact⟨v,g,h1,h2,h3⟩
def Kg:o8 K Y (KI K) cz:=by
 intro H0 B0 B H σ τ P F d1 d2 x y f1 f2 Q I r1 r2 k h;unfold cz at h;split at h
 ·obtain⟨rfl,rfl⟩:=r2;obtain⟨a,vs,g,rfl,q,l,s⟩:=r1.lst I;split at h
  ·rename_i d e;obtain⟨v,g',e1,r',s'⟩:=l.qq e;exact .inl ⟨a,vs,_,v,rfl,rfl,fC q,e1,Out.xE h I r' (k.left.sub (s'.trans s))⟩
  ·exact h.elim
 ·obtain⟨rfl,rfl⟩:=r2;obtain⟨a,vs,rfl,q,l⟩:=r1.tp;split at h
  ·rename_i d e;obtain⟨v,g',e1,r',s'⟩:=l.qq e;exact .inr (.inl ⟨a,vs,_,v,rfl,rfl,q,e1,Out.xE h I r' (k.left.sub s')⟩)
  ·exact h.elim
 ·obtain⟨rfl,rfl⟩:=r2;obtain⟨rfl,rfl⟩:=r1;split at h
  ·rename_i hl;split at h
   ·rename_i c e;exact .inr (.inr ⟨_,_,c,rfl,rfl,Ge hl,e,Out.here h I ⟨rfl,rfl⟩⟩)
   ·exact h.elim
  ·exact h.elim
 ·exact h.elim
def nK.later{Q:Bool->Hp->Prop}{r:Res Bool}(h:nK K Y H0 B0 B H σ τ P F Q r)(sH:au H H1)(sB:au B B1):nK K Y H0 B0 B1 H1 σ τ P F Q r:=by
 cases r with
 |ok d=>exact λ H' B' I s b=>h H' B' I (sH.trans s) (sB.trans b)
 |fT C=>exact lh.later h sH sB λ _ x=>x
 |bad=>exact h
def jE.seq {f:SD->Res Bool}{Q':Bool->Hp->Prop}{g:Bool->Res Bool}{Q:Bool->Hp->Prop}(I:SI K H0 B0 B H σ τ P F)(h:nK K Y H0 B0 B H σ τ P F Q ((f τ).bind g))
  (k:∀ d H1 B1,SI K H0 B0 B1 H1 σ τ P F->nK K Y H0 B0 B1 H1 σ τ P F Q (g d)->Q' d H1):jE K Y f σ H Q':=by
 refine⟨H0,B0,B,τ,P,F,I,?_⟩;cases e:f τ with
 |ok d=>rw[e]at h;exact λ H1 B1 I1 s1 b1=>k d H1 B1 I1 (nK.later h s1 b1)
 |fT C=>rw[e]at h;exact h|bad=>rw[e]at h;exact h
def jE.Ke {f:SD->Res Bool}{Q':Bool->Hp->Prop}{g:Bool->Res D}(I:SI K H0 B0 B H σ τ P F)(h:Goal K Y H0 B0 B H σ τ P F Q ((f τ).bind g))
  (k:∀ d H1 B1,SI K H0 B0 B1 H1 σ τ P F->Goal K Y H0 B0 B1 H1 σ τ P F Q (g d)->Q' d H1):jE K Y f σ H Q':=by
 refine⟨H0,B0,B,τ,P,F,I,?_⟩;cases e:f τ with
 |ok d=>rw[e]at h;exact λ H1 B1 I1 s1 b1=>k d H1 B1 I1 (Goal.later h s1 b1)
 |fT C=>rw[e]at h;exact h|bad=>rw[e]at h;exact h
def gk (f:SD->Res Bool)(τ:SD):Res Bool:=(f τ).bind λ b=>.ok (!b)
def iL (f g:SD->Res Bool)(τ:SD):Res Bool:=(f τ).bind λ b=>if b=true then g τ else .ok false
def mK (f g:SD->Res Bool)(τ:SD):Res Bool:=(f τ).bind λ b=>if b=true then .ok true else g τ
def sN (ha:PT X a (jE X.K Y ga)):PT X (.UnaryOp .Not a pos) (jE X.K Y (gk ga)):=
 PT.imp (FU ha) λ σ H Q hq=>ex8 hq λ H0 B0 B τ P F I h=>jE.seq I h λ d H1 B1 I1 h1=>h1 H1 B1 I1 (au.refl _) (au.refl _)
def PW.imp{t t':TT}(h:PW X e t)(hi:∀ σ H Q,t' σ H Q->t σ H Q):PW X e t':=λ wh pins s σ H Q I hw=>h wh pins s σ H Q I (hi σ H Q hw)
def sM (ha:PT X a (jE X.K Y ga)):PW X (.BoolOp .And [a] pos) (jE X.K Y ga):=C8 ha
def lq (ha:PT X a (jE X.K Y ga)):PW X (.BoolOp .Or [a] pos) (jE X.K Y ga):=FH ha
def wb(ha:PT X a (jE X.K Y ga))(hb:PW X (.BoolOp .And (b::rest) pos) (jE X.K Y gb)):PW X (.BoolOp .And (a::b::rest) pos) (jE X.K Y (iL ga gb)):=
 PW.imp (FN ha hb) λ σ H Q hq=>ex8 hq λ H0 B0 B τ P F I h=>jE.seq I h λ d H1 B1 I1 h1=>by
  cases d with
  |true=>rw[Lr rfl]at h1 ⊢;exact⟨H0,B0,B1,τ,P,F,I1,h1⟩| false=>rw[Lw Li]at h1 ⊢;exact h1 H1 B1 I1 (au.refl _) (au.refl _)
def pA(ha:PT X a (jE X.K Y ga))(hb:PW X (.BoolOp .Or (b::rest) pos) (jE X.K Y gb)):PW X (.BoolOp .Or (a::b::rest) pos) (jE X.K Y (mK ga gb)):=
 PW.imp (HU ha hb) λ σ H Q hq=>ex8 hq λ H0 B0 B τ P F I h=>jE.seq I h λ d H1 B1 I1 h1=>by
  cases d with
  |true=>rw[Lr rfl]at h1 ⊢;exact h1 H1 B1 I1 (au.refl _) (au.refl _)|false=>rw[Lw Li]at h1 ⊢;exact⟨H0,B0,B1,τ,P,F,I1,h1⟩
def sO (c:SD->Res Bool)(f g:SD->Res D)(τ:SD):Res D:=(c τ).bind λ b=>if b=true then f τ else g τ
def Kf (hc:PT X c (jE X.K Y ga))(ha:PE X a (tM X.K Y fa))(hb:PE X b (tM X.K Y fb)):PE X (.IfExp c a b pos) (tM X.K Y (sO ga fa fb)):=
 PE.imp (Am hc ha hb) λ σ H Q hq=>ex8 hq λ H0 B0 B τ P F I h=>jE.Ke I h λ d H1 B1 I1 h1=>by
  cases d with
  |true=>rw[Lr rfl]at h1 ⊢;exact⟨H0,B0,B1,τ,P,F,I1,h1⟩| false=>rw[Lw Li]at h1 ⊢;exact⟨H0,B0,B1,τ,P,F,I1,h1⟩
def jB (f g:SD->Res D)(τ:SD):Res D:=(f τ).bind λ d=>(qu d).bind λ b=>if b=true then g τ else .ok (.bl false)
def jA (f:SD->Res D)(τ:SD):Res D:=(f τ).bind λ d=>(qu d).bind λ b=>.ok (.bl (!b))
def qU{g:Bool->Res D}(r:Rep K B (· ∈ P) H d v f)(h:Goal K Y H0 B0 B H σ τ P F Q ((qu d).bind g)):∃ c,v=.bl c/\f=[]/\Goal K Y H0 B0 B H σ τ P F Q (g c):=by
 cases d with
 |bl c=>exact⟨c,r.1,r.2,h⟩| _=>exact h.elim
def Ir {op}(h:PE X a (tM X.K Y fa)):PE X (.BoolOp op [a] pos) (tM X.K Y fa):=FJ h
def Ip(ha:PE X a (tM X.K Y fa))(hb:PE X (.BoolOp .And (b::rest) pos) (tM X.K Y fb)):PE X (.BoolOp .And (a::b::rest) pos) (tM X.K Y (jB fa fb)):=
 PE.imp (Fw ha hb) λ σ H Q hq=>ex8 hq λ H0 B0 B τ P F I h=>tM.seq I h λ d v H1 B1 fp _ I1 _ _ r1 _ h1=>by
  obtain⟨c,rfl,_,h2⟩:=qU r1 h1;refine⟨c,rfl,?_⟩;cases c with
  |true=>rw[Lr rfl]at h2 ⊢;exact⟨H0,B0,B1,τ,P,F,I1,h2⟩| false=>rw[Lw Li]at h2 ⊢;exact Out.here h2 I1 ⟨rfl,rfl⟩
def Iq (ha:PE X a (tM X.K Y fa)):PE X (.UnaryOp .Not a pos) (tM X.K Y (jA fa)):=
 PE.imp (FW ha) λ σ H Q hq=>ex8 hq λ H0 B0 B τ P F I h=>tM.seq I h λ d v H1 B1 fp _ I1 _ _ r1 _ h1=>by
  obtain⟨c,rfl,_,h2⟩:=qU r1 h1;exact⟨c,rfl,Out.here h2 I1 ⟨rfl,rfl⟩⟩
def kK (g:D->Res D)(f:SD->Res D)(τ:SD):Res D:=(f τ).bind g
def iM:D->Res D|.int i=>.ok (.int (-i))|_=>.bad
def E3 (ha:PE X a (tM X.K Y fa)):PE X (.UnaryOp .USub a pos) (tM X.K Y (kK iM fa)):=
 PE.imp (ER Aq ha) λ σ H Q hq=>ex8 hq λ H0 B0 B τ P F I h=>tM.seq I h λ d v H1 B1 fp _ I1 _ _ r1 _ h1=>by
  cases d with
  |int i=>exact⟨i,r1.1,Out.here h1 I1 ⟨rfl,rfl⟩⟩| _=>exact h1.elim
def ao (_:SD):Res (List D):=.ok []
def ae (f:SD->Res D)(g:SD->Res (List D))(τ:SD):Res (List D):=(f τ).bind λ d=>(g τ).bind λ ds=>.ok (d::ds)
variable{fs:SD->Res (List D)}
def cE:PA X [] (oB X.K Y ao):=PA.imp dJ λ σ H Q hq=>ex8 hq λ H0 B0 B τ P F I h=>h [] H B [] I (au.refl _) (au.refl _) ⟨rfl,rfl⟩ fL.nil
def aD (ha:PE X e (tM X.K Y fe))(hr:PA X es (oB X.K Y fs))(hs:starEach (e::es) X.env=(false,eval e X.env)::starEach es X.env:=by rfl):PA X (e::es) (oB X.K Y (ae fe fs)):=by
 refine PA.imp (cR ha hr hs) λ σ H Q hq=>ex8 hq λ H0 B0 B τ P F I h=>?_;refine⟨H0,B0,B,τ,P,F,I,?_⟩;unfold ae at h;cases z:fe τ with
 |fT C=>rw[z]at h;exact h|bad=>rw[z]at h;exact h
 | ok d =>
  rw[z]at h;intro v H1 B1 fp I1 s1 b1 r1 k1;refine⟨H0,B0,B1,τ,P,_,I1.hold k1,?_⟩;cases y:fs τ with
  |fT C=>rw[y]at h;exact lh.later h s1 b1 λ a x=>.inr x
  |bad=>rw[y]at h;exact h
  | ok ds =>
   rw[y]at h;intro vs H2 B2 fq I2 s2 b2 r2 k2;exact h (v::vs) H2 B2 (fp++fq) (I2.mV λ a x=>.inr x) (s1.trans s2) (b1.trans b2) ⟨v,vs,fp,fq,rfl,r1.mono s2 b2 (λ _ x=>x),r2,rfl⟩ (k1.both s2 I2 k2)
def oB.seq {f:SD->Res (List D)}{Q':List V->Hp->Prop}{g:List D->Res D}(I:SI K H0 B0 B H σ τ P F)(h:Goal K Y H0 B0 B H σ τ P F Q ((f τ).bind g))
  (k:∀ ds vs H1 B1 fp,f τ=.ok ds->SI K H0 B0 B1 H1 σ τ P F->au H H1->au B B1->ai K B1 (· ∈ P) H1 ds vs fp->fL H0 B1 H1 P F fp->Goal K Y H0 B0 B1 H1 σ τ P F Q (g ds)->Q' vs H1):oB K Y f σ H Q':=by
 refine⟨H0,B0,B,τ,P,F,I,?_⟩;cases e:f τ with
 | ok d =>
  rw[e]at h;intro v H1 B1 fp I1 s1 b1 r1 k1;exact k d v H1 B1 fp e I1 s1 b1 r1 k1 (Goal.later h s1 b1)
 |fT C=>rw[e]at h;exact h|bad=>rw[e]at h;exact h
def gD (ds:List D):Res D:=if ds.length<=16777216 then .ok (.tup ds) else .bad
def cA (ds:List D):Res D:=if ds.length<=16777216 then .ok (.lst .own ds) else .bad
def eA (g:List D->Res D)(f:SD->Res (List D))(τ:SD):Res D:=(f τ).bind g
def uQ {x1}(h:PA X es (oB X.K Y fs)):PE X (.Tuple es x1 pos) (tM X.K Y (eA gD fs)):=
 PE.imp (FI h) λ σ H Q hq=>ex8 hq λ H0 B0 B τ P F I h=>oB.seq I h λ ds vs H1 B1 fp _ I1 _ _ r1 k1 h1=>by
  unfold gD at h1;split at h1
  ·rename_i hl;exact⟨by rw[<-r1.length];exact Ge hl,λ p hp=>Out.DN h1 I1 r1 k1 hp⟩
  ·exact h1.elim
def gz (h:PA X es (oB X.K Y fs)):PE X (.List es pos) (tM X.K Y (eA cA fs)):=
 PE.imp (sd h) λ σ H Q hq=>ex8 hq λ H0 B0 B τ P F I h=>oB.seq I h λ ds vs H1 B1 fp _ I1 _ _ r1 k1 h1=>by
  unfold cA at h1;split at h1
  ·rename_i hl;exact⟨by rw[<-r1.length];exact Ge hl,λ p hp=>Out.wa h1 I1 r1 k1 hp⟩
  ·exact h1.elim
def kR (K:PySem.W.Frag)(Y:XY)(r:List V->Hp->VK->Prop)(g:List D->Res D):Prop:=∀ {H0 B0 B H:Hp}{σ:L2.St}{τ:SD}{P:List Addr}{F:Addr->Prop}{ds:List D}{vs:List V}{f:List Addr}{Q:VK},
 SI K H0 B0 B H σ τ P F->ai K B (· ∈ P) H ds vs f->fL H0 B H P F f->Goal K Y H0 B0 B H σ τ P F Q (g ds)->r vs H Q
def DQ{id:String}{r:List V->Hp->VK->Prop}{g:List D->Res D}(hc:d7 X (.builtin id) r)(hgd:kR X.K Y r g)(hg:Gl X x)(hm:X.mg x=none)(hv:bootBuiltins x=some (.builtin id))(ha:PA X (e::es) (oB X.K Y fs))(hn:x ≠ "__name__" :=by decide)(hdb:(x == ("__debug__" : Str))=false:=by decide)
  (he:starEach (e::es) X.env=(false,eval e X.env)::starEach es X.env:=by rfl) (hpl:(backTo pos (starEach es X.env)).any (·.1)=false:=by rfl) :
  PE X (.Call (.Name x p) (e::es) [] pos) (tM X.K Y (eA g fs)):=
 PE.imp (oO hc hg hm hv ha hn hdb he hpl) λ σ H Q hq=>ex8 hq λ H0 B0 B τ P F I h=>oB.seq I h λ ds vs H1 B1 fp _ I1 _ _ r1 k1 h1=>hgd I1 r1 k1 h1
def A8{r:List V->Hp->VK->Prop}{g:List D->Res D}(hc:d7 X (.type T) r)(hgd:kR X.K Y r g)(hg:Gl X x)(hm:X.mg x=none)(hv:bootBuiltins x=some (.type T))(ha:PA X (e::es) (oB X.K Y fs))(hn:x ≠ "__name__" :=by decide)(hdb:(x == ("__debug__" : Str))=false:=by decide)
  (he:starEach (e::es) X.env=(false,eval e X.env)::starEach es X.env:=by rfl) (hpl:(backTo pos (starEach es X.env)).any (·.1)=false:=by rfl) :
  PE X (.Call (.Name x p) (e::es) [] pos) (tM X.K Y (eA g fs)):=
 PE.imp (yK hc hg hm hv ha hn hdb he hpl) λ σ H Q hq=>ex8 hq λ H0 B0 B τ P F I h=>oB.seq I h λ ds vs H1 B1 fp _ I1 _ _ r1 k1 h1=>hgd I1 r1 k1 h1
def jO {S:Addr->Prop}(r:ai K B S H [d] vs f):∃ v,vs=[v]/\Rep K B S H d v f:=by
 obtain⟨v,w,f1,f2,rfl,r1,r2,rfl⟩:=r;obtain⟨rfl,rfl⟩:=r2;exact⟨v,rfl,by rw[LZ];exact r1⟩
def A6 {S:Addr->Prop}{e:D}(r:ai K B S H [d,e] vs f):∃ v u f1 f2,vs=[v,u]/\f=f1++f2/\Rep K B S H d v f1/\Rep K B S H e u f2:=by
 obtain⟨v,w,f1,f2,rfl,r1,r2,rfl⟩:=r;obtain⟨u,rfl,r3⟩:=jO r2;exact⟨v,u,f1,f2,rfl,rfl,r1,r3⟩
def dP:List D->Res D
 |[.lst _ xs]=>.ok (.int xs.length)
 |[.tup xs]=>.ok (.int xs.length)
 |[.str z]=>if z.length<=16777216 then .ok (.int z.length) else .bad
 |_=>.bad
abbrev Iu (K:PySem.W.Frag):List V->Hp->VK->Prop:=λ xs H Q=>(∃ p ys,xs=[.ref p]/\(c8 K H p ys\/iZ K H p ys)/\Q (.int ys.length) H)\/∃ z,xs=[.str z]/\z.length<=sizeLine/\Q (.int z.length) H
def e7:d7 X (.builtin "len") (Iu X.K):=d7.or su sA
def nG:kR K Y (Iu K) dP:=by
 intro H0 B0 B H σ τ P F ds vs f Q I r k h;unfold dP at h;split at h
 ·obtain⟨v,rfl,r'⟩:=jO r;obtain⟨a,ws,g,rfl,q,l,s⟩:=r'.lst I;refine .inl ⟨a,ws,rfl,.inl (fC q),?_⟩;rw[<-l.length];exact Out.here h I ⟨rfl,rfl⟩
 ·obtain⟨v,rfl,r'⟩:=jO r;obtain⟨a,ws,rfl,q,l⟩:=r'.tp;refine .inl ⟨a,ws,rfl,.inr q,?_⟩;rw[<-l.length];exact Out.here h I ⟨rfl,rfl⟩
 ·obtain⟨v,rfl,r'⟩:=jO r;obtain⟨rfl,rfl⟩:=r';split at h
  ·rename_i hl;exact .inr ⟨_,rfl,Ge hl,Out.here h I ⟨rfl,rfl⟩⟩
  ·exact h.elim
 ·exact h.elim
def d9:List D->Res D|[.int i,.int j]=>.ok (.int (if j>i then j else i))|_=>.bad
def e8:List D->Res D|[.int i,.int j]=>.ok (.int (if j<i then j else i))|_=>.bad
def wd:kR K Y (λ xs H Q=>∃ i j,xs=[.int i,.int j]/\Q (.int (if j>i then j else i)) H) d9:=by
 intro H0 B0 B H σ τ P F ds vs f Q I r k h;unfold d9 at h;split at h
 ·obtain⟨v,u,f1,f2,rfl,rfl,⟨rfl,rfl⟩,⟨rfl,rfl⟩⟩:=A6 r;exact⟨_,_,rfl,Out.here h I ⟨rfl,rfl⟩⟩
 ·exact h.elim
def A7:kR K Y (λ xs H Q=>∃ i j,xs=[.int i,.int j]/\Q (.int (if j<i then j else i)) H) e8:=by
 intro H0 B0 B H σ τ P F ds vs f Q I r k h;unfold e8 at h;split at h
 ·obtain⟨v,u,f1,f2,rfl,rfl,⟨rfl,rfl⟩,⟨rfl,rfl⟩⟩:=A6 r;exact⟨_,_,rfl,Out.here h I ⟨rfl,rfl⟩⟩
 ·exact h.elim
def d8:List D->Res D
 |[.lst _ xs]=>.ok (.lst .own xs)
 |[.tup xs]=>.ok (.lst .own xs)
 |_=>.bad
def A5:kR K Y (λ xs H Q=>∃ p ys,xs=[.ref p]/\(c8 K H p ys\/iZ K H p ys)/\∀ l,H l=none->Q (.ref l) (upd H l (.lst ys))) d8:=by
 intro H0 B0 B H σ τ P F ds vs f Q I r k h;unfold d8 at h;split at h
 ·obtain⟨v,rfl,r'⟩:=jO r;obtain⟨a,ws,g,rfl,q,l,s⟩:=r'.lst I;exact⟨a,ws,rfl,.inl (fC q),λ p hp=>Out.wa h I l (k.sub s) hp⟩
 ·obtain⟨v,rfl,r'⟩:=jO r;obtain⟨a,ws,rfl,q,l⟩:=r'.tp;exact⟨a,ws,rfl,.inr q,λ p hp=>Out.wa h I l k hp⟩
 ·exact h.elim
def cO:List D->Res D
 |[.lst _ xs]=>.ok (.tup xs)
 |[.tup xs]=>.ok (.tup xs)
 |_=>.bad
def sR:kR K Y (λ xs H Q=>∃ p ys,xs=[.ref p]/\((c8 K H p ys/\∀ l,H l=none->Q (.ref l) (upd H l (.tup ys)))\/(iZ K H p ys/\Q (.ref p) H))) cO:=by
 intro H0 B0 B H σ τ P F ds vs f Q I r k h;unfold cO at h;split at h
 ·obtain⟨v,rfl,r'⟩:=jO r;obtain⟨a,ws,g,rfl,q,l,s⟩:=r'.lst I;exact⟨a,ws,rfl,.inl ⟨fC q,λ p hp=>Out.DN h I l (k.sub s) hp⟩⟩
 ·obtain⟨v,rfl,r'⟩:=jO r;obtain⟨a,ws,rfl,q,l⟩:=r'.tp;exact⟨a,ws,rfl,.inr ⟨q,Out.xE h I r' k⟩⟩
 ·exact h.elim
def eP (f:SD->Res D)(τ:SD):Res (Option Int):=(f τ).bind λ d=>match d with|.int i=>.ok (some i)|_=>.bad
def lj (_:SD):Res (Option Int):=.ok none
def Jt (K:PySem.W.Frag)(Y:XY)(f:SD->Res (Option Int)):TO:=λ σ H Q=>∃ H0 B0 B τ P F,SI K H0 B0 B H σ τ P F/\match f τ with
 |.ok o=>∀ H' B',SI K H0 B0 B' H' σ τ P F->au H H'->au B B'->Q o H'
 |.fT C=>lh K Y H0 B0 B H σ τ P F C
 |.bad=>False
def PO.imp {e:Option Expr}{t t':TO}(h:PO X e t)(hi:∀ σ H Q,t' σ H Q->t σ H Q):PO X e t':=λ pins s σ H Q I hw=>h pins s σ H Q I (hi σ H Q hw)
def lQ:PO X none (Jt X.K Y lj):=PO.imp Dt λ σ H Q hq=>ex8 hq λ H0 B0 B τ P F I h=>h H B I (au.refl _) (au.refl _)
def gC (h:PE X e (tM X.K Y fe)):PO X (some e) (Jt X.K Y (eP fe)):=by
 refine PO.imp (Dz h) λ σ H Q hq=>ex8 hq λ H0 B0 B τ P F I h=>?_;refine⟨H0,B0,B,τ,P,F,I,?_⟩;unfold eP at h;cases z:fe τ with
 |fT C=>rw[z]at h;exact h|bad=>rw[z]at h;exact h
 | ok d =>
  rw[z]at h;intro v H1 B1 fp I1 s1 b1 r1 k1;cases d with
  |int i=>exact⟨i,r1.1,h H1 B1 I1 s1 b1⟩| _=>exact h.elim
def cut(xs:List α)(lo hi:Option Int):List α:=(xs.drop (HT.eS xs.length 0 lo)).take (HT.eS xs.length xs.length hi-HT.eS xs.length 0 lo)
def ai.drop {S:Addr->Prop}:∀ (n:Nat) {xs:List D}{vs:List V}{f:List Addr},ai K B S H xs vs f->∃ g,ai K B S H (xs.drop n) (vs.drop n) g/\List.Sublist g f
 |0,xs,vs,f,r=>⟨f,r,Mi _⟩
 | n+1,[],vs,f,r=>by
  obtain⟨rfl,rfl⟩:=r;exact⟨[],⟨rfl,rfl⟩,Mi _⟩
 | n+1,d::ds,vs,f,r=>by
  obtain⟨v,w,f1,f2,rfl,r1,r2,rfl⟩:=r;obtain⟨g,h1,h2⟩:=ai.drop n r2;exact⟨g,h1,h2.trans (LI _ _)⟩
def ai.take {S:Addr->Prop}:∀ (n:Nat) {xs:List D}{vs:List V}{f:List Addr},ai K B S H xs vs f->∃ g,ai K B S H (xs.take n) (vs.take n) g/\List.Sublist g f
 |0,xs,vs,f,r=>⟨[],⟨rfl,rfl⟩,List.nil_sublist _⟩
 | n+1,[],vs,f,r=>by
  obtain⟨rfl,rfl⟩:=r;exact⟨[],⟨rfl,rfl⟩,Mi _⟩
 | n+1,d::ds,vs,f,r=>by
  obtain⟨v,w,f1,f2,rfl,r1,r2,rfl⟩:=r;obtain⟨g,h1,h2⟩:=ai.take n r2;exact⟨f1++g,⟨v,_,f1,g,rfl,r1,h1,rfl⟩,OD (Mi _) h2⟩
def ai.cut {S:Addr->Prop}(r:ai K B S H xs vs f)(lo hi:Option Int):∃ g,ai K B S H (cut xs lo hi) (uE vs lo hi) g/\List.Sublist g f:=by
 unfold DL.cut uE;rw[r.length];obtain⟨g,h1,h2⟩:=r.drop (HT.eS vs.length 0 lo);obtain⟨g',h3,h4⟩:=h1.take (HT.eS vs.length vs.length hi-HT.eS vs.length 0 lo);exact⟨g',h3,h4.trans h2⟩
def cutD (d:D)(lo hi:Option Int):Res D:=match d with
 |.lst _ xs=>.ok (.lst .own (cut xs lo hi))
 |.tup xs=>if HT.eS xs.length 0 lo=0/\HT.eS xs.length xs.length hi=xs.length then .bad else .ok (.tup (cut xs lo hi))
 |_=>.bad
def cZ (f:SD->Res D)(lo hi:SD->Res (Option Int))(τ:SD):Res D:=(f τ).bind λ d=>(lo τ).bind λ l=>(hi τ).bind λ u=>cutD d l u
def jc {lo hi:Option Expr}{fl fh:SD->Res (Option Int)}{p2:Pos}(he:PE X e (tM X.K Y fe))(hl:PO X lo (Jt X.K Y fl))(hu:PO X hi (Jt X.K Y fh)):PE X (.Subscript e (.Slice lo hi none p2) pos) (tM X.K Y (cZ fe fl fh)):=by
 refine PE.imp (AH (EX.or Dq F6) he hl hu) λ σ H Q hq=>ex8 hq λ H0 B0 B τ P F I h=>?_;refine tM.seq I h λ d v H1 B1 fp _ I1 s1 b1 r1 k1 h1=>?_;refine⟨H0,B0,B1,τ,P,_,I1.hold k1,?_⟩;cases z:fl τ with
 |fT C=>rw[z]at h1;exact lh.later h1 (au.refl _) (au.refl _) λ a x=>.inr x
 |bad=>rw[z]at h1;exact h1
 | ok l =>
  rw[z]at h1;intro H2 B2 I2 s2 b2;refine⟨H0,B0,B2,τ,P,_,I2,?_⟩;cases y:fh τ with
  |fT C=>rw[y]at h1;exact lh.later h1 s2 b2 λ a x=>.inr x
  |bad=>rw[y]at h1;exact h1
  | ok u =>
   rw[y]at h1;intro H3 B3 I3 s3 b3;have I4:=I3.mV (F':=F) λ a x=>.inr x;have k4:=k1.Iv (s2.trans s3) I3;have r4:=r1.mono (s2.trans s3) (b2.trans b3) λ _ x=>x;have h4:Goal X.K Y H0 B0 B3 H3 σ τ P F Q (cutD d l u):=Goal.later h1 (s2.trans s3) (b2.trans b3);unfold cutD at h4;split at h4
   ·obtain⟨a,vs,g,rfl,q,l',s⟩:=r4.lst I4;obtain⟨g',l2,s2⟩:=l'.cut l u;exact .inl ⟨a,vs,rfl,fC q,λ p hp=>Out.wa h4 I4 l2 (k4.sub (s2.trans s)) hp⟩
   ·obtain⟨a,vs,rfl,q,l'⟩:=r4.tp;obtain⟨g',l2,s2⟩:=l'.cut l u;split at h4
    ·exact h4.elim
    ·rename_i hc;rw[l'.length]at hc;exact .inr ⟨a,vs,rfl,q,hc,λ p hp=>Out.DN h4 I4 l2 (k4.sub s2) hp⟩
   ·exact h4.elim
end
inductive Fl where|nx (τ:SD)|rt (d:D)|bk (τ:SD)|ct (τ:SD)|ex (C:Addr)(τ:SD)|bad
abbrev SF:=SD->Fl
variable {b:SF}
def Tg.aS:Tg->Tg|.bor=>.aq|t=>t
mutual
def D.aS:D->D
 |.tup xs=>.tup (bT xs)
 |.lst t xs=>.lst t.aS (bT xs)
 |.dct t k ks vs=>.dct t.aS k ks (bT vs)
 |d=>d
def bT:List D->List D
 |[]=>[]
 |d::r=>d.aS::bT r
end
mutual
def uR:∀ d:D,d.aw=false->d.aS=d
 |.bg,_=>rfl|.bl _,_=>rfl|.int _,_=>rfl|.str _,_=>rfl|.exc _,_=>rfl
 | .tup xs,h=>by
  have h:av xs=false:=h;show D.tup (bT xs)=_;rw[iN xs h]
 | .lst t xs,h=>by
  have h:(decide (t=.bor)||av xs)=false:=h;rw[MX]at h;show D.lst t.aS (bT xs)=_;rw[iN xs h.2];cases t<;>first|rfl|exact absurd h.1 (by decide)
 | .dct t k ks vs,h=>by
  have h:(decide (t=.bor)||av vs)=false:=h;rw[MX]at h;show D.dct t.aS k ks (bT vs)=_;rw[iN vs h.2];cases t<;>first|rfl|exact absurd h.1 (by decide)
def iN:∀ xs:List D,av xs=false->bT xs=xs
 |[],_=>rfl
 | d::r,h=>by
  have h:(d.aw||av r)=false:=h;rw[MX]at h;show d.aS::bT r=_;rw[uR d h.1,iN r h.2]
end
section
variable {K:PySem.W.Frag}
mutual
def Rep.aS {B B' H:Hp}{S:Addr->Prop}(sB:au B B')(hs:∀ a o,S a->H a=some o->B' a=some o):∀ {d:D}{v:V}{fp:List Addr},Rep K B S H d v fp->Rep K B' No H d.aS v fp
 |.bg,_,_,h=>h
 |.bl _,_,_,h=>h
 |.int _,_,_,h=>h
 |.str _,_,_,h=>h
 |.exc _,_,_,h=>h
 |.tup xs,v,fp,h=>let ⟨a,vs,e,q,r⟩:=h;⟨a,vs,e,q,ai.aS sB hs r⟩
 |.lst .own xs,v,fp,h=>let ⟨a,vs,f,e,q,r,z⟩:=h;⟨a,vs,f,e,q,ai.aS sB hs r,z⟩
 |.lst .bor xs,v,fp,h=>let ⟨a,vs,e,q,r,z⟩:=h;⟨a,vs,e,AZ sB hs q,ai.aS sB hs r,z⟩
 |.lst .aq xs,v,fp,h=>let ⟨a,vs,e,q,r,z⟩:=h;⟨a,vs,e,dH sB q,ai.aS sB (λ _ _ x=>x.elim) r,z⟩
 |.lst (.len _) _,_,_,h=>h.elim
 |.dct (.len a) kd ks xs,v,fp,h=>let ⟨vs,f,e,q,r,z⟩:=h;⟨vs,f,e,q,ai.aS sB hs r,z⟩
 |.dct .own kd ks xs,v,fp,h=>let ⟨a,vs,f,e,q,r,z⟩:=h;⟨a,vs,f,e,q,ai.aS sB hs r,z⟩
 |.dct .bor kd ks xs,v,fp,h=>let ⟨a,vs,e,q,r,z⟩:=h;⟨a,vs,e,km sB hs q,ai.aS sB hs r,z⟩
 |.dct .aq kd ks xs,v,fp,h=>let ⟨a,vs,e,q,r,z⟩:=h;⟨a,vs,e,q.mono sB,ai.aS sB (λ _ _ x=>x.elim) r,z⟩
def ai.aS {B B' H:Hp}{S:Addr->Prop}(sB:au B B')(hs:∀ a o,S a->H a=some o->B' a=some o):∀ {ds:List D}{vs:List V}{fp:List Addr},ai K B S H ds vs fp->ai K B' No H (bT ds) vs fp
 |[],_,_,h=>h
 |d::ds,vs,fp,h=>let ⟨v,r,f,g,e,h1,h2,z⟩:=h;⟨v,r,f,g,e,Rep.aS sB hs h1,ai.aS sB hs h2,z⟩
end
def jP (H H':Hp):Prop:=∀ a o,H a=some o->¬ qt o->H' a=some o
def jP.of(s:au H H'):jP H H':=λ a o h _=>s a o h
def jP.refl (H:Hp):jP H H:=λ _ _ h _=>h
def jP.trans {H2:Hp}(a:jP H H1)(b:jP H1 H2):jP H H2:=λ x o h n=>b x o (a x o h n) n
structure jo (K:PySem.W.Frag)(H0 B0 B H:Hp)(B' H':Hp)(σ':L2.St)(τ':SD)(P':List Addr):Prop where
 si:SI K H0 B0 B' H' σ' τ' P' No
 b:au B B'
 v9:jP H H'
structure nL (K:PySem.W.Frag)(H0 B0 B' H':Hp)(d:D)(v:V)(fp:List Addr):Prop where
 h0:au H0 H'
 b0:au B0 B'
 bh:au B' H'
 nb:∀ a,B' a≠none->B0 a≠none\/H0 a=none
 rep:Rep K B' No H' d v fp
 nd:fp.Nodup
 own:∀ a∈fp,B' a=none/\H0 a=none/\H' a≠none
def KR (K:PySem.W.Frag)(H0 B0:Hp)(E:Ends):D->Prop
 |.tup [r,x]=>∀ B' H' v u f1 f2,nL K H0 B0 B' H' r v f1->Rep K B' No H' x u f2->(f1++f2).Nodup->(∀ b∈f2,B' b=none/\H0 b=none/\H' b≠none)->E.rt v H'
 |_=>False
def cj (K:PySem.W.Frag)(Y:XY)(H0 B0 B H:Hp)(E:Ends):Fl->Prop
 |.nx τ'=>∀ B' H' σ' P',jo K H0 B0 B H B' H' σ' τ' P'->E.nx σ' H'
 |.bk τ'=>∀ B' H' σ' P',jo K H0 B0 B H B' H' σ' τ' P'->E.bk σ' H'
 |.ct τ'=>∀ B' H' σ' P',jo K H0 B0 B H B' H' σ' τ' P'->E.ct σ' H'
 |.ex C τ'=>∀ B' H' σ' P',jo K H0 B0 B H B' H' σ' τ' P'->Y C σ' H'
 | .rt d=>match Y.ln with
  |false=>∀ B' H' v fp,nL K H0 B0 B' H' d v fp->E.rt v H'
  |true=>KR K H0 B0 E d
 |.bad=>False
def i0 (K:PySem.W.Frag)(Y:XY)(g:SF):TS:=λ E σ H=>∃ H0 B0 B τ P,SI K H0 B0 B H σ τ P No/\cj K Y H0 B0 B H E (g τ)
variable{E:Ends}
def jo.refl (I:SI K H0 B0 B H σ τ P No):jo K H0 B0 B H B H σ τ P:=⟨I,au.refl _,jP.refl _⟩
def jo.grow(I:SI K H0 B0 B' H' σ τ P No)(sB:au B B')(sH:au H H'):jo K H0 B0 B H B' H' σ τ P:=⟨I,sB,jP.of sH⟩
def jo.trans {B2 H2:Hp}{σ1 σ2:L2.St}{τ1 τ2:SD}{P1 P2:List Addr}(a:jo K H0 B0 B H B1 H1 σ1 τ1 P1)(b:jo K H0 B0 B1 H1 B2 H2 σ2 τ2 P2):jo K H0 B0 B H B2 H2 σ2 τ2 P2:=⟨b.si,a.b.trans b.b,a.v9.trans b.v9⟩
def cj.later{σ1:L2.St}{τ1:SD}{P1:List Addr}{r:Fl}(h:cj K Y H0 B0 B H E r)(a:jo K H0 B0 B H B1 H1 σ1 τ1 P1):cj K Y H0 B0 B1 H1 E r:=by
 cases r with
 |nx τ'=>exact λ B' H' σ' P' b=>h B' H' σ' P' (a.trans b)
 |bk τ'=>exact λ B' H' σ' P' b=>h B' H' σ' P' (a.trans b)
 |ct τ'=>exact λ B' H' σ' P' b=>h B' H' σ' P' (a.trans b)
 |ex C τ'=>exact λ B' H' σ' P' b=>h B' H' σ' P' (a.trans b)
 |rt d=>exact h|bad=>exact h
def cj.rt(hl:Y.ln=false)(h:cj K Y H0 B0 B H E (.rt d)):∀ B' H' v fp,nL K H0 B0 B' H' d v fp->E.rt v H':=by
 have h:(match Y.ln with|false=>∀ B' H' v fp,nL K H0 B0 B' H' d v fp->E.rt v H'|true=>KR K H0 B0 E d):=h;rw[hl]at h;exact h
def Fl.andThen (r:Fl)(s:SF):Fl:=match r with|.nx τ=>s τ|r=>r
def aC (a b:SF)(τ:SD):Fl:=(a τ).andThen b
def aQ (τ:SD):Fl:=.nx τ
variable{rest:List Stmt}{g g1 g2:SF}
def bI:kg X [] (i0 X.K Y aQ):=kg.imp Di λ E σ H hq=>ex7 hq λ H0 B0 B τ P I h=>h B H σ P (jo.refl I)
def az (h:PS X st (i0 X.K Y g)):kg X [st] (i0 X.K Y g):=xn h
def ak (h1:PS X st (i0 X.K Y g1))(h2:kg X rest (i0 X.K Y g2)):kg X (st::rest) (i0 X.K Y (aC g1 g2)):=by
 refine kg.imp (oR h1 h2) λ E σ H hq=>ex7 hq λ H0 B0 B τ P I h=>⟨H0,B0,B,τ,P,I,?_⟩;unfold aC at h;cases e:g1 τ with
 |nx τ'=>rw[e]at h;exact λ B' H' σ' P' a=>⟨H0,B0,B',τ',P',a.si,cj.later h a⟩
 |bk τ'=>rw[e]at h;exact h|ct τ'=>rw[e]at h;exact h|ex C τ'=>rw[e]at h;exact h|rt d=>rw[e]at h;exact h|bad=>rw[e]at h;exact h
def dh (_:SD):Fl:=.bad
def xJ:PS X st (i0 X.K Y dh):=λ _ _ _ _ _ _ ⟨_,_,_,_,_,_,h⟩=>h.elim
def Res.je (τ:SD)(r:Res D)(k:D->Fl):Fl:=match r with|.ok d=>k d|.fT C=>.ex C τ|.bad=>.bad
def Res.pB (τ:SD)(r:Res Bool)(k:Bool->Fl):Fl:=match r with|.ok d=>k d|.fT C=>.ex C τ|.bad=>.bad
def kT {f:SD->Res D}{k:D->Fl}(I:SI K H0 B0 B H σ τ P No)(h:cj K Y H0 B0 B H E ((f τ).je τ k))
  (c:∀ d v H1 B1 fp,f τ=.ok d->SI K H0 B0 B1 H1 σ τ P No->au H H1->au B B1->Rep K B1 (· ∈ P) H1 d v fp->fL H0 B1 H1 P No fp->cj K Y H0 B0 B1 H1 E (k d)->Q v H1):tM K Y f σ H Q:=by
 refine⟨H0,B0,B,τ,P,No,I,?_⟩;cases e:f τ with
 | ok d =>
  rw[e]at h;intro v H1 B1 fp I1 s1 b1 r1 k1;exact c d v H1 B1 fp e I1 s1 b1 r1 k1 (cj.later h (jo.grow I1 b1 s1))
 |fT C=>rw[e]at h;exact λ H1 B1 I1 s1 b1=>h B1 H1 σ P (jo.grow I1 b1 s1)
 |bad=>rw[e]at h;exact h
def E4 {f:SD->Res Bool}{k:Bool->Fl}{Q:Bool->Hp->Prop}(I:SI K H0 B0 B H σ τ P No)(h:cj K Y H0 B0 B H E ((f τ).pB τ k))
  (c:∀ d H1 B1,f τ=.ok d->SI K H0 B0 B1 H1 σ τ P No->au H H1->au B B1->cj K Y H0 B0 B1 H1 E (k d)->Q d H1):jE K Y f σ H Q:=by
 refine⟨H0,B0,B,τ,P,No,I,?_⟩;cases e:f τ with
 |ok d=>rw[e]at h;exact λ H1 B1 I1 s1 b1=>c d H1 B1 e I1 s1 b1 (cj.later h (jo.grow I1 b1 s1))
 |fT C=>rw[e]at h;exact λ H1 B1 I1 s1 b1=>h B1 H1 σ P (jo.grow I1 b1 s1)
 |bad=>rw[e]at h;exact h
variable {c:Expr}
def e9 (f:SD->Res D)(τ:SD):Fl:=(f τ).je τ λ _=>.nx τ
def Gi (he:PE X e (tM X.K Y fe))(hs:swapsWith e none pos.line X.env=pure false:=by rfl):PS X (.Expr e pos) (i0 X.K Y (e9 fe)):=
 PS.imp (gA he hs) λ E σ H hq=>ex7 hq λ H0 B0 B τ P I h=>kT I h λ d v H1 B1 fp _ I1 _ _ _ _ h1=>h1 B1 H1 σ P (jo.refl I1)
def dI (c:SD->Res Bool)(a b:SF)(τ:SD):Fl:=(c τ).pB τ λ t=>if t=true then a τ else b τ
def fg {a b:List Stmt}(hc:PT X c (jE X.K Y gc))(ha:kg X a (i0 X.K Y g1))(hb:kg X b (i0 X.K Y g2)):PS X (.If c a b pos) (i0 X.K Y (dI gc g1 g2)):=
 PS.imp (Hx hc ha hb) λ E σ H hq=>ex7 hq λ H0 B0 B τ P I h=>E4 I h λ d H1 B1 _ I1 _ _ h1=>by
  cases d with
  |true=>rw[Lr rfl]at h1 ⊢;exact⟨H0,B0,B1,τ,P,I1,h1⟩| false=>rw[Lw Li]at h1 ⊢;exact⟨H0,B0,B1,τ,P,I1,h1⟩
def atRest (B H:Hp)(S:Addr->Prop):Hp:=λ a=>by classical exact if S a then H a else B a
def dX {S:Addr->Prop}(h:au B H):au B (atRest B H S):=λ a o e=>by
 unfold atRest;split
 ·exact h a o e
 ·exact e
def gE {S:Addr->Prop}(s:S a)(h:H a=some o):atRest B H S a=some o:=by unfold atRest;rw[Lr s];exact h
def jd {S:Addr->Prop}(h:au B H):au (atRest B H S) H:=λ a o e=>by
 unfold atRest at e;split at e
 ·exact e
 ·exact h a o e
def fZ {S:Addr->Prop}(s:¬ S a):atRest B H S a=B a:=by unfold atRest;rw[Lw s]
def bM (f:SD->Res D)(τ:SD):Fl:=(f τ).je τ λ d=>.rt d.aS
def A9(I:SI K H0 B0 B H σ τ P F)(r:Rep K B (· ∈ P) H d v fp)(k:fL H0 B H P F fp):nL K H0 B0 (atRest B H (· ∈ P)) H d.aS v fp where
 h0:=I.h0
 b0:=I.b0.trans (dX I.bh)
 bh:=jd I.bh
 nb:=λ a n=>by
  by_cases m:a∈P
  ·exact .inr (I.own a m).2.1
  ·rw[fZ m]at n;exact I.nb a n
 rep:=r.aS (dX I.bh) λ a o s h=>gE s h
 nd:=k.nd
 own:=λ a m=>let ⟨a1,a2,a3,a4,_⟩:=k.own a m;⟨by rw[fZ a4];exact a1,a2,a3⟩
def cD (he:PE X e (tM X.K Y fe))(hl:Y.ln=false:=by rfl):PS X (.Return (some e) pos) (i0 X.K Y (bM fe)):=
 PS.imp (rV he) λ E σ H hq=>ex7 hq λ H0 B0 B τ P I h=>kT I h λ d v H1 B1 fp _ I1 _ _ r1 k1 h1=>(cj.rt hl h1) _ H1 v fp (A9 I1 r1 k1)
def du (i:Nat)(τ:SD):Fl:=match τ[i]? with|some (some d)=>.rt d|_=>.bad
def lu (i:Nat)(hN:X.N[i]?=some x:=by rfl)(hv:rY X.env.scope x:=by first|exact Or.inl rfl|exact Or.inr (Or.inl rfl)|exact Or.inr (Or.inr rfl))(hd:(x == ("__debug__" : Str))=false:=by decide)
  (hcd:(x == ("__classdict__" : Str))=false:=by decide) (hl:Y.ln=false:=by rfl):PS X (.Return (some (.Name x pos')) pos) (i0 X.K Y (du i)):=by
 refine PS.imp (rV (dg hN hv hd hcd)) λ E σ H hq=>ex7 hq λ H0 B0 B τ P I h=>?_;unfold du at h;cases e:τ[i]? with
 |none=>rw[e]at h;exact h.elim
 | some o =>
  cases o with
  |none=>rw[e]at h;exact h.elim
  | some d =>
   rw[e]at h;obtain⟨v,f,h1,h2,h3⟩:=I.rep.get e;refine⟨v,h1,(cj.rt hl h) B H v f ⟨I.h0,I.b0,I.bh,I.nb,h2,I.nd.sublist h3,λ a m=>?_⟩⟩;obtain⟨a1,a2,a3⟩:=I.own a (h3.subset m);exact⟨a1,a2,I.stands (h3.subset m)⟩
def cK.length {B H:Hp}:∀ {τ:SD}{σ:L2.St}{P:List Addr},cK K B H τ σ P->τ.length=σ.length
 |[],_,_,h=>by rw[h.1];rfl
 |none::r,σ,P,h=>by obtain⟨o,t,rfl,h⟩:=h;rw[Ly,Ly,cK.length h]
 |some d::r,σ,P,h=>by obtain⟨v,t,f,g,rfl,_,h,_⟩:=h;rw[Ly,Ly,cK.length h]
def cK.cut {B H:Hp}:∀ {τ:SD}{σ:L2.St}{P:List Addr}{i:Nat},cK K B H τ σ P->i<τ.length->∃ A f C,P=A++f++C/\(∀ d,τ[i]?=some (some d)->∃ v,σ[i]?=some (some v)/\Rep K B No H d v f) /\
  ∀ {B' H':Hp}{d':D}{v':V}{f':List Addr},(∀ d v g,Rep K B No H d v g->(∀ a∈g,a∈A++C)->Rep K B' No H' d v g)->Rep K B' No H' d' v' f'->cK K B' H' (τ.set i (some d')) (σ.set i (some v')) (A++f'++C)
 |[],σ,P,i,h,hi=>absurd hi (Nn _)
 | none::r,σ,P,0,h,hi=>by
  obtain⟨o,t,rfl,h⟩:=h;refine⟨[],[],P,rfl,λ d e=>by simp at e,λ {B' H' d' v' f'} hm hr=>⟨v',t,f',P,rfl,hr,?_,rfl⟩⟩
  revert hm
  have key:∀ {τ:SD}{σ:L2.St}{Q:List Addr},cK K B H τ σ Q->(∀ d v g,Rep K B No H d v g->(∀ a∈g,a∈Q)->Rep K B' No H' d v g)->cK K B' H' τ σ Q:=by
   intro τ
   induction τ with
   |nil=>intro σ Q h _;exact h
   | cons o r ih =>
    intro σ Q h hm;cases o with
    |none=>obtain⟨o,t,e,h⟩:=h;exact⟨o,t,e,ih h hm⟩
    | some d =>
     obtain⟨v,t,f,g,e,h1,h2,z⟩:=h;subst z;exact⟨v,t,f,g,e,hm d v f h1 (λ a m=>Lu _ m),ih h2 (λ d v g' hr hg=>hm d v g' hr λ a m=>Lx _ (hg a m)),rfl⟩
  exact λ hm=>key h hm
 | some d::r,σ,P,0,h,hi=>by
  obtain⟨v,t,f,g,rfl,h1,h2,rfl⟩:=h;refine⟨[],f,g,by simp,λ d' e=>⟨v,rfl,?_⟩,λ {B' H' d' v' f'} hm hr=>⟨v',t,f',g,rfl,hr,?_,rfl⟩⟩
  ·have e:d=d':=by simpa using e
   subst e;exact h1
  ·have key:∀ {τ:SD}{σ:L2.St}{Q:List Addr},cK K B H τ σ Q->(∀ d v g,Rep K B No H d v g->(∀ a∈g,a∈Q)->Rep K B' No H' d v g)->cK K B' H' τ σ Q:=by
    intro τ
    induction τ with
    |nil=>intro σ Q h _;exact h
    | cons o r ih =>
     intro σ Q h hm;cases o with
     |none=>obtain⟨o,t,e,h⟩:=h;exact⟨o,t,e,ih h hm⟩
     | some d =>
      obtain⟨v,t,f,g,e,h1,h2,z⟩:=h;subst z;exact⟨v,t,f,g,e,hm d v f h1 (λ a m=>Lu _ m),ih h2 (λ d v g' hr hg=>hm d v g' hr λ a m=>Lx _ (hg a m)),rfl⟩
   exact key h2 hm
 | none::r,σ,P,i+1,h,hi=>by
  obtain⟨o,t,rfl,h⟩:=h;obtain⟨A,f,C,e,h1,h2⟩:=cK.cut (i:=i) h (by simpa using hi);exact⟨A,f,C,e,λ d z=>h1 d (by simpa using z),λ hm hr=>⟨o,_,rfl,h2 hm hr⟩⟩
 | some d::r,σ,P,i+1,h,hi=>by
  obtain⟨v,t,f,g,rfl,r1,r2,rfl⟩:=h;obtain⟨A,f',C,e,h1,h2⟩:=cK.cut (i:=i) r2 (by simpa using hi);subst e;refine⟨f++A,f',C,by simp,λ d z=>h1 d (by simpa using z),λ {B' H' d' v' f''} hm hr=>?_⟩;refine⟨v,_,f,A++f''++C,rfl,hm d v f r1 λ a m=>by simp[m],h2 (λ d v g hr hg=>hm d v g hr λ a m=>?_) hr,by simp⟩;have:=hg a m;simp at this ⊢;rcases this with z|z
  ·exact .inr (.inl z)
  ·exact .inr (.inr z)
def SI.put{d':D}{v':V}{f':List Addr}(I:SI K H0 B0 B H σ τ P F)(hi:i<τ.length){A C:List Addr}(eP:P=A++f++C)
  (put:∀ {B' H':Hp}{d':D}{v':V}{f':List Addr},(∀ d v g,Rep K B No H d v g->(∀ a∈g,a∈A++C)->Rep K B' No H' d v g)->Rep K B' No H' d' v' f'->cK K B' H' (τ.set i (some d')) (σ.set i (some v')) (A++f'++C))
  (kp:iK H H1 f) (r:Rep K B No H1 d' v' f') (nd:f'.Nodup) (own:∀ a∈f',a∈f\/(B a=none/\H0 a=none/\H a=none/\¬ F a)\/(a∉P/\B a=none/\H0 a=none/\¬ F a)) :
  SI K H0 B0 B H1 (σ.set i (some v')) (τ.set i (some d')) (A++f'++C) F:=by
 have nd0:=I.nd;rw[eP]at nd0;have ndA:A.Nodup:=(nd0.sublist (by simp)).sublist (LS A (f++C));have kb:∀ a o,B a=some o->a∉f:=λ a o e m=>by
  have:=(I.own a (by rw[eP];simp[m])).1;rw[e]at this;cases this
 have k0:∀ a o,H0 a=some o->a∉f:=λ a o e m=>by
  have:=(I.own a (by rw[eP];simp[m])).2.1;rw[e]at this;cases this
 have kf:∀ a,F a->a∉f:=λ a e m=>(I.own a (by rw[eP];simp[m])).2.2 e;have notin:∀ a∈f',a∉A/\a∉C:=λ a m=>by
  rcases own a m with q|q|q
  ·rw[LM,Lp]at nd0;obtain⟨n1,n2,n3⟩:=nd0;rw[Lp]at n2;exact⟨λ z=>n3 a z a (by simp[q]) rfl,λ z=>n2.2.2 a q a z rfl⟩
  ·exact⟨λ z=>I.stands (a:=a) (by rw[eP];simp[z]) q.2.2.1,λ z=>I.stands (a:=a) (by rw[eP];simp[z]) q.2.2.1⟩
  ·exact⟨λ z=>q.1 (by rw[eP];simp[z]),λ z=>q.1 (by rw[eP];simp[z])⟩
 refine⟨λ a o e=>kp.keep a o (I.bh a o e) (kb a o e),λ a o e=>kp.keep a o (I.h0 a o e) (k0 a o e),I.b0,I.nb,?_,?_,λ a m=>?_,λ a m=>⟨(I.fr a m).1,λ z=>?_⟩⟩
 ·refine put (λ d v g hr hg=>hr.keep kp λ a m z=>?_) r;have h1:=hg a m;rw[LM,Lp]at nd0;obtain⟨n1,n2,n3⟩:=nd0;rw[Lp]at n2;rcases Ls.mp h1 with q|q
  ·exact n3 a q a (by simp[z]) rfl
  ·exact n2.2.2 a z a q rfl
 ·rw[LM,Lp]at nd0 ⊢;obtain⟨n1,n2,n3⟩:=nd0;rw[Lp]at n2;refine⟨n1,Lp.mpr ⟨nd,n2.2.1,λ a ha b hb e=>?_⟩,λ a ha b hb e=>?_⟩
  ·subst e;exact(notin a ha).2 hb
  ·subst e;rcases Ls.mp hb with q|q
   ·exact(notin a q).1 ha
   ·exact n3 a ha a (by simp[q]) rfl
 ·rcases Ls.mp m with q|q
  ·rcases Ls.mp q with q|q
   ·exact I.own a (by rw[eP];simp[q])
   ·rcases own a q with q|q|q
    ·exact I.own a (by rw[eP];simp[q])
    ·exact⟨q.1,q.2.1,q.2.2.2⟩
    ·exact⟨q.2.1,q.2.2.1,q.2.2.2⟩
  ·exact I.own a (by rw[eP];simp[q])
 ·obtain⟨o,e⟩:=OO.mp (I.fr a m).2;rw[kp.keep a o e (kf a m)]at z;cases z
def iK.same(h:∀ a∈f,∃ o,H a=some o/\qt o):iK H H f:=⟨λ _ _ h _=>h,h⟩
def cH (A f C:List Addr):∀ a∈f,a∈A++f++C:=λ a m=>by simp[m]
def SI.set(i:Nat)(I:SI K H0 B0 B H σ τ P F)(r:Rep K B No H d v fp)(k:fL H0 B H P F fp):∃ P',SI K H0 B0 B H (σ.set i (some v)) (τ.set i (some d)) P' F/\∀ a∈P',a∈P\/a∈fp:=by
 by_cases hi:i<τ.length
 ·obtain⟨A,f,C,e,h1,h2⟩:=I.rep.cut hi;refine⟨_,I.put hi e h2 (iK.same λ a m=>I.rep.own a (by rw[e];exact cH A f C a m)) r k.nd λ a m=>.inr (.inr ?_),λ a m=>?_⟩
  ·obtain⟨a1,a2,a3,a4,a5⟩:=k.own a m;exact⟨a4,a1,a2,a5⟩
  ·rw[e];simp at m ⊢;rcases m with m|m|m<;>simp[m]
 ·have e1:τ.set i (some d)=τ:=List.set_eq_of_length_le (by omega);have e2:σ.set i (some v)=σ:=List.set_eq_of_length_le (by rw[<-I.rep.length];omega);rw[e1,e2];exact⟨P,I,λ a m=>.inl m⟩
def iO (i:Nat)(τ:SD)(d:D):Fl:=if d.aw=true then .bad else .nx (τ.set i (some d))
def aV (i:Nat)(f:SD->Res D)(τ:SD):Fl:=(f τ).je τ (iO i τ)
def IB(hN:X.N.Nodup)(hi:X.N[i]?=some x)(hx:Loc X.env.scope x)(he:PE X e (tM X.K Y fe))(hs:swapsWith e (some (.Name x pos')) pos.line X.env=pure false:=by rfl)(hf:X.fn x=true\/X.env.scope.names.lookup x=some .local:=by first|exact .inl rfl|exact .inr rfl) :
  PS X (.Assign [.Name x pos'] e pos) (i0 X.K Y (aV i fe)):=
 PS.imp (AA hN hi hx he hs hf) λ E σ H hq=>ex7 hq λ H0 B0 B τ P I h=>kT I h λ d v H1 B1 fp _ I1 _ _ r1 k1 h1=>by
  unfold iO at h1;split at h1
  ·exact h1.elim
  ·rename_i hb;obtain⟨P',I',_⟩:=I1.set i (r1.gy (by simpa using hb)) k1;exact h1 B1 H1 _ P' ⟨I',au.refl _,jP.refl _⟩
def ck (js:List Nat)(τ:SD):SD:=js.foldl (λ t j=>match t[j]? with|some (some d)=>t.set j (some d.aq)|_=>t) τ
def SI.Kh (j:Nat)(I:SI K H0 B0 B H σ τ P No)(hd:τ[j]?=some (some d)):∃ B' P',au B B'/\SI K H0 B0 B' H σ (τ.set j (some d.aq)) P' No:=by
 have hi:j<τ.length:=(Lh.mp hd).1;obtain⟨A,f,C,e,h1,h2⟩:=I.rep.cut hi;obtain⟨v,e1,r1⟩:=h1 d hd;have sB:au B (atRest B H (· ∈ f)):=dX I.bh;have nd0:=I.nd;rw[e]at nd0;have dis:∀ a∈A++C,a∉f:=λ a m z=>by
  rw[LM,Lp]at nd0;obtain⟨n1,n2,n3⟩:=nd0;rw[Lp]at n2;rcases Ls.mp m with q|q
  ·exact n3 a q a (by simp[z]) rfl
  ·exact n2.2.2 a z a q rfl
 have es:σ.set j (some v)=σ:=by
  refine Mr λ k=>?_;by_cases hk:k=j
  ·subst hk;rw[Mg (Lh.mp e1).1,e1]
  ·rw[L8 (My hk)]
 have rr:=h2 (B':=atRest B H (· ∈ f)) (H':=H) (d':=d.aq) (v':=v) (f':=[]) (λ d v g hr hg=>hr.mono (au.refl _) sB λ _ x=>x) (r1.aq sB (λ a o s=>s.elim) λ a m o ho=>gE m ho);rw[es]at rr;refine⟨atRest B H (· ∈ f),A++[]++C,sB,jd I.bh,I.h0,I.b0.trans sB,λ a n=>?_,rr,?_,λ a m=>?_,λ a m=>m.elim⟩
 ·by_cases m:a∈f
  ·exact .inr (I.own a (by rw[e];exact cH A f C a m)).2.1
  ·rw[fZ m]at n;exact I.nb a n
 ·rw[LZ];refine nd0.sublist ?_;rw[LM];exact OD (Mi _) (LI _ _)
 ·rw[LZ]at m;obtain⟨a1,a2,a3⟩:=I.own a (by rw[e];rcases Ls.mp m with q|q<;>simp[q]);exact⟨by rw[fZ (dis a m)];exact a1,a2,λ x=>x⟩
def SI.ck:∀ (js:List Nat) {B:Hp}{τ:SD}{P:List Addr},SI K H0 B0 B H σ τ P No->∃ B' P',au B B'/\SI K H0 B0 B' H σ (DL.ck js τ) P' No
 |[],B,τ,P,I=>⟨B,P,au.refl _,I⟩
 | j::js,B,τ,P,I=>by
  unfold DL.ck;rw[Pn];cases e:τ[j]? with
  |none=>exact SI.ck js I
  | some o =>
   cases o with
   |none=>exact SI.ck js I
   | some d =>
    obtain⟨B1,P1,s1,I1⟩:=I.Kh j e;obtain⟨B2,P2,s2,I2⟩:=SI.ck js I1;exact⟨B2,P2,s1.trans s2,I2⟩
def gn (js:List Nat)(g:SF)(τ:SD):Fl:=g (ck js τ)
def Bb (js:List Nat)(h:PS X st (i0 X.K Y g)):PS X st (i0 X.K Y (gn js g)):=PS.imp h λ E σ H hq=>ex7 hq λ H0 B0 B τ P I h=>by
 obtain⟨B',P',s,I'⟩:=I.ck js;exact⟨H0,B0,B',_,P',I',cj.later h (jo.grow I' s (au.refl _))⟩
def c5 (τ:SD)(i:Nat):Option (List D):=match τ[i]? with|some (some (.lst .own xs))=>some xs|_=>none
def fO(h:c5 τ i=some xs):τ[i]?=some (some (.lst .own xs)):=by
 unfold c5 at h;split at h
 ·rename_i e;cases h;exact e
 ·cases h
def SI.Ba{xs':List D}{gp:List Addr}{vs':List V}(I:SI K H0 B0 B H σ τ P No)(hi:τ[i]?=some (some (.lst .own xs)))(ev:σ[i]?=some (some (.ref a)))
  (k:fL H0 B H P No gp)
  (items:∀ f,H a=some (.lst vs)->ai K B No H xs vs f->∃ f',ai K B No H xs' vs' f'/\(∀ b∈f',b∈f\/b∈gp)/\(f.Nodup->(∀ b∈gp,b∉f)->f'.Nodup)) (hv:H a=some (.lst vs)) :
  ∃ P',jo K H0 B0 B H B (upd H a (.lst vs')) σ (τ.set i (some (.lst .own xs'))) P':=by
 have hi':i<τ.length:=(Lh.mp hi).1;obtain⟨A,f,C,e,h1,h2⟩:=I.rep.cut hi';obtain⟨v,e1,r1⟩:=h1 _ hi;rw[ev]at e1;cases e1;obtain⟨a',ws,g,ea,hq,rl,ef⟩:=r1;cases ea;rw[hv]at hq;cases hq;subst ef;have nd0:=I.nd;rw[e]at nd0;have ndf:(a::g).Nodup:=(nd0.sublist (LS _ _)).sublist (LI _ _);have gdis:∀ b∈gp,b∉a::g:=λ b m z=>(k.own b m).2.2.2.1 (by rw[e];exact cH _ _ _ b z);obtain⟨f',r',s',n'⟩:=items g hv rl;obtain⟨na,ng⟩:=Lv.mp ndf;have hna:a∉f':=λ m=>(s' a m).elim na λ z=>gdis a z Le;have es:σ.set i (some (.ref a))=σ:=by
  refine Mr λ k=>?_;by_cases hk:k=i
  ·subst hk;rw[Mg (Lh.mp ev).1,ev]
  ·rw[L8 (My hk)]
 have kp:iK H (upd H a (.lst vs')) [a]:=⟨λ b o h n=>by rw[aG (by simpa using n)];exact h,λ b m=>by
  have:b=a:=by simpa using m
  subst this;exact⟨_,hv,trivial⟩⟩
 have kpf:iK H (upd H a (.lst vs')) (a::g):=⟨λ b o h n=>kp.keep b o h (λ z=>n (Ln.mpr (.inl (L4.mp z)))),λ b m=>I.rep.own b (by rw[e];exact cH _ _ _ b m)⟩;have key:=I.put (i:=i) (H1:=upd H a (.lst vs')) (d':=.lst .own xs') (v':=.ref a) (f':=a::f') hi' e h2 kpf ⟨a,vs',f',rfl,aI,r'.keep kp λ b m=>by
   have:b≠a:=λ z=>hna (z▸m);simpa using this,rfl⟩ (Lv.mpr ⟨hna,n' ng λ b m z=>gdis b m (Ld _ z)⟩) λ b m=>?_
 ·rw[es]at key;exact⟨_,key,au.refl _,λ b o h n=>kp.v9 h n⟩
 ·rcases Ln.mp m with q|q
  ·exact .inl (by simp[q])
  ·rcases s' b q with z|z
   ·exact .inl (Ld _ z)
   ·obtain⟨a1,a2,a3,a4,a5⟩:=k.own b z;exact .inr (.inr ⟨a4,a1,a2,a5⟩)
end
section
variable {K:PySem.W.Frag}{E:Ends}{c:Expr}
def SI.listAt(I:SI K H0 B0 B H σ τ P F)(h:τ[i]?=some (some (.lst .own xs))):∃ a vs,σ[i]?=some (some (.ref a))/\H a=some (.lst vs)/\xs.length=vs.length:=by
 obtain⟨v,f,h1,h2,h3⟩:=I.rep.get h;obtain⟨a,vs,g,rfl,q,r,z⟩:=h2;exact⟨a,vs,h1,q,r.length⟩
def gW (i:Nat)(f:SD->Res D)(τ:SD):Fl:=match c5 τ i with
 |some xs=>(f τ).je τ λ d=>if d.aw=true then .bad else if xs.length<16777216 then .nx (τ.set i (some (.lst .own (xs++[d])))) else .bad
 |none=>.bad
def E5 (i:Nat){apos cpos:Pos}(he:PE X e (tM X.K Y fe))(hN:X.N[i]?=some x:=by rfl)(hv:rY X.env.scope x:=by first|exact Or.inl rfl|exact Or.inr (Or.inl rfl)|exact Or.inr (Or.inr rfl))(hd:(x == ("__debug__" : Str))=false:=by decide)(hcd:(x == ("__classdict__" : Str))=false:=by decide)
  (hbase:attributeBase (.Name x p1) "append" X.env (eval (.Name x p1) X.env)=eval (.Name x p1) X.env:=by rfl)
  (hfew:((backTo cpos (starEach [e] X.env)).all (λ x=>!x.1)&&(backToKw cpos (keywordEach [] X.env)).all (λ x=>x.1.isSome)
   && decide ([e].length+([]:List Keyword).length+(if ([]:List Keyword).isEmpty then 0 else 1)<30))=true:=by rfl)
  (hline:(apos.endLine == cpos.line)=true:=by rfl) (hs:starEach [e] X.env=(false,eval e X.env)::starEach [] X.env:=by rfl) (hplain:(backTo cpos (starEach [] X.env)).any (·.1)=false:=by rfl)
  (hsw:swapsWith (.Call (.Attribute (.Name x p1) "append" apos) [e] [] cpos) none pos.line X.env=pure false:=by rfl) :
  PS X (.Expr (.Call (.Attribute (.Name x p1) "append" apos) [e] [] cpos) pos) (i0 X.K Y (gW i fe)):=by
 refine PS.imp (gA (lK Mh MU MV gI (dg hN hv hd hcd) (cR he dJ hs) hbase hfew hline hs hplain) hsw) λ E σ H hq=>ex7 hq λ H0 B0 B τ P I h=>?_;unfold gW at h;cases z:c5 τ i with
 |none=>rw[z]at h;exact h.elim
 | some xs =>
  rw[z]at h;have hi:=fO z;obtain⟨a,vs,ea,ha,hl⟩:=I.listAt hi;refine⟨.ref a,ea,.inl ⟨rfl,vs,c8.of ha⟩,kT I h λ d v H1 B1 fp _ I1 s1 b1 r1 k1 h1=>?_⟩;split at h1
  ·exact h1.elim
  ·rename_i hb;split at h1
   ·rename_i hz;have ha1:=s1 a _ ha;refine⟨a,vs,v,rfl,rfl,ha1,by rw[<-hl,Ma];exact hz,?_⟩;obtain⟨P',I'⟩:=I1.Ba (xs':=xs++[d]) (vs':=vs++[v]) hi ea k1 (λ f _ rl=>⟨f++fp,rl.append (ai.one (r1.gy (by simpa using hb))),λ b m=>Ls.mp m,λ nf dis=>Lp.mpr ⟨nf,k1.nd,λ a ha b hb e=>dis b hb (e▸ha)⟩⟩) ha1;exact h1 B1 _ σ P' I'
   ·exact h1.elim
def iP (i:Nat)(τ:SD):Fl:=match c5 τ i with|some xs=>.nx (τ.set i (some (.lst .own xs.reverse)))|none=>.bad
def ai.reverse {S:Addr->Prop}:∀ {xs:List D}{vs:List V}{f:List Addr},ai K B S H xs vs f->∃ g,ai K B S H xs.reverse vs.reverse g/\f.Perm g
 |[],vs,f,r=>by obtain⟨rfl,rfl⟩:=r;exact⟨[],⟨rfl,rfl⟩,Mp _⟩
 | d::ds,vs,f,r=>by
  obtain⟨v,w,f1,f2,rfl,r1,r2,rfl⟩:=r;obtain⟨g,h1,h2⟩:=ai.reverse r2;refine⟨g++f1,?_,List.perm_append_comm.trans (h2.append_right f1)⟩;rw[N5,N5];exact h1.append (ai.one r1)
def ID (i:Nat){apos cpos:Pos}(hN:X.N[i]?=some x:=by rfl)(hv:rY X.env.scope x:=by first|exact Or.inl rfl|exact Or.inr (Or.inl rfl)|exact Or.inr (Or.inr rfl))(hd:(x == ("__debug__" : Str))=false:=by decide)(hcd:(x == ("__classdict__" : Str))=false:=by decide)
  (hbase:attributeBase (.Name x p1) "reverse" X.env (eval (.Name x p1) X.env)=eval (.Name x p1) X.env:=by rfl) (hline:(apos.endLine == cpos.line)=true:=by rfl)
  (hsw:swapsWith (.Call (.Attribute (.Name x p1) "reverse" apos) [] [] cpos) none pos.line X.env=pure false:=by rfl) :
  PS X (.Expr (.Call (.Attribute (.Name x p1) "reverse" apos) [] [] cpos) pos) (i0 X.K Y (iP i)):=by
 refine PS.imp (gA (AD Mh PySem.F.slot_list_reverse PySem.F.type_list_reverse vU (dg hN hv hd hcd) hbase hline) hsw) λ E σ H hq=>ex7 hq λ H0 B0 B τ P I h=>?_;unfold iP at h;cases z:c5 τ i with
 |none=>rw[z]at h;exact h.elim
 | some xs =>
  rw[z]at h;have hi:=fO z;obtain⟨a,vs,ea,ha,hl⟩:=I.listAt hi;refine⟨.ref a,ea,.inl ⟨rfl,vs,c8.of ha⟩,a,vs,rfl,rfl,ha,?_⟩;obtain⟨P',I'⟩:=I.Ba (xs':=xs.reverse) (vs':=vs.reverse) (gp:=[]) hi ea fL.nil (λ f _ rl=>let ⟨g,h1,h2⟩:=rl.reverse;⟨g,h1,λ b m=>.inl (h2.mem_iff.mpr m),λ nf _=>h2.nodup_iff.mp nf⟩) ha;exact h B _ σ P' I'
structure DR (K:PySem.W.Frag)(J:It)(ds:List D)(B H:Hp):Prop where
 go:∀ B' H' i d,au B B'->au B' H'->jP H H'->ds[i]?=some d->J.go i H'
 vM:∀ B' H' i d x H'',au B B'->au B' H'->jP H H'->ds[i]?=some d->J.vM i H' x H''->au H' H''/\Rep K B' No H'' d x []
 stop:∀ B' H',au B B'->au B' H'->jP H H'->J.stop ds.length H'
def E6 (K:PySem.W.Frag)(J:It)(ds:List D)(fl:Bool)(B H:Hp)(P fp:List Addr):Prop:=
 ∀ Bx:Hp,au B Bx->au Bx H->(∀ a∈fp,∀ o,H a=some o->Bx a=some o)->(fl=true->∀ a∈P,∀ o,H a=some o->Bx a=some o)->DR K J (aE ds) Bx H
def Aj (K:PySem.W.Frag)(Y:XY)(f:SD->Res (Bool×List D)):TI:=λ σ H R=>∃ H0 B0 B τ P F,SI K H0 B0 B H σ τ P F/\match f τ with
 |.ok (fl,ds)=>∀ J H' B' fp,SI K H0 B0 B' H' σ τ P F->au H H'->au B B'->fL H0 B' H' P F fp->E6 K J ds fl B' H' P fp->R J H'
 |.fT C=>lh K Y H0 B0 B H σ τ P F C
 |.bad=>False
def PI.imp {it:Expr}{t t':TI}(h:PI X tg it t)(hi:∀ σ H R,t' σ H R->t σ H R):PI X tg it t':=λ pins s σ H R I hw=>h pins s σ H R I (hi σ H R hw)
def br:D->Res (Bool×List D)
 |.lst t xs=>.ok ((D.lst t xs).aw,xs)
 |.tup xs=>.ok ((D.tup xs).aw,xs)
 |_=>.bad
def eN (f:SD->Res D)(τ:SD):Res (Bool×List D):=(f τ).bind br
def Bc{tl:TE}(hl:PE X l tl):PI X tg l (λ σ H R=>tl σ H λ x H1=>(∃ a,x=.ref a/\(∃ xs,c8 X.K H1 a xs)/\R (JI X.K a) H1)\/∃ a,x=.ref a/\(∃ xs,iZ X.K H1 a xs)/\R (JJ X.K a) H1):=by
 intro pins s σ H R I h;refine dM (hl pins s σ H _ I h) λ v s1 hq5=>L2.ex5 hq5 λ x H1 I1 r1 q1=>?_;rcases q1 with ⟨a,e,⟨xs,hq⟩,q⟩|⟨a,e,⟨xs,hq⟩,q⟩
 ·subst e;cases r1;obtain⟨its,rv,p,hz⟩:=I1.list hq;refine O3 p.isList ?_;refine⟨s1.heap.objs.size,[s1.heap.objs.size],_,_,H1,rfl,I1.kept (t':=s1.toks) λ b o e=>Lb _ e,yU a _,⟨_,Lj _ rfl,rfl,rfl⟩,λ b hb=>?_,q⟩;have e:b=s1.heap.objs.size:=by simpa using hb
  subst e;exact I1.qm (Ll _) (I1.hok.fresh (Ll _))
 ·subst e;cases r1;obtain⟨its,rv,p,hz⟩:=I1.tuple hq;refine NY (show s1.heap.IsTuple a its.toArray from p) ?_;refine⟨s1.heap.objs.size,[s1.heap.objs.size],_,_,H1,rfl,I1.kept (t':=s1.toks) λ b o e=>Lb _ e,vN a _,⟨_,Lj _ rfl,rfl,rfl⟩,λ b hb=>?_,q⟩;have e:b=s1.heap.objs.size:=by simpa using hb
  subst e;exact I1.qm (Ll _) (I1.hok.fresh (Ll _))
def SI.IC(I:SI K H0 B0 B H σ τ P F)(k:fL H0 B H P F fp):SI K H0 B0 (atRest B H (· ∈ fp)) H σ τ P F/\au B (atRest B H (· ∈ fp)):=by
 have sB:au B (atRest B H (· ∈ fp)):=dX I.bh;refine⟨⟨jd I.bh,I.h0,I.b0.trans sB,λ a n=>?_,I.rep.mono (au.refl _) sB,I.nd,λ a m=>?_,λ a m=>?_⟩,sB⟩
 ·by_cases m:a∈fp
  ·exact .inr (k.own a m).2.1
  ·rw[fZ m]at n;exact I.nb a n
 ·obtain⟨a1,a2,a3⟩:=I.own a m;exact⟨by rw[fZ λ z=>(k.own a z).2.2.2.1 m];exact a1,a2,a3⟩
 ·obtain⟨a1,a2⟩:=I.fr a m;exact⟨by rw[fZ λ z=>(k.own a z).2.2.2.2 m];exact a1,a2⟩
mutual
def Rep.stay {B B' H H':Hp}(sB:au B B')(im:jP H H'):∀ {d:D}{v:V}{fp:List Addr},fp=[]->Rep K B No H d v fp->Rep K B' No H' d v fp
 |.bg,_,_,_,h=>h
 |.bl _,_,_,_,h=>h
 |.int _,_,_,_,h=>h
 |.str _,_,_,_,h=>h
 |.exc _,_,_,_,h=>let ⟨⟨a,e,t,tb,u,h1⟩,r⟩:=h;⟨⟨a,e,t,tb,u,im _ _ h1 (λ x=>x)⟩,r⟩
 | .tup xs,v,fp,ef,h=>by
  obtain⟨a,vs,e,q,r⟩:=h;exact⟨a,vs,e,im _ _ q (λ x=>x),ai.stay sB im ef r⟩
 |.lst .own xs,v,fp,ef,h=>by obtain⟨a,vs,f,e,q,r,z⟩:=h;rw[ef]at z;cases z
 |.lst .bor xs,v,fp,ef,h=>let ⟨a,vs,e,q,r,z⟩:=h;⟨a,vs,e,.inr (dH sB (q.resolve_left λ y=>y.1)),ai.stay sB im rfl r,z⟩
 |.lst .aq xs,v,fp,ef,h=>let ⟨a,vs,e,q,r,z⟩:=h;⟨a,vs,e,dH sB q,ai.stay sB im rfl r,z⟩
 |.lst (.len _) _,_,_,_,h=>h.elim
 |.dct (.len a) kd ks xs,v,fp,ef,h=>by obtain⟨vs,f,e,q,r,z⟩:=h;rw[ef]at z;cases z
 |.dct .own kd ks xs,v,fp,ef,h=>by obtain⟨a,vs,f,e,q,r,z⟩:=h;rw[ef]at z;cases z
 |.dct .bor kd ks xs,v,fp,ef,h=>let ⟨a,vs,e,q,r,z⟩:=h;⟨a,vs,e,.inr ((q.resolve_left λ y=>y.1).mono sB),ai.stay sB im rfl r,z⟩
 |.dct .aq kd ks xs,v,fp,ef,h=>let ⟨a,vs,e,q,r,z⟩:=h;⟨a,vs,e,q.mono sB,ai.stay sB im rfl r,z⟩
def ai.stay {B B' H H':Hp}(sB:au B B')(im:jP H H'):∀ {ds:List D}{vs:List V}{fp:List Addr},fp=[]->ai K B No H ds vs fp->ai K B' No H' ds vs fp
 |[],_,_,_,h=>h
 | d::ds,vs,fp,ef,h=>by
  obtain⟨v,r,f,g,e,h1,h2,z⟩:=h;rw[ef]at z;obtain⟨z1,z2⟩:=kQ z;exact⟨v,r,f,g,e,Rep.stay sB im z1 h1,ai.stay sB im z2 h2,by rw[ef,z1,z2];rfl⟩
end
def lR(h:List.Sublist f []):f=[]:=List.sublist_nil.mp h
def Bh(q:c8 K B a vs)(r:ai K B No H ds vs []):DR K (JI K a) ds B H where
 go:=λ B' H' i d s1 s2 im e=>by
  obtain⟨v,f,h1,_⟩:=r.get e;exact⟨vs,v,fC (dH (s1.trans s2) q),h1⟩
 vM:=λ B' H' i d x H'' s1 s2 im e y=>by
  obtain⟨rfl,y⟩:=y;obtain⟨v,f,h1,h2,h3⟩:=r.get e;have z:=y vs (fC (dH (s1.trans s2) q));rw[h1]at z;cases z;cases lR h3;exact⟨au.refl _,h2.stay s1 im rfl⟩
 stop:=λ B' H' s1 s2 im=>⟨vs,fC (dH (s1.trans s2) q),by rw[r.length];exact Ll _⟩
def lT(im:jP H H')(q:iZ K H a vs):iZ K H' a vs:=by
 rcases q with (q|⟨o,q⟩)|q
 ·exact .inl (.inl (im _ _ q (λ x=>x)))
 ·exact .inl (.inr ⟨o,im _ _ q (λ x=>x)⟩)
 ·exact .inr q
def DS(q:iZ K H a vs)(r:ai K B No H ds vs []):DR K (JJ K a) ds B H where
 go:=λ B' H' i d s1 s2 im e=>by
  obtain⟨v,f,h1,_⟩:=r.get e;exact⟨vs,v,lT im q,h1⟩
 vM:=λ B' H' i d x H'' s1 s2 im e y=>by
  obtain⟨rfl,y⟩:=y;obtain⟨v,f,h1,h2,h3⟩:=r.get e;have z:=y vs (lT im q);rw[h1]at z;cases z;cases lR h3;exact⟨au.refl _,h2.stay s1 im rfl⟩
 stop:=λ B' H' s1 s2 im=>⟨vs,lT im q,by rw[r.length];exact Ll _⟩
def zp {lo:Int}:DR K (Jm lo n) ((List.range n).map λ k:Nat=>D.int (lo+k)) B H where
 go:=λ B' H' i d s1 s2 im e=>by
  have:=(Lh.mp e).1;show i<n;simpa using this
 vM:=λ B' H' i d x H'' s1 s2 im e y=>by
  obtain⟨rfl,rfl⟩:=y;have hi:=(Lh.mp e).1;rw[Lc,LU]at hi;rw[LG,Ml hi]at e;cases e;exact⟨au.refl _,rfl,rfl⟩
 stop:=λ B' H' s1 s2 im=>by
  show n<=_;rw[Lc,LU];exact Ll _
def ia {Bx:Hp}(r:Rep K B (· ∈ P) H d v fp)(sB:au B Bx)(h1:∀ a∈fp,∀ o,H a=some o->Bx a=some o)(h2:d.aw=true->∀ a∈P,∀ o,H a=some o->Bx a=some o):Rep K Bx No H d.aq v []:=by
 by_cases hb:d.aw=true
 ·exact r.aq sB (λ a o s h=>h2 hb a s o h) h1
 ·exact(r.gy (by simpa using hb)).aq sB (λ a o s=>s.elim) h1
def eU(he:PE X e (tM X.K Y fe)):PI X tg e (Aj X.K Y (eN fe)):=by
 refine PI.imp (Bc he) λ σ H R hq=>ex8 hq λ H0 B0 B τ P F I h=>⟨H0,B0,B,τ,P,F,I,?_⟩;cases z:fe τ with
 |fT C=>simp only[eN,z,Res.iJ]at h;exact h|bad=>simp only[eN,z,Res.iI]at h
 | ok d =>
  simp only[eN,z,Res.aH]at h;intro v H1 B1 fp I1 s1 b1 r1 k1;cases d with
  | lst t xs =>
   simp only[br]at h;obtain⟨a,vs,g,rfl,q,_⟩:=r1.lst I1;refine .inl ⟨a,rfl,⟨vs,fC q⟩,h _ H1 _ fp I1 s1 b1 k1 λ Bx sB sH h1 h2=>?_⟩;obtain⟨a',ws,ea,q',rl,_⟩:Rep X.K Bx No H1 (D.lst .aq (aE xs)) (.ref a) []:=ia r1 sB h1 h2;cases ea;exact Bh q' rl
  | tup xs =>
   simp only[br]at h;obtain⟨a,vs,rfl,q,_⟩:=r1.tp;refine .inr ⟨a,rfl,⟨vs,q⟩,h _ H1 _ fp I1 s1 b1 k1 λ Bx sB sH h1 h2=>?_⟩;obtain⟨a',ws,ea,q',rl⟩:Rep X.K Bx No H1 (D.tup (aE xs)) (.ref a) []:=ia r1 sB h1 h2;cases ea;exact DS (iZ.of q') rl
  |_=>exact h.elim
def a8 (f:Nat->Int)(l:List Nat):aE (l.map λ k=>D.int (f k))=l.map λ k=>D.int (f k):=by
 induction l with
 |nil=>rfl|cons a r ih=>rw[LA,aE,ih];rfl
def kq:List D->Res (Bool×List D)
 |[.int j]=>if -1000000000<=j/\j<=1000000000 then .ok (false,(List.range j.toNat).map λ k:Nat=>.int (0+k)) else .bad
 |_=>.bad
def bE (f:SD->Res (List D))(τ:SD):Res (Bool×List D):=(f τ).bind kq
def Bj {fs:SD->Res (List D)}{R:It->Hp->Prop}:Aj X.K Y (bE fs) σ H R->EO (oB X.K Y fs) σ H R:=by
 rintro⟨H0,B0,B,τ,P,F,I,h⟩;refine⟨H0,B0,B,τ,P,F,I,?_⟩;cases z:fs τ with
 |fT C=>simp only[bE,z,Res.iJ]at h;exact h|bad=>simp only[bE,z,Res.iI]at h
 | ok ds =>
  simp only[bE,z,Res.aH]at h;intro vs H1 B1 fp I1 s1 b1 r1 k1;cases y:kq ds with
  |fT C=>exfalso;unfold kq at y;split at y<;>first|(split at y<;>cases y)|cases y
  |bad=>rw[y]at h;exact h.elim
  | ok es =>
   rw[y]at h;unfold kq at y;split at y
   ·split at y
    ·rename_i hc;cases y;obtain⟨v,rfl,rfl,rfl⟩:=jO r1;exact⟨_,rfl,(by omega),(by omega),h _ H1 B1 [] I1 s1 b1 fL.nil λ Bx _ _ _ _=>by rw[a8];exact zp⟩
    ·cases y
   ·cases y
def gK {a:Expr}{fs:SD->Res (List D)}(hg:Gl X "range")(hm:X.mg "range" = none)(ha:PA X [a] (oB X.K Y fs))(hs:starEach [a] X.env=[(false,eval a X.env)]:=by rfl):PI X tg (.Call (.Name "range" p) [a] [] pos) (Aj X.K Y (bE fs)):=
 PI.imp (yO hg hm ha hs) λ σ H R h=>Bj h
def cI (xs:List D):List D:=xs.mapIdx λ i d=>.tup [.int i,d]
def cY (f:SD->Res (List D))(τ:SD):Res (Bool×List D):=(f τ).bind λ ds=>match ds with|[d]=>(br d).map λ p=>(p.1,cI p.2)|_=>.bad
def uT (xs:List D):∀ (f:Nat->Nat),aE (xs.mapIdx λ i d=>D.tup [.int (f i),d])=(aE xs).mapIdx λ i d=>D.tup [.int (f i),d]:=by
 induction xs with
 |nil=>intro f;rfl
 | cons a r ih =>
  intro f;rw[List.mapIdx_cons,aE,aE,List.mapIdx_cons];exact MG _ (ih λ i=>f (i+1))
def ku (xs:List D):aE (cI xs)=cI (aE xs):=uT xs id
def uS {src:Hp->List V->Prop}(r:ai K B No H ds vs [])(q:∀ B' H':Hp,au B B'->au B' H'->jP H H'->src H' vs):DR K (Jr src) (cI ds) B H where
 go:=λ B' H' i d s1 s2 im e=>by
  have hi:=(Lh.mp e).1;unfold cI at hi;rw[OP,r.length]at hi;exact⟨vs,vs[i],q B' H' s1 s2 im,Lg hi⟩
 vM:=λ B' H' i d x H'' s1 s2 im e y=>by
  obtain⟨p,w,rfl,hp,rfl,hy⟩:=y;have hi:=(Lh.mp e).1;unfold cI at hi e;rw[OP]at hi;rw[List.getElem?_mapIdx,Lg hi]at e;cases e;have z:=hy vs (q B' H' s1 s2 im);obtain⟨v,f,h1,h2,h3⟩:=r.get (Lg hi);rw[z]at h1;cases h1;cases lR h3;have s:=dm (o:=.tup [.int i,w]) hp;exact⟨s,p,[.int i,w],rfl,aI,.int i,[w],[],[],rfl,⟨rfl,rfl⟩,ai.one ((h2.stay s1 im rfl).mono s (au.refl _) (λ _ x=>x)),rfl⟩
 stop:=λ B' H' s1 s2 im=>⟨vs,q B' H' s1 s2 im,by unfold cI;rw[OP,r.length];exact Ll _⟩
def Be {elts:List Expr}{x1:Nat}{tp:Pos}{ta:TA}(hg:Gl X "enumerate")(hm:X.mg "enumerate" = none)(ha:PA X [l] ta)(hs:starEach [l] X.env=[(false,eval l X.env)]:=by rfl) :
  PI X (.Tuple elts x1 tp) (.Call (.Name "enumerate" p) [l] [] pos) (λ σ H R=>ta σ H λ vs H1=>(∃ a xs,vs=[.ref a]/\c8 X.K H1 a xs/\R (Jr λ H xs=>c8 X.K H a xs) H1)\/∃ a xs,vs=[.ref a]/\iZ X.K H1 a xs/\R (Jr λ H xs=>iZ X.K H a xs) H1):=by
 intro pins s σ H R I h;refine MF (i7 I hg hm (by decide +kernel:bootBuiltins "enumerate" = some (.type "enumerate")) ?_);refine Mz (dM (ha pos pins s σ H _ I h) λ us s1 hq5=>L2.ex5 hq5 λ vs H1 I1 r1 q1=>?_) hs rfl;rcases q1 with ⟨a,xs,rfl,hq,q⟩|⟨a,xs,rfl,hq,q⟩
 ·obtain⟨u,rfl,ru⟩:=vals1 r1;cases ru;obtain⟨its,rv,pl,hz⟩:=I1.list hq;refine call_enumerate_list pl.isList λ h' e1 e2 e3 e4=>O2 e1 ?_;have I2:Inv X pins σ H1 { s1 with heap:=h' }:=I1.kept (t':=s1.toks) e4;obtain⟨o,c1,c2,c3⟩:=e2;refine⟨_,_,_,_,H1,rfl,I2,qQ (src_list a s1.heap.objs.size) (Nat.succ_ne_self _),⟨⟨_,e1⟩,o,c1,c2,c3⟩,λ b hb=>?_,q⟩;rcases Ln.mp hb with z|z
  ·subst z;exact I1.qm (Nc _) (I1.hok.fresh (Nc _))
  ·have z:b=s1.heap.objs.size:=by simpa using z
   subst z;exact I1.qm (Ll _) (I1.hok.fresh (Ll _))
 ·obtain⟨u,rfl,ru⟩:=vals1 r1;cases ru;obtain⟨its,rv,pl,hz⟩:=I1.tuple hq;refine qr (fN pl) λ h' e1 e2 e4=>O2 e1 ?_;have I2:Inv X pins σ H1 { s1 with heap:=h' }:=I1.kept (t':=s1.toks) e4;obtain⟨o,c1,c2,c3⟩:=e2;refine⟨_,_,_,_,H1,rfl,I2,qQ (DM a s1.heap.objs.size) (Nat.succ_ne_self _),⟨⟨_,e1⟩,o,c1,c2,c3⟩,λ b hb=>?_,q⟩;rcases Ln.mp hb with z|z
  ·subst z;exact I1.qm (Nc _) (I1.hok.fresh (Nc _))
  ·have z:b=s1.heap.objs.size:=by simpa using z
   subst z;exact I1.qm (Ll _) (I1.hok.fresh (Ll _))
def xK {elts:List Expr}{x1:Nat}{tp:Pos}{fs:SD->Res (List D)}(hg:Gl X "enumerate")(hm:X.mg "enumerate" = none)(ha:PA X [l] (oB X.K Y fs))(hs:starEach [l] X.env=[(false,eval l X.env)]:=by rfl) :
  PI X (.Tuple elts x1 tp) (.Call (.Name "enumerate" p) [l] [] pos) (Aj X.K Y (cY fs)):=by
 refine PI.imp (Be hg hm ha hs) λ σ H R hq=>ex8 hq λ H0 B0 B τ P F I h=>⟨H0,B0,B,τ,P,F,I,?_⟩;cases z:fs τ with
 |fT C=>simp only[cY,z,Res.iJ]at h;exact h|bad=>simp only[cY,z,Res.iI]at h
 | ok ds =>
  simp only[cY,z,Res.aH]at h;intro vs H1 B1 fp I1 s1 b1 r1 k1
  match ds,r1,h with
  | [d],r1,h =>
   obtain⟨v,rfl,r1'⟩:=jO r1;simp only at h;cases d with
   | lst t xs =>
    simp only[br,Res.AY]at h;obtain⟨a,vs,g,rfl,q,_⟩:=r1'.lst I1;refine .inl ⟨a,vs,rfl,fC q,h _ H1 _ fp I1 s1 b1 k1 λ Bx sB sH h1 h2=>?_⟩;obtain⟨a',ws,ea,q',rl,_⟩:Rep X.K Bx No H1 (D.lst .aq (aE xs)) (.ref a) []:=ia r1' sB h1 h2;cases ea;rw[ku];exact uS rl λ B' H' z1 z2 _=>fC (dH (z1.trans z2) q')
   | tup xs =>
    simp only[br,Res.AY]at h;obtain⟨a,vs,rfl,q,_⟩:=r1'.tp;refine .inr ⟨a,vs,rfl,q,h _ H1 _ fp I1 s1 b1 k1 λ Bx sB sH h1 h2=>?_⟩;obtain⟨a',ws,ea,q',rl⟩:Rep X.K Bx No H1 (D.tup (aE xs)) (.ref a) []:=ia r1' sB h1 h2;cases ea;rw[ku];exact uS rl λ B' H' z1 z2 im=>lT im (iZ.of q')
   |_=>exact h.elim
  |[],r1,h=>exact h.elim|_::_::_,r1,h=>exact h.elim
abbrev uq:=D->SD->Option SD
def DU (K:PySem.W.Frag)(g:uq):TG:=λ v σ H Q=>∃ H0 B0 B τ P F d fp,SI K H0 B0 B H σ τ P F/\Rep K B No H d v fp/\fL H0 B H P F fp/\match g d τ with
 |some τ'=>∀ H' σ' P',SI K H0 B0 B H' σ' τ' P' F->H'=H->Q σ' H'
 |none=>False
def gN (i:Nat)(d:D)(τ:SD):Option SD:=some (τ.set i (some d))
def PG.imp{t t':TG}(h:PG X tg t)(hi:∀ v σ H Q,t' v σ H Q->t v σ H Q):PG X tg t':=λ pins s σ H v u Q I r hw=>h pins s σ H v u Q I r (hi v σ H Q hw)
def Gj(hN:X.N.Nodup)(hi:X.N[i]?=some x)(hx:Loc X.env.scope x)(hf:X.fn x=true\/X.env.scope.names.lookup x=some .local:=by first|exact .inl rfl|exact .inr rfl):PG X (.Name x pos) (DU X.K (gN i)):=
 PG.imp (r6 hN hi hx hf) λ v σ H Q hq=>ex12 hq λ H0 B0 B τ P F d fp I r k h=>by
  obtain⟨P',I',_⟩:=I.set i r k;exact h H _ P' I' rfl
abbrev Bg:=List D->SD->Option SD
def DT (K:PySem.W.Frag)(g:Bg):C7:=λ vs σ H Q=>∃ H0 B0 B τ P F ds fp,SI K H0 B0 B H σ τ P F/\ai K B No H ds vs fp/\fL H0 B H P F fp/\match g ds τ with
 |some τ'=>∀ H' σ' P',SI K H0 B0 B H' σ' τ' P' F->H'=H->Q σ' H'
 |none=>False
def cJ (ds:List D)(τ:SD):Option SD:=match ds with|[]=>some τ|_=>none
def aM (i:Nat)(g:Bg)(ds:List D)(τ:SD):Option SD:=match ds with|d::r=>g r (τ.set i (some d))|[]=>none
def yW.imp {tgs:List Expr}{t t':C7}(h:yW X tgs t)(hi:∀ v σ H Q,t' v σ H Q->t v σ H Q):yW X tgs t':=λ pins s σ H v u Q I r hw=>h pins s σ H v u Q I r (hi v σ H Q hw)
def pC:yW X [] (DT X.K cJ):=yW.imp Dc λ vs σ H Q hq=>ex12 hq λ H0 B0 B τ P F ds fp I r k h=>by
 cases ds with
 |nil=>exact⟨r.1,h H σ P I rfl⟩| cons d ds=>exact h.elim
def fU{g:Bg}(hN:X.N.Nodup)(hi:X.N[i]?=some x)(hx:Loc X.env.scope x)(h2:yW X es (DT X.K g))(hf:X.fn x=true\/X.env.scope.names.lookup x=some .local:=by first|exact .inl rfl|exact .inr rfl)
  (hs:(assignEach (.Name x pos::es) X.env).map (·.2)=assign (.Name x pos) X.env::(assignEach es X.env).map (·.2):=by rfl):yW X (.Name x pos::es) (DT X.K (aM i g)):=
 yW.imp (An (r6 hN hi hx hf) h2 hs) λ vs σ H Q hq=>ex12 hq λ H0 B0 B τ P F ds fp I r k h=>by
  cases ds with
  |nil=>exact h.elim
  | cons d ds =>
   obtain⟨v,w,f1,f2,rfl,r1,r2,rfl⟩:=r;obtain⟨P',I',s'⟩:=I.set i r1 k.left;refine⟨v,w,rfl,H0,B0,B,_,P',F,ds,f2,I',r2,⟨k.right.nd,λ a m=>?_⟩,h⟩;obtain⟨a1,a2,a3,a4,a5⟩:=k.right.own a m;refine⟨a1,a2,a3,λ z=>?_,a5⟩;rcases s' a z with y|y
   ·exact a4 y
   ·exact(Lp.mp k.nd).2.2 a y a m rfl
def gT (n:Nat)(g:Bg)(d:D)(τ:SD):Option SD:=match d with|.tup ds=>if ds.length=n then g ds τ else none|_=>none
def uU{k:Nat}{g:Bg}(hc:X.calm=true)(h:yW X es (DT X.K g))
  (hn:(assignEach es X.env).length=n:=by rfl) (hst:(assignEach es X.env).findIdx? (·.1)=none:=by rfl):PG X (.Tuple es k pos) (DU X.K (gT n g)):=
 PG.imp (Fx hc h hn hst) λ v σ H Q hq=>ex12 hq λ H0 B0 B τ P F d fp I r k h=>by
  cases d with
  | tup ds =>
   obtain⟨a,vs,rfl,q,rl⟩:=r;unfold gT at h;by_cases hl:ds.length=n
   ·simp only[hl,Nh]at h;exact⟨a,vs,rfl,iZ.of q,by rw[<-rl.length];exact hl,H0,B0,B,τ,P,F,ds,fp,I,rl,k,h⟩
   ·simp only[hl,Nx]at h
  |_=>exact h.elim
def bF (tg:uq)(body:SF):List D->SF
 |[],τ=>.nx τ
 | d::r,τ=>match tg d τ with
  |none=>.bad
  | some τ'=>match body τ' with
   |.nx t=>bF tg body r t
   |.ct t=>bF tg body r t
   |.bk t=>.nx t
   |o=>o
def bU (js:List Nat)(it:SD->Res (Bool×List D))(tg:uq)(body:SF)(τ:SD):Fl:=match it (ck js τ) with
 |.ok (false,ds)=>bF tg body (aE ds) (ck js τ)
 |.ok (true,_)=>.bad
 |.fT C=>.ex C (ck js τ)
 |.bad=>.bad
def f6 (js:List Nat){iter:Expr}{body:List Stmt}{tgd:uq}{g:SF}(hp:PassesOwn (model X.prog X.w) X.A X.env X.xe)(hc:X.calm=true)(hi:PI X tg iter (Aj X.K Y it))(hg:PG X tg (DU X.K tgd))(hb:kg X body (i0 X.K Y g))
  (hs:∀ x,foldedSetIterable iter X.env x=pure x:=by intro _;rfl):PS X (.For tg iter body [] pos) (i0 X.K Y (bU js it tgd g)):=by
 refine PS.imp (Au hp hc hi hg hb hs) λ E σ H hq=>ex7 hq λ H0 B0 B τ P I h=>?_;obtain⟨Bf,Pf,sf,If⟩:=I.ck js;have h:cj X.K Y H0 B0 Bf H E (bU js it tgd g τ):=cj.later h (jo.grow If sf (au.refl _));unfold bU at h;refine⟨H0,B0,Bf,_,Pf,No,If,?_⟩;cases z:it (ck js τ) with
 |fT C=>rw[z]at h;exact λ H1 B1 I1 s1 b1=>h B1 H1 σ Pf (jo.grow I1 b1 s1)
 |bad=>rw[z]at h;exact h.elim
 | ok q =>
  obtain⟨fl,ds0⟩:=q;rw[z]at h;intro J H1 B1' fp I1' s1 b1' k1 JA;cases fl with
  |true=>exact h.elim|false=>
  obtain⟨I1,b2⟩:=I1'.IC k1;have b1:=b1'.trans b2;have J1:=JA _ b2 (jd I1'.bh) (λ a m o h=>gE m h) (λ z=>Bool.noConfusion z);generalize atRest B1' H1 (· ∈ fp)=B1 at I1 b1 J1;have h:cj X.K Y H0 B0 Bf H E (bF tgd g (aE ds0) (ck js τ)):=h;generalize aE ds0=ds at h J1;have h:cj X.K Y H0 B0 B1 H1 E (bF tgd g ds (ck js τ)):=cj.later h (jo.grow I1 b1 s1);refine⟨λ i m σ' H'=>m=ds.length-i/\i<=ds.length/\∃ B' τ' P',jo X.K H0 B0 B1 H1 B' H' σ' τ' P'/\cj X.K Y H0 B0 B' H' E (bF tgd g (ds.drop i) τ'),⟨_,rfl,Mk _,B1,_,Pf,jo.refl I1,h⟩,?_⟩;rintro i m σ' H' ⟨rfl,hle,B',τ',P',a,gl⟩;by_cases hlt:i<ds.length
  ·obtain⟨d,hd⟩:∃ d,ds[i]?=some d:=⟨ds[i],Lg hlt⟩;have hdrop:ds.drop i=d::ds.drop (i+1):=by
    rw[Nj hlt]
    congr 1
    rw[Lg hlt]at hd;exact L5 hd
   rw[hdrop]at gl;unfold bF at gl;refine .inr ⟨J1.go B' H' i d a.b a.si.bh a.v9 hd,λ σ2 H2=>∃ B2 τ2 P2,jo X.K H0 B0 B1 H1 B2 H2 σ2 τ2 P2/\cj X.K Y H0 B0 B2 H2 E (bF tgd g (ds.drop (i+1)) τ2),λ σ2 H2 w=>⟨_,by omega,rfl,hlt,w⟩,λ x H'' y=>?_⟩;obtain⟨sy,ry⟩:=J1.vM B' H' i d x H'' a.b a.si.bh a.v9 hd y;have Iy:=a.si.grow sy;refine⟨H0,B0,B',τ',P',No,d,[],Iy,ry,fL.nil,?_⟩;cases w:tgd d τ' with
   |none=>rw[w]at gl;exact gl.elim
   | some τ2 =>
    rw[w]at gl;intro H3 σ3 P3 I3 e3;subst e3;have ay:jo X.K H0 B0 B' H' B' H3 σ3 τ2 P3:=⟨I3,au.refl _,jP.of sy⟩;refine⟨H0,B0,B',τ2,P3,I3,?_⟩;cases u:g τ2 with
    | nx t =>
     simp only[u]at gl;exact λ B4 H4 σ4 P4 a4=>⟨B4,t,P4,(a.trans ay).trans a4,cj.later gl (ay.trans a4)⟩
    | ct t =>
     simp only[u]at gl;exact λ B4 H4 σ4 P4 a4=>⟨B4,t,P4,(a.trans ay).trans a4,cj.later gl (ay.trans a4)⟩
    | bk t =>
     simp only[u]at gl;exact λ B4 H4 σ4 P4 a4=>gl B4 H4 σ4 P4 (ay.trans a4)
    |rt d=>simp only[u]at gl;exact gl|ex C t=>simp only[u]at gl;exact λ B4 H4 σ4 P4 a4=>gl B4 H4 σ4 P4 (ay.trans a4)
    |bad=>simp only[u]at gl;exact gl
  ·have e:i=ds.length:=by omega
   subst e;rw[List.drop_length]at gl;exact .inl ⟨J1.stop B' H' a.b a.si.bh a.v9,gl B' H' σ' P' (jo.refl a.si)⟩
def bJ (c:SD->Res Bool)(body:SF):Nat->SF
 |0,_=>.bad
 | n+1,τ=>(c τ).pB τ λ b=>if b=true then (match body τ with
   |.nx t=>bJ c body n t
   |.ct t=>bJ c body n t
   |.bk t=>.nx t
   |o=>o) else .nx τ
def jR (c:SD->Res Bool)(body:SF)(τ:SD):Fl:=by classical exact if h:∃ n,bJ c body n τ ≠ .bad then bJ c body h.choose τ else .bad
def jQ {c:SD->Res Bool}{body:SF}:∀ {n:Nat}{τ:SD},bJ c body n τ ≠ .bad->bJ c body (n+1) τ=bJ c body n τ
 |0,_,h=>absurd rfl h
 | n+1,τ,h=>by
  rw[bJ]at h
  conv=>lhs;rw[bJ]
  conv=>rhs;rw[bJ]
  cases e:c τ with
  |fT C=>rfl|bad=>rfl
  | ok b =>
   rw[e]at h;cases b with
   |false=>rfl
   | true =>
    simp only[Res.pB,Nh]at h ⊢;cases u:body τ with
    |nx t=>simp only[u]at h ⊢;exact jQ h|ct t=>simp only[u]at h ⊢;exact jQ h|bk t=>rfl|rt d=>rfl|ex C t=>rfl|bad=>rfl
def qW {c:SD->Res Bool}{body:SF}(h:bJ c body n τ ≠ .bad):∀ {m:Nat},n<=m->bJ c body m τ=bJ c body n τ:=by
 intro m hm
 induction hm with
 |refl=>rfl|step hm ih=>rw[jQ (by rw[ih];exact h),ih]
def qX {c:SD->Res Bool}{body:SF}(h:bJ c body n τ ≠ .bad):jR c body τ=bJ c body n τ:=by
 have ex:∃ n,bJ c body n τ ≠ .bad:=⟨n,h⟩;unfold jR;rw[dif_pos ex];rcases Nat.le_total n ex.choose with q|q
 ·exact qW h q
 ·exact(qW ex.choose_spec q).symm
def xM {body:List Stmt}{g:SF}(hp:PassesOwn (model X.prog X.w) X.A X.env X.xe)(hc:PT X c (jE X.K Y gc))(hb:kg X body (i0 X.K Y g)):PS X (.While c body [] pos) (i0 X.K Y (jR gc g)):=by
 refine PS.imp (Ao hp hc hb) λ E σ H hq=>ex7 hq λ H0 B0 B τ P I h=>?_;obtain⟨n,hn⟩:∃ n,cj X.K Y H0 B0 B H E (bJ gc g n τ):=by
  unfold jR at h;split at h
  ·exact⟨_,h⟩
  ·exact h.elim
 refine⟨λ m σ' H'=>∃ B' τ' P',SI X.K H0 B0 B' H' σ' τ' P' No/\cj X.K Y H0 B0 B' H' E (bJ gc g m τ'),⟨n,B,τ,P,I,hn⟩,?_⟩;rintro m σ' H' ⟨B',τ',P',I',gl⟩;cases m with
 |zero=>exact gl.elim
 | succ m =>
  rw[bJ]at gl;refine E4 I' gl λ d H1 B1 _ I1 s1 b1 h1=>?_;cases d with
  |false=>rw[Lw Li]at h1 ⊢;exact h1 B1 H1 σ' P' (jo.refl I1)
  | true =>
   rw[Lr rfl]at h1 ⊢;refine⟨λ σ2 H2=>∃ B2 τ2 P2,SI X.K H0 B0 B2 H2 σ2 τ2 P2 No/\cj X.K Y H0 B0 B2 H2 E (bJ gc g m τ2),λ σ2 H2 w=>⟨m,Og _,w⟩,H0,B0,B1,τ',P',I1,?_⟩;cases u:g τ' with
   |nx t=>simp only[u]at h1;exact λ B4 H4 σ4 P4 a4=>⟨B4,t,P4,a4.si,cj.later h1 a4⟩
   |ct t=>simp only[u]at h1;exact λ B4 H4 σ4 P4 a4=>⟨B4,t,P4,a4.si,cj.later h1 a4⟩
   |bk t=>simp only[u]at h1;exact h1|rt d=>simp only[u]at h1;exact h1|ex C t=>simp only[u]at h1;exact h1|bad=>simp only[u]at h1;exact h1
end
variable {tgd:uq}
abbrev DF:=List D->Res D
variable {G:DF}
def kL (K:PySem.W.Frag)(G:DF):Sp:=λ vs H Q _=>∃ B0 ds,au B0 H/\ai K B0 No H ds vs []/\match G ds with
 |.ok d=>∀ B' H' v fp,nL K H B0 B' H' d v fp->Q v H'
 |.fT _=>False
 |.bad=>False
def Res.Ju (r:Res D):Res D:=match r with|.fT _=>.bad|r=>r
@[simp] theorem Res.Kl (d:D):(Res.ok d).Ju=.ok d:=rfl
def dQ (G:DF)(ds:List D):Res D:=if av ds=true then (G (aE ds)).Ju.map D.aP else (G (aE ds)).Ju
def aB (G:DF)(fs:SD->Res (List D))(τ:SD):Res D:=(fs τ).bind (dQ G)
section
variable {K:PySem.W.Frag}{fs:SD->Res (List D)}
def SI.called {S:Addr->Prop}{fq:List Addr}(I:SI K H0 B0 B H σ τ P F)(k:fL H0 B H P F fp)(hS:∀ a,S a->a∈P)(r:nL K H (atRest B H (λ a=>S a\/a∈fp)) B' H' d v fq) :
  ∃ B'',SI K H0 B0 B'' H' σ τ P F/\au B B''/\fL H0 B'' H' P F fq/\(∀ a o,B' a=some o->B'' a=some o\/(S a/\a∈P)):=by
 classical
 have sP:∀ a o,B a=some o->a∉P:=λ a o e m=>by
  have:=(I.own a m).1;rw[e]at this;cases this
 have up:∀ a,B' a≠none->B a≠none\/S a\/a∈fp\/H a=none:=λ a n=>by
  rcases r.nb a n with q|q
  ·by_cases hs:S a\/a∈fp
   ·exact .inr (hs.elim .inl λ z=>.inr (.inl z))
   ·rw[fZ hs]at q;exact .inl q
  ·exact .inr (.inr (.inr q))
 refine⟨λ a=>if a∈P then none else B' a,?_,λ a o e=>?_,⟨r.nd,λ a m=>?_⟩,λ a o e=>?_⟩
 ·have sB:au B (λ a=>if a∈P then none else B' a):=λ a o e=>by
   show(if a∈P then none else B' a)=some o;rw[Lw (sP a o e)];exact r.b0 a o (dX I.bh a o e)
  refine⟨λ a o e=>?_,I.h0.trans r.h0,I.b0.trans sB,λ a n=>?_,I.rep.mono r.h0 sB,I.nd,λ a m=>?_,λ a m=>?_⟩
  ·have e:(if a∈P then none else B' a)=some o:=e;split at e
   ·cases e
   ·exact r.bh a o e
  ·have n:(if a∈P then none else B' a)≠none:=n;split at n
   ·exact absurd rfl n
   ·rename_i hp;rcases up a n with q|q|q|q
    ·exact I.nb a q
    ·exact absurd (hS a q) hp
    ·exact .inr (k.own a q).2.1
    ·exact .inr (I.h0.free q)
  ·refine⟨?_,(I.own a m).2⟩;show(if a∈P then none else B' a)=none;rw[Lr m]
  ·obtain⟨a1,a2⟩:=I.fr a m;refine⟨?_,λ z=>a2 (r.h0.free z)⟩;show(if a∈P then none else B' a)=none;split
   ·rfl
   ·rename_i hp;cases e:B' a with
    |none=>rfl
    | some o =>
     exfalso;rcases up a (by rw[e];exact Mw _) with q|q|q|q
     ·exact q a1
     ·exact hp (hS a q)
     ·exact(k.own a q).2.2.2.2 m
     ·exact a2 q
 ·show(if a∈P then none else B' a)=some o;rw[Lw (sP a o e)];exact r.b0 a o (dX I.bh a o e)
 ·obtain⟨a1,a2,a3⟩:=r.own a m;obtain⟨n1,n2,n3,n4⟩:=I.xD a2;refine⟨?_,n2,a3,n3,n4⟩;show(if a∈P then none else B' a)=none;rw[Lw n3];exact a1
 ·by_cases hp:a∈P
  ·rcases up a (by rw[e];exact Mw _) with q|q|q|q
   ·obtain⟨o',e'⟩:=OO.mp q;exact absurd hp (sP a o' e')
   ·exact .inr ⟨q,hp⟩
   ·exact absurd hp (k.own a q).2.2.2.1
   ·exact absurd q (I.stands hp)
  ·left;show(if a∈P then none else B' a)=some o;rw[Lw hp];exact e
def IE {k:Nat}(C:mJ X.prog X.w X.K X.mg X.base k x ps (kL X.K G))(hr:fY k X.A)(hg:Gl X x)(ha:PA X (e::es) (oB X.K Y fs))(hdb:(x == ("__debug__" : Str))=false:=by decide)
  (he:starEach (e::es) X.env=(false,eval e X.env)::starEach es X.env:=by rfl) (hpl:(backTo pos (starEach es X.env)).any (·.1)=false:=by rfl):PE X (.Call (.Name x p) (e::es) [] pos) (tM X.K Y (aB G fs)):=by
 refine PE.imp (Gb C hr hg ha hdb he hpl) λ σ H Q hq=>ex8 hq λ H0 B0 B τ P F I h=>oB.seq I h λ ds vs H1 B1 fp _ I1 s1 b1 r1 k1 h1=>?_;rw[LZ];unfold dQ at h1;split at h1
 ·refine⟨atRest B1 H1 (λ a=>a∈P\/a∈fp),aE ds,jd I1.bh,r1.aq (dX I1.bh) (λ a o s h=>gE (.inl s) h) (λ a m o h=>gE (.inr m) h),?_⟩;cases z:G (aE ds) with
  |fT c=>rw[z]at h1;exact h1.elim|bad=>rw[z]at h1;exact h1.elim
  | ok d =>
   rw[z]at h1;intro B' H' v fq r;obtain⟨B2,I2,s2,k2,hb⟩:=I1.called k1 (S:=λ a=>a∈P) (λ a s=>s) r;exact h1 v H' B2 fq I2 r.h0 s2 (r.rep.aP r.bh λ a o e=>(hb a o e).imp id λ z=>z.2) k2
 ·rename_i hb;have hb:av ds=false:=by simpa using hb
  refine⟨atRest B1 H1 (λ a=>False\/a∈fp),aE ds,jd I1.bh,(r1.gy hb).aq (dX I1.bh) (λ a o s=>s.elim) (λ a m o h=>gE (.inr m) h),?_⟩;cases z:G (aE ds) with
  |fT c=>rw[z]at h1;exact h1.elim|bad=>rw[z]at h1;exact h1.elim
  | ok d =>
   rw[z]at h1;intro B' H' v fq r;obtain⟨B2,I2,s2,k2,hb⟩:=I1.called k1 (S:=λ _=>False) (λ a s=>s.elim) r;refine h1 v H' B2 fq I2 r.h0 s2 ?_ k2;have sb:au B' B2:=λ a o e=>(hb a o e).resolve_right λ z=>z.1;exact r.rep.mono (au.refl _) sb λ _ x=>x.elim
def Fl.out:Fl->Res D
 |.rt d=>.ok d
 |.nx _=>.ok .bg
 |.ex C _=>.fT C
 |_=>.bad
def cB (n N:Nat)(g:SF)(ds:List D):Res D:=if ds.length=n then (g (ds.map some++List.replicate (N-n) none)).out else .bad
def pD:∀ {ds:List D}{vs:List V} (m:Nat),ai K B No H ds vs []->cK K B H (ds.map some++List.replicate m none) (vs.map some++List.replicate m none) []
 | [],vs,m,r=>by
  obtain⟨rfl,_⟩:=r
  induction m with
  |zero=>exact⟨rfl,rfl⟩| succ m ih=>exact⟨none,_,rfl,ih⟩
 | d::ds,vs,m,r=>by
  obtain⟨v,w,f1,f2,rfl,r1,r2,z⟩:=r;obtain⟨rfl,rfl⟩:=kQ z;exact⟨v,_,[],[],rfl,r1,pD m r2,rfl⟩
def xN {P:Program}{k:Nat}{g:SF}{f:Addr}{fd:FuncData}(D:DE K x x st f fd)(S:aW N ps (aA st))
  (hbody:∀ (f:Addr) (cdv:Value) (A:Around) (outer:List Env) (s:Shared) (H:Hp),fY k (A.deeper (envOfC x (aA st) s.heap.objs.size f cdv)) ->
   kg (qk zd P w K mg base N x (aA st) f cdv A outer s H E0).EU (dW st) (i0 K xF g)):oQ P w K mg base zd (k+1) f fd ps (kL K (cB ps.length N.length g)):=by
 refine D.ok S (λ vs H Q E h=>?_) λ cdv A outer s H vs Q E hr h=>?_
 ·obtain⟨B0,ds,_,r,h⟩:=h;rw[<-r.length];unfold cB at h;by_cases hl:ds.length=ps.length
  ·exact hl
  ·rw[Lw hl]at h;exact h.elim
 ·obtain⟨B0,ds,sB,r,h⟩:=h;unfold cB at h;by_cases hl:ds.length=ps.length
  ·rw[Lr hl]at h;have e:L2.start N vs=vs.map some++List.replicate (N.length-ps.length) none:=by
    unfold L2.start;rw[<-r.length,hl]
   refine⟨_,hbody f cdv A outer s H hr,H,B0,B0,ds.map some++List.replicate (N.length-ps.length) none,[],⟨sB,au.refl _,au.refl _,λ a n=>.inl n,by rw[e];exact pD _ r,Mu,(λ a m=>by cases m),λ a m=>m.elim⟩,?_⟩;cases z:g (ds.map some++List.replicate (N.length-ps.length) none) with
   |rt d=>rw[z]at h;exact λ B' H' v fp q=>h B' H' v fp q
   | nx t =>
    rw[z]at h;intro B' H' σ' P' a;exact h B' H' .bg [] ⟨a.si.h0,a.si.b0,a.si.bh,a.si.nb,⟨rfl,rfl⟩,Mu,λ a m=>by cases m⟩
   |bk t=>rw[z]at h;exact h.elim|ct t=>rw[z]at h;exact h.elim|ex C t=>rw[z]at h;exact h.elim|bad=>rw[z]at h;exact h.elim
  ·rw[Lw hl]at h;exact h.elim
def Gk {P:Program}{k:Nat}{g:SF}(D:nI K mg x st ps)(S:aW N ps (aA st))
  (hbody:∀ (f:Addr) (cdv:Value) (A:Around) (outer:List Env) (s:Shared) (H:Hp),fY k (A.deeper (envOfC x (aA st) s.heap.objs.size f cdv)) ->
   kg (qk zd P w K mg base N x (aA st) f cdv A outer s H E0).EU (dW st) (i0 K xF g)):mJ P w K mg base (k+1) x ps (kL K (cB ps.length N.length g)):=by
 obtain⟨f,fd,F,hm,hb⟩:=D.ex;exact⟨f,fd,hm,F.kp,hb,xN F S hbody⟩
end
mutual
def D.cu:D->Bool
 |.tup xs=>bC xs
 |.lst t xs=>t.jN||bC xs
 |.dct t _ _ vs=>t.jN||bC vs
 |_=>false
def bC:List D->Bool
 |[]=>false
 |d::r=>d.cu||bC r
end
mutual
def uV:∀ d:D,d.pure=true->d.cu=false
 |.bg,_=>rfl|.bl _,_=>rfl|.int _,_=>rfl|.str _,_=>rfl|.exc _,_=>rfl|.tup xs,h=>jf xs h
 |.lst _ _,h=>by cases h
 |.dct _ _ _ _,h=>by cases h
def jf:∀ xs:List D,aJ xs=true->bC xs=false
 |[],_=>rfl
 | d::r,h=>by
  have h:(d.pure&&aJ r)=true:=h;rw[LW]at h;show(d.cu||bC r)=false;rw[uV d h.1,jf r h.2];rfl
end
section
variable {K:PySem.W.Frag}
mutual
def Rep.noOwn {B H:Hp}{S:Addr->Prop}:∀ {d:D}{v:V}{fp:List Addr},d.cu=false->Rep K B S H d v fp->fp=[]
 |.bg,_,_,_,h=>h.2
 |.bl _,_,_,_,h=>h.2
 |.int _,_,_,_,h=>h.2
 |.str _,_,_,_,h=>h.2
 |.exc _,_,_,_,h=>h.2
 |.tup xs,v,fp,p,h=>let ⟨a,vs,e,q,r⟩:=h;ai.noOwn (ds:=xs) p r
 |.lst .own xs,v,fp,p,h=>by simp[D.cu,Tg.jN]at p
 |.lst .bor xs,v,fp,p,h=>let ⟨a,vs,e,q,r,z⟩:=h;z
 |.lst .aq xs,v,fp,p,h=>let ⟨a,vs,e,q,r,z⟩:=h;z
 |.lst (.len _) _,_,_,_,h=>h.elim
 |.dct (.len a) kd ks xs,v,fp,p,h=>by simp[D.cu,Tg.jN]at p
 |.dct .own kd ks xs,v,fp,p,h=>by simp[D.cu,Tg.jN]at p
 |.dct .bor kd ks xs,v,fp,p,h=>let ⟨a,vs,e,q,r,z⟩:=h;z
 |.dct .aq kd ks xs,v,fp,p,h=>let ⟨a,vs,e,q,r,z⟩:=h;z
def ai.noOwn {B H:Hp}{S:Addr->Prop}:∀ {ds:List D}{vs:List V}{fp:List Addr},bC ds=false->ai K B S H ds vs fp->fp=[]
 |[],_,_,_,h=>h.2
 | d::ds,vs,fp,p,h=>by
  obtain⟨v,r,f,g,e,h1,h2,z⟩:=h;have p:(d.cu||bC ds)=false:=p;rw[MX]at p;rw[z,Rep.noOwn p.1 h1,ai.noOwn p.2 h2];rfl
end
def dR (τ:SD)(cap:List (Str×Nat)):SD:=cap.map λ p=>((τ[p.2]?).join).map D.aq
def cF (τ:SD)(cap:List (Str×Nat)):Bool:=cap.any λ p=>match (τ[p.2]?).join with|some d=>d.cu|none=>false
def fM (tg:uq)(tt:SD->Res Bool)(elt:SD->Res D):List D->SD->Res (List D)
 |[],_=>.ok []
 | d::r,τ=>match tg d τ with
  |none=>.bad
  |some τ'=>(tt τ').bind λ b=>if b=true then (elt τ').bind λ x=>if x.aw=true then .bad else (fM tg tt elt r τ').bind λ xs=>.ok (x::xs) else fM tg tt elt r τ'
def bw (it:SD->Res (Bool×List D))(tg:uq)(tt:SD->Res Bool)(elt:SD->Res D)(k:Nat)(cap:List (Str×Nat))(τ:SD):Res D:=(it τ).bind λ q=>
 match fM tg tt elt (aE q.2) (List.replicate k none++dR τ cap) with
 |.ok xs=>if xs.length<=16777216 then .ok (.lst .own (if (q.1||cF τ cap)=true then bA xs else xs)) else .bad
 |_=>.bad
def Bk {Bx:Hp}(I:SI K H0 B0 B H σ τ P F)(sB:au B Bx)(cap:List (Str×Nat))(hx:cF τ cap=true->∀ a∈P,∀ o,H a=some o->Bx a=some o):cK K Bx H (dR τ cap) (oZ σ cap) []:=by
 induction cap with
 |nil=>exact⟨rfl,rfl⟩
 | cons p r ih =>
  have ih:=ih λ z=>hx (by unfold cF at z ⊢;rw[Nb,z,Bool.or_true]);unfold dR oZ at ih ⊢;rw[LA,LA];cases e:(τ[p.2]?).join with
  |none=>exact⟨_,_,rfl,ih⟩
  | some d =>
   have e':τ[p.2]?=some (some d):=by
    cases z:τ[p.2]? with
    |none=>rw[z]at e;cases e|some o=>rw[z]at e;exact MG some e
   obtain⟨v,f,h1,h2,h3⟩:=I.rep.get e';refine⟨v,_,[],[],?_,?_,ih,rfl⟩
   ·rw[h1];rfl
   ·by_cases ho:d.cu=true
    ·have hc:cF τ (p::r)=true:=by
      unfold cF;rw[Nb,e];simp[ho]
     exact h2.aq sB (λ a o s=>s.elim) λ a m o h=>hx hc a (h3.subset m) o h
    ·have hf:=h2.noOwn (by simpa using ho);subst hf;exact h2.aq sB (λ a o s=>s.elim) λ a m=>by cases m
def qY {Bx:Hp}:∀ (k:Nat) {τ:SD}{σ:L2.St},cK K Bx H τ σ []->cK K Bx H (List.replicate k none++τ) (List.replicate k none++σ) []
 |0,_,_,h=>h
 |k+1,_,_,h=>⟨none,_,rfl,qY k h⟩
def SI.we{o':HO}(I:SI K H0 B0 B H σ τ P F')(hF:F' a)(hH0:H0 a=none)(ha:H a=some o)(mu:qt o):SI K H0 B0 B (upd H a o') σ τ P F':=by
 have kp:iK H (upd H a o') [a]:=⟨λ b u h n=>by rw[aG (by simpa using n)];exact h,λ b m=>by
  have:b=a:=by simpa using m
  subst this;exact⟨o,ha,mu⟩⟩
 have kr:∀ {τ:SD}{σ:L2.St}{P:List Addr},(∀ b∈P,b≠a)->cK K B H τ σ P->cK K B (upd H a o') τ σ P:=by
  intro τ
  induction τ with
  |nil=>intro σ P _ h;exact h
  | cons q r ih =>
   intro σ P hp h;cases q with
   |none=>obtain⟨x,t,e,h⟩:=h;exact⟨x,t,e,ih hp h⟩
   | some d =>
    obtain⟨v,t,f,g,e,h1,h2,z⟩:=h;subst z;exact⟨v,t,f,g,e,h1.keep kp λ b m=>by
     have:=hp b (Lu _ m);simpa using this,ih (λ b m=>hp b (Lx _ m)) h2,rfl⟩
 refine⟨λ b u e=>?_,λ b u e=>?_,I.b0,I.nb,kr (λ b m z=>(I.own b m).2.2 (z▸hF)) I.rep,I.nd,I.own,λ b m=>⟨(I.fr b m).1,?_⟩⟩
 ·rw[aG]
  ·exact I.bh b u e
  ·intro z;subst z;rw[(I.fr b hF).1]at e;cases e
 ·rw[aG]
  ·exact I.h0 b u e
  ·intro z;subst z;rw[hH0]at e;cases e
 ·by_cases z:b=a
  ·subst z;rw[aI];exact Mw _
  ·rw[aG z];exact(I.fr b m).2
def aH{r:Res α}{f:α->Res β}{b:β}(h:r.bind f=.ok b):∃ a,r=.ok a/\f a=.ok b:=by
 cases r with
 |ok a=>exact⟨a,rfl,h⟩| fT C=>cases h|bad=>cases h
def zr{k:Nat}{fl:Bool}{J:It}(I1:SI K H0 B0 B1 H1 σ τ P F)(k1:fL H0 B1 H1 P F fp)(JA:E6 K J ds fl B1 H1 P fp)
  (h:Goal K Y H0 B0 B1 H1 σ τ P F Q (match fM tgd tt elt (aE ds) (List.replicate k none++dR τ cap) with
   |.ok xs=>if xs.length<=16777216 then .ok (.lst .own (if (fl||cF τ cap)=true then bA xs else xs)) else .bad
   |_=>.bad)):qP (λ _ _ R=>R J H1) (DU K tgd) (jE K xF tt) (tM K xF elt) k cap σ H1 Q:=by
 intro acc hacc;cases zc:fM tgd tt elt (aE ds) (List.replicate k none++dR τ cap) with
 |fT C=>rw[zc]at h;exact h.elim|bad=>rw[zc]at h;exact h.elim
 | ok xs =>
  rw[zc]at h;simp only at h;by_cases hxl:xs.length<=16777216
  ·rw[Lr hxl]at h
   let S:Addr->Prop:=λ a=>(fl||cF τ cap)=true/\a∈P
   let Bx:Hp:=atRest B1 H1 (λ a=>S a\/a∈fp)
   have sBx:au B1 Bx:=dX I1.bh;have uBx:au Bx H1:=jd I1.bh;have J1:DR K J (aE ds) Bx H1:=JA Bx sBx uBx (λ a m o e=>gE (.inr m) e) (λ hf a m o e=>gE (.inl ⟨by rw[hf];rfl,m⟩) e);have c0:cK K Bx H1 (List.replicate k none++dR τ cap) (List.replicate k none++oZ σ cap) []:=qY k (Bk I1 sBx cap λ hc a m o e=>gE (.inl ⟨by rw[hc,Bool.or_true],m⟩) e);have sacc:au H1 (upd H1 acc (.lst [])):=dm hacc;have C0:SI K H1 Bx Bx (upd H1 acc (.lst [])) (List.replicate k none++oZ σ cap) (List.replicate k none++dR τ cap) [] (λ a=>a=acc\/a∈([]:List Addr)):=
    ⟨uBx.trans sacc,sacc,au.refl _,λ a n=>.inl n,c0.mono sacc (au.refl _),Mu,(λ a m=>by cases m),λ a m=>by
     have:a=acc:=m.elim id λ z=>by cases z
     subst this;exact⟨uBx.free hacc,by rw[aI];exact Mw _⟩⟩
   refine⟨λ i m τv ys H'=>m=(aE ds).length-i/\i<=(aE ds).length/\∃ B' τb Pb es fe rest,SI K H1 Bx B' H' τv τb Pb (λ a=>a=acc\/a∈fe)/\H' acc=some (.lst ys)/\ai K B' No H' es ys fe/\fe.Nodup /\
     (∀ a∈fe,H1 a=none/\a≠acc)/\fM tgd tt elt ((aE ds).drop i) τb=.ok rest/\xs=es++rest/\acc∉fe,⟨_,rfl,Mk _,Bx,_,[],[],[],xs,C0,aI,⟨rfl,rfl⟩,Mu,(λ a m=>by cases m),zc,rfl,by simp⟩,?_⟩
   rintro i m τv ys H' ⟨rfl,hle,B',τb,Pb,es,fe,rest,C,ha,re,ndf,own,ec,ex,hna⟩;have im:jP H1 H':=jP.of C.h0;by_cases hlt:i<(aE ds).length
   ·obtain⟨d,hd⟩:∃ d,(aE ds)[i]?=some d:=⟨(aE ds)[i],Lg hlt⟩;have hdrop:(aE ds).drop i=d::(aE ds).drop (i+1):=by
     rw[Nj hlt]
     congr 1
     rw[Lg hlt]at hd;exact L5 hd
    rw[hdrop]at ec;unfold fM at ec;refine .inr ⟨J1.go B' H' i d C.b0 C.bh im hd,λ x H'' y=>?_⟩;obtain⟨sy,ry⟩:=J1.vM B' H' i d x H'' C.b0 C.bh im hd y;cases w:tgd d τb with
    |none=>rw[w]at ec;cases ec
    | some τ2 =>
     rw[w]at ec;simp only at ec;refine⟨H1,Bx,B',τb,Pb,_,d,[],C.grow sy,ry,fL.nil,?_⟩;rw[w];intro H3 σ3 P3 I3 e3;subst e3;obtain⟨b,eb,ec⟩:=aH ec;refine⟨H1,Bx,B',τ2,P3,_,I3,?_⟩;rw[eb];intro H4 B4 I4 s4 b4;have re4:ai K B4 No H4 es ys fe:=re.mono (sy.trans s4) b4 λ _ x=>x;have ha4:H4 acc=some (.lst ys):=s4 _ _ (sy _ _ ha);cases b with
     | false =>
      rw[Lw Li]at ec ⊢;exact⟨_,by omega,rfl,hlt,B4,τ2,P3,es,fe,rest,I4,ha4,re4,ndf,own,ec,ex,hna⟩
     | true =>
      rw[Lr rfl]at ec ⊢;obtain⟨x',ex',ec⟩:=aH ec;refine⟨H1,Bx,B4,τ2,P3,_,I4,?_⟩;rw[ex'];intro v H5 B5 fv I5 s5 b5 r5 k5;by_cases hb:x'.aw=true
      ·rw[Lr hb]at ec;cases ec
      ·rw[Lw hb]at ec;obtain⟨rest',er',ec⟩:=aH ec;cases ec;have hb:x'.aw=false:=by simpa using hb
       have ha5:H5 acc=some (.lst ys):=s5 _ _ ha4;have re5:ai K B5 No H5 es ys fe:=re4.mono s5 b5 λ _ x=>x;have hlen:ys.length<sizeLine:=by
        rw[<-re.length,Ma];have:=MG List.length ex;simp at this;omega
       refine⟨ha5,hlen,_,by omega,rfl,hlt,?_⟩;have Ih:=I5.hold k5;have fdis:∀ a∈fv,a∉fe/\a≠acc:=λ a m=>⟨λ z=>(k5.own a m).2.2.2.2 (.inr z),λ z=>(k5.own a m).2.2.2.2 (.inl z)⟩;have Ih2:SI K H1 Bx B5 H5 σ3 τ2 P3 (λ a=>a=acc\/a∈fe++fv):=Ih.mV λ a m=>by
        rcases m with m|m
        ·exact .inr (.inl m)
        ·rcases Ls.mp m with m|m
         ·exact .inr (.inr m)
         ·exact .inl m
       have Iw:=Ih2.we (o':=.lst (ys++[v])) (.inl rfl) hacc ha5 trivial;have kp:iK H5 (upd H5 acc (.lst (ys++[v]))) [acc]:=⟨λ b u h n=>by rw[aG (by simpa using n)];exact h,λ b m=>by
        have:b=acc:=by simpa using m
        subst this;exact⟨_,ha5,trivial⟩⟩
       refine⟨B5,τ2,P3,es++[x'],fe++fv,rest',Iw,aI,?_,Lp.mpr ⟨ndf,k5.nd,λ a h1 b h2 e=>(fdis b h2).1 (e▸h1)⟩,λ a m=>?_,er',by rw[ex];simp,λ m=>?_⟩
       ·refine ai.append (re5.keep kp λ a m z=>?_) (ai.one ((r5.gy hb).keep kp λ a m z=>?_))
        ·have:a=acc:=by simpa using z
         exact hna (this▸m)
        ·have:a=acc:=by simpa using z
         exact(fdis a m).2 this
       ·rcases Ls.mp m with m|m
        ·exact own a m
        ·exact⟨(k5.own a m).2.1,(fdis a m).2⟩
       ·rcases Ls.mp m with m|m
        ·exact hna m
        ·exact(fdis acc m).2 rfl
   ·have e:i=(aE ds).length:=by omega
    subst e;rw[List.drop_length]at ec;unfold fM at ec;cases ec;rw[LZ]at ex;subst ex;refine .inl ⟨J1.stop B' H' C.b0 C.bh im,?_⟩;have ro:nL K H1 Bx B' H' (.lst .own xs) (.ref acc) (acc::fe):=⟨C.h0,C.b0,C.bh,C.nb,⟨acc,ys,fe,rfl,ha,re,rfl⟩,Lv.mpr ⟨hna,ndf⟩,λ a m=>by
     rcases Ln.mp m with m|m
     ·subst m;exact⟨(C.fr a (.inl rfl)).1,hacc,(C.fr a (.inl rfl)).2⟩
     ·exact⟨(C.fr a (.inr m)).1,(own a m).1,(C.fr a (.inr m)).2⟩⟩
    obtain⟨B2,I2,s2,k2,hb⟩:=I1.called k1 (S:=S) (λ a s=>s.2) ro;by_cases hl:(fl||cF τ cap)=true
    ·rw[Lr hl]at h;exact h (.ref acc) H' B2 _ I2 C.h0 s2 (ro.rep.aP ro.bh λ a o e=>(hb a o e).imp id λ z=>z.2) k2
    ·rw[Lw hl]at h;have sb:au B' B2:=λ a o e=>(hb a o e).resolve_right λ z=>hl z.1.1;exact h (.ref acc) H' B2 _ I2 C.h0 s2 (ro.rep.mono (au.refl _) sb λ _ x=>x.elim) k2
  ·rw[Lw hxl]at h;exact h.elim
def qZ{k:Nat}(I:SI K H0 B0 B H σ τ P F)(h:Goal K Y H0 B0 B H σ τ P F Q (bw it tgd tt elt k cap τ)) :
  qP (Aj K Y it) (DU K tgd) (jE K xF tt) (tM K xF elt) k cap σ H Q:=by
 refine⟨H0,B0,B,τ,P,F,I,?_⟩;unfold bw at h;cases z:it τ with
 |fT C=>rw[z]at h;exact h|bad=>rw[z]at h;exact h
 | ok q =>
  obtain⟨fl,ds⟩:=q;rw[z]at h;simp only[Res.aH]at h;intro J H1 B1 fp I1 s1 b1 k1 JA;exact zr I1 k1 JA (Goal.later h s1 b1)
variable {elt iter:Expr}{ifs:List Expr}{scope:Scope}{own:List Str}
def mX (ok:gh X scope own cap)(hc:X.calm=true)(hi:PI X tg iter (Aj X.K Y it))(Bl:gZ X scope own cap tg ifs elt (DU X.K tgd) (jE X.K xF tt) (tM X.K xF fe))(hs:∀ x,foldedSetIterable iter X.env x=pure x:=by intro _;rfl) :
  PE X (.ListComp elt [⟨tg,iter,ifs,0⟩] scope pos) (tM X.K Y (bw it tgd tt fe own.length cap)):=
 PE.imp (DK ok hc hi Bl hs) λ σ H Q hq=>ex8 hq λ H0 B0 B τ P F I h=>qZ I h
def zq{y:Str}{py spos:Pos}(hN:X.N.Nodup)(hi':X.N[i]?=some y)(hy:Loc X.env.scope y)(ok:gh X scope own cap)(hc:X.calm=true)(hi:PI X tg iter (Aj X.K Y it))(Bl:gZ X scope own cap tg ifs elt (DU X.K tgd) (jE X.K xF tt) (tM X.K xF fe))
  (hsw:swapsWith (.ListComp elt [⟨tg,iter,ifs,0⟩] scope pos) (some (.Name y py)) spos.line X.env=pure true:=by rfl)
  (hf:X.fn y=true\/X.env.scope.names.lookup y=some .local:=by first|exact .inl rfl|exact .inr rfl) (hs:∀ x,foldedSetIterable iter X.env x=pure x:=by intro _;rfl) :
  PS X (.Assign [.Name y py] (.ListComp elt [⟨tg,iter,ifs,0⟩] scope pos) spos) (i0 X.K Y (aV i (bw it tgd tt fe own.length cap))):=by
 refine PS.imp (vZ hN hi' hy ok hc hi Bl hsw hf hs) λ E σ H hq=>ex7 hq λ H0 B0 B τ P I h=>?_;have key:tM X.K Y (bw it tgd tt fe own.length cap) σ H (λ x H1=>oU i x σ H1 E.nx):=kT I h λ d v H1 B1 fp _ I1 _ _ r1 k1 h1=>by
  unfold iO at h1;split at h1
  ·exact h1.elim
  ·rename_i hb;obtain⟨P',I',_⟩:=I1.set i (r1.gy (by simpa using hb)) k1;exact h1 B1 H1 _ P' ⟨I',au.refl _,jP.refl _⟩
 obtain⟨H0',B0',B',τ',P',F',I',h'⟩:=key;exact qZ I' h'
def bW (_:SD):Res Bool:=.ok true
def ky:Ij X [] (jE X.K Y bW):=λ pins s σ H Q I ⟨H0,B0,B,τ,P,F,I',h⟩=>DJ pins s σ H Q I (h H B I' (au.refl _) (au.refl _))
def oF {c:Expr}(h:PT X c (jE X.K Y gc)):Ij X [c] (jE X.K Y gc):=DH h
end
section
variable {K:PySem.W.Frag}
def Jv:D->String|.bg=>"NoneType" |.bl _=>"bool" |.int _=>"int" |.str _=>"str" |.tup _=>"tuple" |.lst _ _=>"list" |.dct _ _ _ _=>"dict" |.exc _=>""
def D.isExc:D->Bool|.exc _=>true|_=>false
def sW:d7 X (.builtin "isinstance") (λ xs H Q=>∃ x t b,xs=[x,.ty T]/\(lH X.K H x t\/(∃ a vs,x=.ref a/\iZ X.K H a vs/\t=.type "tuple")\/(∃ a vs,x=.ref a/\c8 X.K H a vs/\t=.type "list"))/\PySem.W.kitOne X.K t (.type T)=some b/\Q (.bl b) H):=by
 intro pins s σ H xs us Q I r h;obtain⟨x,t,b,rfl,ty,e,q⟩:=h;obtain⟨u,v,rfl,ru,rv⟩:=vals2 r;cases rv;rcases ty with ty|⟨a,vs,rfl,hq,rfl⟩|⟨a,vs,rfl,hq,rfl⟩
 ·exact yP I ru ty e λ tk=>⟨.bl b,H,I.tok tk,rfl,q⟩
 ·cases ru;obtain⟨its,_,⟨o,h1,h2,_⟩,_⟩:=I.tuple hq;exact Mm PySem.W.kitx_tuple I.rZ ⟨o,h1,h2⟩ e (λ z=>nomatch z) λ tk=>⟨.bl b,H,I.tok tk,rfl,q⟩
 ·cases ru;obtain⟨its,_,pl,_⟩:=I.list hq;obtain⟨o,h1,h2,_⟩:=pl.isList;exact Mm OZ I.rZ ⟨o,h1,h2⟩ e (λ z=>nomatch z) λ tk=>⟨.bl b,H,I.tok tk,rfl,q⟩
def Bo {d:D}{v:V}{f:List Addr}(I:SI K H0 B0 B H σ τ P F)(r:Rep K B (· ∈ P) H d v f)(ne:d.isExc=false):lH K H v (.type (Jv d))\/(∃ a vs,v=.ref a/\iZ K H a vs/\(Value.type (Jv d))=.type "tuple")\/(∃ a vs,v=.ref a/\c8 K H a vs/\(Value.type (Jv d))=.type "list"):=by
 cases d with
 |bg=>rw[r.1];exact .inl .bg|bl b=>rw[r.1];exact .inl (.bl b)|int b=>rw[r.1];exact .inl (.int b)|str b=>rw[r.1];exact .inl (.str b)|exc _=>cases ne|tup xs=>obtain⟨a,vs,rfl,q,_⟩:=r;exact .inr (.inl ⟨a,vs,rfl,iZ.of q,rfl⟩)
 | lst t xs =>
  obtain⟨a,vs,g,rfl,q,_⟩:=r.lst I;exact .inr (.inr ⟨a,vs,rfl,q,rfl⟩)
 | dct t k ks xs =>
  have:∃ a vs,v=.ref a/\DictAt H a k ks vs:=by
   cases t with
   |len a=>obtain⟨vs,g,e,q,_⟩:=r;exact⟨a,vs,e,q⟩| own=>obtain⟨a,vs,g,e,q,_⟩:=r;exact⟨a,vs,e,q⟩| bor=>obtain⟨a,vs,e,q,_⟩:=r;exact⟨a,vs,e,q.elim (λ y=>y.2) λ y=>y.mono I.bh⟩| aq=>obtain⟨a,vs,e,q,_⟩:=r;exact⟨a,vs,e,q.mono I.bh⟩
  obtain⟨a,vs,rfl,⟨_,kvs,ep,q,_⟩|⟨_,kvs,ep,q,_⟩⟩:=this
  ·exact .inl (.dK q)
  ·exact .inl (.dT q)
def ur:D->Bool|.bl _=>true|_=>false
def uu:D->Bool|.bl _=>true|.int _=>true|_=>false
def qg:D->Bool|.lst _ _=>true|_=>false
def sV (T:String)(g:D->Bool):Prop:=∀ (K:PySem.W.Frag) (d:D),d.isExc=false->PySem.W.kitOne K (.type (Jv d)) (.type T)=some (g d)
def zt:sV "bool" ur:=λ K d h=>by cases d<;>first|rfl|cases h
def Bm:sV "int" uu:=λ K d h=>by cases d<;>first|rfl|cases h
def q9:sV "list" qg:=λ K d h=>by cases d<;>first|rfl|cases h
def c9 (g:D->Bool)(d:D):Res D:=if d.isExc=true then .bad else .ok (.bl (g d))
def sX{g:D->Bool}{ty:Expr}{pt:Pos}(hI:sV T g)(hg:Gl X "isinstance")(hm:X.mg "isinstance" = none)(he:PE X e (tM X.K Y fe))(hgT:Gl X x)(hmT:X.mg x=none)(hbT:bootBuiltins x=some (.type T))
  (hs:starEach [e,.Name x pt] X.env=(false,eval e X.env)::starEach [.Name x pt] X.env:=by rfl) (hs2:starEach [.Name x pt] X.env=(false,eval (.Name x pt) X.env)::starEach [] X.env:=by rfl) (hpl:(backTo pos (starEach [.Name x pt] X.env)).any (·.1)=false:=by rfl) (hn:x ≠ "__name__" :=by decide) (hdb:(x == ("__debug__" : Str))=false:=by decide) :
  PE X (.Call (.Name "isinstance" p) [e,.Name x pt] [] pos) (tM X.K Y (kK (c9 g) fe)):=by
 refine PE.imp (oO (sW (T:=T)) hg hm (by decide +kernel) (cR he (cR (C9 hgT hmT hbT (show RelV (.ty T) _ from rfl) hn hdb) dJ hs2) hs) (he:=hs) (hpl:=hpl)) λ σ H Q hq=>ex8 hq λ H0 B0 B τ P F I h=>?_;refine tM.seq (g:=c9 g) I h λ d v H1 B1 fp _ I1 s1 b1 r1 k1 h1=>?_;unfold c9 at h1;split at h1
 ·exact h1.elim
 ·rename_i hx;have hx:d.isExc=false:=by simpa using hx
  exact⟨v,_,_,rfl,Bo I1 r1 hx,hI _ d hx,Out.here h1 I1 ⟨rfl,rfl⟩⟩
def intsOf:List D->Option (List Int)
 |[]=>some []
 |.int i::r=>(intsOf r).map (i :: ·)
 |_::_=>none
def di (ns:List Int):intsOf (ns.map D.int)=some ns:=by
 induction ns with
 |nil=>rfl|cons n r ih=>rw[LA,intsOf,ih];rfl
def fQ:∀ {xs:List D}{ns:List Int},intsOf xs=some ns->xs=ns.map D.int
 |[],ns,h=>by cases h;rfl
 | .int i::r,ns,h=>by
  unfold intsOf at h;cases e:intsOf r with
  |none=>rw[e]at h;cases h|some m=>rw[e]at h;cases h;rw[LA,<-fQ e]
 |.bg::_,_,h=>by cases h
 |.bl _::_,_,h=>by cases h
 |.str _::_,_,h=>by cases h
 |.tup _::_,_,h=>by cases h
 |.lst _ _::_,_,h=>by cases h
 |.dct _ _ _ _::_,_,h=>by cases h
 |.exc _::_,_,h=>by cases h
def fP {S:Addr->Prop}:∀ {ns:List Int}{vs:List V}{f:List Addr},ai K B S H (ns.map D.int) vs f->vs=ns.map V.int/\f=[]
 |[],vs,f,r=>r
 | n::ns,vs,f,r=>by
  obtain⟨v,w,f1,f2,rfl,⟨rfl,rfl⟩,r2,rfl⟩:=r;obtain⟨rfl,rfl⟩:=fP r2;exact⟨rfl,rfl⟩
def kB {S:Addr->Prop}:∀ (ns:List Int),ai K B S H (ns.map D.int) (ns.map V.int) []
 |[]=>⟨rfl,rfl⟩
 |n::ns=>⟨_,_,[],[],rfl,⟨rfl,rfl⟩,kB ns,rfl⟩
def sortI (ns:List Int):List Int:=ns.mergeSort (λ a b=>decide (a<=b))
def sortI_perm (ns:List Int):(sortI ns).Perm ns:=List.mergeSort_perm ns _
def cS (ns:List Int):(sortI ns).Pairwise (· <= ·):=by
 have h:=List.pairwise_mergeSort (le:=λ a b:Int=>decide (a<=b)) (λ a b c h1 h2=>by simp at *;omega) (λ a b=>by simp;omega) ns;exact h.imp λ h=>by simpa using h
def dF:∀ {l m:List Int},l.Perm m->l.Pairwise (· <= ·)->m.Pairwise (· <= ·)->l=m
 |[],m,hp,_,_=>(List.Perm.nil_eq hp)
 | x::r,m,hp,h1,h2=>by
  match m,hp,h2 with
  |[],hp,_=>exact absurd hp.length_eq (by simp)
  | y::r',hp,h2 =>
   obtain⟨a1,a2⟩:=OQ.mp h1;obtain⟨b1,b2⟩:=OQ.mp h2;have e:x=y:=by
    have m1:x∈y::r':=hp.mem_iff.mp Le;have m2:y∈x::r:=hp.mem_iff.mpr Le;rcases Ln.mp m1 with q|q
    ·exact q
    ·rcases Ln.mp m2 with q'|q'
     ·exact q'.symm
     ·have:=b1 x q;have:=a1 y q';omega
   subst e;rw[dF ((List.perm_cons _).mp hp) a2 b2]
def aX:List D->Res D
 |[.lst _ xs]=>match intsOf xs with|some ns=>if ns.length<64 then .ok (.lst .own ((sortI ns).map D.int)) else .bad|none=>.bad
 |_=>.bad
def iQ:kR K Y (λ xs H Q=>∃ (a:Addr) (ns:List Int),xs=[.ref a]/\c8 K H a (ns.map V.int)/\ns.length<64/\∀ (p:Addr) (ns':List Int),H p=none->ns'.Perm ns->ns'.Pairwise (· <= ·)->Q (.ref p) (upd H p (.lst (ns'.map V.int)))) aX:=by
 intro H0 B0 B H σ τ P F ds vs f Q I r k h;unfold aX at h;split at h
 ·obtain⟨v,rfl,r'⟩:=jO r;obtain⟨a,ws,g,rfl,q,l,s⟩:=r'.lst I;split at h
  ·rename_i ns e;split at h
   ·rename_i hl;have ex:=fQ e;subst ex;obtain⟨rfl,rfl⟩:=fP l;refine⟨a,ns,rfl,fC q,hl,λ p ns' hp h1 h2=>?_⟩;have e2:ns'=sortI ns:=dF (h1.trans (sortI_perm ns).symm) h2 (cS ns);subst e2;exact Out.wa h I (kB _) fL.nil hp
   ·exact h.elim
  ·exact h.elim
 ·exact h.elim
end
def jC:D->Option Key|.int i=>some (.inl i)|.str x=>some (.inr x)|_=>none
def dw:List D->Option (List Key)
 |[]=>some []
 |d::r=>(jC d).bind λ k=>(dw r).map (k :: ·)
def eu:D->Option KT
 |.int i=>some (.inl (.inl i))
 |.str x=>some (.inl (.inr x))
 |.tup ds=>(dw ds).map .inr
 |_=>none
def KT.kind:KT->Bool|.inl _=>false|.inr _=>true
def eB:List KT->List D->KT->Option D
 |k::ks,d::ds,q=>if k=q then some d else eB ks ds q
 |_,_,_=>none
def oj (ks:List KT)(q:KT):Bool:=ks.any λ k=>decide (k=q)
def jr (ks:List KT)(q:KT):List KT:=if oj ks q=true then ks else ks++[q]
def xO:List KT->List D->KT->D->List D
 |k::ks,d::ds,q,x=>(if k=q then x else d)::xO ks ds q x
 |_,ds,_,_=>ds
def jq (ks:List KT)(ds:List D)(q:KT)(d:D):List D:=if oj ks q=true then xO ks ds q d else ds++[d]
section
variable {K:PySem.W.Frag}
def Rep.dc (I:SI K H0 B0 B H σ τ P F){t:Tg}{k:Bool}(r:Rep K B (· ∈ P) H (.dct t k ks xs) v f):∃ a vs g,v=.ref a/\DictAt H a k ks vs/\ai K B (· ∈ P) H xs vs g/\List.Sublist g f:=by
 cases t with
 | len a =>
  obtain⟨vs,g,e,q,r,z⟩:=r;subst z;exact⟨a,vs,g,e,q,r,NH _ _⟩
 | own =>
  obtain⟨a,vs,g,e,q,r,z⟩:=r;subst z;exact⟨a,vs,g,e,q,r,NH _ _⟩
 | bor =>
  obtain⟨a,vs,e,q,r,z⟩:=r;subst z;exact⟨a,vs,[],e,q.elim (λ y=>y.2) λ y=>y.mono I.bh,r,Mi _⟩
 | aq =>
  obtain⟨a,vs,e,q,r,z⟩:=r;subst z;exact⟨a,vs,[],e,q.mono I.bh,r.mono (au.refl _) (au.refl _) (λ _ x=>x.elim),Mi _⟩
def rf {S:Addr->Prop}:∀ {ds:List D}{k:List Key}{vs:List V}{f:List Addr},dw ds=some k->ai K B S H ds vs f->vs=k.map kV
 |[],k,vs,f,h,r=>by cases h;exact r.1
 | d::ds,k,vs,f,h,r=>by
  obtain⟨v,w,f1,f2,rfl,r1,r2,_⟩:=r;unfold dw at h;cases e1:jC d with
  |none=>rw[e1]at h;cases h
  | some q =>
   rw[e1]at h;cases e2:dw ds with
   |none=>rw[e2]at h;cases h
   | some m =>
    rw[e2]at h;cases h;rw[rf e2 r2,LA]
    congr 1
    cases d<;>first|(cases e1;exact r1.1)|cases e1
def pF {S:Addr->Prop}{k:Key}(h:eu d=some (.inl k))(r:Rep K B S H d v f):v=kV k:=by
 cases d with
 |int i=>cases h;exact r.1|str i=>cases h;exact r.1
 | tup ds =>
  have h:(dw ds).map Sum.inr=some (Sum.inl k):=h;cases e:dw ds<;>rw[e]at h<;>cases h
 |_=>cases h
def Bq {S:Addr->Prop}{k:List Key}(h:eu d=some (.inr k))(r:Rep K B S H d v f):∃ b,v=.ref b/\H b=some (.tup (k.map kV)):=by
 cases d with
 | tup ds =>
  have h:(dw ds).map Sum.inr=some (Sum.inr k):=h;cases e:dw ds with
  |none=>rw[e]at h;cases h
  | some m =>
   rw[e]at h;cases h;obtain⟨a,vs,rfl,q,rl⟩:=r;rw[rf e rl]at q;exact⟨a,rfl,q⟩
 |int i=>cases h|str i=>cases h|_=>cases h
def kC {κ:Type}[DecidableEq κ](ι:κ->KT)(inj:∀ a b,ι a=ι b->a=b){S:Addr->Prop}:∀ {kvs:List (κ×V)}{xs:List D}{f:List Addr}{k:κ},ai K B S H xs (kvs.map (·.2)) f ->
  match eB (kvs.map λ p=>ι p.1) xs (ι k) with
  |some d=>∃ v g,iG kvs k=some v/\Rep K B S H d v g/\List.Sublist g f
  |none=>iG kvs k=none
 |[],xs,f,k,r=>by cases xs<;>rfl
 |p::kvs,[],f,k,r=>by obtain⟨h,_⟩:=r;cases h
 | p::kvs,d::ds,f,k,r=>by
  obtain⟨v,w,f1,f2,e,r1,r2,rfl⟩:=r;rw[LA]at e;cases e;rw[LA,eB];by_cases h:p.1=k
  ·rw[Lr (MG ι h)];exact⟨_,f1,jI h,r1,LS _ _⟩
  ·rw[Lw λ z=>h (inj _ _ z)];have ih:=kC ι inj (k:=k) r2;split at ih
   ·rename_i d' e';obtain⟨v',g,h1,h2,h3⟩:=ih;exact⟨v',g,by rw[iH h];exact h1,h2,h3.trans (LI _ _)⟩
   ·rename_i e';rw[iH h];exact ih
def DV{k:Bool}{q:KT}{dk:D}{y:V}(hd:DictAt H a k ks vs)(r:ai K B (· ∈ P) H xs vs g)(hk:eu dk=some q)(rk:Rep K B (· ∈ P) H dk y f)(hq:q.kind=k) :
  match eB ks xs q with
  |some d=>∃ v g',lN H a y (some v)/\Rep K B (· ∈ P) H d v g'/\List.Sublist g' g
  |none=>lN H a y none:=by
 rcases hd with ⟨rfl,kvs,ep,ha,rfl,rfl⟩|⟨rfl,kvs,ep,ha,rfl,rfl⟩
 ·cases q with
  |inr q=>cases hq
  | inl q =>
   have ev:=pF hk rk;subst ev;have ih:=kC Sum.inl (λ a b h=>NC h) (k:=q) r;split at ih
   ·rename_i d e;rw[e];obtain⟨v,g',h1,h2,h3⟩:=ih;exact⟨v,g',h1▸lN.k ⟨ep,ha⟩,h2,h3⟩
   ·rename_i e;rw[e];exact ih▸lN.k ⟨ep,ha⟩
 ·cases q with
  |inl q=>cases hq
  | inr q =>
   obtain⟨b,rfl,hb⟩:=Bq hk rk;have ih:=kC Sum.inr (λ a b h=>Sum.inr.inj h) (k:=q) r;split at ih
   ·rename_i d e;rw[e];obtain⟨v,g',h1,h2,h3⟩:=ih;exact⟨v,g',h1▸lN.t ⟨ep,ha⟩ hb,h2,h3⟩
   ·rename_i e;rw[e];exact ih▸lN.t ⟨ep,ha⟩ hb
def dY (k:Bool)(_:SD):Res D:=.ok (.dct .own k [] [])
def newDict{k:Bool}{pa:Addr}(h:Out K H0 B0 B H σ τ P F Q (.dct .own k [] []))(I:SI K H0 B0 B H σ τ P F)(hp:H pa=none)(ho:DictAt (upd H pa o) pa k [] []):Q (.ref pa) (upd H pa o):=by
 have s:=dm (o:=o) hp;obtain⟨n1,n2,n3,n4⟩:=I.xD hp;refine h (.ref pa) _ B [pa] (I.grow s) s (au.refl _) ⟨pa,[],[],rfl,ho,⟨rfl,rfl⟩,rfl⟩ ⟨by simp,λ a m=>?_⟩;have e:a=pa:=by simpa using m
 subst e;exact⟨n1,n2,(by rw[aI];exact Mw _),n3,n4⟩
def DW:PE X (.Dict [] [] pos) (tM X.K Y (dY true)):=PE.imp AK λ σ H Q ⟨H0,B0,B,τ,P,F,I,h⟩ p hp=>newDict h I hp (.inr ⟨rfl,[],0,aI,rfl,rfl⟩)
def sY:PE X (.Dict [] [] pos) (tM X.K Y (dY false)):=PE.imp AN λ σ H Q ⟨H0,B0,B,τ,P,F,I,h⟩ p hp=>newDict h I hp (.inl ⟨rfl,[],0,aI,rfl,rfl⟩)
variable {o i:Expr}{fo fi:SD->Res D}
def c6 (dd dk:D):Res D:=match dd with
 | .dct _ k ks vs=>match eu dk with
  |some q=>if q.kind=k then (match eB ks vs q with|some d=>.ok d|none=>.bad) else .bad
  |none=>.bad
 |_=>.bad
def ly (hu:X.A.units+1<cLine)(ho:PE X o (tM X.K Y fo))(hi:PE X i (tM X.K Y fi))(hs:DC i):PE X (.Subscript o i pos) (tM X.K Y (af c6 fo fi)):=
 PE.imp (xA hu ho hi hs) λ σ H Q hq=>ex8 hq λ H0 B0 B τ P F I h=>tM.sL I h λ d1 d2 v1 v2 H2 B2 f1 f2 _ _ I2 _ _ r1 r2 k h2=>by
  unfold c6 at h2;split at h2
  ·split at h2
   ·rename_i q hk;split at h2
    ·rename_i hq;obtain⟨a,vs,g,rfl,hd,rl,sg⟩:=r1.dc I2;have key:=DV hd rl hk r2 hq;split at key
     ·rename_i d e;rw[e]at h2;obtain⟨v,g',k1,k2,k3⟩:=key;exact⟨a,v,rfl,k1,Out.xE h2 I2 k2 (k.left.sub (k3.trans sg))⟩
     ·rename_i e;rw[e]at h2;exact h2.elim
    ·exact h2.elim
   ·exact h2.elim
  ·exact h2.elim
def Rep.aU {t:Tg}{k:Bool}{S:Addr->Prop}(ht:t.jN=true)(r:Rep K B S H (.dct t k ks xs) v fp) :
  ∃ a vs f,v=.ref a/\DictAt H a k ks vs/\ai K B S H xs vs f/\fp=a::f/\∀ {B' H':Hp}{S':Addr->Prop}{ks':List KT}{xs':List D}{vs':List V}{f':List Addr},DictAt H' a k ks' vs'->ai K B' S' H' xs' vs' f'->Rep K B' S' H' (.dct t k ks' xs') (.ref a) (a::f'):=by
 cases t with
 |own=>obtain⟨a,vs,f,e,q,r,z⟩:=r;exact⟨a,vs,f,e,q,r,z,λ q' r'=>⟨a,_,_,rfl,q',r',rfl⟩⟩| len a=>obtain⟨vs,f,e,q,r,z⟩:=r;exact⟨a,vs,f,e,q,r,z,λ q' r'=>⟨_,_,rfl,q',r',rfl⟩⟩| bor=>cases ht|aq=>cases ht
def cT (τ:SD)(i:Nat):Option (Tg×Bool×List KT×List D):=match τ[i]? with|some (some (.dct t k ks xs))=>if t.jN=true then some (t,k,ks,xs) else none|_=>none
def lz{i:Nat}{t:Tg}{k:Bool}(h:cT τ i=some (t,k,ks,xs)):τ[i]?=some (some (.dct t k ks xs))/\t.jN=true:=by
 unfold cT at h;split at h
 ·rename_i e;split at h
  ·rename_i ht;cases h;exact⟨e,ht⟩
  ·cases h
 ·cases h
def uW {κ:Type}[DecidableEq κ](ι:κ->KT)(inj:∀ a b,ι a=ι b->a=b)(k:κ):∀ kvs:List (κ×V),oj (kvs.map λ p=>ι p.1) (ι k)=kvs.any λ kv=>decide (kv.1=k)
 |[]=>rfl
 | p::r=>by
  have ih:=uW ι inj k r;unfold oj at ih ⊢;rw[LA,Nb,Nb,ih]
  congr 1
  by_cases h:p.1=k
  ·simp[h]
  ·rw[LD h,LD λ z=>h (inj _ _ z)]
def wg {κ:Type}[DecidableEq κ](ι:κ->KT)(inj:∀ a b,ι a=ι b->a=b){kvs:List (κ×V)}{k:κ}(r:ai K B No H xs (kvs.map (·.2)) f)(rv:Rep K B No H d v fp)(hp:oj (kvs.map λ p=>ι p.1) (ι k)=true->d.pure=true) :
  jr (kvs.map λ p=>ι p.1) (ι k)=(putK kvs k v).map (λ p=>ι p.1)/\∃ f',ai K B No H (jq (kvs.map λ p=>ι p.1) xs (ι k) d) ((putK kvs k v).map (·.2)) f'/\(∀ b∈f',b∈f\/b∈fp)/\(f.Nodup->fp.Nodup->(∀ b∈fp,b∉f)->f'.Nodup):=by
 unfold jr jq putK;rw[uW ι inj k kvs]at hp ⊢;by_cases h:(kvs.any λ kv=>decide (kv.1=k))=true
 ·rw[Lr h,Lr h,Lr h];have hpu:=hp h;have hfp:fp=[]:=lP.1 d hpu rv;subst hfp;refine⟨?_,?_⟩
  ·rw[LQ];refine LJ λ p _=>?_;show _=ι (if p.1=k then (p.1,v) else p).1;split<;>rfl
  ·have key:∀ {kvs:List (κ×V)}{xs:List D}{f:List Addr},ai K B No H xs (kvs.map (·.2)) f->∃ f',ai K B No H (xO (kvs.map λ p=>ι p.1) xs (ι k) d) ((kvs.map λ kv=>if kv.1=k then (kv.1,v) else kv).map (·.2)) f'/\List.Sublist f' f:=by
    intro kvs
    induction kvs with
    | nil=>intro xs f r; cases xs with
     |nil=>exact⟨f,r,Mi _⟩| cons x xs=>obtain⟨_,_,_,_,e,_⟩:=r;cases e
    | cons p kvs ih =>
     intro xs f r;cases xs with
     |nil=>obtain⟨e,_⟩:=r;cases e
     | cons x xs =>
      obtain⟨u,w,f1,f2,e,r1,r2,rfl⟩:=r;rw[LA]at e;cases e;obtain⟨g,h1,h2⟩:=ih r2;rw[LA,LA,LA,xO];by_cases hk:p.1=k
      ·rw[Lr hk,Lr (MG ι hk)];exact⟨g,⟨v,_,[],g,rfl,rv,h1,rfl⟩,h2.trans (LI _ _)⟩
      ·rw[Lw hk,Lw λ z=>hk (inj _ _ z)];exact⟨f1++g,⟨_,_,f1,g,rfl,r1,h1,rfl⟩,OD (Mi _) h2⟩
   obtain⟨g,h1,h2⟩:=key r;exact⟨g,h1,λ b m=>.inl (h2.subset m),λ n _ _=>n.sublist h2⟩
 ·rw[Lw h,Lw h,Lw h];refine⟨by rw[Lz];rfl,f++fp,?_,λ b m=>Ls.mp m,λ n1 n2 n3=>Lp.mpr ⟨n1,n2,λ a ha b hb e=>n3 b hb (e▸ha)⟩⟩;rw[Lz];exact r.append (ai.one rv)
def SI.Gm {i:Nat}{t:Tg}(ht:t.jN=true){k:Bool}{ks':List KT}{xs':List D}{gp:List Addr}{o':HO}(I:SI K H0 B0 B H σ τ P No)(hi:τ[i]?=some (some (.dct t k ks xs)))(ev:σ[i]?=some (some (.ref a)))(kv:fL H0 B H P No gp)(mu:∃ o,H a=some o/\qt o)
  (items:∀ vs f,DictAt H a k ks vs->ai K B No H xs vs f->∃ vs' f',DictAt (upd H a o') a k ks' vs'/\ai K B No H xs' vs' f'/\(∀ b∈f',b∈f\/b∈gp)/\(f.Nodup->(∀ b∈gp,b∉f)->f'.Nodup)) :
  ∃ P',jo K H0 B0 B H B (upd H a o') σ (τ.set i (some (.dct t k ks' xs'))) P':=by
 have hi':i<τ.length:=(Lh.mp hi).1;obtain⟨A,f,C,e,h1,h2⟩:=I.rep.cut hi';obtain⟨v,e1,r1⟩:=h1 _ hi;rw[ev]at e1;cases e1;obtain⟨a',ws,g,ea,hq,rl,ef,back⟩:=r1.aU ht;cases ea;subst ef;have nd0:=I.nd;rw[e]at nd0;have ndf:(a::g).Nodup:=(nd0.sublist (LS _ _)).sublist (LI _ _);have gdis:∀ b∈gp,b∉a::g:=λ b m z=>(kv.own b m).2.2.2.1 (by rw[e];exact cH _ _ _ b z);obtain⟨vs',f',dq',r',s',n'⟩:=items ws g hq rl;obtain⟨na,ng⟩:=Lv.mp ndf;have hna:a∉f':=λ m=>(s' a m).elim na λ z=>gdis a z Le;have es:σ.set i (some (.ref a))=σ:=by
  refine Mr λ k=>?_;by_cases hk:k=i
  ·subst hk;rw[Mg (Lh.mp ev).1,ev]
  ·rw[L8 (My hk)]
 have kp:iK H (upd H a o') [a]:=⟨λ b o h n=>by rw[aG (by simpa using n)];exact h,λ b m=>by
  have:b=a:=by simpa using m
  subst this;exact mu⟩
 have kpf:iK H (upd H a o') (a::g):=⟨λ b o h n=>kp.keep b o h (λ z=>n (Ln.mpr (.inl (L4.mp z)))),λ b m=>I.rep.own b (by rw[e];exact cH _ _ _ b m)⟩;have key:=I.put (i:=i) (H1:=upd H a o') (d':=.dct t k ks' xs') (v':=.ref a) (f':=a::f') hi' e h2 kpf (back dq' (r'.keep kp λ b m=>by
   have:b≠a:=λ z=>hna (z▸m);simpa using this)) (Lv.mpr ⟨hna,n' ng λ b m z=>gdis b m (Ld _ z)⟩) λ b m=>?_
 ·rw[es]at key;exact⟨_,key,au.refl _,λ b o h n=>kp.v9 h n⟩
 ·rcases Ln.mp m with q|q
  ·exact .inl (by simp[q])
  ·rcases s' b q with z|z
   ·exact .inl (Ld _ z)
   ·obtain⟨a1,a2,a3,a4,a5⟩:=kv.own b z;exact .inr (.inr ⟨a4,a1,a2,a5⟩)
def eE (i:Nat)(fk fv:SD->Res D)(τ:SD):Fl:=(fv τ).je τ λ d=>match cT τ i with
 | some (t,k,ks,xs)=>(fk τ).je τ λ dk=>match eu dk with
  |some q=>if q.kind=k/\d.aw=false/\ks.length<16777216/\(oj ks q=true->d.pure=true) then .nx (τ.set i (some (.dct t k (jr ks q) (jq ks xs q d)))) else .bad
  |none=>.bad
 |none=>.bad
def Bp (i:Nat){ke value:Expr}{fk fv:SD->Res D}(hu:X.A.units+1<cLine)(hk:PE X ke (tM X.K Y fk))(hv:PE X value (tM X.K Y fv))(hN:X.N[i]?=some x:=by rfl)(hvi:rY X.env.scope x:=by first|exact Or.inl rfl|exact Or.inr (Or.inl rfl)|exact Or.inr (Or.inr rfl))(hd:(x == ("__debug__" : Str))=false:=by decide)(hcd:(x == ("__classdict__" : Str))=false:=by decide)
  (hs:swapsWith value (some (.Subscript (.Name x p1) ke pos')) pos.line X.env=pure false:=by rfl):PS X (.Assign [.Subscript (.Name x p1) ke pos'] value pos) (i0 X.K Y (eE i fk fv)):=by
 refine PS.imp (xy hu (dg hN hvi hd hcd) hk hv hs) λ E σ H hq=>ex7 hq λ H0 B0 B τ P I h=>?_;refine kT I h λ d v H1 B1 fp _ I1 s1 b1 r1 k1 h1=>?_;cases z:cT τ i with
 |none=>rw[z]at h1;exact h1.elim
 | some t =>
  obtain⟨t,k,ks,xs⟩:=t;rw[z]at h1;obtain⟨hi,ht⟩:=lz z;obtain⟨w,f,e1,r2,sf⟩:=I1.rep.get hi;obtain⟨a,ws,g,rfl,dq,rl,ef,_⟩:=r2.aU ht;refine⟨.ref a,e1,?_⟩;refine⟨H0,B0,B1,τ,P,_,I1.hold k1,?_⟩;simp only at h1;cases y:fk τ with
  |fT C=>rw[y]at h1;exact λ H2 B2 I2 s2 b2=>h1 B2 H2 σ P (jo.grow (I2.mV λ _ x=>x.elim) b2 s2)
  |bad=>rw[y]at h1;exact h1
  | ok dk =>
   rw[y]at h1;intro vk H2 B2 fq I2 s2 b2 rk kk;have I3:SI X.K H0 B0 B2 H2 σ τ P No:=I2.mV λ _ x=>x.elim;have h2:=cj.later h1 (jo.grow I3 b2 s2);simp only[Res.je]at h2;cases hkk:eu dk with
   |none=>rw[hkk]at h2;exact h2.elim
   | some q =>
    rw[hkk]at h2;simp only at h2;split at h2
    ·rename_i hc;obtain⟨c1,c2,c3,c4⟩:=hc;have kv:fL H0 B2 H2 P No fp:=⟨k1.nd,λ a m=>let ⟨_,a2,_,a4,a5⟩:=k1.own a m;⟨(I2.fr a (.inl m)).1,a2,(I2.fr a (.inl m)).2,a4,a5⟩⟩;have rd:=(r1.gy c2).mono s2 b2 λ _ x=>x;have dq2:=dq.mono s2;have rl2:=rl.mono s2 b2 λ _ x=>x;have mu:∃ o,H2 a=some o/\qt o:=by
      rcases dq2 with ⟨_,kvs,ep,q,_⟩|⟨_,kvs,ep,q,_⟩
      ·exact⟨_,q,trivial⟩
      ·exact⟨_,q,trivial⟩
     rcases dq2 with ⟨rfl,kvs,ep,ha,hks,hws⟩|⟨rfl,kvs,ep,ha,hks,hws⟩
     ·cases q with
      |inr q=>cases c1
      | inl q =>
       have ev:=pF hkk rk;subst ev;subst hks hws;have A:∀ en:Nat,∃ P',_:=λ en=>I3.Gm ht (o':=.dK (putK kvs q v) en) (ks':=jr (kvs.map λ p=>Sum.inl p.1) (.inl q)) (xs':=jq (kvs.map λ p=>Sum.inl p.1) xs (.inl q) d) hi e1 kv mu λ vs f hda hr=>by
        rcases hda with ⟨_,kvs',ep',q1,q2,q3⟩|⟨q0,_⟩
        ·rw[ha]at q1;cases q1;subst q3;obtain⟨p1,f',p2,p3,p4⟩:=wg Sum.inl (λ a b h=>NC h) (k:=q) hr rd c4;exact⟨_,f',.inl ⟨rfl,_,en,aI,p1,rfl⟩,p2,p3,λ n1 n2=>p4 n1 kv.nd n2⟩
        ·cases q0
       exact⟨a,rfl,.inl ⟨kvs,q,⟨ep,ha⟩,rfl,(by rw[Ma];simpa using c3),λ en=>let ⟨P',A'⟩:=A en;h2 B2 _ σ P' A'⟩⟩
     ·cases q with
      |inl q=>cases c1
      | inr q =>
       obtain⟨b,rfl,hb⟩:=Bq hkk rk;subst hks hws;have A:∀ en:Nat,∃ P',_:=λ en=>I3.Gm ht (o':=.dT (putK kvs q v) en) (ks':=jr (kvs.map λ p=>Sum.inr p.1) (.inr q)) (xs':=jq (kvs.map λ p=>Sum.inr p.1) xs (.inr q) d) hi e1 kv mu λ vs f hda hr=>by
        rcases hda with ⟨q0,_⟩|⟨_,kvs',ep',q1,q2,q3⟩
        ·cases q0
        ·rw[ha]at q1;cases q1;subst q3;obtain⟨p1,f',p2,p3,p4⟩:=wg Sum.inr (λ a b h=>Sum.inr.inj h) (k:=q) hr rd c4;exact⟨_,f',.inr ⟨rfl,_,en,aI,p1,rfl⟩,p2,p3,λ n1 n2=>p4 n1 kv.nd n2⟩
       exact⟨a,rfl,.inr ⟨kvs,q,b,⟨ep,ha⟩,rfl,hb,(by rw[Ma];simpa using c3),λ en=>let ⟨P',A'⟩:=A en;h2 B2 _ σ P' A'⟩⟩
    ·exact h2.elim
end
section
variable {P:Program}{K:PySem.W.Frag}
def bK{k m:Nat}{g:SF}(D:nI K mg x st ps)(S:aW N ps (aA st))(hn:ps.length=n)(hm:N.length=m)
  (hbody:∀ (f:Addr) (cdv:Value) (A:Around) (outer:List Env) (s:Shared) (H:Hp),fY k (A.deeper (envOfC x (aA st) s.heap.objs.size f cdv)) ->
   kg (qk zd P w K mg base N x (aA st) f cdv A outer s H E0).EU (dW st) (i0 K xF g)):mJ P w K mg base (k+1) x ps (kL K (cB n m g)):=by
 subst hn hm;exact Gk D S hbody
def Br{k m:Nat}{g:SF}{f:Addr}{fd:FuncData}(D:DE K x x st f fd)(S:aW N ps (aA st))(hn:ps.length=n)(hm:N.length=m)
  (hbody:∀ (f:Addr) (cdv:Value) (A:Around) (outer:List Env) (s:Shared) (H:Hp),fY k (A.deeper (envOfC x (aA st) s.heap.objs.size f cdv)) ->
   kg (qk zd P w K mg base N x (aA st) f cdv A outer s H E0).EU (dW st) (i0 K xF g)):oQ P w K mg base zd (k+1) f fd ps (kL K (cB n m g)):=by
 subst hn hm;exact xN D S hbody
def Gp {h:Heap}{f:Addr}{oc:Value}{od an:Option Addr}{osl:Array (Option Value)}{kV doc pm cdv ct:Value}(KX:K.In h)(G:h.Ns mainGlobals mg)(a:PySem.W.nsIn K mainGlobals x=some (some (.ref f)))
  (l:K.lookup f=some ⟨oc,od,.func (PySem.W.fnOf x x (gY st) (dW st) (aA st) .none kV doc pm an cdv ct),osl⟩) (c:PySem.W.codeIn K cdv x=true) (k:PySem.W.keepIn K (.ref f)=true)
  (hb:∀ (kV doc pm:Value) (an:Option Addr) (cdv ct:Value) (us:List Value),us.length=ps.length->bindArgs (PySem.W.fnOf x x (gY st) (dW st) (aA st) .none kV doc pm an cdv ct) ⟨us,[]⟩=pure (ps.zip us)):nI K mg x st ps:=
 ⟨f,_,vW l c k,PySem.W.mg_of KX G a,(vW l c k).binds hb⟩
def Gn{ns:List Int}(hS:c8 K H a (ns.map V.int))(h:G [.lst .aq (ns.map D.int)]=.ok (.bl true)):kL K G [.ref a] H (λ v _=>v=.bl true) λ _ _ _=>False:=by
 refine⟨H,[.lst .aq (ns.map D.int)],au.refl _,ai.one ⟨a,_,rfl,hS,kB ns,rfl⟩,?_⟩;rw[h];exact λ B' H' v fp r=>r.rep.1
end
def ah (ns:List Int):aJ (ns.map D.int)=true:=bH λ d hd=>by obtain⟨n,_,rfl⟩:=Lq.mp hd;rfl
@[simp] theorem Hu (ns:List Int):bR (ns.map D.int)=ns.map D.int:=dO _ (ah ns)
@[simp] theorem bf (ns:List Int):aE (ns.map D.int)=ns.map D.int:=dE _ (ah ns)
@[simp] theorem iR (ns:List Int):av (ns.map D.int)=false:=bZ _ (ah ns)
@[simp] theorem IF (ns:List Int):bC (ns.map D.int)=false:=jf _ (ah ns)
@[simp] theorem Gr (ns:List Int):bA (ns.map D.int)=ns.map D.int:=eZ _ (ah ns)
@[simp] theorem Gy (ns:List Int):bT (ns.map D.int)=ns.map D.int:=iN _ (iR ns)
@[simp] theorem ints_map (ns:List Int):intsOf (ns.map D.int)=some ns:=di ns
@[simp] theorem Gz (τ:SD)(s:SF):(Fl.nx τ).andThen s=s τ:=rfl
@[simp] theorem Gq (d:D)(s:SF):(Fl.rt d).andThen s=.rt d:=rfl
@[simp] theorem Gx (τ:SD)(s:SF):(Fl.bk τ).andThen s=.bk τ:=rfl
@[simp] theorem Gu (τ:SD)(s:SF):(Fl.ct τ).andThen s=.ct τ:=rfl
@[simp] theorem Gv (C:PySem.Addr)(τ:SD)(s:SF):(Fl.ex C τ).andThen s=.ex C τ:=rfl
@[simp] theorem E8 (s:SF):Fl.bad.andThen s=.bad:=rfl
@[simp] theorem fV (τ:SD)(d:D)(k:D->Fl):(Res.ok d).je τ k=k d:=rfl
@[simp] theorem II (τ:SD)(C:PySem.Addr)(k:D->Fl):(Res.fT C:Res D).je τ k=.ex C τ:=rfl
@[simp] theorem IG (τ:SD)(k:D->Fl):(Res.bad:Res D).je τ k=.bad:=rfl
@[simp] theorem lU (τ:SD)(d:Bool)(k:Bool->Fl):(Res.ok d).pB τ k=k d:=rfl
@[simp] theorem Hv (τ:SD)(C:PySem.Addr)(k:Bool->Fl):(Res.fT C:Res Bool).pB τ k=.ex C τ:=rfl
@[simp] theorem Ht (τ:SD)(k:Bool->Fl):(Res.bad:Res Bool).pB τ k=.bad:=rfl
@[simp] theorem Jw:(Res.bad:Res D).Ju=.bad:=rfl
@[simp] theorem Ko (d:D):(Fl.rt d).out=.ok d:=rfl
@[simp] theorem Km (τ:SD):(Fl.nx τ).out=.ok .bg:=rfl
@[simp] theorem Kn (C:PySem.Addr)(τ:SD):(Fl.ex C τ).out=.fT C:=rfl
@[simp] theorem Jx:Fl.bad.out=.bad:=rfl
def bc {g:D->D->Res D}{a b:SD->Res D}{x y:D}(ha:a τ=.ok x)(hb:b τ=.ok y):af g a b τ=g x y:=by unfold af;rw[ha,hb];rfl
def E7{a:SF}{t:Bool}(h:c τ=.ok t):dI c a b τ=if t=true then a τ else b τ:=by unfold dI;rw[h];rfl
def gO(h:n<=1000000000):kq [.int n]=.ok (false,(List.range n).map λ k:Nat=>.int k):=by
 have h1 : -1000000000<=(n:Int)/\(n:Int)<=1000000000:=by omega
 simp[kq,h1]
def aF {a:SF}{τ':SD}(h:a τ=.nx τ'):aC a b τ=b τ':=by unfold aC;rw[h];rfl
def sZ {a:SF}(Q:Fl->Prop)(τ':SD)(h:a τ=.nx τ')(k:Q (b τ')):Q (aC a b τ):=by rw[aF h];exact k
def a6{e:SD->Res D}(h:e τ=.ok d)(hb:d.aw=false):aV i e τ=.nx (τ.set i (some d)):=by
 unfold aV iO;rw[h,fV,hb];rfl
def kD{e:SD->Res D}(Q:Fl->Prop)(d:D)(h:e τ=.ok d)(hb:d.aw=false)(k:Q (b (τ.set i (some d)))):Q (aC (aV i e) b τ):=sZ Q _ (a6 h hb) k
def rh{e:SD->Res D}(Q:Fl->Prop)(Pd:D->Prop)(hc:∃ t,c τ=.ok t/\(t=true->∃ d,e τ=.ok d/\d.aw=false/\Pd d))(h0:∃ d,τ[i]?=some (some d)/\Pd d)(k:∀ d,Pd d->Q (b (τ.set i (some d)))):Q (aC (dI c (aV i e) aQ) b τ):=by
 obtain⟨t,h1,h2⟩:=hc;cases t with
 | true =>
  obtain⟨d,h3,h4,h5⟩:=h2 rfl;refine sZ Q (τ.set i (some d)) ?_ (k d h5);unfold dI;rw[h1,lU,Lr rfl];exact a6 h3 h4
 | false =>
  obtain⟨d,h3,h5⟩:=h0;have es:τ.set i (some d)=τ:=by
   refine Mr λ k=>?_;by_cases hk:k=i
   ·subst hk;rw[Mg (Lh.mp h3).1,h3]
   ·rw[L8 (My hk)]
  refine sZ Q (τ.set i (some d)) ?_ (k d h5);unfold dI;rw[h1,lU,Lw Li,es];rfl
def zv{a:SF}(Q:Fl->Prop)(hc:∃ t,c τ=.ok t/\(t=true->∃ d,a τ=.rt d/\Q (.rt d))/\(t=false->Q (b τ))):Q (aC (dI c a aQ) b τ):=by
 obtain⟨t,h1,h2,h3⟩:=hc;cases t with
 | true =>
  obtain⟨d,h4,h5⟩:=h2 rfl;have:aC (dI c a aQ) b τ=.rt d:=by
   unfold aC dI;rw[h1,lU,Lr rfl,h4];rfl
  rw[this];exact h5
 | false =>
  refine sZ Q τ ?_ (h3 rfl);unfold dI;rw[h1,lU,Lw Li];rfl
def Bs{xs:List α}{i:Int}{j:Nat}{v:α}(hi:i=j)(h:xs[j]?=some v):qq xs i=some v:=by subst hi;exact Ds h
def xP {tg:uq}{body:SF}(st:Nat->SD):∀ {ds:List D} (i:Nat),(∀ j d,ds[j]?=some d->∃ τ',tg d (st (i+j))=some τ'/\body τ'=.nx (st (i+j+1)))->bF tg body ds (st i)=.nx (st (i+ds.length))
 |[],i,_=>rfl
 | d::r,i,h=>by
  obtain⟨τ',h1,h2⟩:=h 0 d rfl;unfold bF;simp only[Nat.add_zero]at h1 h2;rw[h1];simp only[h2];have ih:=xP st (ds:=r) (i+1) λ j e he=>by
   have:=h (j+1) e (by simpa using he);rw[show i+(j+1)=i+1+j by omega]at this;exact this
  rw[ih,Ly]
  congr 2
  omega
def iS {tg:uq}{body:SF}(Pv:Nat->SD->Prop):∀ {ds:List D} (i:Nat) (τ:SD),Pv i τ->(∀ j d τ,ds[j]?=some d->Pv (i+j) τ->∃ τ' t,tg d τ=some τ'/\(body τ'=.nx t\/body τ'=.ct t)/\Pv (i+j+1) t)->∃ t,bF tg body ds τ=.nx t/\Pv (i+ds.length) t
 |[],i,τ,h0,_=>⟨τ,rfl,h0⟩
 | d::r,i,τ,h0,h=>by
  obtain⟨τ',t,h1,h2,h3⟩:=h 0 d τ rfl h0;have ih:=iS Pv (ds:=r) (i+1) t h3 λ j e τ he hp=>by
   have:=h (j+1) e τ (by simpa using he) (by rw[show i+(j+1)=i+1+j by omega];exact hp);rw[show i+(j+1)=i+1+j by omega]at this;exact this
  obtain⟨u,h4,h5⟩:=ih;refine⟨u,?_,by rw[Ly,show i+(r.length+1)=i+1+r.length by omega];exact h5⟩;unfold bF;rw[h1];rcases h2 with h2|h2<;>(simp only[h2];exact h4)
def rm {tt:SD->Res Bool}{elt:SD->Res D}{caps:SD}(p:D->Bool)(f:D->D):∀ {ds:List D} (o:Option D),(∀ d∈ds,tt (some d::caps)=.ok (p d))->(∀ d∈ds,p d=true->elt (some d::caps)=.ok (f d)/\(f d).aw=false)->fM (gN 0) tt elt ds (o::caps)=.ok ((ds.filter p).map f)
 |[],o,_,_=>rfl
 | d::r,o,ht,he=>by
  have ih:=rm p f (ds:=r) (some d) (λ e m=>ht e (Ld _ m)) λ e m=>he e (Ld _ m);unfold fM;simp only[gN,List.set_cons_zero];rw[ht d Le];simp only[Res.aH];by_cases hp:p d=true
  ·obtain⟨h1,h2⟩:=he d Le hp;simp only[hp,Nh,h1,Res.aH,h2,LP,Nx,ih];rw[List.filter_cons_of_pos hp,LA]
  ·simp only[hp,Nx,ih,LP];rw[List.filter_cons_of_neg hp]
def zu{caps:SD}(f:D->D)(o:Option D)(he:∀ d∈ds,elt (some d::caps)=.ok (f d)/\(f d).aw=false):fM (gN 0) bW elt ds (o::caps)=.ok (ds.map f):=by
 have:=rm (tt:=bW) (λ _=>true) f o (λ d _=>rfl) λ d m _=>he d m;rw[OE.mpr λ _ _=>rfl]at this;exact this
def wk(h:G (aE ds)=.ok d)(hp:d.pure=true):dQ G ds=.ok d:=by
 unfold dQ;rw[h];split
 ·simp[o6 d hp]
 ·rfl
def zw(h:G (aE ds)=.ok d)(hb:av ds=false):dQ G ds=.ok d:=by
 unfold dQ;rw[h,hb];rfl
def eV{fs:SD->Res (List D)}(ha:fs τ=.ok ds)(h:G (aE ds)=.ok d)(hp:d.pure=true):aB G fs τ=.ok d:=by
 unfold aB;rw[ha];exact wk h hp
def cQ{fs:SD->Res (List D)}(ha:fs τ=.ok ds)(h:G (aE ds)=.ok d)(hb:av ds=false):aB G fs τ=.ok d:=by
 unfold aB;rw[ha];exact zw h hb
def rq{cap:List (PySem.Str×Nat)}{fl:Bool}(f:D->D)(hit:it τ=.ok (fl,ds))(he:∀ d∈aE ds,elt (some d::dR τ cap)=.ok (f d)/\(f d).pure=true)(hl:ds.length<=16777216) :
  bw it (gN 0) bW elt 1 cap τ=.ok (.lst .own ((aE ds).map f)):=by
 have hp:aJ ((aE ds).map f)=true:=bH λ d m=>by
  obtain⟨x,hx,rfl⟩:=Lq.mp m;exact(he x hx).2
 have hl':((aE ds).map f).length<=16777216:=by rw[Lc,kj,Lc];exact hl
 have hc:fM (gN 0) bW elt (aE ds) (List.replicate 1 none++dR τ cap)=.ok ((aE ds).map f):=zu f none λ d m=>⟨(he d m).1,bx _ (he d m).2⟩;unfold bw;rw[hit,Res.aH];simp only[hc,Lr hl',eZ _ hp,ite_self]
def xx (n d a:Nat):HT.eS n d (some (a:Int))=min a n:=by
 unfold HT.eS;have h:¬ (a:Int)<0:=by omega
 simp only[h,Nx];omega
def Bu(xs:List α)(a:Nat):cut xs (some (a:Int)) none=xs.drop a:=by
 unfold cut;rw[xx,show HT.eS xs.length xs.length none=xs.length from rfl];by_cases h:a<=xs.length
 ·rw[Ox h,N6 (by simp)]
 ·rw[NI (by omega:xs.length<=a),NI (by omega),List.take_nil]
def Bt(xs:List α)(a:Nat):cut xs none (some (a:Int))=xs.take a:=by
 unfold cut;rw[xx,show HT.eS xs.length 0 none=0 from rfl,List.drop_zero,Nat.sub_zero];by_cases h:a<=xs.length
 ·rw[Ox h]
 ·rw[Pa (by omega),N6 (Ll _),N6 (by omega)]
def cN(h:aJ xs=true):(D.lst .own xs).aw=false:=by
 show(false||av xs)=false;rw[bZ xs h];rfl
def fE {g:List D->Res D}{f:SD->Res (List D)}(h:f τ=.ok ds):eA g f τ=g ds:=by unfold eA;rw[h];rfl
def aN {f:SD->Res D}{g:SD->Res (List D)}(h1:f τ=.ok d)(h2:g τ=.ok ds):ae f g τ=.ok (d::ds):=by unfold ae;rw[h1,h2];rfl
def cL {f:SD->Res D}(h1:f τ=.ok d):ae f ao τ=.ok [d]:=aN h1 rfl
def fD {e:SD->Res D}(h:e τ=.ok d)(hb:d.aw=false):bM e τ=.rt d:=by unfold bM;rw[h,fV,uR d hb]
def eF(h:τ[i]?=some (some d))(hp:d.pure=true):aa i τ=.ok d:=by unfold aa;rw[h];simp[qS d hp]
def bO(h:τ[i]?=some (some (.lst .aq xs)))(hp:aJ xs=true):aa i τ=.ok (.lst .aq xs):=by unfold aa;rw[h];simp[D.view,Tg.view,dO xs hp]
def fF(h:τ[i]?=some (some (.lst .own xs)))(hp:aJ xs=true):aa i τ=.ok (.lst .bor xs):=by unfold aa;rw[h];simp[D.view,Tg.view,dO xs hp]
end DL
namespace L2
open PySem PySem.Spec PyProof.Rows
variable {a l l1 l2:Addr}{A:Around}{xs:Array Value}{b:Bool}{X:Cx}{prog:Program}{s:Shared}{E:Value->Shared->Prop}{w:World}
structure lA (a it:Addr)(its:Array Value)(seq:Heap->Prop)(nx:Nat->Obj->Prop):Prop where
 ext:∀ {h h':Heap},seq h->(∀ o,h.get? a=some o->h'.get? a=some o)->seq h'
 item:∀ {P:Program}{w:World}{A:Around}{E:Value->Shared->Prop}{s:Shared}{i:Nat}{x:Value}{Q:Value->Shared->Prop},seq s.heap->(∃ o,s.heap.get? it=some o/\nx i o)->its[i]?=some x ->
  (∀ h',(∃ o,h'.get? it=some o/\nx (i+1) o)->Heap.SameBut it s.heap h'->Q x { s with heap:=h' })->wpAny (model P w) A (Builtin.SmallTypes.nextOf (.ref it)) Q E s
 done:∀ {P:Program}{w:World}{A:Around}{E:Value->Shared->Prop}{s:Shared}{i:Nat}{Q:Value->Shared->Prop},A.handled=none->seq s.heap->(∃ o,s.heap.get? it=some o/\nx i o)->its[i]?=none ->
  (∀ h' e,Heap.ExtBut it s.heap h'->(∃ o,h'.get? e=some o/\o.cls=.type "StopIteration")->E (.ref e) { s with heap:=h' })->wpAny (model P w) A (Builtin.SmallTypes.nextOf (.ref it)) Q E s
abbrev KU (a:Addr)(i:Nat)(o:Obj):Prop:=o.cls=.type "list_iterator" /\ o.data=.fields #[.ref a,.int i 0]
abbrev KS (a:Addr)(i:Nat)(o:Obj):Prop:=o.cls=.type "tuple_iterator" /\ o.data=.fields #[.ref a,.int i 0]
def Bw (a it:Addr)(its:Array Value):lA a it its (λ h=>h.IsList a its) (KU a) where
 ext:=λ x k=>x.at k
 item:=λ hs ⟨o,h1,h2,h3⟩ hx hQ=>wpAny_nextOf_list_item ⟨o,h1,h2,h3⟩ hs hx λ h' st sb=>hQ h' st sb
 done:=λ hh hs ⟨o,h1,h2,h3⟩ hx hE=>wpAny_nextOf_list_end hh ⟨o,h1,h2,h3⟩ hs hx hE
def DX (a it:Addr)(its:Array Value):lA a it its (λ h=>h.IsTuple a its) (KS a) where
 ext:=λ ⟨o,h1,h2⟩ k=>⟨o,k o h1,h2⟩
 item:=λ hs ⟨o,h1,h2,h3⟩ hx hQ=>jm ⟨o,h1,h2,h3⟩ hs hx λ h' st sb=>hQ h' st sb
 done:=λ hh hs ⟨o,h1,h2,h3⟩ hx hE=>jL hh ⟨o,h1,h2,h3⟩ hs hx hE
section
variable{z TI TO i1 i2:Addr}{k:Nat}{ys:Array Value}{a b:Value}{seq1 sL:Heap->Prop}{nx1 nx2:Nat->Obj->Prop}
def zx {x y:Value}{Q:Option Value->Shared->Prop}(S1:lA l1 i1 xs seq1 nx1)(S2:lA l2 i2 ys sL nx2)(D:ZipApart z TI TO i1 i2 l1 l2)(hz:IsZip s.heap z TI TO .none)(hI:IsPair s.heap TI (.ref i1) (.ref i2))(hO:IsPair s.heap TO a b)
  (h1:∃ o,s.heap.get? i1=some o/\nx1 k o) (h2:∃ o,s.heap.get? i2=some o/\nx2 k o) (hl1:seq1 s.heap) (hl2:sL s.heap) (hx:xs[k]?=some x) (hy:ys[k]?=some y)
  (hQ:∀ h',IsZip h' z TI TO (rawInt s.heap.objs.size)->IsPair h' TO x y->(∃ o,h'.get? i1=some o/\nx1 (k+1) o)->(∃ o,h'.get? i2=some o/\nx2 (k+1) o)->IsPair h' s.heap.objs.size x y ->
   (∀ c o,c≠z->c≠TO->c≠i1->c≠i2->s.heap.get? c=some o->h'.get? c=some o)->Q (some (.ref s.heap.objs.size)) { s with heap:=h' }):wpAny (model prog w) A (pyNext (.ref z)) Q E s:=by
 have hT:s.TypeIs (.ref z) "zip" :=⟨_,hz,rfl⟩;unfold pyNext;refine La (MT (LX (name:=Str.ofString "__next__") hT Oz (LV Oz hT F.entry_zip_next ?_ (F.args_zip_next_1 _))));show wpAny _ _ (field (.ref z) 2 >>= _) _ _ _;refine La (Mb hz rfl (x:=.bool false) rfl (show wpAny _ _ (field (.ref z) 3 >>= _) _ _ _ from La (Mb hz rfl (x:=.ref TI) rfl (La (ME hI rfl ?_)))));show wpAny _ _ (Builtin.SmallTypes.ownedTupleIsFree (.ref z) >>= _) _ _ _;refine La ?_;unfold Builtin.SmallTypes.ownedTupleIsFree;refine La (Mb hz rfl (x:=.none) rfl (Lf ?_));simp only[Nh];refine La (NG (La (Mb hz rfl (x:=.ref TO) rfl (La (LK hz (by simp) λ g1 hz1 hs1=>?_)))));replace hz1:IsZip g1 z TI TO .ellipsis:=hz1;refine La ?_;simp only[List.zipIdx_cons,List.zipIdx_nil,NV,OL];refine La (La (O7 (show wpAny _ _ (Builtin.SmallTypes.nextOf (.ref i1) >>= _) _ _ _ from La (S1.item (S1.ext hl1 λ o q=>hs1.extBut _ _ D.l1z q) (h1.imp λ o q=>⟨hs1.extBut _ _ D.i1z q.1,q.2⟩) hx λ g2 h12 hs2=>Lf ?_))));have hO2:IsPair g2 TO a b:=hs2.extBut _ _ D.TOi1 (hs1.extBut _ _ D.TOz hO);refine La (ME hO2 rfl (La (Ot hO2 λ g3 hO3 hs3=>?_)));replace hO3:IsPair g3 TO x b:=hO3;refine La (O1 (Lf (La (La (O7 (show wpAny _ _ (Builtin.SmallTypes.nextOf (.ref i2) >>= _) _ _ _ from La (S2.item (S2.ext hl2 λ o q=>hs3.extBut _ _ D.l2TO (hs2.extBut _ _ D.l2i1 (hs1.extBut _ _ D.l2z q))) (h2.imp λ o q=>⟨hs3.extBut _ _ D.TOi2.symm (hs2.extBut _ _ D.i12.symm (hs1.extBut _ _ D.i2z q.1)),q.2⟩) hy λ g4 h24 hs4=>Lf ?_)))))));have hO4:IsPair g4 TO x b:=hs4.extBut _ _ D.TOi2 hO3;refine La (ME hO4 rfl (La (Ot hO4 λ g5 hO5 hs5=>?_)));replace hO5:IsPair g5 TO x y:=hO5;refine La (O1 (Lf (Lf (La (ME hO5 rfl (La (ON ?_)))))));have sz:g5.objs.size=s.heap.objs.size:=by rw[hs5.1,hs4.1,hs3.1,hs2.1,hs1.1]
 have hz5:IsZip g5 z TI TO .ellipsis:=hs5.extBut _ _ D.TOz.symm (hs4.extBut _ _ D.i2z.symm (hs3.extBut _ _ D.TOz.symm (hs2.extBut _ _ D.i1z.symm hz1)));have kp:∀ c o,c≠z->c≠TO->c≠i1->c≠i2->s.heap.get? c=some o->g5.get? c=some o:=λ c o c1 c2 c3 c4 e=>hs5.extBut _ _ c2 (hs4.extBut _ _ c4 (hs3.extBut _ _ c2 (hs2.extBut _ _ c3 (hs1.extBut _ _ c1 e))));have n1:∃ o,g5.get? i1=some o/\nx1 (k+1) o:=h12.imp λ o q=>⟨hs5.extBut _ _ D.TOi1.symm (hs4.extBut _ _ D.i12 (hs3.extBut _ _ D.TOi1.symm q.1)),q.2⟩;have n2:∃ o,g5.get? i2=some o/\nx2 (k+1) o:=h24.imp λ o q=>⟨hs5.extBut _ _ D.TOi2.symm q.1,q.2⟩;have zlt:z<g5.objs.size:=Lk hz5;show wpAny _ _ (Builtin.SmallTypes.ownedTupleHandOut (.ref z) (.ref g5.objs.size) >>= _) _ _ _;refine La ?_;unfold Builtin.SmallTypes.ownedTupleHandOut;have hz6:IsZip (g5.push { cls:=.type "tuple",data:=.seq #[x,y] }) z TI TO .ellipsis:=Lb _ hz5;refine La (LK hz6 (by simp) λ g7 hz7 hs7=>?_);replace hz7:IsZip g7 z TI TO (rawInt g5.objs.size):=hz7;refine LK hz7 (by simp) λ g8 hz8 hs8=>?_;replace hz8:IsZip g8 z TI TO (rawInt g5.objs.size):=hz8;have up:∀ c o,c≠z->g5.get? c=some o->g8.get? c=some o:=λ c o c1 e=>hs8.extBut _ _ c1 (hs7.extBut _ _ c1 (Lb _ e));have hT8:IsPair g8 g5.objs.size x y:=hs8.extBut _ _ (M7 zlt) (hs7.extBut _ _ (M7 zlt) (Lj _ rfl));rw[sz]at hz8 hT8;refine Lf ⟨_,rfl,Lf ?_⟩;show Q (some (.ref g5.objs.size)) _;rw[sz];exact hQ g8 hz8 (up _ _ D.TOz hO5) (n1.imp λ o q=>⟨up _ o D.i1z q.1,q.2⟩) (n2.imp λ o q=>⟨up _ o D.i2z q.1,q.2⟩) hT8 λ c o c1 c2 c3 c4 e=>up c o c1 (kp c o c1 c2 c3 c4 e)
def Bv {Q:Option Value->Shared->Prop}(hh:A.handled=none)(S1:lA l1 i1 xs seq1 nx1)(S2:lA l2 i2 ys sL nx2)(D:ZipApart z TI TO i1 i2 l1 l2)(hz:IsZip s.heap z TI TO .none)(hI:IsPair s.heap TI (.ref i1) (.ref i2))(hO:IsPair s.heap TO a b)
  (h1:∃ o,s.heap.get? i1=some o/\nx1 k o) (h2:∃ o,s.heap.get? i2=some o/\nx2 k o) (hl1:seq1 s.heap) (hl2:sL s.heap) (he:xs[k]?=none\/ys[k]?=none)
  (hQ:∀ h',(∀ c o,c≠z->c≠TO->c≠i1->c≠i2->s.heap.get? c=some o->h'.get? c=some o)->Q none { s with heap:=h' }):wpAny (model prog w) A (pyNext (.ref z)) Q E s:=by
 have hT:s.TypeIs (.ref z) "zip" :=⟨_,hz,rfl⟩;unfold pyNext;refine La (MT (LX (name:=Str.ofString "__next__") hT Oz (LV Oz hT F.entry_zip_next ?_ (F.args_zip_next_1 _))));have fin:∀ (h':Heap) (e:Addr),(∀ c o,c≠z->c≠TO->c≠i1->c≠i2->s.heap.get? c=some o->h'.get? c=some o)->(∃ o,h'.get? e=some o/\o.cls=.type "StopIteration") ->
   wpAny (model prog w) A (do let b <-isInstance (.ref e) (.type "StopIteration");if b=true then pure none else throw (.ref e)) Q E { s with heap:=h' }:=λ h' e kp ⟨o,ho,hc⟩=>La (Ny (T:="StopIteration") (b:=true) ⟨o,ho,hc⟩ isSubtype_stop (Lf (hQ h' kp)))
 show wpAny _ _ (field (.ref z) 2 >>= _) _ _ _;refine La (Mb hz rfl (x:=.bool false) rfl (show wpAny _ _ (field (.ref z) 3 >>= _) _ _ _ from La (Mb hz rfl (x:=.ref TI) rfl (La (ME hI rfl ?_)))));show wpAny _ _ (Builtin.SmallTypes.ownedTupleIsFree (.ref z) >>= _) _ _ _;refine La ?_;unfold Builtin.SmallTypes.ownedTupleIsFree;refine La (Mb hz rfl (x:=.none) rfl (Lf ?_));simp only[Nh];refine La (NG (La (Mb hz rfl (x:=.ref TO) rfl (La (LK hz (by simp) λ g1 hz1 hs1=>?_)))));replace hz1:IsZip g1 z TI TO .ellipsis:=hz1;refine La ?_;simp only[List.zipIdx_cons,List.zipIdx_nil,NV,OL];refine La (La (O7 (show wpAny _ _ (Builtin.SmallTypes.nextOf (.ref i1) >>= _) _ _ _ from La ?_)));have b1:=S1.ext hl1 λ o q=>hs1.extBut _ _ D.l1z q;have c1:∃ o,g1.get? i1=some o/\nx1 k o:=h1.imp λ o q=>⟨hs1.extBut _ _ D.i1z q.1,q.2⟩;cases hx:xs[k]? with
 | none =>
  refine S1.done hh b1 c1 hx λ g2 e hs2 ⟨oe,ho,hc⟩=>?_;have hz2:IsZip g2 z TI TO .ellipsis:=hs2 _ _ D.i1z.symm hz1;have hne:e≠z:=λ x=>by subst x;rw[hz2]at ho;cases ho;simp at hc
  refine LK hz2 (by simp) λ g3 _ hs3=>fin g3 e (λ c o c1 _ c3 _ x=>hs3.extBut _ _ c1 (hs2 _ _ c3 (hs1.extBut _ _ c1 x))) ⟨oe,hs3.extBut _ _ hne ho,hc⟩
 | some x =>
  have hy:ys[k]?=none:=he.resolve_left λ q=>by rw[hx]at q;cases q
  refine S1.item b1 c1 hx λ g2 h12 hs2=>Lf ?_;have hO2:IsPair g2 TO a b:=hs2.extBut _ _ D.TOi1 (hs1.extBut _ _ D.TOz hO);refine La (ME hO2 rfl (La (Ot hO2 λ g3 hO3 hs3=>?_)));refine La (O1 (Lf (La (La (O7 (show wpAny _ _ (Builtin.SmallTypes.nextOf (.ref i2) >>= _) _ _ _ from La (S2.done hh (S2.ext hl2 λ o q=>hs3.extBut _ _ D.l2TO (hs2.extBut _ _ D.l2i1 (hs1.extBut _ _ D.l2z q))) (h2.imp λ o q=>⟨hs3.extBut _ _ D.TOi2.symm (hs2.extBut _ _ D.i12.symm (hs1.extBut _ _ D.i2z q.1)),q.2⟩) hy λ g4 e hs4 ⟨oe,ho,hc⟩=>?_)))))));have hz4:IsZip g4 z TI TO .ellipsis:=hs4 _ _ D.i2z.symm (hs3.extBut _ _ D.TOz.symm (hs2.extBut _ _ D.i1z.symm hz1));have hne:e≠z:=λ x=>by subst x;rw[hz4]at ho;cases ho;simp at hc
  refine LK hz4 (by simp) λ g5 _ hs5=>fin g5 e (λ c o c1 c2 c3 c4 x=>hs5.extBut _ _ c1 (hs4 _ _ c4 (hs3.extBut _ _ c2 (hs2.extBut _ _ c3 (hs1.extBut _ _ c1 x))))) ⟨oe,hs5.extBut _ _ hne ho,hc⟩
end
def uX (b:Bool)(l:Addr):Obj:={ cls:=.type (if b=true then "tuple_iterator" else "list_iterator"),data:=.fields #[.ref l,.int 0 0] }
def om (b:Bool)(h:Heap)(l:Addr)(xs:Array Value):Prop:=if b=true then h.IsTuple l xs else h.IsList l xs
def zy{h:Heap}(x:om b h l xs)(o:Obj):om b (h.push o) l xs:=by
 cases b
 ·exact Heap.IsList.push x o
 ·obtain⟨u,h1,h2⟩:=x;exact⟨u,Lb _ h1,h2⟩
def zH (b1 b2:Bool)(h:Heap)(l1 l2:Addr):Heap:=((((h.push (uX b1 l1)).push (uX b2 l2)).push { cls:=.type "tuple",data:=.seq #[.ref h.objs.size,.ref (h.objs.size+1)] }).push { cls:=.type "tuple",data:=.seq #[.none,.none] }).push { cls:=.type "zip",data:=.fields #[.none,.bool false,.bool false,.ref (h.objs.size+2),.ref (h.objs.size+3)] }
def jt{Q:Value->Shared->Prop}(h:om b s.heap l xs)(k:Q (.ref s.heap.objs.size) { s with heap:=s.heap.push (uX b l) }):wpAny (model prog w) A (pyIter (.ref l)) Q E s:=by
 cases b
 ·exact O3 h k
 ·exact NY h k
def tm (b1 b2:Bool)(l1 l2:Addr)(xs ys:Array Value) :
  Meets (Builtin.«zip.__new__» ⟨[.type "zip",.ref l1,.ref l2],[]⟩) (λ _ R s=>om b1 s.heap l1 xs/\om b2 s.heap l2 ys/\R (.ok (.ret (.ref (s.heap.objs.size+4)))) { s with heap:=zH b1 b2 s.heap l1 l2 }):=
 .of_wp λ prog w A R s h=>by
  obtain⟨hp,g,d,tk,os⟩:=s;obtain⟨hl1,hl2,h⟩:=h;have hsub:=sub_zip;have q1:om b1 (Shared.heap ⟨hp,g,d,tk,os⟩) l1 xs:=hl1;have q2:om b2 (Shared.heap ⟨hp.push (uX b1 l1),g,d,tk,os⟩) l2 ys:=zy hl2 _
  wp_walk using jt q1,jt q2
  refine⟨_,rfl,?_⟩;simp only[Mf];exact h
def uY{b1 b2:Bool}{ys:Array Value}{Q:Value->Shared->Prop}(h1:om b1 s.heap l1 xs)(h2:om b2 s.heap l2 ys)
  (h:∀ h',IsZip h' (s.heap.objs.size+4) (s.heap.objs.size+2) (s.heap.objs.size+3) .none->IsPair h' (s.heap.objs.size+2) (.ref s.heap.objs.size) (.ref (s.heap.objs.size+1))->IsPair h' (s.heap.objs.size+3) .none .none->h'.get? s.heap.objs.size=some (uX b1 l1)->h'.get? (s.heap.objs.size+1)=some (uX b2 l2) ->
   (∀ c o,s.heap.get? c=some o->h'.get? c=some o)->Q (.ref (s.heap.objs.size+4)) { s with heap:=h' }):wpAny (model prog w) A (call (.type "zip") [.ref l1,.ref l2]) Q E s:=by
 refine callType_new F.called_zip (by decide) (F.typeCall_zip_2 _ _) (F.newCall_zip_2 _ _) (λ obj=>F.args_object_init_3 obj _ _) F.entry_zip_new (tm b1 b2 l1 l2 xs ys) ⟨h1,h2,?_⟩;have e5:(zH b1 b2 s.heap l1 l2).get? (s.heap.objs.size+4)=some { cls:=.type "zip",data:=.fields #[.none,.bool false,.bool false,.ref (s.heap.objs.size+2),.ref (s.heap.objs.size+3)] }:=by
  have:=Lj ((((s.heap.push (uX b1 l1)).push (uX b2 l2)).push { cls:=.type "tuple",data:=.seq #[.ref s.heap.objs.size,.ref (s.heap.objs.size+1)] }).push { cls:=.type "tuple",data:=.seq #[.none,.none] }) (o:={ cls:=.type "zip",data:=.fields #[.none,.bool false,.bool false,.ref (s.heap.objs.size+2),.ref (s.heap.objs.size+3)] }) rfl;simp only[Mf]at this;exact this
 have e4:(zH b1 b2 s.heap l1 l2).get? (s.heap.objs.size+3)=some { cls:=.type "tuple",data:=.seq #[.none,.none] }:=by
  have:=Lj (((s.heap.push (uX b1 l1)).push (uX b2 l2)).push { cls:=.type "tuple",data:=.seq #[.ref s.heap.objs.size,.ref (s.heap.objs.size+1)] }) (o:={ cls:=.type "tuple",data:=.seq #[.none,.none] }) rfl;simp only[Mf]at this;exact Lb _ this
 have e3:(zH b1 b2 s.heap l1 l2).get? (s.heap.objs.size+2)=some { cls:=.type "tuple",data:=.seq #[.ref s.heap.objs.size,.ref (s.heap.objs.size+1)] }:=by
  have:=Lj ((s.heap.push (uX b1 l1)).push (uX b2 l2)) (o:={ cls:=.type "tuple",data:=.seq #[.ref s.heap.objs.size,.ref (s.heap.objs.size+1)] }) rfl;simp only[Mf]at this;exact Lb _ (Lb _ this)
 have e2:(zH b1 b2 s.heap l1 l2).get? (s.heap.objs.size+1)=some (uX b2 l2):=by
  have:=Lj (s.heap.push (uX b1 l1)) (o:=uX b2 l2) rfl;simp only[Mf]at this;exact Lb _ (Lb _ (Lb _ this))
 have e1:(zH b1 b2 s.heap l1 l2).get? s.heap.objs.size=some (uX b1 l1):=Lb _ (Lb _ (Lb _ (Lb _ (Lj _ rfl))));exact⟨⟨_,e5,rfl⟩,h _ e5 e3 e4 e1 e2 λ c o x=>Lb _ (Lb _ (Lb _ (Lb _ (Lb _ x))))⟩
def By (K:PySem.W.Frag)(b:Bool)(a:Addr)(H:Hp)(xs:List V):Prop:=if b=true then iZ K H a xs else c8 K H a xs
def IJ (b:Bool)(a:Addr)(i:Nat)(o:Obj):Prop:=if b=true then KS a i o else KU a i o
def tq (b:Bool)(a it:Addr)(its:Array Value):lA a it its (λ h=>om b h a its) (IJ b a):=by
 cases b
 ·exact Bw a it its
 ·exact DX a it its
def xR{i:Nat}{o:Obj}(h:IJ b a i o):∀ v,o.data ≠ .cell v:=λ v z=>by
 cases b
 ·rw[show o.data=_ from h.2]at z;cases z
 ·rw[show o.data=_ from h.2]at z;cases z
def xT (b:Bool)(a:Addr):IJ b a 0 (uX b a):=by
 cases b
 ·exact⟨rfl,rfl⟩
 ·exact⟨rfl,rfl⟩
def mY{pins:List (Addr×Obj)}{σ:St}{H:Hp}{xs:List V}(I:Inv X pins σ H s)(h:By X.K b a H xs):∃ its,Vals xs its/\om b s.heap a its.toArray:=by
 cases b
 ·obtain⟨its,rv,p,_⟩:=I.list h;exact⟨its,rv,p.isList⟩
 ·obtain⟨its,rv,p,_⟩:=I.tuple h;exact⟨its,rv,fN p⟩
def xQ{pins:List (Addr×Obj)}{σ:St}{H:Hp}{xs ys:List V}(I:Inv X pins σ H s)(h:By X.K b a H xs)(h':By X.K b a H ys):xs=ys:=by
 cases b
 ·exact I.oT h h'
 ·exact I.mO h h'
def Iz (src1 src2:Hp->List V->Prop):It:=
 ⟨λ i H=>∃ xs x ys y,src1 H xs/\xs[i]?=some x/\src2 H ys/\ys[i]?=some y,λ i H v H'=>∃ p y1 y2,v=.ref p/\H p=none/\H'=upd H p (.tup [y1,y2])/\(∀ xs,src1 H xs->xs[i]?=some y1)/\∀ ys,src2 H ys->ys[i]?=some y2,λ i H=>∃ xs ys,src1 H xs/\src2 H ys/\(xs.length<=i\/ys.length<=i)⟩
def K8 (b1 b2:Bool)(z TI TO i1 i2 l1 l2:Addr)(i:Nat)(h:Heap):Prop:=IsZip h z TI TO .none/\IsPair h TI (.ref i1) (.ref i2)/\(∃ a b,IsPair h TO a b)/\(∃ o,h.get? i1=some o/\IJ b1 l1 i o)/\∃ o,h.get? i2=some o/\IJ b2 l2 i o
def BA {P:Program}{K:PySem.W.Frag}{elts:List Expr}{x1:Nat}{tp:Pos}{z TI TO i1 i2:Addr}(b1 b2:Bool)(D:ZipApart z TI TO i1 i2 l1 l2) :
  Turn P w K (.Tuple elts x1 tp) (Iz (By K b1 l1) (By K b2 l2)) [z,TI,TO,i1,i2] z (K8 b1 b2 z TI TO i1 i2 l1 l2) where
 mem:=by simp
 obj:=λ i h st b hb=>by
  obtain⟨h1,h2,⟨u,v,h3⟩,⟨o1,h4,h5⟩,o2,h6,h7⟩:=st;simp only[Ln,Mv,or_false]at hb;rcases hb with q|q|q|q|q<;>subst q
  ·exact⟨_,h1,λ v z=>by cases z⟩
  ·exact⟨_,h2,λ v z=>by cases z⟩
  ·exact⟨_,h3,λ v z=>by cases z⟩
  ·exact⟨o1,h4,xR h5⟩
  ·exact⟨o2,h6,xR h7⟩
 keep:=λ i h h' st k=>by
  obtain⟨h1,h2,⟨u,v,h3⟩,⟨o1,h4,h5⟩,o2,h6,h7⟩:=st;exact⟨k z (by simp) _ h1,k TI (by simp) _ h2,⟨u,v,k TO (by simp) _ h3⟩,⟨o1,k i1 (by simp) _ h4,h5⟩,o2,k i2 (by simp) _ h6,h7⟩
 item:=by
  intro X hP hw hK hc i pins s σ H E I hf st hg;obtain⟨xs,x,ys,y,hq1,hx,hq2,hy⟩:=hg;obtain⟨h1,h2,⟨u,v,h3⟩,h4,h5⟩:=st;subst hP hw hK;obtain⟨its1,rv1,sq1⟩:=mY I hq1;obtain⟨its2,rv2,sq2⟩:=mY I hq2;obtain⟨ux,hux,rux⟩:=rv1.get hx;obtain⟨uy,huy,ruy⟩:=rv2.get hy;have zlt:z<s.heap.objs.size:=Lk h1;refine zx (tq b1 l1 i1 its1.toArray) (tq b2 l2 i2 its2.toArray) D h1 h2 h3 h4 h5 sq1 sq2 (by simpa using hux) (by simpa using huy) λ h' k1 k2 k3 k4 k5 k6=>⟨_,rfl,wpAny_letOwnedTupleGo_zip k1 λ h'' m1 m2=>?_⟩;have m2:Heap.SameBut z h' h'':=m2;have fr:H s.heap.objs.size=none:=I.fresh;have kp:∀ b o,b∉[z,TI,TO,i1,i2]->s.heap.get? b=some o->h''.get? b=some o:=λ b o hb q=>(m2.2 b λ e=>hb (by simp[e])).trans (k6 b o (λ e=>hb (by simp[e])) (λ e=>hb (by simp[e])) (λ e=>hb (by simp[e])) (λ e=>hb (by simp[e])) q);have hTI:IsPair h'' TI (.ref i1) (.ref i2):=(m2.2 TI D.TIz).trans (k6 TI _ D.TIz D.TITO D.TIi1 D.TIi2 h2);have tp:h''.get? s.heap.objs.size=some { cls:=.type "tuple",data:=.seq #[ux,uy] }:=(m2.2 _ (M7 zlt)).trans k5;have ok1:i6 X.prog X.w H h'':=λ b o hb=>(I.hok b o hb).stay (λ c v hcb q=>kp c v (λ e=>by
    have n:=(hf c e).1;rcases hcb with e2|e2
    ·subst e2;rw[n]at hb;cases hb
    ·rw[n]at e2;cases e2) q) (λ _ e=>e) λ _ _ e=>e
  have ok2:i6 X.prog X.w (upd H s.heap.objs.size (.tup [x,y])) h'':=sI ok1 fr ⟨by show 2<=sizeLine;decide,[ux,uy],.cons rux (.cons ruy .nil),⟨_,tp⟩⟩;have I2:Inv X pins σ (upd H s.heap.objs.size (.tup [x,y])) { s with heap:=h'' }:=by
   refine I.step (t':=s.toks) (g':=s.gens) (d':=s.drawn) (ch:=[z,TI,TO,i1,i2]) (λ b hb=>?_) (λ b o _ _ hb q _=>kp b o hb q) (λ b o _ _ hb q _=>⟨o.slots,kp b o hb q⟩)
    (λ b o _ q n=>by rw[aG (LH (Lk q))];exact n) (λ b o hb q=>⟨o,kp b o hb q⟩)
    (λ b ys q=>by rw[aG (bo q fr)];exact q) (λ b o v q=>by rw[aG (bo q fr)];exact q) (λ b ps q=>⟨#[],by rw[aG (bo q fr),NZ];exact q⟩)
    (λ m hm=>hm.at λ o q=>kp _ o (λ e=>(hf _ e).2.1 rfl) q) ok2 I.bare
   obtain⟨f0,f1,f2,f3,f4,f5⟩:=hf b hb;exact⟨f3,f1,f4,f5⟩
  refine⟨.ref s.heap.objs.size,_,I2,rfl,⟨_,x,y,rfl,fr,rfl,λ ws hw=>by rw[xQ I hw hq1];exact hx,λ ws hw=>by rw[xQ I hw hq2];exact hy⟩,⟨m1,hTI,⟨ux,uy,(m2.2 TO D.TOz).trans k2⟩,k3.imp λ o q=>⟨(m2.2 i1 D.i1z).trans q.1,q.2⟩,k4.imp λ o q=>⟨(m2.2 i2 D.i2z).trans q.1,q.2⟩⟩,λ b hb=>?_⟩;have lt:b<s.heap.objs.size:=by
   simp only[Ln,Mv,or_false]at hb;rcases hb with q|q|q|q|q<;>subst q
   ·exact zlt
   ·exact Lk h2
   ·exact Lk h3
   ·obtain⟨_,q,_⟩:=h4;exact Lk q
   ·obtain⟨_,q,_⟩:=h5;exact Lk q
  rw[aG (LH lt)];exact(hf b hb).1
 done:=by
  intro X hP hw hK hc i pins s σ H E I hf st hg;obtain⟨xs,ys,hq1,hq2,he⟩:=hg;obtain⟨h1,h2,⟨u,v,h3⟩,h4,h5⟩:=st;subst hP hw hK;obtain⟨its1,rv1,sq1⟩:=mY I hq1;obtain⟨its2,rv2,sq2⟩:=mY I hq2;have e1:=rv1.length;have e2:=rv2.length;refine Bv (I.ok.hd hc) (tq b1 l1 i1 its1.toArray) (tq b2 l2 i2 its2.toArray) D h1 h2 h3 h4 h5 sq1 sq2 (he.imp (λ q=>by simp;omega) λ q=>by simp;omega) λ h' k6=>⟨rfl,?_⟩;have kp:∀ b o,b∉[z,TI,TO,i1,i2]->s.heap.get? b=some o->h'.get? b=some o:=λ b o hb q=>k6 b o (λ e=>hb (by simp[e])) (λ e=>hb (by simp[e])) (λ e=>hb (by simp[e])) (λ e=>hb (by simp[e])) q;have ok1:i6 X.prog X.w H h':=λ b o hb=>(I.hok b o hb).stay (λ c v hcb q=>kp c v (λ e=>by
    have n:=(hf c e).1;rcases hcb with e2|e2
    ·subst e2;rw[n]at hb;cases hb
    ·rw[n]at e2;cases e2) q) (λ _ e=>e) λ _ _ e=>e
  refine I.step (t':=s.toks) (g':=s.gens) (d':=s.drawn) (ch:=[z,TI,TO,i1,i2]) (λ b hb=>?_) (λ b o _ _ hb q _=>kp b o hb q) (λ b o _ _ hb q _=>⟨o.slots,kp b o hb q⟩)
   (λ _ _ _ _ n=>n) (λ b o hb q=>⟨o,kp b o hb q⟩) (λ _ _ q=>q) (λ _ _ _ q=>q) (λ b ps q=>⟨#[],by rw[NZ];exact q⟩)
   (λ m hm=>hm.at λ o q=>kp _ o (λ e=>(hf _ e).2.1 rfl) q) ok1 I.bare
  obtain⟨f0,f1,f2,f3,f4,f5⟩:=hf b hb;exact⟨f3,f1,f4,f5⟩
 self:=λ _ _ _ _ _ st h=>wpAny_pyIter_zip st.1 h
def xS{h:Heap}(x:om b h l xs):l<h.objs.size:=by
 cases b
 ·obtain⟨o,e,_⟩:=x;exact Lk e
 ·obtain⟨o,e,_⟩:=x;exact Lk e
def GA{elts:List Expr}{x1:Nat}{tp p pos:Pos}{l m:Expr}{ta:TA}(hg:Gl X "zip")(hm:X.mg "zip" = none)(ha:PA X [l,m] ta)(hs:starEach [l,m] X.env=[(false,eval l X.env),(false,eval m X.env)]:=by rfl)(hs2:starEach [m] X.env=[(false,eval m X.env)]:=by rfl) :
  PI X (.Tuple elts x1 tp) (.Call (.Name "zip" p) [l,m] [] pos) (λ σ H R=>ta σ H λ vs H1=>∃ b1 b2 a1 a2 xs ys,vs=[.ref a1,.ref a2]/\By X.K b1 a1 H1 xs/\By X.K b2 a2 H1 ys/\R (Iz (By X.K b1 a1) (By X.K b2 a2)) H1):=by
 intro pins s σ H R I h;refine MF (i7 I hg hm (by decide +kernel:bootBuiltins "zip" = some (.type "zip")) ?_);refine Mz (dM (ha pos pins s σ H _ I h) λ us s1 hq5=>L2.ex5 hq5 λ vs H1 I1 r1 q1=>?_) (by rw[hs,hs2]) (by rw[hs2];rfl);obtain⟨b1,b2,a1,a2,xs,ys,rfl,hq1,hq2,q⟩:=q1;obtain⟨u,u',rfl,ru,ru'⟩:=vals2 r1;cases ru;cases ru';obtain⟨its1,rv1,sq1⟩:=mY I1 hq1;obtain⟨its2,rv2,sq2⟩:=mY I1 hq2;refine uY sq1 sq2 λ h' e1 e2 e3 e4 e5 e6=>wpAny_pyIter_zip e1 ?_;have I2:Inv X pins σ H1 { s1 with heap:=h' }:=I1.kept (t':=s1.toks) e6;refine⟨_,_,_,_,H1,rfl,I2,BA b1 b2 (zipApart_new (xS sq1) (xS sq2)),⟨e1,e2,⟨_,_,e3⟩,⟨_,e4,xT b1 a1⟩,⟨_,e5,xT b2 a2⟩⟩,λ b hb=>?_,q⟩;have le:s1.heap.objs.size<=b:=by
  simp only[Ln,Mv,or_false]at hb;rcases hb with e|e|e|e|e<;>(rw[e];first|exact Ll _|exact Pc _ _)
 exact I1.qm le (I1.hok.fresh le)
end L2
namespace DL
open PySem PySem.Spec PyProof.Rows L2
section
variable {K:PySem.W.Frag}{Y:XY}{H0 B0 B H:Hp}{σ:L2.St}{τ:SD}{P:List Addr}{F:Addr->Prop}{X:Cx}{pos:Pos}
def kM (xs ys:List D):List D:=List.zipWith (λ x y=>D.tup [x,y]) xs ys
def IK:List D->Res (Bool×List D)
 |[d,e]=>(br d).bind λ p=>(br e).bind λ q=>.ok (p.1||q.1,kM p.2 q.2)
 |_=>.bad
def tw (f:SD->Res (List D))(τ:SD):Res (Bool×List D):=(f τ).bind IK
def u0:∀ xs ys:List D,aE (kM xs ys)=kM (aE xs) (aE ys)
 |[],_=>rfl|_::_,[]=>rfl
 | x::xs,y::ys=>by
  show(D.tup [x,y]).aq::aE (kM xs ys)=D.tup [x.aq,y.aq]::kM (aE xs) (aE ys);rw[u0 xs ys];rfl
def tu (xs ys:List D):(kM xs ys).length=min xs.length ys.length:=by simp[kM]
def BC {xs ys:List D}{i:Nat}{d:D}(h:(kM xs ys)[i]?=some d):∃ x y,xs[i]?=some x/\ys[i]?=some y/\d=.tup [x,y]:=by
 unfold kM at h;rw[Ob]at h;cases hx:xs[i]? with
 |none=>rw[hx]at h;cases h
 | some x =>
  cases hy:ys[i]? with
  |none=>rw[hx,hy]at h;cases h
  | some y =>
   rw[hx,hy]at h;cases h;exact⟨x,y,rfl,rfl,rfl⟩
def DY {src1 src2:Hp->List V->Prop}{ds es:List D}{vs ws:List V}(r:ai K B No H ds vs [])(r':ai K B No H es ws [])(q:∀ B' H':Hp,au B B'->au B' H'->jP H H'->src1 H' vs)(q':∀ B' H':Hp,au B B'->au B' H'->jP H H'->src2 H' ws):DR K (Iz src1 src2) (kM ds es) B H where
 go:=λ B' H' i d s1 s2 im e=>by
  obtain⟨x,y,h1,h2,rfl⟩:=BC e;obtain⟨v,f,a1,_⟩:=r.get h1;obtain⟨w,g,a2,_⟩:=r'.get h2;exact⟨vs,v,ws,w,q B' H' s1 s2 im,a1,q' B' H' s1 s2 im,a2⟩
 vM:=λ B' H' i d x H'' s1 s2 im e y=>by
  obtain⟨p,w1,w2,rfl,hp,rfl,hy1,hy2⟩:=y;obtain⟨dx,dy,h1,h2,rfl⟩:=BC e;obtain⟨v,f,a1,a2,a3⟩:=r.get h1;obtain⟨w,g,c1,c2,c3⟩:=r'.get h2;have z1:=hy1 vs (q B' H' s1 s2 im);have z2:=hy2 ws (q' B' H' s1 s2 im);rw[z1]at a1;cases a1;rw[z2]at c1;cases c1;cases lR a3;cases lR c3;have s:=dm (o:=.tup [w1,w2]) hp;exact⟨s,p,[w1,w2],rfl,aI,w1,[w2],[],[],rfl,(a2.stay s1 im rfl).mono s (au.refl _) (λ _ x=>x),ai.one ((c2.stay s1 im rfl).mono s (au.refl _) (λ _ x=>x)),rfl⟩
 stop:=λ B' H' s1 s2 im=>⟨vs,ws,q B' H' s1 s2 im,q' B' H' s1 s2 im,by
  have e1:=r.length;have e2:=r'.length;rw[tu];omega⟩
def uZ {d:D}{fl:Bool}{xs:List D}{v:V}{f:List Addr}(hi:br d=.ok (fl,xs))(I:SI K H0 B0 B H σ τ P F)(r:Rep K B (· ∈ P) H d v f) :
  ∃ b a vs,v=.ref a/\By K b a H vs/\∀ Bx:Hp,au B Bx->(∀ a∈f,∀ o,H a=some o->Bx a=some o)->(fl=true->∀ a∈P,∀ o,H a=some o->Bx a=some o)->∃ ws,ai K Bx No H (aE xs) ws []/\∀ B' H':Hp,au Bx B'->au B' H'->jP H H'->By K b a H' ws:=by
 cases d with
 | lst t ys =>
  cases hi;obtain⟨a,vs,g,rfl,q,_⟩:=r.lst I;refine⟨false,a,vs,rfl,q,λ Bx sB h1 h2=>?_⟩;obtain⟨a',ws,ea,q',rl,_⟩:Rep K Bx No H (D.lst .aq (aE xs)) (.ref a) []:=ia r sB h1 h2;cases ea;exact⟨ws,rl,λ B' H' z1 z2 _=>dH (z1.trans z2) q'⟩
 | tup ys =>
  cases hi;obtain⟨a,vs,rfl,q,_⟩:=r.tp;refine⟨true,a,vs,rfl,q,λ Bx sB h1 h2=>?_⟩;obtain⟨a',ws,ea,q',rl⟩:Rep K Bx No H (D.tup (aE xs)) (.ref a) []:=ia r sB h1 h2;cases ea;exact⟨ws,rl,λ B' H' z1 z2 im=>lT im (iZ.of q')⟩
 |_=>cases hi
def BB {elts:List Expr}{x1:Nat}{tp p:Pos}{l m:Expr}{fs:SD->Res (List D)}(hg:Gl X "zip")(hm:X.mg "zip" = none)(ha:PA X [l,m] (oB X.K Y fs))(hs:starEach [l,m] X.env=[(false,eval l X.env),(false,eval m X.env)]:=by rfl)(hs2:starEach [m] X.env=[(false,eval m X.env)]:=by rfl) :
  PI X (.Tuple elts x1 tp) (.Call (.Name "zip" p) [l,m] [] pos) (Aj X.K Y (tw fs)):=by
 refine PI.imp (GA hg hm ha hs hs2) λ σ H R hq=>ex8 hq λ H0 B0 B τ P F I h=>⟨H0,B0,B,τ,P,F,I,?_⟩;cases z:fs τ with
 |fT C=>simp only[tw,z,Res.iJ]at h;exact h|bad=>simp only[tw,z,Res.iI]at h
 | ok ds =>
  simp only[tw,z,Res.aH]at h;intro vs H1 B1 fp I1 s1 b1 r1 k1
  match ds,r1,h with
  | [d,e],r1,h =>
   obtain⟨v,u,f1,f2,rfl,rfl,rd,re⟩:=A6 r1;simp only[IK]at h;cases hd:br d with
   |fT C=>exfalso;cases d<;>cases hd
   |bad=>rw[hd]at h;exact h.elim
   | ok p =>
    obtain⟨g1,xs⟩:=p;rw[hd,Res.aH]at h;cases he:br e with
    |fT C=>exfalso;cases e<;>cases he
    |bad=>rw[he]at h;exact h.elim
    | ok p =>
     obtain⟨g2,ys⟩:=p;rw[he,Res.aH]at h;obtain⟨c1,a1,vs1,rfl,q1,k2⟩:=uZ hd I1 rd;obtain⟨c2,a2,vs2,rfl,q2,k3⟩:=uZ he I1 re;refine⟨c1,c2,a1,a2,vs1,vs2,rfl,q1,q2,h _ H1 _ (f1++f2) I1 s1 b1 k1 λ Bx sB sH h1 h2=>?_⟩;obtain⟨w1,rl1,m1⟩:=k2 Bx sB (λ a m=>h1 a (Lu _ m)) λ t=>h2 (by rw[t];rfl);obtain⟨w2,rl2,m2⟩:=k3 Bx sB (λ a m=>h1 a (Lx _ m)) λ t=>h2 (by rw[t];simp);rw[u0];exact DY rl1 rl2 m1 m2
  |[],r1,h=>exact h.elim|[_],r1,h=>exact h.elim|_::_::_::_,r1,h=>exact h.elim
end
section
variable {K:PySem.W.Frag}{Y:XY}{H0 B0 B H:Hp}{σ:L2.St}{τ:SD}{P:List Addr}{F:Addr->Prop}{X:Cx}{pos:Pos}{e:Expr}{fe:SD->Res D}
def GB (i:Nat)(xs:List D)(τ:SD):D->Fl
 |.lst .own ys=>if av ys=true then .bad else if xs.length+ys.length<=16777216 then .nx (τ.set i (some (.lst .own (xs++ys)))) else .bad
 |_=>.bad
def BD (i:Nat)(f:SD->Res D)(τ:SD):Fl:=match c5 τ i with
 |some xs=>(f τ).je τ (GB i xs τ)
 |none=>.bad
def IL (i:Nat){x:Str}{p1 apos cpos:Pos}(he:PE X e (tM X.K Y fe))(hN:X.N[i]?=some x:=by rfl)(hv:rY X.env.scope x:=by first|exact Or.inl rfl|exact Or.inr (Or.inl rfl)|exact Or.inr (Or.inr rfl))(hd:(x == ("__debug__" : Str))=false:=by decide)(hcd:(x == ("__classdict__" : Str))=false:=by decide)
  (hbase:attributeBase (.Name x p1) "extend" X.env (eval (.Name x p1) X.env)=eval (.Name x p1) X.env:=by rfl)
  (hfew:((backTo cpos (starEach [e] X.env)).all (λ x=>!x.1)&&(backToKw cpos (keywordEach [] X.env)).all (λ x=>x.1.isSome)
   && decide ([e].length+([]:List Keyword).length+(if ([]:List Keyword).isEmpty then 0 else 1)<30))=true:=by rfl)
  (hline:(apos.endLine == cpos.line)=true:=by rfl) (hs:starEach [e] X.env=(false,eval e X.env)::starEach [] X.env:=by rfl) (hplain:(backTo cpos (starEach [] X.env)).any (·.1)=false:=by rfl)
  (hsw:swapsWith (.Call (.Attribute (.Name x p1) "extend" apos) [e] [] cpos) none pos.line X.env=pure false:=by rfl) :
  PS X (.Expr (.Call (.Attribute (.Name x p1) "extend" apos) [e] [] cpos) pos) (i0 X.K Y (BD i fe)):=by
 refine PS.imp (gA (lK Mh PySem.F.slot_list_extend PySem.F.type_list_extend yY (dg hN hv hd hcd) (cR he dJ hs) hbase hfew hline hs hplain) hsw) λ E σ H hq=>ex7 hq λ H0 B0 B τ P I h=>?_;unfold BD at h;cases z:c5 τ i with
 |none=>rw[z]at h;exact h.elim
 | some xs =>
  rw[z]at h;have hi:=fO z;obtain⟨a,vs,ea,ha,hl⟩:=I.listAt hi;refine⟨.ref a,ea,.inl ⟨rfl,vs,c8.of ha⟩,kT I h λ d v H1 B1 fp _ I1 s1 b1 r1 k1 h1=>?_⟩;unfold GB at h1;split at h1
  ·rename_i ys hfe;obtain⟨b,ws,f,rfl,hb,rl2,rfl⟩:=r1;split at h1
   ·exact h1.elim
   ·rename_i hnb;split at h1
    ·rename_i hz;have ha1:=s1 a _ ha;have hl2:=rl2.length;refine⟨a,b,vs,ws,rfl,rfl,ha1,hb,by rw[<-hl,<-hl2,Ma];exact hz,?_⟩;have k2:fL H0 B1 H1 P No f:=k1.sub (NH _ _);obtain⟨P',I'⟩:=I1.Ba (xs':=xs++ys) (vs':=vs++ws) hi ea k2 (λ g _ rl=>⟨g++f,rl.append (rl2.gy (by simpa using hnb)),λ b m=>Ls.mp m,λ nf dis=>Lp.mpr ⟨nf,k2.nd,λ a ha b hb e=>dis b hb (e▸ha)⟩⟩) ha1;exact h1 B1 _ σ P' I'
    ·exact h1.elim
  ·exact h1.elim
end
end DL
namespace L2
open PySem PySem.Spec PyProof.Rows
section
variable {X:Cx}
end
end L2
namespace DL
open PySem PySem.Spec PyProof.Rows L2
end DL
namespace L2
open PySem PySem.Spec PyProof.Rows
def BE {P:Program}{w:World}{A:Around}{E:Value->Shared->Prop}{s:Shared}{items:Array Value}{x:Value}{e:Value->Bool}(he:∀ y,y∈items->MeetsSeq.EqGives y x (e y)){j:Nat}(hj:j<items.size)(hit:e items[j]=true)(hno:∀ m (hm:m<items.size),m<j->e items[m]=false)
  {Q:Option PySem.Fin×Unit->Shared->Prop} (hQ:Q (some (.done (.ret (.int j s.toks))),()) { s with toks:=s.toks+1 }):∀ (k i:Nat),i+k=items.size->i<=j ->
  wpAny (model P w) A (forIn (List.range' i k) ((none,()):Option PySem.Fin×Unit) λ (i:Nat) (_:Option PySem.Fin×Unit)=>(match items[i]? with
   | some y=>do
    let b <-eqBool y x
    if b=true then do
      let r <-retInt (i:Int)
      pure (ForInStep.done (some r,()))
     else pure (ForInStep.yield (none,()))
   |_=>pure (ForInStep.yield (none,()):ForInStep (Option PySem.Fin×Unit)):Sem (ForInStep (Option PySem.Fin×Unit)))) Q E s
 |0,i,h1,h2=>by omega
 | k+1,i,h1,h2=>by
  have hi:i<items.size:=by omega
  rw[List.range'_succ,NV];refine La ?_;rw[LB hi];refine La (he _ (Array.getElem_mem hi) P w _ _ _ _ ?_);by_cases q:i=j
  ·subst q;rw[hit];exact La (La (wpAny_mkInt (Lf (Lf (Lf hQ)))))
  ·rw[hno i hi (by omega)];refine Lf ?_;exact BE he hj hit hno hQ k (i+1) (by omega) (by omega)
def oq (t:Addr)(items:Array Value)(x:Value)(e:Value->Bool)(he:∀ y,y∈items->MeetsSeq.EqGives y x (e y))(j:Nat)(hj:j<items.size)(hit:e items[j]=true)(hno:∀ m (hm:m<items.size),m<j->e items[m]=false) :
  Meets (Builtin.«tuple.index» ⟨[.ref t,x],[]⟩) (λ _ R s=>s.heap.IsTuple t items/\R (.ok (.ret (.int j s.toks))) { s with toks:=s.toks+1 }):=
 .of_wp λ prog w A R s h=>by
  obtain⟨⟨o,ho,hc,n,hd⟩,h⟩:=h;unfold Builtin.«tuple.index»;show wpAny _ _ (Builtin.Tuple.tupleItemsOf (.ref t) >>= _) _ _ _;unfold Builtin.Tuple.tupleItemsOf;refine La (La (ME ho hd (Lf ?_)));show wpAny _ _ (forIn [0:min items.size items.size] ((none,()):Option PySem.Fin×Unit) _ >>= _) _ _ _;refine La ?_;rw[Nat.min_self,Std.Legacy.Range.forIn_eq_forIn_range'];have sz:Std.Legacy.Range.size [0:items.size]=items.size:=by simp[Std.Legacy.Range.size]
  rw[sz];refine BE he hj hit hno ?_ items.size 0 (MW _) (Mk _);exact Lf ⟨_,rfl,h⟩
section
variable {X:Cx}
def Kp:V->List V->Hp->VK->Prop:=λ x vs H Q=>∃ (a:Addr) (ns:List Int) (k:Int) (j:Nat),x=.ref a/\vs=[.int k]/\H a=some (.tup (ns.map V.int))/\ns[j]?=some k/\(∀ m,m<j->ns[m]?≠some k)/\Q (.int j) H
def GC:EW X "tuple.index" Kp:=by
 intro pins s σ H x vs v us Q I rx rv h;obtain⟨a,ns,k,j,rfl,rfl,hH,hj,hno,q⟩:=h;cases rx;obtain⟨u,rfl,ru⟩:=rv.one;obtain⟨t,rfl⟩:=ru;obtain⟨its,r,p,hz⟩:=I.tuple (iZ.of hH);have hi:=intsAre_of r;have hl:=r.length;rw[Lc]at hl;have hjl:j<its.toArray.size:=by
  have:=(Lh.mp hj).1;simp;omega
 have at_:∀ m (hm:m<its.toArray.size),∃ tk,its.toArray[m]=.int (ns.getD m 0) tk:=λ m hm=>by
  have hm':m<ns.length:=by
   simp at hm;omega
  obtain⟨w,hw,rw'⟩:=r.get (i:=m) (x:=.int ns[m]) (by simp[hm']);obtain⟨tk,e⟩:=rw';refine⟨tk,?_⟩;have e2:its[m]?=some its.toArray[m]:=by simp at hm;simp[hm]
  rw[e2]at hw;cases hw;rw[e];simp[hm']
 have gj:ns.getD j 0=k:=by simp[LC,hj]
 refine Of F.slot_tuple_index (fN p).typeIs F.entry_tuple_index (F.args_tuple_index_2 _ _) (oq a its.toArray (.int k t) (isInt k) (λ y hy=>eq_isInt k t hi y (by simpa using hy)) j hjl ?_ ?_) ⟨fN p,?_⟩
 ·obtain⟨tk,e⟩:=at_ j hjl;rw[e,gj];simp[isInt]
 ·intro m hm hmj;obtain⟨tk,e⟩:=at_ m hm;rw[e];have hm':m<ns.length:=by
   simp at hm;omega
  have ne:=hno m hmj;simp[isInt];intro z;apply ne;rw[Lg hm'];simpa[LC,hm'] using z
 ·exact⟨.int j,H,I.tok (s.toks+1),⟨_,rfl⟩,q⟩
variable {o e:Expr}{es:List Expr}{to:TE}{t:TA}{name:Str}{apos cpos:Pos}{id:String}{r:V->List V->Hp->VK->Prop}
def IM (slot:Slot "tuple" name id)(hty:typeOf (.builtin id)=pure (.type "method_descriptor"))(hm:EW X id r)(ho:PE X o to)(ha:PA X (e::es) t)
  (hbase:attributeBase o name X.env (eval o X.env)=eval o X.env:=by rfl)
  (hfew:((backTo cpos (starEach (e::es) X.env)).all (λ x=>!x.1)&&(backToKw cpos (keywordEach [] X.env)).all (λ x=>x.1.isSome)
   && decide ((e::es).length+([]:List Keyword).length+(if ([]:List Keyword).isEmpty then 0 else 1)<30))=true:=by rfl)
  (hline:(apos.endLine == cpos.line)=true:=by rfl) (hs:starEach (e::es) X.env=(false,eval e X.env)::starEach es X.env:=by rfl) (hplain:(backTo cpos (starEach es X.env)).any (·.1)=false:=by rfl) :
  PE X (.Call (.Attribute o name apos) (e::es) [] cpos) (λ σ H Q=>to σ H λ x H1=>(∃ a xs,x=.ref a/\H1 a=some (.tup xs))/\t σ H1 λ xs H2=>r x xs H2 Q):=by
 intro pins s σ H Q I h;refine wpAny_Call_method_late hbase hfew hline rfl (dM (ho pins s σ H _ I h) λ v s1 ⟨x,H1,I1,r1,ty,q1⟩=>?_);obtain⟨a,xs,rfl,hH⟩:=ty;have r1':=r1;cases r1';obtain⟨_,its,_,n,hg⟩:=(show bQ X.prog X.w H1 s1.heap a (.tup xs) from I1.hok a _ hH);refine⟨"tuple",id,PySem.F.plainAttrs_tuple,slot,hty,⟨_,hg,rfl⟩,λ b e=>?_,?_⟩
 ·cases e;exact⟨_,hg,rfl⟩
 ·have hA:=ha cpos pins s1 σ H1 _ I1 q1;rw[hs]at hA ⊢;refine M8 (by show(false||(backTo cpos (starEach es X.env)).any (·.1))=false;rw[hplain]<;>rfl) (Calls.evalArgs_plain ?_);exact dM hA λ us s2 hq5=>L2.ex5 hq5 λ vs H2 I2 r2 q2=>hm pins s2 σ H2 _ vs _ us Q I2 r1 r2 q2
end
end L2
namespace DL
open PySem PySem.Spec PyProof.Rows L2
section
variable {K:PySem.W.Frag}{Y:XY}{X:Cx}{o e:Expr}{fo fe:SD->Res D}{apos cpos:Pos}
def wm (ns:List Int)(k:Int):Option Nat:=ns.findIdx? λ n=>decide (n=k)
def isTup (d:D):Bool:=match d with|.tup _=>true|_=>false
def DZ:D->D->Res D
 |.tup xs,.int k=>match intsOf xs with|some ns=>(match wm ns k with|some j=>.ok (.int j)|none=>.bad)|none=>.bad
 |_,_=>.bad
def D0 (a b:SD->Res D)(τ:SD):Res D:=(a τ).bind λ x=>if isTup x=true then (b τ).bind (DZ x) else .bad
def zz {ns:List Int}{k:Int}{j:Nat}(h:wm ns k=some j):ns[j]?=some k/\∀ m,m<j->ns[m]?≠some k:=by
 unfold wm at h;rw[Ni]at h;obtain⟨h1,h2,h3⟩:=h;refine⟨by rw[Lg h1];simpa using h2,λ m hm z=>?_⟩;have:=h3 m hm;rw[Lg (by omega)]at z;cases z;simp at this
def IP (ho:PE X o (tM X.K Y fo))(he:PE X e (tM X.K Y fe))(hbase:attributeBase o "index" X.env (eval o X.env)=eval o X.env:=by rfl)
  (hfew:((backTo cpos (starEach [e] X.env)).all (λ x=>!x.1)&&(backToKw cpos (keywordEach [] X.env)).all (λ x=>x.1.isSome)
   && decide ([e].length+([]:List Keyword).length+(if ([]:List Keyword).isEmpty then 0 else 1)<30))=true:=by rfl)
  (hline:(apos.endLine == cpos.line)=true:=by rfl) (hs:starEach [e] X.env=(false,eval e X.env)::starEach [] X.env:=by rfl) (hplain:(backTo cpos (starEach [] X.env)).any (·.1)=false:=by rfl) :
  PE X (.Call (.Attribute o "index" apos) [e] [] cpos) (tM X.K Y (D0 fo fe)):=by
 refine PE.imp (IM PySem.F.slot_tuple_index PySem.F.type_tuple_index GC ho (cR he dJ hs) hbase hfew hline hs hplain) λ σ H Q hq=>ex8 hq λ H0 B0 B τ P F I h=>?_;refine tM.seq (g:=λ x=>if isTup x=true then (fe τ).bind (DZ x) else .bad) I h λ d1 v1 H1 B1 fp1 _ I1 s1 b1 r1 k1 h1=>?_;by_cases hdc:isTup d1=true
 ·rw[Lr hdc]at h1;cases d1 with
  | tup xs =>
   obtain⟨a,vs,rfl,hq,rl⟩:=r1;refine⟨⟨a,vs,rfl,hq⟩,?_⟩;have I1h:=I1.hold k1;refine⟨H0,B0,B1,τ,P,_,I1h,?_⟩;cases z:fe τ with
   |fT C=>rw[z]at h1;exact lh.later h1 (au.refl _) (au.refl _) λ a x=>.inr x
   |bad=>rw[z]at h1;exact h1
   | ok d2 =>
    rw[z]at h1;intro v2 H2 B2 fp2 I2 s2 b2 r2 k2;have I4:=I2.mV (F':=F) λ a x=>.inr x;have h4:Goal X.K Y H0 B0 B2 H2 σ τ P F Q (DZ (.tup xs) d2):=Goal.later h1 s2 b2;cases d2 with
    | int k =>
     simp only[DZ]at h4;split at h4
     ·rename_i ns e;split at h4
      ·rename_i j hj;have ex:=fQ e;subst ex;obtain⟨rfl,_⟩:=fP rl;obtain⟨rfl,_⟩:=r2;obtain⟨c1,c2⟩:=zz hj;exact⟨a,ns,k,j,rfl,rfl,s2 a _ hq,c1,c2,Out.here h4 I4 ⟨rfl,rfl⟩⟩
      ·exact h4.elim
     ·exact h4.elim
    |_=>exact h4.elim
  |_=>cases hdc
 ·rw[Lw hdc]at h1;exact h1.elim
end
end DL
namespace XF
open PySem
def eX (cls:Value)(t:Addr)(tb:Value):Obj:={ cls:=cls,data:=.fields #[.ref t,tb,.none,.none,.bool false,.none] }
def Kq (cls:Value)(t:Addr)(tb x:Value):Obj.mapFields (·.setIfInBounds 1 x) (eX cls t tb)=eX cls t x:=rfl
section
variable {M:Model}{A:Around}{E:Value->Shared->Prop}{s:Shared}{B:Heap}{env:Env}{outer:List Env}{L e t:Addr}{cls tb head:Value}{Q:Unit->Shared->Prop}
end
end XF
namespace XF
open PySem PySem.Spec PyProof.Rows L2 DL
section
variable {K:PySem.W.Frag}{Y:XY}{H0 B0 B H:Hp}{σ:L2.St}{τ:SD}{P:List Addr}{F:Addr->Prop}{X:Cx}{pos p:Pos}{e:Expr}{es:List Expr}{fs:SD->Res (List D)}
end
end XF
namespace XF
open PySem
section
variable {prog:Program}{w:World}{A:Around}{E:Value->Shared->Prop}{s:Shared}
end
end XF
namespace XF
open PySem PySem.Spec PyProof.Rows L2 DL
section
variable {X:Cx}{tg:Expr}
end
section
variable {K:PySem.W.Frag}{Y:XY}{X:Cx}{tg elt iter:Expr}{ifs:List Expr}{scope:Scope}{pos:Pos}{own:List Str}{cap:List (Str×Nat)}{it:SD->Res (Bool×List D)}{tgd:uq}{tt:SD->Res Bool}{fe:SD->Res D}
end
end XF
namespace XF
open PySem
section
variable {M:Model}{A:Around}{E:Value->Shared->Prop}{h:Heap}{g:Array GenState}{d:Drawn}{t:Nat}{os:OsState}{e C D:Addr}{oe:Obj}{bm bn:List Value}{Q:Bool->Shared->Prop}
end
end XF
namespace XF
open PySem PySem.Spec PyProof.Rows L2 DL
section
variable {X:Cx}{pins:List (Addr×Obj)}{σ:L2.St}{H:Hp}{e C:Addr}{B:Heap}{s:Shared}
end
end XF
namespace XF
open PySem PySem.W PySem.Spec PyProof.Rows
section
variable {prog:Program}{w:World}{A:Around}{E:Value->Shared->Prop}{s:Shared}{K:Frag}{x C:Addr}{ox:Obj}
end
end XF
namespace XF
open PySem PySem.Spec PyProof.Rows L2 DL
section
variable {K:PySem.W.Frag}{Y:XY}{H0 B0 B H:Hp}{σ:L2.St}{τ:SD}{P:List Addr}{F:Addr->Prop}{X:Cx}{pos p pt:Pos}{e:Expr}{fe:SD->Res D}
end
section
variable {K:PySem.W.Frag}{mg:Str->Option Value}{x y:Str}{C D NE:Addr}{bm bd:List Value}
end
end XF
namespace L2
open PySem PySem.Spec PyProof.Rows
section
variable {X:Cx}
end
end L2
namespace DL
open PySem PySem.Spec PyProof.Rows L2
section
variable {K:PySem.W.Frag}{Y:XY}{H0 B0 B H:Hp}{σ:L2.St}{τ:SD}{P:List Addr}{F:Addr->Prop}{X:Cx}{pos:Pos}{e:Expr}{fe:SD->Res D}
mutual
def D.plain:D->Bool
 |.tup xs=>lB xs
 |.lst _ _=>false
 |.dct _ _ _ _=>false
 |.exc _=>false
 |_=>true
def lB:List D->Bool
 |[]=>true
 |d::r=>d.plain&&lB r
end
mutual
def Rep.pG {B' H':Hp}{S S':Addr->Prop}(m:jP H H'):∀ {d:D}{v:V}{f:List Addr},d.plain=true->Rep K B S H d v f->f=[]/\Rep K B' S' H' d v []
 |.bg,v,f,_,r=>by obtain⟨h1,h2⟩:=r;exact⟨h2,h1,rfl⟩
 |.bl b,v,f,_,r=>by obtain⟨h1,h2⟩:=r;exact⟨h2,h1,rfl⟩
 |.int i,v,f,_,r=>by obtain⟨h1,h2⟩:=r;exact⟨h2,h1,rfl⟩
 |.str x,v,f,_,r=>by obtain⟨h1,h2⟩:=r;exact⟨h2,h1,rfl⟩
 | .tup xs,v,f,p,r=>by
  obtain⟨a,vs,e,h,rl⟩:=r;obtain⟨e2,r2⟩:=ai.pG m (d:=xs) p rl;exact⟨e2,a,vs,e,m a _ h (λ z=>z),r2⟩
 |.lst _ _,_,_,p,_=>by cases p
 |.dct _ _ _ _,_,_,p,_=>by cases p
 |.exc _,_,_,p,_=>by cases p
def ai.pG {B' H':Hp}{S S':Addr->Prop}(m:jP H H'):∀ {d:List D}{v:List V}{f:List Addr},lB d=true->ai K B S H d v f->f=[]/\ai K B' S' H' d v []
 |[],v,f,_,r=>by obtain⟨h1,h2⟩:=r;exact⟨h2,h1,rfl⟩
 | d::ds,v,f,p,r=>by
  obtain⟨x,w,f1,f2,e,r1,r2,ef⟩:=r;have p:(d.plain&&lB ds)=true:=p;rw[LW]at p;obtain⟨e1,q1⟩:=Rep.pG m p.1 r1;obtain⟨e2,q2⟩:=ai.pG m p.2 r2;subst e1 e2;exact⟨ef,x,w,[],[],e,q1,q2,rfl⟩
end
def Kr:D->Res Bool
 |.bl b=>.ok b
 |.lst _ xs=>.ok (!xs.isEmpty)
 |.tup xs=>.ok (!xs.isEmpty)
 |_=>.bad
def Jy (f:SD->Res D)(τ:SD):Res Bool:=(f τ).bind Kr
def u3 {S:Addr->Prop}{xs:List D}{vs:List V}{f:List Addr}(r:ai K B S H xs vs f):(!vs.isEmpty) = !xs.isEmpty:=by
 have:=r.length;cases xs<;>cases vs<;>simp_all
def GD {a:Expr}{fa:SD->Res D}(ha:PE X a (tM X.K Y fa))(he:∀ whole,isTrue a X.env whole=(do let v <-whole;standAt a.pos;holding [v] (truthy v)):=by intro _;rfl):PT X a (jE X.K Y (Jy fa)):=
 PT.imp (As ha he) λ σ H Q hq=>ex8 hq λ H0 B0 B τ P F I h=>by
  refine⟨H0,B0,B,τ,P,F,I,?_⟩;unfold Jy at h;cases e:fa τ with
  |bad=>rw[e]at h;exact h.elim|fT C=>rw[e]at h;exact h
  | ok d =>
   rw[e]at h;intro v H' B' fp I' s b r k;cases d with
   |bl c=>obtain⟨rfl,rfl⟩:=r;exact⟨c,rfl,h H' B' I' s b⟩
   | lst t xs =>
    obtain⟨p,ws,g,rfl,q,l,_⟩:=Rep.lst I' r;exact⟨_,.inl ⟨ws,q,rfl⟩,by rw[u3 l];exact h H' B' I' s b⟩
   | tup xs =>
    obtain⟨p,ws,rfl,q,l⟩:=Rep.tp r;exact⟨_,.inr (.inl ⟨ws,q,rfl⟩),by rw[u3 l];exact h H' B' I' s b⟩
   |bg=>exact h.elim|int i=>exact h.elim|str x=>exact h.elim|dct t k2 ks vs=>exact h.elim|exc C=>exact h.elim
end
end DL
namespace SR
open PySem PySem.Spec PyProof.Rows PySem.W
variable {p:Array Nat}{n:Nat}{α:Type}
def eW {α:Type}(n:Nat)(L:α->Prop):KasT α->Prop
 |.ret a=>L a
 |.ask i j k=>i<n/\j<n/\∀ b,eW n L (k b)
def eW.bind {α β:Type}{n:Nat}{L:α->Prop}{L':β->Prop}{f:α->KasT β}(hf:∀ a,L a->eW n L' (f a)):∀ {t:KasT α},eW n L t->eW n L' (t.bind f)
 |.ret a,x=>by unfold KasT.bind;exact hf a x
 |.ask i j k,x=>by unfold KasT.bind;exact⟨x.1,x.2.1,λ b=>eW.bind hf (x.2.2 b)⟩
def a9 {α:Type}(c:Nat->Nat->Bool):KasT α->α
 |.ret a=>a
 |.ask i j k=>a9 c (k (c i j))
def eW.run {α:Type}{n:Nat}{L:α->Prop}(c:Nat->Nat->Bool):∀ {t:KasT α},eW n L t->L (a9 c t)
 |.ret a,x=>x
 |.ask i j k,x=>show L (a9 c (k (c i j))) from eW.run (n:=n) c (x.2.2 (c i j))
def eW.wp {α:Type}{n:Nat}{L:α->Prop}{c:Nat->Nat->Bool}{cmp:Nat->Nat->(Bool->Shared->Prop)->Shared->Prop}{Q:α->Shared->Prop}{s:Shared}(hc:∀ i j C,i<n->j<n->C (c i j) s->cmp i j C s):∀ {t:KasT α},eW n L t->Q (a9 c t) s->KasT.kasWp cmp t Q s
 |.ret a,x,h=>by unfold KasT.kasWp;exact h
 |.ask i j k,x,h=>by unfold KasT.kasWp;exact hc i j _ x.1 x.2.1 (eW.wp hc (x.2.2 (c i j)) h)
abbrev Pm (n:Nat)(p:Array Nat):Prop:=p.Perm (List.range n).toArray
def Pm.get(h:Pm n p)(hn:0<n)(i:Nat):p.getD i 0<n:=by
 rw[L7];cases e:p[i]? with
 |none=>exact hn
 | some x =>
  have m:x∈p:=Array.mem_of_getElem? e;have m':x∈(List.range n).toArray:=h.mem_iff.mp m;have:x∈List.range n:=by simpa using m'
  exact LN.mp this
section
variable(hn:0<n)
include hn
theorem tD {p:Array Nat}(h:Pm n p):∀ f k,eW n (λ _=>True) (kas_asc p f k)
 |0,k=>by unfold kas_asc;exact trivial
 | f+1,k=>by
  unfold kas_asc;refine⟨h.get hn _,h.get hn _,λ b=>?_⟩;cases b
  ·exact tD h f (k+1)
  ·exact trivial
theorem lX:∀ f {p:Array Nat} k a,Pm n p->eW n (λ r=>Pm n r.1) (kas_desc f p k a)
 |0,p,k,a,h=>by unfold kas_desc;exact h
 | f+1,p,k,a,h=>by
  unfold kas_desc;refine⟨h.get hn _,h.get hn _,λ b=>?_⟩;cases b
  ·refine⟨h.get hn _,h.get hn _,λ b=>?_⟩;cases b
   ·exact lX f _ _ h
   ·exact h
  ·show eW n _ (if a>0 then kas_desc f (kas_rev p (k-(a+1)) k) (k+1) 0 else kas_desc f p (k+1) 0);split
   ·exact lX f _ _ ((mirror_perm p _ _ _).trans h)
   ·exact lX f _ _ h
theorem u4(h:Pm n p)(m r:Nat):eW n (λ r=>Pm n r.2) (kas_tail3 m r p):=by
 have h2:Pm n (kas_rev p 0 m):=(mirror_perm p _ _ _).trans h;unfold kas_tail3;exact eW.bind (L':=λ r:Nat×Array Nat=>Pm n r.2) (λ a _=>(show eW n _ (KasT.ret (a,kas_rev p 0 m)) from h2)) (tD hn h2 _ _)
theorem lW(h:Pm n p)(m r:Nat):eW n (λ r=>Pm n r.2) (kas_descPart m r p):=by
 unfold kas_descPart;refine eW.bind (λ a ha=>?_) (lX hn _ _ _ h);split
 ·exact u4 hn ((mirror_perm a.1 _ _ _).trans ha) _ _
 ·exact u4 hn ha _ _
theorem zA(h:Pm n p)(r:Nat):eW n (λ r=>Pm n r.2) (kas_count r p):=by
 unfold kas_count;refine eW.bind (λ a _=>?_) (tD hn h _ _);split
 ·exact h
 ·split
  ·refine⟨h.get hn _,h.get hn _,λ b=>?_⟩;cases b
   ·exact lW hn ((mirror_perm p _ _ _).trans h) _ _
   ·exact h
  ·exact lW hn h _ _
theorem mZ {p:Array Nat}(h:Pm n p)(k:Nat):∀ f a b,eW n (λ _=>True) (kas_place p k f a b)
 |0,a,b=>by unfold kas_place;exact trivial
 | f+1,a,b=>by
  unfold kas_place;split
  ·exact trivial
  ·refine⟨h.get hn _,h.get hn _,λ c=>?_⟩;cases c
   ·exact mZ h k f _ _
   ·exact mZ h k f _ _
theorem xU:∀ f {p:Array Nat} k,Pm n p->eW n (Pm n) (kas_bin f p k)
 |0,p,k,h=>by unfold kas_bin;exact h
 | f+1,p,k,h=>by
  unfold kas_bin;exact eW.bind (λ l _=>xU f _ ((bubble_perm p _ _).trans h)) (mZ hn h k _ _ _)
theorem lV:eW n (Pm n) (kas_sort n):=by
 unfold kas_sort;refine eW.bind (λ r hr=>?_) (zA hn (Array.Perm.refl _) n);split
 ·exact xU hn _ _ hr
 ·exact hr
end
def ordered(d:α)(c:Nat->Nat->Bool)(vs:List α):List α:=if vs.length<2 then vs else (a9 c (kas_sort vs.length)).toList.map λ i=>vs.getD i d
def lY(d:α)(c:Nat->Nat->Bool)(vs:List α):(ordered d c vs).Perm vs:=by
 unfold ordered;split
 ·exact Mp _
 ·rename_i h;have hp:=ML.mp (eW.run (L:=Pm vs.length) c (lV (n:=vs.length) (by omega)));have hp':(a9 c (kas_sort vs.length)).toList.Perm (List.range vs.length):=by simpa using hp
  refine(hp'.map _).trans ?_;have e3:(List.range vs.length).map (λ i=>vs.getD i d)=vs:=by
   refine Nd (by simp) λ i h1 h2=>?_;simp;rw[Lg h2];rfl
  rw[e3]
def wu(M:Model)(A:Around)(h:Heap)(t:Sem α)(r:α):Prop:=∀ (Q:α->Shared->Prop) (E:Value->Shared->Prop) (s:Shared),(∀ b o,h.get? b=some o->s.heap.get? b=some o)->Q r s->wpAny M A t Q E s
def wt (M:Model)(A:Around)(h:Heap)(ks:List Value)(c:Nat->Nat->Bool):Prop:=2<=ks.length->∃ κ,wu M A h (keyKind' ks.toArray) κ/\∀ i j,i<ks.length->j<ks.length->wu M A h (keyLt' κ (ks.getD i .none) (ks.getD j .none)) (c i j)
section
variable {prog:Program}{w:World}{A:Around}{E:Value->Shared->Prop}{s:Shared}{a:Addr}{vs:List Value}{h:Heap}{P:Fin->Shared->Prop}
def qz (ho:s.heap.get? a=some (seqObj "list" vs.toArray n))(hl:vs.length<64){c:Nat->Nat->Bool}(K:wt (model prog w) A h vs c)(hx:∀ b o,h.get? b=some o->b≠a/\s.heap.get? b=some o)
  (hP:P (.done (.ret .none)) { s with heap:=sortedHeap s.heap a vs (ordered .none c vs).toArray }) :
  wpAny (model prog w) A (Builtin.«list.sort» ⟨[.ref a],[]⟩) P E s:=by
 rw[list_sort_plain];refine La (listItems_at ho rfl ?_);refine La ?_;show wpAny _ _ (updateSeq a λ _=>#[]) _ _ _;refine NW ho rfl ?_ (by simp[Ma];omega) (by simp);have ho1:=MO (Obj.mapSeq λ _=>(#[]:Array Value)) ho rfl;refine La (seqEpoch_at ho1 rfl ?_);refine La (ON ?_ (by simp[Ma];omega));refine La (wpAny_newList ?_ (by simp));refine MS ?_;have ho3:((((s.heap.update a (Obj.mapSeq λ _=>(#[]:Array Value))).push (seqObj "tuple" vs.toArray 0)).push (seqObj "list" #[] 0))).get? a=some (Obj.mapSeq (λ _=>#[]) (seqObj "list" vs.toArray n)):=Lb _ (Lb _ ho1);have hx3:∀ b o,h.get? b=some o->((((s.heap.update a (Obj.mapSeq λ _=>(#[]:Array Value))).push (seqObj "tuple" vs.toArray 0)).push (seqObj "list" #[] 0))).get? b=some o:=λ b o e=>by
  obtain⟨h1,h2⟩:=hx b o e;exact Lb _ (Lb _ ((M9 _ _ (My h1)).trans h2))
 dsimp only;have zs:(vs.toArray.zip vs.toArray).map (λ x=>x.2)=vs.toArray:=by
  apply Array.ext
  ·simp
  ·intro i h1 h2;simp
 have fin:∀ (st:SortSt) (k:Nat->Sem PySem.Fin),failedOf st=none->(arrOf st).map (λ x=>x.2)=(ordered Value.none c vs).toArray->(∀ Q:PySem.Fin->Shared->Prop,∀ s',Q (.done (.ret .none)) s'->wpAny (model prog w) A (k (if ((#[]:Array Value).size == vs.toArray.size)=true then n else n+1)) Q E s') ->
   wpAny (model prog w) A (do let e <-seqEpoch a;Builtin.List.listUpdate (.ref a) λ _=>(arrOf st).map (λ x=>x.2);k e) P E { s with heap:=(((s.heap.update a (Obj.mapSeq λ _=>(#[]:Array Value))).push (seqObj "tuple" vs.toArray 0)).push (seqObj "list" #[] 0)) }:=by
  intro st k hf hp hk;refine La (seqEpoch_at ho3 rfl ?_);refine La ?_;show wpAny _ _ (updateSeq a λ _=>(arrOf st).map (λ x=>x.2)) _ _ _;rw[hp];have hlen:(ordered Value.none c vs).toArray.size=vs.length:=by rw[Lm,(lY _ _ _).length_eq]
  refine NW ho3 rfl ?_ (by simp) (by simp only[hlen,Ma];omega);exact hk _ _ hP
 by_cases h2:vs.toArray.size<2
 ·rw[Lr h2];refine La (Lf ?_);rw[Lr h2];refine La (show wpAny _ _ (pure ((),SortSt.mk' general' (vs.toArray.zip vs.toArray) #[] 7 none)) _ _ _ from Lf ?_);refine fin (SortSt.mk' general' (vs.toArray.zip vs.toArray) #[] 7 none) _ rfl ?_ λ Q s' hQ=>?_
  ·show(vs.toArray.zip vs.toArray).map (λ x=>x.2)=_;rw[zs];unfold ordered;rw[Lr (by simpa using h2)]
  ·show wpAny _ _ (if _ then _ else ret Value.none) _ _ _;rw[Lw (by simp)];exact Lf hQ
 ·have h2':2<=vs.length:=by simpa using h2
  obtain⟨κ,k1,k2⟩:=K h2';rw[Lw h2];refine La (k1 _ _ _ hx3 ?_);rw[Lw h2];have hn:0<vs.length:=by omega
  have run:=kat_run (prog:=prog) (w:=w) (A:=A) (E:=E) (s:={ s with heap:=(((s.heap.update a (Obj.mapSeq λ _=>(#[]:Array Value))).push (seqObj "tuple" vs.toArray 0)).push (seqObj "list" #[] 0)) }) (κ:=κ) (ks:=vs) (vs:=vs) (Q:=λ st s'=>failedOf st=none/\s'={ s with heap:=(((s.heap.update a (Obj.mapSeq λ _=>(#[]:Array Value))).push (seqObj "tuple" vs.toArray 0)).push (seqObj "list" #[] 0)) }/\(arrOf st).map (λ x=>x.2)=(ordered Value.none c vs).toArray) (G:=λ p s'=>p=a9 c (kas_sort vs.length)/\s'={ s with heap:=(((s.heap.update a (Obj.mapSeq λ _=>(#[]:Array Value))).push (seqObj "tuple" vs.toArray 0)).push (seqObj "list" #[] 0)) }) rfl h2' hl (λ p st' s' hs he hf hG=>by
   obtain⟨hp,hs'⟩:=hG;refine⟨hf,hs',?_⟩;have e1:(arrOf st').map (λ x=>x.2)=p.map λ i=>vs.getD i .none:=by
    rw[he,Array.map_map];refine Array.map_congr_left λ i hi=>?_;have:=kas_item_eq vs i;show(kas_item (vs.toArray.zip vs.toArray) i).2=_;have e:vs.toArray.zip vs.toArray=pairsOf vs:=rfl;rw[e,this]
   rw[e1,hp];unfold ordered;rw[Lw (by omega)];exact Array.toList_inj.mp (by rw[Array.toList_map])) (eW.wp (n:=vs.length) (c:=c) (λ i j C hi hj hC=>k2 i j hi hj _ _ _ hx3 hC) (lV hn) ⟨rfl,rfl⟩)
  refine La (MP run (λ r s' hr=>?_) λ _ _ x=>x);obtain⟨hf,rfl,hp⟩:=hr;refine fin r.2 _ hf hp λ Q s' hQ=>?_;rw[hf];show wpAny _ _ (if _ then _ else ret Value.none) _ _ _;rw[Lw (by simp)];exact Lf hQ
def wo(hL:s.heap.IsList a vs.toArray)(hl:vs.length<64){c:Nat->Nat->Bool}(K:wt (model prog w) A.in1.in1 s.heap vs c){Q:Value->Shared->Prop}
  (hQ:∀ (h':Heap) (q:Addr),(∀ b o,s.heap.get? b=some o->h'.get? b=some o)->s.heap.objs.size<=q->(∃ e,h'.get? q=some (seqObj "list" (ordered .none c vs).toArray e))->Q (.ref q) { s with heap:=h' }) :
  wpAny (model prog w) A (call (.builtin "sorted") [.ref a]) Q E s:=by
 refine Calls.call_function_entry kind_sorted plain_sorted entry_sorted (args_sorted1 _) ?_;unfold Builtin.«sorted»;refine La (m:=checkCount "sorted" 1 1 _) (Lf ?_);refine La (collect_list (A:=A.in1) hL ?_ (by rw[Ma];omega));have hlt:a<s.heap.objs.size:=by obtain⟨o,ho,_⟩:=hL;exact Lk ho
 generalize hh1:(s.heap.push (seqObj "list" #[] 0)).update s.heap.objs.size (Obj.mapSeq λ x=>x++vs.toArray)=h1;have kp:∀ b o,s.heap.get? b=some o->h1.get? b=some o:=λ b o e=>by
  rw[<-hh1];exact(M9 _ _ (My (LH (Lk e)))).trans (Lb _ e)
 have hsz:s.heap.objs.size<=h1.objs.size:=by
  obtain⟨o,ho,_⟩:=hL;have e0:(s.heap.push (seqObj "list" #[] 0)).get? s.heap.objs.size=some (seqObj "list" #[] 0):=Lj _ rfl;have e1:=MO (Obj.mapSeq λ x=>x++vs.toArray) e0 rfl;rw[hh1]at e1;exact ND (Lk e1)
 refine La (wpAny_newList ?_ (by rw[Ma];omega));have hoL:(h1.push (seqObj "list" vs.toArray 0)).get? h1.objs.size=some (seqObj "list" vs.toArray 0):=Lj _ rfl;show wpAny _ _ _ _ _ ({ s with heap:=h1.push (seqObj "list" vs.toArray 0) }:Shared);refine La (MS (LV slot_list_sort ⟨_,hoL,rfl⟩ entry_list_sort (qz (h:=s.heap) hoL hl K (λ b o e=>⟨LH (Lk (kp b o e)),Lb _ (kp b o e)⟩) ⟨_,rfl,?_⟩) (args_list_sort _)));refine Lf ⟨_,rfl,hQ _ h1.objs.size (λ b o e=>?_) hsz (sortedHeap_at hoL)⟩;have hlt:=Lk (kp b o e);have hne:b≠h1.objs.size:=LH hlt;have sh:(sortedHeap (h1.push (seqObj "list" vs.toArray 0)) h1.objs.size vs (ordered Value.none c vs).toArray).get? b=(h1.push (seqObj "list" vs.toArray 0)).get? b:=sortedHeap_old hne (by rw[Mf];exact NO hlt);show(sortedHeap (h1.push (seqObj "list" vs.toArray 0)) h1.objs.size vs (ordered Value.none c vs).toArray).get? b=some o;rw[sh];exact Lb _ (kp b o e)
end
section
variable {prog:Program}{w:World}{h:Heap}
end
end SR
namespace L2
open PySem PySem.Spec PyProof.Rows
section
variable {X:Cx}
def u5 {f:Nat->V}{g:Nat->Value}:∀ {is:List Nat},(∀ i∈is,RelV (f i) (g i))->Vals (is.map f) (is.map g)
 |[],_=>.nil
 |i::r,h=>.cons (h i Le) (u5 λ j m=>h j (Ld _ m))
def Vals.getD {ws:List V}{its:List Value}(r:Vals ws its):∀ i,i<ws.length->RelV (ws.getD i .bg) (its.getD i .none):=λ i hi=>by
 have e:ws[i]?=some (ws[i]):=Lg hi;obtain⟨u,hu,ru⟩:=r.get e;rw[LC,LC,e,hu];exact ru
def Vals.ordered {ws:List V}{its:List Value}(r:Vals ws its)(c:Nat->Nat->Bool):Vals (SR.ordered .bg c ws) (SR.ordered .none c its):=by
 have hl:=r.length;unfold SR.ordered;rw[<-hl];split
 ·exact r
 ·rename_i h;refine u5 λ i m=>r.getD i ?_;have hp:=ML.mp (SR.eW.run (L:=SR.Pm ws.length) c (SR.lV (n:=ws.length) (by omega)));have hp':(SR.a9 c (PySem.W.kas_sort ws.length)).toList.Perm (List.range ws.length):=by simpa using hp
  exact LN.mp (hp'.mem_iff.mp m)
end
end L2
namespace DL
open PySem PySem.Spec PyProof.Rows L2
section
variable {K:PySem.W.Frag}{Y:XY}{H0 B0 B H:Hp}{σ:L2.St}{τ:SD}{P:List Addr}{F:Addr->Prop}
end
end DL
namespace L2
open PySem PySem.Spec PyProof.Rows
section
variable {X:Cx}
end
end L2
namespace DL
open PySem PySem.Spec PyProof.Rows L2
section
variable {K:PySem.W.Frag}{Y:XY}
end
end DL
namespace SR
open PySem PySem.Spec PyProof.Rows PySem.W
section
variable {prog:Program}{w:World}{A:Around}{E:Value->Shared->Prop}{s:Shared}{a:Addr}{vs:List Value}{n:Nat}{f:Value}{kz:List Int}{P:Fin->Shared->Prop}{Base:List Int->Shared->Prop}
end
section
variable {prog:Program}{w:World}{A:Around}{E:Value->Shared->Prop}{s:Shared}{vs:List Value}{l q:Addr}
end
end SR
namespace L2
open PySem PySem.Spec PyProof.Rows
section
variable {X:Cx}{k:Nat}{f l:Addr}{fd:FuncData}{ps:List Str}{sp:Sp}{pins:List (Addr×Obj)}{s:Shared}{σ:St}{H:Hp}{ws:List V}{Q:VK}
end
section
variable {X:Cx}{k:Nat}{ps:List Str}{sp:Sp}
end
end L2
namespace DL
open PySem PySem.Spec PyProof.Rows L2
section
variable {K:PySem.W.Frag}{Y:XY}{H0 B0 B H:Hp}{σ:L2.St}{τ:SD}{P:List Addr}{F:Addr->Prop}{X:Cx}{G:DF}
end
section
variable {K:PySem.W.Frag}{Y:XY}{H0 B0 B H:Hp}{σ:L2.St}{τ:SD}{P:List Addr}{F:Addr->Prop}{X:Cx}{pos p:Pos}{e:Expr}{es:List Expr}{fs:SD->Res (List D)}
end
section
variable {P:Program}{w:World}{K:PySem.W.Frag}{mg:Str->Option Value}{base:Heap}
end
section
variable {Y:XY}{X:Cx}{pos:Pos}{a b c:Expr}{fa fb fc:SD->Res D}
end
end DL
namespace L2
open PySem PySem.Spec PyProof.Rows
end L2
namespace DL
open PySem PySem.Spec PyProof.Rows L2
section
variable {X:Cx}{Y:XY}{o e:Expr}{fo fe:SD->Res D}{apos cpos:Pos}
end
end DL
namespace XF
open PySem PySem.Spec PyProof.Rows L2 DL
end XF
namespace L2
open PySem PySem.Spec PyProof.Rows
section
variable {X:Cx}
section
variable {prog:Program}{w:World}{A:Around}{R:Result->Shared->Prop}{it:Addr}{fp wr:List Addr}{n:Nat}{P:Nat->Value->Prop}{St:Nat->Heap->Prop}{d:Value}
end
def tE {ns:List Int}{its:List Value}(r:Vals (ns.map V.int) its){i:Nat}{v:Value}(h:its.toArray[i]?=some v):∃ t,v=.int (ns.getD i 0) t:=by
 have h:its[i]?=some v:=by simpa using h
 have hl:=r.length;rw[Lc]at hl;have hi:i<its.length:=(Lh.mp h).1;obtain⟨u,hu,ru⟩:=r.get (show(ns.map V.int)[i]?=some (.int (ns.getD i 0)) by
  rw[LG,Lg (by omega:i<ns.length),LC,Lg (by omega:i<ns.length)];rfl)
 rw[hu]at h;cases h;obtain⟨t,rfl⟩:=ru;exact⟨t,rfl⟩
def in1_units (A:Around):A.in1.units=A.units+1:=rfl
end
end L2
namespace DL
open PySem PySem.Spec PyProof.Rows L2
section
variable {K:PySem.W.Frag}{Y:XY}{H0 B0 B H:Hp}{σ:L2.St}{τ:SD}{P:List Addr}{F:Addr->Prop}{E:Ends}{X:Cx}{pos:Pos}{e c:Expr}{fe:SD->Res D}{gc:SD->Res Bool}
end
end DL
namespace L2
open PySem PySem.Spec PyProof.Rows
section
variable {X:Cx}
end
end L2
namespace DL
open PySem PySem.Spec PyProof.Rows L2
section
variable {K:PySem.W.Frag}{Y:XY}
end
end DL
namespace L2
open PySem PySem.Spec PyProof.Rows
variable {X:Cx}
end L2
namespace DL
open PySem PySem.Spec PyProof.Rows L2
variable {F:Addr->Prop}{X:Cx}{e elt iter tg:Expr}{B B0 H H0:Hp}{σ:L2.St}{P:List Addr}{es:List Expr}{p pos:Pos}{τ:SD}{fe:SD->Res D}{scope:Scope}{x:Str}{Y:XY}
variable {K:PySem.W.Frag}
section
variable{fs:SD->Res (List D)}
end
section
variable (K:PySem.W.Frag)(H0 B0 B H:Hp)(σ:L2.St)(P:List Addr)(F:Addr->Prop)
end
section
variable{fs:SD->Res (List D)}
end
section
variable{f:SD->Res (D×SD)}
end
section
variable{own:List Str}{it:SD->Res (Bool×List D)}
end
section
def cK.drop:∀ {τ:SD}{σ:L2.St}{P:List Addr}{i:Nat}{d:D},cK K B H τ σ P->τ[i]?=some (some d)->∃ v A f C,σ[i]?=some (some v)/\Rep K B No H d v f/\P=A++f++C/\cK K B H (τ.set i none) σ (A++C)
 |[],_,_,i,_,_,e=>by simp at e
 |none::r,σ,P,0,d,h,e=>by simp at e
 | none::r,σ,P,i+1,d,h,e=>by
  obtain⟨o,t,rfl,h⟩:=h;obtain⟨v,A,f,C,h1,h2,h3,h4⟩:=cK.drop (i:=i) h (by simpa using e);exact⟨v,A,f,C,by simpa using h1,h2,h3,⟨o,t,rfl,h4⟩⟩
 | some d::r,σ,P,0,d',h,e=>by
  obtain⟨v,t,f,g,rfl,h1,h2,rfl⟩:=h;have e:d=d':=by simpa using e
  subst e;exact⟨v,[],f,g,rfl,h1,rfl,⟨some v,t,rfl,h2⟩⟩
 | some d::r,σ,P,i+1,d',h,e=>by
  obtain⟨v,t,f,g,rfl,h1,h2,rfl⟩:=h;obtain⟨w,A,f',C,a1,a2,a3,a4⟩:=cK.drop (i:=i) h2 (by simpa using e);subst a3;exact⟨w,f++A,f',C,by simpa using a1,a2,by simp,⟨v,t,f,A++C,rfl,h1,a4,by simp⟩⟩
def cK.free:∀ {τ:SD}{σ:L2.St}{P:List Addr}{i:Nat} (o:Option V),cK K B H τ σ P->τ[i]?=some none->cK K B H τ (σ.set i o) P
 |[],_,_,i,_,_,e=>by simp at e
 | none::r,σ,P,0,o,h,e=>by
  obtain⟨u,t,rfl,h⟩:=h;exact⟨o,t,rfl,h⟩
 | none::r,σ,P,i+1,o,h,e=>by
  obtain⟨u,t,rfl,h⟩:=h;exact⟨u,t.set i o,rfl,cK.free o h (by simpa using e)⟩
 |some d::r,σ,P,0,o,h,e=>by simp at e
 | some d::r,σ,P,i+1,o,h,e=>by
  obtain⟨v,t,f,g,rfl,h1,h2,rfl⟩:=h;exact⟨v,t.set i o,f,g,rfl,h1,cK.free o h2 (by simpa using e),rfl⟩
def SI.free {i:Nat}(o:Option V)(I:SI K H0 B0 B H σ τ P F)(h:τ[i]?=some none):SI K H0 B0 B H (σ.set i o) τ P F:=⟨I.bh,I.h0,I.b0,I.nb,I.rep.free o h,I.nd,I.own,I.fr⟩
end
section
variable{f:SD->Res (D×SD)}
end
section
variable{ifs:List Expr}{own:List Str}{cap:List (Str×Nat)}{it:SD->Res (D×SD)}{tgd:uq}{tt:SD->Res Bool}
end
section
variable{a b:Expr}{fa fb:SD->Res D}{fs:SD->Res (List D)}
def jg{id:String}{r:List V->Hp->VK->Prop}{g:List D->Res D}(hc:d7 X (.builtin id) r)(hgd:kR X.K Y r g)(hm:X.mg x=none)(ha:PA X (e::es) (oB X.K Y fs))(hv:bootBuiltins x=some (.builtin id):=by decide +kernel)(hg:Gl X x:=by rfl)(hn:x ≠ "__name__" :=by decide)(hdb:(x == ("__debug__" : Str))=false:=by decide)
  (he:starEach (e::es) X.env=(false,eval e X.env)::starEach es X.env:=by rfl) (hpl:(backTo pos (starEach es X.env)).any (·.1)=false:=by rfl):PE X (.Call (.Name x p) (e::es) [] pos) (tM X.K Y (eA g fs)):=DQ hc hgd hg hm hv ha hn hdb he hpl
def BF{id:String}{r:List V->Hp->VK->Prop}{g:List D->Res D}(hc:d7 X (.type id) r)(hgd:kR X.K Y r g)(hm:X.mg x=none)(ha:PA X (e::es) (oB X.K Y fs))(hv:bootBuiltins x=some (.type id):=by decide +kernel)(hg:Gl X x:=by rfl)(hn:x ≠ "__name__" :=by decide)(hdb:(x == ("__debug__" : Str))=false:=by decide)
  (he:starEach (e::es) X.env=(false,eval e X.env)::starEach es X.env:=by rfl) (hpl:(backTo pos (starEach es X.env)).any (·.1)=false:=by rfl):PE X (.Call (.Name x p) (e::es) [] pos) (tM X.K Y (eA g fs)):=A8 hc hgd hg hm hv ha hn hdb he hpl
def bX (ha:PE X a (tM X.K Y fa))(hb:PE X b (tM X.K Y fb))(hs:sE b:=by intro _ _;rfl):PE X (.Subscript a b pos) (tM X.K Y (af cz fa fb)):=Kd F7 Kg ha hb hs
def aO {op:CmpOp}{r:R2}{g:D->D->Res D}(ho:jG X (compareOp op) r)(hg:o8 X.K Y r g)(ha:PE X a (tM X.K Y fa))(hb:PE X b (tM X.K Y fb))(hm:behindInMarks op b=false:=by first|exact mP _|with_unfolding_all rfl):PT X (.Compare a [op] [b] pos) (jE X.K Y (eT (af g fa fb))):=mW ho hg ha hb hm
def jS (ha:PE X e (tM X.K Y fe))(hs:starEach [e] X.env=(false,eval e X.env)::starEach [] X.env:=by rfl):PA X [e] (oB X.K Y (ae fe ao)):=aD ha cE hs
def jT (ha:PE X e (tM X.K Y fe))(hb:PE X b (tM X.K Y fb))(hs:starEach [e,b] X.env=(false,eval e X.env)::starEach [b] X.env:=by rfl)(hs2:starEach [b] X.env=(false,eval b X.env)::starEach [] X.env:=by rfl):PA X [e,b] (oB X.K Y (ae fe (ae fb ao))):=aD ha (jS hb hs2) hs
def aR{pos':Pos}(i:Nat)(hN:X.N.Nodup)(he:PE X e (tM X.K Y fe))(hi:X.N[i]?=some x:=by rfl)(hx:Loc X.env.scope x:=by first|exact Or.inl rfl|exact Or.inr rfl)(hs:swapsWith e (some (.Name x pos')) pos.line X.env=pure false:=by rfl)(hf:X.fn x=true\/X.env.scope.names.lookup x=some .local:=by first|exact .inl rfl|exact .inr rfl) :
  PS X (.Assign [.Name x pos'] e pos) (i0 X.K Y (aV i fe)):=IB hN hi hx he hs hf
def bP(i:Nat)(hN:X.N.Nodup)(hi:X.N[i]?=some x:=by rfl)(hx:Loc X.env.scope x:=by first|exact Or.inl rfl|exact Or.inr rfl)(hf:X.fn x=true\/X.env.scope.names.lookup x=some .local:=by first|exact .inl rfl|exact .inr rfl):PG X (.Name x pos) (DU X.K (gN i)):=Gj hN hi hx hf
def bb {k m:Nat}{ps:List Str}{G:DF}(C:mJ X.prog X.w X.K X.mg X.base k x ps (kL X.K G))(hr:fY m X.A)(ha:PA X (e::es) (oB X.K Y fs))(hk:k<=m:=by first|decide|omega)(hg:Gl X x:=by rfl)(hdb:(x == ("__debug__" : Str))=false:=by decide)
  (he:starEach (e::es) X.env=(false,eval e X.env)::starEach es X.env:=by rfl) (hpl:(backTo pos (starEach es X.env)).any (·.1)=false:=by rfl):PE X (.Call (.Name x p) (e::es) [] pos) (tM X.K Y (aB G fs)):=IE C (hr.mono hk) hg ha hdb he hpl
end
section
variable{ifs:List Expr}{cap:List (Str×Nat)}{it:SD->Res (Bool×List D)}{tgd:uq}{tt:SD->Res Bool}{n:Nat}
def jh {y:Str}{own:List Str}{py spos:Pos}(i:Nat)(hN:X.N.Nodup)(ok:gh X scope own cap)(hc:X.calm=true)(hi:PI X tg iter (Aj X.K Y it))(Bl:gZ X scope own cap tg ifs elt (DU X.K tgd) (jE X.K xF tt) (tM X.K xF fe))(hi':X.N[i]?=some y:=by rfl)(hy:Loc X.env.scope y:=by first|exact Or.inl rfl|exact Or.inr rfl)
  (hsw:swapsWith (.ListComp elt [⟨tg,iter,ifs,0⟩] scope pos) (some (.Name y py)) spos.line X.env=pure true:=by rfl)
  (hf:X.fn y=true\/X.env.scope.names.lookup y=some .local:=by first|exact .inl rfl|exact .inr rfl) (hs:∀ x,foldedSetIterable iter X.env x=pure x:=by intro _;rfl) :
  PS X (.Assign [.Name y py] (.ListComp elt [⟨tg,iter,ifs,0⟩] scope pos) spos) (i0 X.K Y (aV i (bw it tgd tt fe own.length cap))):=zq hN hi' hy ok hc hi Bl hsw hf hs
def qA (l:List Str)(h:l.Nodup:=by decide +kernel):l.Nodup:=h
end
end DL
namespace L2
open PySem
def oG {N P:List Str}{sc:Scope}(h1:sc.kind=.function:=by rfl)(h2:sc.isCoroutine=false:=by rfl)(h3:sc.isGenerator=false:=by rfl)(h4:N.Nodup:=by decide +kernel)(h5:N.take P.length=P:=by rfl)(h6:∀ x∈P,sc.names.lookup x=some .local\/sc.names.lookup x=some .cell:=by decide +kernel)(h7:∀ y∈sc.names,y.2 ≠ .free:=by decide +kernel):aW N P sc:=⟨h1,h2,h3,h4,h5,h6,h7⟩
end L2
namespace L2
open PySem PySem.Spec PyProof.Rows
def u6:∀ {ns ms:List Int},ns.length=ms.length->((List.range ns.length).all λ j=>ns.getD j 0 == ms.getD j 0)=decide (ns=ms):=by
 intro ns ms h;rw[Nl,MK,NQ];constructor
 ·intro a;refine Nd h λ j h1 h2=>?_;have:=a j (LN.mpr h1);rw[LC,LC,Lg h1,Lg h2]at this;simpa using this
 ·intro e j _;rw[e];exact Pe _
section
variable {X:Cx}
def IQ (K:PySem.W.Frag)(neg:Bool):R2:=λ x y H Q=>∃ (a b:Addr) (ns ms:List Int),x=.ref a/\y=.ref b/\c8 K H a (ns.map V.int)/\c8 K H b (ms.map V.int)/\Q (.bl (xor neg (decide (ns=ms)))) H
def xV {s:Shared}{A:Around}{ns ms:List Int}{i1 i2:List Value}(r1:Vals (ns.map V.int) i1)(r2:Vals (ms.map V.int) i2)(j:Nat)(h1:j<i1.toArray.size)(h2:j<i2.toArray.size):SeqAt.EqAt A s i1.toArray[j] i2.toArray[j] (ns.getD j 0 == ms.getD j 0):=by
 obtain⟨t,e1⟩:=tE r1 (LB h1);obtain⟨t',e2⟩:=tE r2 (LB h2);rw[e1,e2];exact SeqAt.EqAt.int_int (A:=A) (s:=s) (ns.getD j 0) t (ms.getD j 0) t'
def tF (hu:X.A.units+1<cLine):jG X (compareOp .NotEq) (IQ X.K true):=by
 intro pins s σ H x y v u Q I rx ry h;obtain⟨a,b,ns,ms,rfl,rfl,ha,hb,q⟩:=h;cases rx;cases ry;obtain⟨i1,r1,p1,_⟩:=I.list ha;obtain⟨i2,r2,p2,_⟩:=I.list hb;have l1:=r1.length;have l2:=r2.length;rw[Lc]at l1 l2;rw[Bool.true_xor]at q;by_cases hl:ns.length=ms.length
 ·have h:=SeqAt.RcNeAt.lists (A:=X.A) p1.isList p2.isList (by rw[Lm,Lm];omega) (by omega) (xV r1 r2);rw[Lm,<-l1,u6 hl]at h;exact h _ _ _ _ ⟨.bl _,H,I,rfl,q⟩
 ·have h:=SeqAt.RcNeAt.lists_lengths (A:=X.A) p1.isList p2.isList (by rw[Lm,Lm,<-l1,<-l2];simpa using hl) (by omega);rw[LD λ z=>hl (MG List.length z)]at q;exact h _ _ _ _ ⟨.bl true,H,I,rfl,q⟩
end
end L2
namespace DL
open PySem PySem.Spec PyProof.Rows L2
def wx (neg:Bool)(x y:D):Res D:=match x,y with
 | .lst _ xs,.lst _ ys=>match intsOf xs,intsOf ys with
  |some ns,some ms=>.ok (.bl (xor neg (decide (ns=ms))))
  |_,_=>.bad
 |_,_=>.bad
section
variable {K:PySem.W.Frag}{Y:XY}{X:Cx}{pos p:Pos}{e:Expr}{fe:SD->Res D}
def xW (neg:Bool):o8 K Y (IQ K neg) (wx neg):=by
 intro H0 B0 B H σ τ P F d1 d2 x y f1 f2 Q I r1 r2 k h;unfold wx at h;split at h
 ·split at h
  ·rename_i ns ms e1 e2;have ex:=fQ e1;have ey:=fQ e2;subst ex ey;obtain⟨a,vs,g,rfl,q,l,s⟩:=r1.lst I;obtain⟨b,us,g',rfl,q',l',s'⟩:=r2.lst I;obtain⟨rfl,rfl⟩:=fP l;obtain⟨rfl,rfl⟩:=fP l';exact⟨a,b,ns,ms,rfl,rfl,q,q',Out.here h I ⟨rfl,rfl⟩⟩
  ·exact h.elim
 ·exact h.elim
end
section
variable (K:PySem.W.Frag)(H0 B0 B H:Hp)(σ:L2.St)(F:Addr->Prop)
end
section
variable {K:PySem.W.Frag}{Y:XY}{H0 B0 B H:Hp}{σ:L2.St}{τ:SD}{P:List Addr}{F:Addr->Prop}{X:Cx}{pos p:Pos}{e e2:Expr}{fe fv:SD->Res D}{f g:SD->Res (D×SD)}
end
end DL
namespace SR
open PySem PySem.Spec PyProof.Rows
variable {a b:Addr}{xs ys:Array Value}{h:Heap}{ms ns:List Int}
def lexLt:List Int->List Int->Bool
 |[],[]=>false
 |[],_::_=>true
 |_::_,[]=>false
 |x::r,y::q=>if x=y then lexLt r q else decide (x<y)
section
variable {prog:Program}{w:World}{A:Around}{E:Value->Shared->Prop}{s:Shared}
def entry_eq_loop:entryFor table "list.__eq__.loop" = some Builtin.«list.__eq__.loop» :=entryFor_of_tree (by kernel_rfl)
def plain_eq_loop:plainId "list.__eq__.loop" = true:=by decide +kernel
def l4:∀ {vs:List Value}{ns:List Int},IntsAre vs ns->vs.length=ns.length
 |_,_,.nil=>rfl|_,_,.cons n t r=>by rw[Ly,Ly,l4 r]
def xX(hi:IntsAre xs.toList ns){k:Nat}(hk:k<ns.length):∃ t,xs[k]?=some (.int ns[k] t):=by
 have hl:=l4 hi;rw[LF]at hl;have hk':k<xs.size:=by omega
 obtain⟨t,e⟩:=IntsAre.int_at hi k xs[k] (by rw[L1];exact LB hk');refine⟨t,?_⟩;rw[LB hk',e,LC,Lg hk];rfl
def D3{n1 n2:Nat}{d1 d2:Option Addr}{s1 s2:Array (Option Value)}(i1:IntsAre xs.toList ns)(i2:IntsAre ys.toList ms)(e1:s.heap.get? a=some ⟨.type "list",d1,.seq xs n1,s1⟩)(e2:s.heap.get? b=some ⟨.type "list",d2,.seq ys n2,s2⟩){R:Result->Shared->Prop} :
  ∀ (m k:Nat),ns.length-k=m->k<=ns.length->k<=ms.length->R (.ok (.ret (.bool (lexLt (ns.drop k) (ms.drop k))))) s->codeAny (model prog w) A (.builtin "list.__eq__.loop" ⟨[.ref a,.ref b,rawInt k,rawInt 0],[]⟩) R s:=by
 have l1:=l4 i1;have l2:=l4 i2;rw[LF]at l1 l2;intro m
 induction m with
 | zero =>
  intro k hk hk3 hk4 hR;refine M4 entry_eq_loop ?_;rw[MI plain_eq_loop _];unfold Builtin.«list.__eq__.loop»
  wp_walk
  have z1:xs[((k:Int)).toNat]?=none:=by rw[LY];exact Na (by omega)
  simp only[z1]
  wp_walk
  have dz:ns.drop k=[]:=NI (by omega);rw[dz]at hR;have es:lexLt [] (ms.drop k)=decide (xs.size<ys.size):=by
   cases hd:ms.drop k with
   | nil =>
    have:=List.drop_eq_nil_iff.mp hd;rw[LD (by omega)];rfl
   | cons y r =>
    have:(ms.drop k).length≠0:=by rw[hd];simp
    rw[NP]at this;rw[LO (by omega)];rfl
  rw[es]at hR;exact hR
 | succ m ih =>
  intro k hk hk3 hk4 hR;have hk1:k<ns.length:=by omega
  obtain⟨t,g1⟩:=xX i1 hk1;refine M4 entry_eq_loop ?_;rw[MI plain_eq_loop _];unfold Builtin.«list.__eq__.loop»
  wp_walk
  rw[Nj hk1]at hR;by_cases hk2:k<ms.length
  ·obtain⟨u,g2⟩:=xX i2 hk2;rw[Nj hk2,lexLt]at hR;simp only[LY,g1,g2];refine La (wpAny_eqBool_int ?_);by_cases e:ns[k]=ms[k]
   ·rw[Lr e]at hR;rw[show(ns[k] == ms[k])=true by simpa using e,Lr rfl];refine Lf ⟨NT plain_eq_loop _,?_⟩;have:=ih (k+1) (by omega) (by omega) (by omega) hR;exact this
   ·rw[Lw e]at hR;rw[show(ns[k] == ms[k])=false by simpa using e,Lw Li]
    wp_walk
    simp only[LY,g1,g2];refine La (lt_int ?_);exact Lf hR
  ·have z2:ys[k]?=none:=Na (by omega);simp only[LY,g1,z2];have dz:ms.drop k=[]:=NI (by omega);rw[dz,lexLt]at hR
   wp_walk
   have es:false=decide (xs.size<ys.size):=(LD (by omega)).symm;rw[es]at hR;exact hR
def lt_meets{n1 n2:Nat}{d1 d2:Option Addr}{s1 s2:Array (Option Value)}(i1:IntsAre xs.toList ns)(i2:IntsAre ys.toList ms) :
  Meets (Builtin.«list.__lt__» ⟨[.ref a,.ref b],[]⟩) (λ _ R s=>s.heap.get? a=some ⟨.type "list",d1,.seq xs n1,s1⟩/\s.heap.get? b=some ⟨.type "list",d2,.seq ys n2,s2⟩/\R (.ok (.ret (.bool (lexLt ns ms)))) s):=by
 intro prog w A R s ⟨e1,e2,hR⟩;have sub:=AutoSeq1.sub_list_list
 wp_walk
 exact⟨NT plain_eq_loop _,D3 i1 i2 e1 e2 _ 0 rfl (Mk _) (Mk _) hR⟩
def BG{Q:Bool->Shared->Prop}(hl:s.heap.IsList a xs)(hb:s.heap.IsList b ys)(i1:IntsAre xs.toList ns)(i2:IntsAre ys.toList ms)(hu:A.units<cLine)(hQ:Q (lexLt ns ms) s) :
  wpAny (model prog w) A (oneLt' true (.ref a) (.ref b)) Q E s:=by
 rw[oneLt'_eq,Lr rfl];have Ta:s.TypeIs (.ref a) "list" :=hl.typeIs;refine La (wpAny_cRoomFor hu ?_);obtain⟨⟨c1,d1,t1,s1⟩,e1,k1,n1,q1⟩:=id hl;obtain⟨⟨c2,d2,t2,s2⟩,e2,k2,n2,q2⟩:=id hb;simp only at k1 q1 k2 q2;subst k1 q1 k2 q2;refine La (wpAny_callSpecialIfBound?_slot Ta F.slot_list_lt (Of F.slot_list_lt Ta F.entry_list_lt (F.args_list_lt_2 _ _) (lt_meets i1 i2) ⟨e1,e2,?_⟩));exact Lf hQ
def lZ (h:Heap)(v:Value)(ns:List Int):Prop:=∃ a xs,v=.ref a/\h.IsList a xs/\IntsAre xs.toList ns
def lZ.keep {h':Heap}{v:Value}(k:∀ b o,h.get? b=some o->h'.get? b=some o)(x:lZ h v ns):lZ h' v ns:=by
 obtain⟨a,xs,e,⟨o,ho,r⟩,i⟩:=x;exact⟨a,xs,e,⟨o,k _ _ ho,r⟩,i⟩
def wy {v:Value}{Q:Option Value->Shared->Prop}(hv:lZ s.heap v ns)(hQ:Q none s):wpAny (model prog w) A (firstOfTuple' v) Q E s:=by
 obtain⟨a,xs,rfl,hl,_⟩:=hv;show wpAny _ _ (typeOf (.ref a) >>= _) _ _ _;refine La (OH hl.typeIs ?_);exact Lf hQ
def lC {α:Type}{f:Value->Sem α}{g:Value->α}:∀ (vs:List Value) {Q:List α->Shared->Prop},(∀ v∈vs,∀ Q':α->Shared->Prop,Q' (g v) s->wpAny (model prog w) A (f v) Q' E s)->Q (vs.map g) s->wpAny (model prog w) A (vs.mapM f) Q E s
 |[],Q,_,hQ=>by rw[List.mapM_nil];exact Lf hQ
 | v::vs,Q,h,hQ=>by
  rw[List.mapM_cons];exact La (h v Le _ (La (lC vs (λ u hu=>h u (Ld _ hu)) (Lf hQ))))
end
section
variable {prog:Program}{w:World}{A:Around}{E:Value->Shared->Prop}{s:Shared}
def wz {vs:List Value}(hv:∀ v∈vs,∃ ns,lZ h v ns)(hn:vs≠[]):wu (model prog w) A h (keyKind' vs.toArray) oneType':=by
 intro Q E s k hQ;have hv':∀ v∈vs,∃ ns,lZ s.heap v ns:=λ v m=>let ⟨ns,x⟩:=hv v m;⟨ns,x.keep k⟩
 rw[keyKind'_eq];refine La ?_;rw[List.mapM_toArray];refine wpAny_map ?_;refine lC (g:=λ _=>none) vs (λ v m Q' hQ'=>let ⟨ns,x⟩:=hv' v m;wy x hQ') ?_;obtain⟨v0,vr,rfl⟩:∃ v0 vr,vs=v0::vr:=by
  cases vs with
  |nil=>exact absurd rfl hn|cons a b=>exact⟨a,b,rfl⟩
 simp;refine wpAny_map ?_;rw[oneTypeOnly'_eq,List.mapM_toArray];refine La (wpAny_map (lC (g:=λ _=>Value.type "list") (v0::vr) (λ v m Q' hQ'=>?_) ?_))
 ·obtain⟨ns,a,xs,rfl,hl,_⟩:=hv' v m;exact OH hl.typeIs hQ'
 ·have h0:(List.map (λ _=>Value.type "list") (v0::vr)).toArray[0]?=some (Value.type "list"):=by simp
  have ha:((List.map (λ _=>Value.type "list") (v0::vr)).toArray.all λ x=>x == Value.type "list")=true:=by
   simp only[List.all_toArray,List.all_map,NQ];intro _ _;rfl
  rw[h0];simp only[ha,Nh];exact Lf hQ
end
end SR
namespace SR
open PySem PySem.Spec PyProof.Rows PySem.W
variable {p:Array Nat}{n:Nat}
def gM {α β:Type}(c:Nat->Nat->Bool)(f:α->KasT β):∀ t:KasT α,a9 c (t.bind f)=a9 c (f (a9 c t))
 |.ret a=>rfl|.ask i j k=>gM c f (k (c i j))
structure Ord (n:Nat)(c:Nat->Nat->Bool):Prop where
 tr:∀ i j k,c i j=true->c j k=true->c i k=true
 tot:∀ i j,i<n->j<n->i≠j->c i j=true\/c j i=true
abbrev dU (p:Array Nat)(i:Nat):Nat:=p.getD i 0
def Up (c:Nat->Nat->Bool)(p:Array Nat)(k:Nat):Prop:=∀ i j,i<j->j<k->c (dU p i) (dU p j)=true
def Dn (c:Nat->Nat->Bool)(p:Array Nat)(k:Nat):Prop:=∀ i j,i<j->j<k->c (dU p j) (dU p i)=true
def tG {q:Array Nat}{i j:Nat}(h:p[i]?=q[j]?):dU p i=dU q j:=by
 unfold dU;rw[L7,L7,h]
def Pm.size(h:Pm n p):p.size=n:=by
 have:=h.size_eq;simpa using this
def Pm.unlike(h:Pm n p){i j:Nat}(hi:i<n)(hj:j<n)(hn:i≠j):dU p i≠dU p j:=by
 have nd:p.toList.Nodup:=by
  have h':p.toList.Perm (List.range n):=by simpa using ML.mp h
  exact h'.nodup_iff.mpr Oh
 have hs:=h.size;have gi:dU p i=p.toList[i]'(by rw[LF];omega):=by
  unfold dU;rw[L7,LB (by omega)];rfl
 have gj:dU p j=p.toList[j]'(by rw[LF];omega):=by
  unfold dU;rw[L7,LB (by omega)];rfl
 rw[gi,gj];intro e;exact hn ((List.getElem_inj nd).mp e)
section
variable{c:Nat->Nat->Bool}(o:Ord n c)(hn:0<n)
include o hn
theorem Up.more{k:Nat}(h:Pm n p)(u:Up c p k)(hk:1<=k)(hkn:k<n)(hc:c (dU p k) (dU p (k-1))=false):Up c p (k+1):=by
 have hl:c (dU p (k-1)) (dU p k)=true:=by
  rcases o.tot (dU p (k-1)) (dU p k) (h.get hn _) (h.get hn _) (h.unlike (by omega) hkn (by omega)) with z|z
  ·exact z
  ·rw[hc]at z;cases z
 intro i j hij hj;by_cases e:j=k
 ·subst e;by_cases e2:i=j-1
  ·subst e2;exact hl
  ·exact o.tr _ _ _ (u i (j-1) (by omega) (by omega)) hl
 ·exact u i j hij (by omega)
theorem Dn.more{k:Nat}(u:Dn c p k)(hk:1<=k)(hc:c (dU p k) (dU p (k-1))=true):Dn c p (k+1):=by
 intro i j hij hj;by_cases e:j=k
 ·subst e;by_cases e2:i=j-1
  ·subst e2;exact hc
  ·exact o.tr _ _ _ hc (u i (j-1) (by omega) (by omega))
 ·exact u i j hij (by omega)
theorem wA {p:Array Nat}(h:Pm n p):∀ (f k:Nat),1<=k->k+f<=n->Up c p k->k<=a9 c (kas_asc p f k)/\a9 c (kas_asc p f k)<=k+f/\Up c p (a9 c (kas_asc p f k))/\(a9 c (kas_asc p f k)<k+f->c (dU p (a9 c (kas_asc p f k))) (dU p (a9 c (kas_asc p f k)-1))=true)
 |0,k,hk,hf,u=>⟨Ll _,Ll _,u,λ z=>absurd z (Mj _)⟩
 | f+1,k,hk,hf,u=>by
  have e:a9 c (kas_asc p (f+1) k)=a9 c (if c (dU p k) (dU p (k-1))=true then KasT.ret k else kas_asc p f (k+1)):=rfl;rw[e];cases hc:c (dU p k) (dU p (k-1)) with
  | true =>
   rw[Lr rfl];exact⟨Ll _,Pc _ _,u,λ _=>hc⟩
  | false =>
   rw[Lw Li];obtain⟨a1,a2,a3,a4⟩:=wA h f (k+1) (by omega) (by omega) (u.more o hn h hk (by omega) hc);exact⟨by omega,by omega,a3,λ z=>a4 (by omega)⟩
theorem xY {p:Array Nat}(h:Pm n p):∀ (f k:Nat),1<=k->k+f<=n->Dn c p k->∃ m,a9 c (kas_desc f p k 0)=(p,m,0)/\k<=m/\m<=k+f/\Dn c p m
 |0,k,hk,hf,u=>⟨k,rfl,Ll _,Ll _,u⟩
 | f+1,k,hk,hf,u=>by
  have e:a9 c (kas_desc (f+1) p k 0)=a9 c (if c (dU p k) (dU p (k-1))=true then (if (0:Nat)>0 then kas_desc f (kas_rev p (k-(0+1)) k) (k+1) 0 else kas_desc f p (k+1) 0) else .ask (dU p (k-1)) (dU p k) λ d=>if d=true then .ret (p,k,0) else kas_desc f p (k+1) (0+1)):=rfl;rw[e];cases hc:c (dU p k) (dU p (k-1)) with
  | true =>
   rw[Lr rfl,Lw (Mj 0)];obtain⟨m,a1,a2,a3,a4⟩:=xY h f (k+1) (by omega) (by omega) (u.more o hn hk hc);exact⟨m,a1,by omega,by omega,a4⟩
  | false =>
   rw[Lw Li];have hl:c (dU p (k-1)) (dU p k)=true:=by
    rcases o.tot (dU p (k-1)) (dU p k) (h.get hn _) (h.get hn _) (h.unlike (by omega) (by omega) (by omega)) with z|z
    ·exact z
    ·rw[hc]at z;cases z
   refine⟨k,?_,Ll _,by omega,u⟩;show a9 c (if c (dU p (k-1)) (dU p k)=true then KasT.ret (p,k,0) else _)=_;rw[Lr hl];rfl
theorem GF(h:Pm n p){m:Nat}(hm:m<=n)(u:Dn c p m):Pm n (kas_rev p 0 m)/\Up c (kas_rev p 0 m) m:=by
 refine⟨(mirror_perm p _ _ _).trans h,λ i j hij hj=>?_⟩;have g:∀ k,k<m->dU (kas_rev p 0 m) k=dU p (m-1-k):=λ k hk=>by
  refine tG ?_;unfold kas_rev;rw[getElem?_mirror_all (by rw[h.size];exact hm),Lr ⟨Mk _,hk⟩]
  congr 1
  omega
 rw[g i (by omega),g j hj];exact u _ _ (by omega) (by omega)
theorem D4(h:Pm n p){m:Nat}(h1:1<=m)(hm:m<=n)(u:Dn c p m):Pm n (a9 c (kas_tail3 m n p)).2/\Up c (a9 c (kas_tail3 m n p)).2 (a9 c (kas_tail3 m n p)).1/\1<=(a9 c (kas_tail3 m n p)).1/\(a9 c (kas_tail3 m n p)).1<=n:=by
 obtain⟨q1,q2⟩:=GF o hn h hm u;obtain⟨a1,a2,a3,_⟩:=wA o hn q1 (n-m) m h1 (by omega) q2;have e:a9 c (kas_tail3 m n p)=(a9 c (kas_asc (kas_rev p 0 m) (n-m) m),kas_rev p 0 m):=by
  unfold kas_tail3;rw[gM];rfl
 rw[e];exact⟨q1,a3,by show 1<=a9 c _;omega,by show a9 c _<=n;omega⟩
theorem BH(h:Pm n p):Pm n (a9 c (kas_count n p)).2/\Up c (a9 c (kas_count n p)).2 (a9 c (kas_count n p)).1/\1<=(a9 c (kas_count n p)).1/\(a9 c (kas_count n p)).1<=n:=by
 have u1:Up c p 1:=λ i j h1 h2=>by omega
 obtain⟨a1,a2,a3,a4⟩:=wA o hn h (n-1) 1 (Ll _) (by omega) u1;have e:a9 c (kas_count n p)=a9 c (if ((a9 c (kas_asc p (n-1) 1)) == n)=true then .ret (a9 c (kas_asc p (n-1) 1),p) else if a9 c (kas_asc p (n-1) 1)>1 then .ask (dU p 0) (dU p (a9 c (kas_asc p (n-1) 1)-1)) λ d=>if d=true then .ret (a9 c (kas_asc p (n-1) 1),p) else kas_descPart (a9 c (kas_asc p (n-1) 1)) n (kas_rev p 0 (a9 c (kas_asc p (n-1) 1))) else kas_descPart (a9 c (kas_asc p (n-1) 1)) n p):=by
  unfold kas_count;rw[gM]
 rw[e];generalize hm:a9 c (kas_asc p (n-1) 1)=m at *;by_cases e1:m=n
 ·rw[Lr (by simpa using e1)];exact⟨h,a3,a1,by show m<=n;omega⟩
 ·rw[Lw (by simpa using e1)];by_cases e2:m>1
  ·rw[Lr e2];have hc:=a3 0 (m-1) (by omega) (by omega);have er:a9 c (KasT.ask (dU p 0) (dU p (m-1)) λ d=>if d=true then KasT.ret (m,p) else kas_descPart m n (kas_rev p 0 m))=(m,p):=by
    show a9 c (if c (dU p 0) (dU p (m-1))=true then KasT.ret (m,p) else kas_descPart m n (kas_rev p 0 m))=_;rw[Lr hc];rfl
   rw[er];exact⟨h,a3,a1,by show m<=n;omega⟩
  ·rw[Lw e2];have m1:m=1:=by omega
   subst m1;have hc:=a4 (by omega);have d2:Dn c p 2:=λ i j h1 h2=>by
    have:i=0/\j=1:=by omega
    obtain⟨rfl,rfl⟩:=this;exact hc
   obtain⟨k,b1,b2,b3,b4⟩:=xY o hn h (n-(1+1)) (1+1) (by omega) (by omega) d2;have ed:a9 c (kas_descPart 1 n p)=a9 c (kas_tail3 k n p):=by
    unfold kas_descPart;rw[gM,b1];rfl
   rw[ed];exact D4 o hn h (by omega) (by omega) b4
theorem pH {p:Array Nat}(h:Pm n p){k:Nat}(hk:k<n)(u:Up c p k):∀ (f l r:Nat),l<=r->r<=k->r-l<=f->(∀ i,i<l->c (dU p i) (dU p k)=true)->(∀ i,r<=i->i<k->c (dU p k) (dU p i)=true) ->
  a9 c (kas_place p k f l r)<=k/\(∀ i,i<a9 c (kas_place p k f l r)->c (dU p i) (dU p k)=true)/\∀ i,a9 c (kas_place p k f l r)<=i->i<k->c (dU p k) (dU p i)=true
 |0,l,r,h1,h2,h3,hl,hr=>⟨by show l<=k;omega,hl,λ i z=>hr i (by have:l<=i:=z;omega)⟩
 | f+1,l,r,h1,h2,h3,hl,hr=>by
  rw[kas_place];by_cases e:l≥r
  ·rw[Lr e];exact⟨by show l<=k;omega,hl,λ i z=>hr i (by have:l<=i:=z;omega)⟩
  ·rw[Lw e];have em:a9 c (KasT.ask (dU p k) (dU p ((l+r)/2)) λ d=>if d=true then kas_place p k f l ((l+r)/2) else kas_place p k f ((l+r)/2+1) r)=a9 c (if c (dU p k) (dU p ((l+r)/2))=true then kas_place p k f l ((l+r)/2) else kas_place p k f ((l+r)/2+1) r):=rfl;rw[em];have hm1:l<=(l+r)/2:=by omega
   have hm2:(l+r)/2<r:=by omega
   generalize (l+r)/2=m at *;cases hc:c (dU p k) (dU p m) with
   | true =>
    rw[Lr rfl];refine pH h hk u f l m hm1 (by omega) (by omega) hl λ i z1 z2=>?_;by_cases e:i=m
    ·subst e;exact hc
    ·exact o.tr _ _ _ hc (u m i (by omega) z2)
   | false =>
    rw[Lw Li];have hl':c (dU p m) (dU p k)=true:=by
     rcases o.tot (dU p m) (dU p k) (h.get hn _) (h.get hn _) (h.unlike (by omega) hk (by omega)) with z|z
     ·exact z
     ·rw[hc]at z;cases z
    refine pH h hk u f (m+1) r (by omega) h2 (by omega) (λ i z=>?_) hr;by_cases e:i=m
    ·subst e;exact hl'
    ·exact o.tr _ _ _ (u i m (by omega) (by omega)) hl'
theorem BI:∀ (f:Nat) {p:Array Nat} (k:Nat),Pm n p->k+f=n->Up c p k->Pm n (a9 c (kas_bin f p k))/\Up c (a9 c (kas_bin f p k)) n
 |0,p,k,h,hk,u=>⟨h,(show k=n by omega)▸u⟩
 | f+1,p,k,h,hk,u=>by
  obtain⟨a1,a2,a3⟩:=pH o hn h (k:=k) (by omega) u k 0 k (Mk _) (Ll _) (by omega) (λ i z=>absurd z (Nn _)) (λ i z1 z2=>by omega);have e:a9 c (kas_bin (f+1) p k)=a9 c (kas_bin f (bubble p k (k-a9 c (kas_place p k k 0 k))) (k+1)):=by
   rw[kas_bin,gM]
  rw[e];generalize a9 c (kas_place p k k 0 k)=l at *;have g:∀ i,dU (bubble p k (k-l)) i=if i=l then dU p k else if l<i/\i<=k then dU p (i-1) else dU p i:=λ i=>by
   have hb:=getElem?_bubble (xs:=p) (src:=k) (by rw[h.size];omega) (k-l) (by omega) i;have e2:k-(k-l)=l:=by omega
   rw[e2]at hb;split
   ·rename_i z;rw[Lr z]at hb;exact tG hb
   ·rename_i z;rw[Lw z]at hb;split
    ·rename_i z2;rw[Lr z2]at hb;exact tG hb
    ·rename_i z2;rw[Lw z2]at hb;exact tG hb
  refine BI f (k+1) ((bubble_perm p _ _).trans h) (by omega) λ i j hij hj=>?_;rw[g i,g j];by_cases i1:i=l
  ·rw[Lr i1,Lw (by omega),Lr ⟨by omega,by omega⟩];exact a3 (j-1) (by omega) (by omega)
  ·rw[Lw i1];by_cases i2:l<i/\i<=k
   ·rw[Lr i2,Lw (by omega),Lr ⟨by omega,by omega⟩];exact u _ _ (by omega) (by omega)
   ·rw[Lw i2];by_cases j1:j=l
    ·rw[Lr j1];exact a2 i (by omega)
    ·rw[Lw j1];by_cases j2:l<j/\j<=k
     ·rw[Lr j2];by_cases e3:i=j-1
      ·omega
      ·exact u _ _ (by omega) (by omega)
     ·rw[Lw j2];exact u _ _ hij (by omega)
theorem l5:Pm n (a9 c (kas_sort n))/\Up c (a9 c (kas_sort n)) n:=by
 obtain⟨a1,a2,a3,a4⟩:=BH o hn (p:=(List.range n).toArray) (Array.Perm.refl _);have e:a9 c (kas_sort n)=a9 c (if (a9 c (kas_count n (List.range n).toArray)).1<n then kas_bin (n-max (a9 c (kas_count n (List.range n).toArray)).1 1) (a9 c (kas_count n (List.range n).toArray)).2 (max (a9 c (kas_count n (List.range n).toArray)).1 1) else .ret (a9 c (kas_count n (List.range n).toArray)).2):=by
  unfold kas_sort;rw[gM]
 rw[e];generalize a9 c (kas_count n (List.range n).toArray)=r at *;by_cases h:r.1<n
 ·rw[Lr h];have em:max r.1 1=r.1:=Po a3;rw[em];exact BI o hn (n-r.1) r.1 a1 (by omega) a2
 ·rw[Lw h];have e2:r.1=n:=by omega
  rw[e2]at a2;exact⟨a1,a2⟩
end
end SR
namespace DL
open PySem PySem.Spec PyProof.Rows L2
section
variable {K:PySem.W.Frag}{Y:XY}{H0 B0 B H:Hp}{σ:L2.St}{τ:SD}{P:List Addr}{F:Addr->Prop}{X:Cx}{pos:Pos}
def SI.E9 {i:Nat}{d:D}(I:SI K H0 B0 B H σ τ P No)(h:τ[i]?=some (some d)):∃ v f P',σ[i]?=some (some v)/\Rep K B No H d v f/\SI K H0 B0 B H σ (τ.set i none) P' No/\fL H0 B H P' No f:=by
 obtain⟨v,A,f,C,h1,h2,h3,h4⟩:=I.rep.drop h;subst h3;have nd:=I.nd;have sb:List.Sublist (A++C) (A++f++C):=by
  rw[LM];exact(Mi A).append (LI f C)
 have sf:List.Sublist f (A++f++C):=(LI A f).trans (LS _ _);have dis:∀ a∈f,a∉A++C:=λ a z m=>by
  rw[LM,Lp]at nd;obtain⟨_,n2,n3⟩:=nd;rw[Lp]at n2;rcases Ls.mp m with q|q
  ·exact n3 a q a (Lu _ z) rfl
  ·exact n2.2.2 a z a q rfl
 refine⟨v,f,A++C,h1,h2,⟨I.bh,I.h0,I.b0,I.nb,h4,I.nd.sublist sb,λ a m=>I.own a (sb.subset m),λ a m=>m.elim⟩,I.nd.sublist sf,λ a m=>?_⟩;have q:=I.own a (sf.subset m);exact⟨q.1,q.2.1,I.stands (sf.subset m),dis a m,λ z=>z.elim⟩
def u7 (i j:Nat)(τ:SD):Fl:=match c5 τ i,τ[j]? with
 |some xs,some (some d)=>if i≠j/\xs.length<16777216 then .nx ((τ.set j none).set i (some (.lst .own (xs++[d])))) else .bad
 |_,_=>.bad
def GH (i j:Nat){x y:Str}{p1 p2 apos cpos:Pos}(hN:X.N[i]?=some x:=by rfl)(hM:X.N[j]?=some y:=by rfl)(hv:rY X.env.scope x:=by first|exact Or.inl rfl|exact Or.inr (Or.inl rfl)|exact Or.inr (Or.inr rfl))(hw:rY X.env.scope y:=by first|exact Or.inl rfl|exact Or.inr (Or.inl rfl)|exact Or.inr (Or.inr rfl))
  (hd:(x == ("__debug__" : Str))=false:=by decide) (hcd:(x == ("__classdict__" : Str))=false:=by decide) (hd':(y == ("__debug__" : Str))=false:=by decide) (hcd':(y == ("__classdict__" : Str))=false:=by decide)
  (hbase:attributeBase (.Name x p1) "append" X.env (eval (.Name x p1) X.env)=eval (.Name x p1) X.env:=by rfl)
  (hfew:((backTo cpos (starEach [.Name y p2] X.env)).all (λ x=>!x.1)&&(backToKw cpos (keywordEach [] X.env)).all (λ x=>x.1.isSome)
   && decide (([.Name y p2]:List Expr).length+([]:List Keyword).length+(if ([]:List Keyword).isEmpty then 0 else 1)<30))=true:=by rfl)
  (hline:(apos.endLine == cpos.line)=true:=by rfl) (hs:starEach [.Name y p2] X.env=(false,eval (.Name y p2) X.env)::starEach [] X.env:=by rfl) (hplain:(backTo cpos (starEach [] X.env)).any (·.1)=false:=by rfl)
  (hsw:swapsWith (.Call (.Attribute (.Name x p1) "append" apos) [.Name y p2] [] cpos) none pos.line X.env=pure false:=by rfl) :
  PS X (.Expr (.Call (.Attribute (.Name x p1) "append" apos) [.Name y p2] [] cpos) pos) (i0 X.K Y (u7 i j)):=by
 refine PS.imp (gA (lK Mh MU MV gI (dg hN hv hd hcd) (cR (dg hM hw hd' hcd') dJ hs) hbase hfew hline hs hplain) hsw) λ E σ H hq=>ex7 hq λ H0 B0 B τ P I h=>?_;unfold u7 at h;split at h
 ·rename_i xs d z z';split at h
  ·rename_i hc;have hi:=fO z;obtain⟨a,vs,ea,ha,hl⟩:=I.listAt hi;obtain⟨v,f,P',e1,r1,I1,k1⟩:=I.E9 z';have hi1:(τ.set j none)[i]?=some (some (.lst .own xs)):=by rw[L8 (My hc.1)];exact hi
   refine⟨.ref a,ea,.inl ⟨rfl,vs,c8.of ha⟩,v,e1,a,vs,v,rfl,rfl,ha,by rw[<-hl,Ma];exact hc.2,?_⟩;obtain⟨P2,I2⟩:=I1.Ba (xs':=xs++[d]) (vs':=vs++[v]) hi1 ea k1 (λ g _ rl=>⟨g++f,rl.append (ai.one r1),λ b m=>Ls.mp m,λ nf dis=>Lp.mpr ⟨nf,k1.nd,λ a ha b hb e=>dis b hb (e▸ha)⟩⟩) ha;exact h B _ σ P2 I2
  ·exact h.elim
 ·exact h.elim
def rz (j i:Nat)(τ:SD):Fl:=match c5 τ i with
 | some xs=>match xs[xs.length-1]? with
  |some d=>if i≠j then .nx ((τ.set i (some (.lst .own xs.dropLast))).set j (some d)) else .bad
  |none=>.bad
 |none=>.bad
def GG (j i:Nat){x y:Str}{p0 p1 apos cpos:Pos}(hN:X.N.Nodup)(hj:X.N[j]?=some y)(hx:Loc X.env.scope y)(hi:X.N[i]?=some x:=by rfl)(hv:rY X.env.scope x:=by first|exact Or.inl rfl|exact Or.inr (Or.inl rfl)|exact Or.inr (Or.inr rfl))(hd:(x == ("__debug__" : Str))=false:=by decide)(hcd:(x == ("__classdict__" : Str))=false:=by decide)
  (hbase:attributeBase (.Name x p1) "pop" X.env (eval (.Name x p1) X.env)=eval (.Name x p1) X.env:=by rfl) (hline:(apos.endLine == cpos.line)=true:=by rfl)
  (hsw:swapsWith (.Call (.Attribute (.Name x p1) "pop" apos) [] [] cpos) (some (.Name y p0)) pos.line X.env=pure false:=by rfl) (hf:X.fn y=true\/X.env.scope.names.lookup y=some .local:=by first|exact .inl rfl|exact .inr rfl) :
  PS X (.Assign [.Name y p0] (.Call (.Attribute (.Name x p1) "pop" apos) [] [] cpos) pos) (i0 X.K Y (rz j i)):=by
 refine PS.imp (AA hN hj hx (AD Mh PySem.F.slot_list_pop PySem.F.type_list_pop F3 (dg hi hv hd hcd) hbase hline) hsw hf) λ E σ H hq=>ex7 hq λ H0 B0 B τ P I h=>?_;unfold rz at h;split at h
 ·rename_i xs z;split at h
  ·rename_i d hd';split at h
   ·rename_i hij;have hi:=fO z;have hi':i<τ.length:=(Lh.mp hi).1;obtain⟨A,f,C,eP,g1,g2⟩:=I.rep.cut hi';obtain⟨v',e1,r1⟩:=g1 _ hi;obtain⟨a,vs,g,rfl,ha,rl,ef⟩:=r1;have hl:=rl.length;have hx0:xs≠[]:=λ z=>by rw[z]at hd';cases hd'
    have exs:xs=xs.dropLast++[d]:=by
     have:=List.dropLast_concat_getLast hx0;rw[List.getLast_eq_getElem,<-L5 (hd'.symm.trans (Lg (by have:=OF.mpr hx0;omega)))]at this;exact this.symm
    have rl2:=rl;rw[exs]at rl2;obtain⟨us,ws,fa,fb,evs,efg,ra,rb⟩:=rl2.split;obtain⟨v,w0,fv,f0,rfl,rv,⟨rfl,rfl⟩,efb⟩:=rb;rw[LZ]at efb;subst efb;subst evs efg ef;have nd0:=I.nd;rw[eP]at nd0;have ndf:(a::(fa++fb)).Nodup:=(nd0.sublist (LS _ _)).sublist (LI _ _);have hav:a∉fb:=λ m=>(Lv.mp ndf).1 (Lx _ m);have haf:a∉fa:=λ m=>(Lv.mp ndf).1 (Lu _ m);have kp:iK H (upd H a (.lst us)) [a]:=⟨λ b o h n=>by rw[aG (by simpa using n)];exact h,λ b m=>by
     have:b=a:=by simpa using m
     subst this;exact⟨_,ha,trivial⟩⟩
    have es:σ.set i (some (.ref a))=σ:=by
     refine Mr λ k=>?_;by_cases hk:k=i
     ·subst hk;rw[Mg (Lh.mp e1).1,e1]
     ·rw[L8 (My hk)]
    have kpf:iK H (upd H a (.lst us)) (a::(fa++fb)):=⟨λ b o h n=>kp.keep b o h (λ z=>n (by
     have:b=a:=by simpa using z
     subst this;exact Le)),λ b m=>I.rep.own b (by rw[eP];exact cH _ _ _ b m)⟩
    have key:=I.put (i:=i) (H1:=upd H a (.lst us)) (d':=.lst .own xs.dropLast) (v':=.ref a) (f':=a::fa) hi' eP g2 kpf ⟨a,us,fa,rfl,aI,ra.keep kp (λ b m z=>haf ((by simpa using z:b=a)▸m)),rfl⟩ (Lv.mpr ⟨haf,(Lp.mp (Lv.mp ndf).2).1⟩) (λ b m=>.inl ((Ln.mp m).elim (λ z=>z▸Le) λ z=>Ld _ (Lu _ z)));rw[es]at key;have rv':=rv.keep kp (λ b m z=>hav ((by simpa using z:b=a)▸m));have inP:∀ b∈fb,b∈P:=λ b m=>by rw[eP];exact cH _ _ _ b (Ld _ (Lx _ m))
    have kv:fL H0 B (upd H a (.lst us)) (A++a::fa++C) No fb:=⟨(Lp.mp (Lv.mp ndf).2).2.1,λ b m=>by
     have q:=I.own b (inP b m);refine⟨q.1,q.2.1,λ z=>?_,λ z=>?_,λ z=>z.elim⟩
     ·by_cases e:b=a
      ·exact hav (e▸m)
      ·rw[aG e]at z;exact I.stands (inP b m) z
     ·have n1:=nd0;rw[LM,Lp]at n1;obtain⟨_,n2,n3⟩:=n1;rw[Lp]at n2;have mm:b∈a::(fa++fb):=Ld _ (Lx _ m);rw[LM]at z;rcases Ls.mp z with z|z
      ·exact n3 b z b (Lu _ mm) rfl
      ·rcases Ls.mp z with z|z
       ·rcases Ln.mp z with e|e
        ·exact hav (e▸m)
        ·exact(Lp.mp (Lv.mp ndf).2).2.2 b e b m rfl
       ·exact n2.2.2 b mm b z rfl⟩
    have hlast:(us++[v])[(us++[v]).length-1]?=some v:=by
     rw[Lo,L6,Nat.add_sub_cancel,MJ (Ll _),Nat.sub_self];rfl
    refine⟨.ref a,e1,.inl ⟨rfl,us++[v],c8.of ha⟩,a,us++[v],v,rfl,rfl,ha,hlast,?_⟩;obtain⟨P2,I2,_⟩:=key.set j rv' kv;rw[List.dropLast_concat];exact h B _ _ P2 ⟨I2,au.refl _,λ b o h n=>kp.v9 h n⟩
   ·exact h.elim
  ·exact h.elim
 ·exact h.elim
end
end DL
namespace SR
open PySem PySem.Spec PyProof.Rows
variable {h:Heap}{nss:List (List Int)}{vs:List Value}
inductive D5 (h:Heap):List Value->List (List Int)->Prop
 |nil:D5 h [] []
 |cons {v:Value}{ns:List Int}{vs:List Value}{nss:List (List Int)}:lZ h v ns->D5 h vs nss->D5 h (v::vs) (ns::nss)
def D5.at(x:D5 h vs nss):∀ i,i<vs.length->lZ h (vs.getD i .none) (nss.getD i []):=by
 induction x with
 |nil=>intro i hi;exact absurd hi (Nn _)
 | cons a _ ih =>
  intro i hi;cases i with
  |zero=>exact a|succ i=>exact ih i (by rw[Ly]at hi;omega)
def D5.mem(x:D5 h vs nss):∀ v∈vs,∃ ns,lZ h v ns:=by
 induction x with
 |nil=>intro v m;cases m
 | cons a _ ih =>
  intro v m;rcases Ln.mp m with rfl|m
  ·exact⟨_,a⟩
  ·exact ih v m
abbrev u9 (nss:List (List Int))(i j:Nat):Bool:=lexLt (nss.getD i []) (nss.getD j [])
def wB {prog:Program}{w:World}{A:Around}(hv:D5 h vs nss)(hu:A.units<cLine):wt (model prog w) A h vs (u9 nss):=by
 intro h2;refine⟨oneType',wz hv.mem (λ z=>by rw[z]at h2;simp at h2),λ i j hi hj=>?_⟩;intro Q E s k hQ;obtain⟨a,xs,e1,l1,i1⟩:=(hv.at i hi).keep k;obtain⟨b,ys,e2,l2,i2⟩:=(hv.at j hj).keep k;rw[keyLt'_oneType,e1,e2];exact BG l1 l2 i1 i2 hu hQ
end SR
namespace L2
open PySem PySem.Spec PyProof.Rows
section
variable {X:Cx}
def l6:∀ {ns:List Int}{its:List Value},Vals (ns.map V.int) its->IntsAre its ns
 |[],_,.nil=>.nil
 |n::ns,_,.cons r t=>by obtain⟨k,rfl⟩:=r;exact .cons n k (l6 t)
inductive ou (K:PySem.W.Frag)(H:Hp):List V->List (List Int)->Prop
 |nil:ou K H [] []
 |cons {b:Addr}{ns:List Int}{ws:List V}{nss:List (List Int)}:c8 K H b (ns.map V.int)->ou K H ws nss->ou K H (.ref b::ws) (ns::nss)
def ou.len {K:PySem.W.Frag}{H:Hp}{ws:List V}{nss:List (List Int)}(x:ou K H ws nss):ws.length=nss.length:=by
 induction x with
 |nil=>rfl|cons _ _ ih=>rw[Ly,Ly,ih]
def Inv.K9 {pins:List (Addr×Obj)}{σ:St}{H:Hp}{s:Shared}(I:Inv X pins σ H s){ws:List V}{nss:List (List Int)}(x:ou X.K H ws nss):∀ {its:List Value},Vals ws its->SR.D5 s.heap its nss:=by
 induction x with
 |nil=>intro its r;cases r;exact .nil
 | cons hq _ ih =>
  intro its r;cases r with
  | cons r1 r2 =>
   cases r1;obtain⟨is,rv,pl,_⟩:=I.list hq;exact .cons ⟨_,_,rfl,pl.isList,by simpa using l6 rv⟩ (ih r2)
def tH (hu:X.A.units+2<cLine):d7 X (.builtin "sorted") (λ xs H Q=>∃ (a:Addr) (ws:List V) (nss:List (List Int)),xs=[.ref a]/\c8 X.K H a ws/\ou X.K H ws nss/\nss.length<64/\∀ p:Addr,H p=none->Q (.ref p) (upd H p (.lst (SR.ordered .bg (SR.u9 nss) ws)))):=by
 intro pins s σ H xs us Q I r h;obtain⟨a,ws,nss,rfl,hq,hp,hl,q⟩:=h;obtain⟨u,rfl,ru⟩:=vals1 r;cases ru;obtain⟨its,rv,pl,hz⟩:=I.list hq;have hlen:=rv.length;have hpl:=hp.len;refine SR.wo pl.isList (by omega) (SR.wB (I.K9 hp rv) hu) λ h' p kp hsz he=>?_;obtain⟨e,he⟩:=he;refine⟨.ref p,_,I.laid (t':=s.toks) kp hsz ?_,rfl,q _ (I.hok.fresh hsz)⟩;refine⟨?_,_,e,rv.ordered (SR.u9 nss),he⟩;rw[(SR.lY _ _ _).length_eq];exact hz
end
end L2
namespace DL
open PySem PySem.Spec PyProof.Rows L2
def l7:List D->Option (List (List Int))
 |[]=>some []
 |.lst _ ys::r=>(intsOf ys).bind λ ns=>(l7 r).map (ns :: ·)
 |_=>none
def kE:∀ (nss:List (List Int)) (t:List Int->Tg),l7 (nss.map λ ns=>D.lst (t ns) (ns.map .int))=some nss
 |[],_=>rfl
 | ns::r,t=>by
  show((intsOf (ns.map D.int)).bind λ ns=>(l7 (r.map λ ns=>D.lst (t ns) (ns.map .int))).map (ns :: ·))=_;rw[di,kE r t];rfl
section
variable {K:PySem.W.Frag}{Y:XY}{H0 B0 B H:Hp}{σ:L2.St}{τ:SD}{P:List Addr}{F:Addr->Prop}{X:Cx}{pos:Pos}
def tK (I:SI K H0 B0 B H σ τ P F):∀ {xs:List D}{nss:List (List Int)}{vs:List V}{f:List Addr},l7 xs=some nss->ai K B (· ∈ P) H xs vs f->ou K H vs nss
 | [],nss,vs,f,h,r=>by
  cases h;obtain⟨rfl,_⟩:=r;exact .nil
 | d::xs,nss,vs,f,h,r=>by
  obtain⟨v,w,f1,f2,rfl,r1,r2,rfl⟩:=r;cases d with
  | lst t ys =>
   unfold l7 at h;cases e:intsOf ys with
   |none=>rw[e]at h;cases h
   | some ns =>
    rw[e]at h;cases e2:l7 xs with
    |none=>rw[e2]at h;cases h
    | some mss =>
     rw[e2]at h;cases h;have ey:=fQ e;subst ey;obtain⟨a,us,g,rfl,q,l,_⟩:=r1.lst I;obtain⟨rfl,rfl⟩:=fP l;exact .cons q (tK I e2 r2)
  |_=>cases h
def ai.parts {S:Addr->Prop}:∀ {xs:List D}{vs:List V}{f:List Addr},ai K B S H xs vs f->∃ fs:List (List Addr),fs.length=xs.length/\f=fs.flatten/\∀ i,i<xs.length->Rep K B S H (xs.getD i .bg) (vs.getD i .bg) (fs.getD i [])
 | [],vs,f,r=>by
  obtain⟨rfl,rfl⟩:=r;exact⟨[],rfl,rfl,λ i h=>absurd h (Nn _)⟩
 | d::xs,vs,f,r=>by
  obtain⟨v,w,f1,f2,rfl,r1,r2,rfl⟩:=r;obtain⟨fs,h1,h2,h3⟩:=ai.parts r2;refine⟨f1::fs,by rw[Ly,Ly,h1],by rw[MM,h2],λ i hi=>?_⟩;cases i with
  |zero=>exact r1|succ i=>exact h3 i (by rw[Ly]at hi;omega)
def xZ {S:Addr->Prop}{x:Nat->D}{v:Nat->V}{g:Nat->List Addr}:∀ (q:List Nat),(∀ i∈q,Rep K B S H (x i) (v i) (g i))->ai K B S H (q.map x) (q.map v) (q.map g).flatten
 |[],_=>⟨rfl,rfl⟩
 |i::q,h=>⟨_,_,_,_,rfl,h i Le,xZ q λ j m=>h j (Ld _ m),by rw[LA,MM]⟩
def ai.sorted {S:Addr->Prop}{xs:List D}{vs:List V}{f:List Addr}(r:ai K B S H xs vs f)(c:Nat->Nat->Bool):∃ g,ai K B S H (SR.ordered .bg c xs) (SR.ordered .bg c vs) g/\g.Perm f:=by
 have hl:=r.length;unfold SR.ordered;rw[<-hl];split
 ·exact⟨f,r,Mp _⟩
 ·rename_i h;obtain⟨fs,h1,h2,h3⟩:=r.parts;have hp:=ML.mp (SR.eW.run (L:=SR.Pm xs.length) c (SR.lV (n:=xs.length) (by omega)));have hp':(SR.a9 c (PySem.W.kas_sort xs.length)).toList.Perm (List.range xs.length):=by simpa using hp
  refine⟨_,xZ (g:=λ i=>fs.getD i []) _ λ i m=>h3 i (LN.mp (hp'.mem_iff.mp m)),?_⟩;rw[h2];refine List.Perm.flatten ((hp'.map _).trans ?_);have e3:(List.range xs.length).map (λ i=>fs.getD i [])=fs:=by
   rw[<-h1];refine Nd (by simp) λ i h1 h2=>?_;simp;rw[Lg h2];rfl
  rw[e3]
def jU (i:Nat)(τ:SD):Fl:=match τ[i]? with
 | some (some (.lst .own xs))=>match l7 xs with
  |some nss=>if nss.length<64 then .rt (.lst .own (SR.ordered .bg (SR.u9 nss) xs)) else .bad
  |none=>.bad
 |_=>.bad
def zB (i:Nat){x:Str}{p pn pc:Pos}(hu:X.A.units+2<cLine)(hg:Gl X "sorted")(hm:X.mg "sorted" = none)(hN:X.N[i]?=some x:=by rfl)(hv:rY X.env.scope x:=by first|exact Or.inl rfl|exact Or.inr (Or.inl rfl)|exact Or.inr (Or.inr rfl))(hd:(x == ("__debug__" : Str))=false:=by decide)(hcd:(x == ("__classdict__" : Str))=false:=by decide)(hl:Y.ln=false:=by rfl)
  (hs:starEach [.Name x pn] X.env=(false,eval (.Name x pn) X.env)::starEach [] X.env:=by rfl) (hpl:(backTo pc (starEach [] X.env)).any (·.1)=false:=by rfl) :
  PS X (.Return (some (.Call (.Name "sorted" p) [.Name x pn] [] pc)) pos) (i0 X.K Y (jU i)):=by
 refine PS.imp (rV (oO (tH hu) hg hm (by decide +kernel) (cR (dg hN hv hd hcd) dJ hs) (he:=hs) (hpl:=hpl))) λ E σ H hq=>ex7 hq λ H0 B0 B τ P I h=>?_;unfold jU at h;split at h
 ·rename_i xs e;split at h
  ·rename_i nss el;split at h
   ·rename_i hc;obtain⟨v,f,h1,h2,h3⟩:=I.rep.get e;obtain⟨a,vs,g,rfl,ha,rl,rfl⟩:=h2;have rl':ai X.K B (· ∈ P) H xs vs g:=rl.mono (au.refl _) (au.refl _) λ _ z=>z.elim;refine⟨.ref a,h1,a,vs,nss,rfl,c8.of ha,tK I el rl',hc,λ p hp=>?_⟩;obtain⟨g',r2,pg⟩:=rl.sorted (SR.u9 nss);have s:=dm (o:=.lst (SR.ordered .bg (SR.u9 nss) vs)) hp;have sub:∀ b∈g',b∈P:=λ b m=>h3.subset (Ld _ (pg.mem_iff.mp m));have hpn:p∉g':=λ m=>I.stands (sub p m) hp;refine(cj.rt hl h) B _ (.ref p) (p::g') ⟨I.h0.trans s,I.b0,I.bh.trans s,I.nb,⟨p,_,g',rfl,aI,r2.mono s (au.refl _) (λ _ x=>x),rfl⟩,Lv.mpr ⟨hpn,pg.nodup_iff.mpr (Lv.mp (I.nd.sublist h3)).2⟩,λ b m=>?_⟩;rcases Ln.mp m with e|m
    ·subst e;exact⟨I.bh.free hp,I.h0.free hp,by rw[aI];exact Mw _⟩
    ·obtain⟨a1,a2,_⟩:=I.own b (sub b m);exact⟨a1,a2,λ z=>I.stands (sub b m) (s.free z)⟩
   ·exact h.elim
  ·exact h.elim
 ·exact h.elim
end
def wC {α:Type}(d:α){c:Nat->Nat->Bool}{vs:List α}(o:SR.Ord vs.length c):∃ q:List Nat,q.Perm (List.range vs.length)/\SR.ordered d c vs=q.map (λ i=>vs.getD i d)/\q.Pairwise λ i j=>c i j=true:=by
 unfold SR.ordered;split
 ·rename_i h;refine⟨List.range vs.length,Mp _,?_,?_⟩
  ·refine Nd (by simp) λ i h1 h2=>?_;simp;rw[Lg h1];rfl
  ·match hl:vs.length,h with
   |0,_=>exact List.Pairwise.nil|1,_=>exact List.pairwise_singleton _ _
 ·rename_i h;obtain⟨p1,p2⟩:=SR.l5 o (by omega);have hp':(SR.a9 c (PySem.W.kas_sort vs.length)).toList.Perm (List.range vs.length):=by simpa using ML.mp p1
  refine⟨_,hp',rfl,?_⟩;have hs:=SR.Pm.size p1;rw[Mt];intro i j hi hj hij;rw[LF]at hi hj;have:=p2 i j hij (by omega);have g:∀ k (hk:k<(SR.a9 c (PySem.W.kas_sort vs.length)).size),SR.dU (SR.a9 c (PySem.W.kas_sort vs.length)) k=(SR.a9 c (PySem.W.kas_sort vs.length)).toList[k]'(by rw[LF];exact hk):=λ k hk=>by
   show(SR.a9 c (PySem.W.kas_sort vs.length)).getD k 0=_;rw[L7,LB hk];rfl
  rw[g i hi,g j hj]at this;exact this
end DL
namespace DI
open PySem
section
variable {prog:Program}{w:World}{K:Type}[DecidableEq K]{knd:KeyKind prog w K}{A:Around}{E:Value->Shared->Prop}{s:Shared}
def BJ {d:Addr}{kvs:List (K×Value)}{k:K}{key x:Value}{Q:Value->Shared->Prop}(hkey:knd.is k key=true)(hm:s.heap.DictOf knd d kvs)(hnot:k∉kvs.map (·.1))(hsz:kvs.length<=sizeLine)
  (h:∀ h',h'.DictOf knd d (kvs++[(k,x)])->Heap.SameBut d s.heap h'->Q x { s with heap:=h',toks:=s.toks+1 }):wpAny (model prog w) A (dictSetDefault d key x) Q E s:=by
 obtain⟨ob,es,e,g1,g2,g3,g4,g5,g6⟩:=hm;have hz:es.size<=sizeLine:=by
  have:=g5.length;rw[LF]at this;omega
 have fn:kvs.findIdx? (λ kv=>decide (kv.1=k))=none:=by
  rw[OW];intro kv m;exact LD λ z=>hnot (Lq.mpr ⟨kv,m,z⟩)
 have z:(es.findIdx? λ e=>knd.is k e.key)=none:=by
  rw[<-fn,<-g5.findIdx k];cases es;simp
 unfold dictSetDefault;refine MS (La (knd.pyHash hkey (La (wpAny_dictFind_of (s:={ s with toks:=s.toks+1 }) hkey g1 g3 g4 ?_))));rw[z];refine La (NG (La (wpAny_updateDictKeys (hz:=hz) (s:={ s with toks:=s.toks+1 }) g1 g3 (Lf (h _ ⟨_,_,e+1,MO _ g1 (Obj.isFreed_of_dict (Obj.data_mapDictKeys g3 _)),g2.mapDictKeys _,Obj.data_mapDictKeys g3 _,g4.push hkey _,?_,?_⟩ (MN ..))))))
 ·have q:=g5.append hkey (knd.hash k) x;cases es;simpa using q
 ·rw[Lz];exact Lp.mpr ⟨g6,by simp,λ a ha b hb z=>by
   have:b=k:=by simpa using hb
   exact hnot (this▸z▸ha)⟩
end
end DI
namespace L2
open PySem PySem.Spec PyProof.Rows
section
variable {X:Cx}
def BK:V->List V->Hp->VK->Prop:=λ x vs H Q=>∃ (a:Addr) (kvs:List (Key×V)) (ep:Nat) (k:Key) (z:V),x=.ref a/\vs=[kV k,z]/\H a=some (.dK kvs ep)/\kvs.length<sizeLine/\(∀ v,iG kvs k=some v->Q v H)/\(iG kvs k=none->∀ en,Q z (upd H a (.dK (kvs++[(k,z)]) en)))
def pI {κ:Type}[DecidableEq κ]{k:κ}:∀ {vs:List (κ×Value)},valueAt vs k=none->k∉vs.map (·.1)
 |[],_=>by simp
 | p::r,h=>by
  unfold valueAt at h;intro m;rcases Ln.mp m with e|e
  ·simp[e]at h
  ·by_cases q:p.1=k
   ·simp[q]at h
   ·refine pI (vs:=r) ?_ e;simpa[valueAt,Nm,q] using h
def wD {P:Program}{w:World}{d:Addr}{k:Key}{key x:Value}{vs:List (Key×Value)}(hkey:(bN P w).is k key=true)(hd:(d == sysModules)=false)(hnot:k∉vs.map (·.1))(hsz:vs.length<=sizeLine) :
  MeetsIn P w (Builtin.«dict.setdefault» ⟨[.ref d,key,x],[]⟩) (λ _ R s=>s.heap.DictOf (bN P w) d vs/\∀ h',h'.DictOf (bN P w) d (vs++[(k,x)])->Heap.SameBut d s.heap h'->R (.ok (.ret x)) { s with heap:=h',toks:=s.toks+1 }):=
 .of_wp λ A R s ⟨hm,h⟩=>by
  unfold Builtin.«dict.setdefault» Builtin.Dict.keyAndDefault;refine La (La (wpAny_notOrdered_dict hm.typeIs ?_));show wpAny _ _ (pure (d,key,some x)) _ _ s;refine Lf ?_;show wpAny _ _ (if (d == sysModules)=true then _ else (dictSetDefault d key x >>= _)) _ _ s;rw[Lw (by rw[hd];exact Li)];exact La (DI.BJ hkey hm hnot hsz λ h' q1 q2=>Lf ⟨x,rfl,h h' q1 q2⟩)
def x6:EW X "dict.setdefault" BK:=by
 intro pins s σ H x vs v us Q I rx rv h;obtain⟨a,kvs,ep,k,z,rfl,rfl,hH,hl,h1,h2⟩:=h;cases rx;obtain⟨u1,u2,rfl,r1,r2⟩:=rv.two;obtain⟨zl,hd,ws,rel,dd⟩:=E1 I.hok (show HK H a kvs from ⟨ep,hH⟩);have hw:ws.length<=sizeLine:=by rw[<-rel.length];exact zl
 have hv:=rel.val k;cases e:iG kvs k with
 | some y =>
  rw[e]at hv;obtain⟨w',q,rw'⟩:=n6.some_of (v:=y) (o:=valueAt ws k) hv;refine call_meetsIn M5 dd.typeIs Ou (Oi _ _ _) (meets_dict_setdefault (bN X.prog X.w) a (uG r1) hd u2) ⟨_,dd.mapOf,?_,λ v' hv'=>?_,λ hn=>?_⟩
  ·intro o es q ho hdat;obtain⟨o',es',q',ho',_,hd',_,hp,_⟩:=dd;rw[ho']at ho;cases ho;rw[hd']at hdat;cases hdat;have:=hp.length;rw[LF]at this;omega
  ·rw[q]at hv';cases hv';exact⟨y,H,I.tok _,rw',h1 y e⟩
  ·rw[q]at hn;cases hn
 | none =>
  rw[e]at hv;have hn:valueAt ws k=none:=by
   cases q:valueAt ws k with
   |none=>rfl|some _=>rw[q]at hv;exact hv.elim
  refine call_meetsIn M5 dd.typeIs Ou (Oi _ _ _) (wD (uG r1) hd (pI hn) hw) ⟨dd,λ h' d1 d2=>?_⟩;obtain⟨ep',d1'⟩:=d1.dictAt;have he:∃ q,h'.get? a=some q:=let ⟨q,_,hq,_⟩:=d1';⟨q,hq⟩
  refine⟨z,_,sG (t':=s.toks+1) I (by rw[hH];exact True.intro) d2 he (AO (kvs:=kvs++[(k,z)]) (by rw[Lo];show _+1<=_;omega) hd (rel.snoc ⟨rfl,r2⟩) d1'),r2,h2 e ep'⟩
end
end L2
namespace DL
open PySem PySem.Spec PyProof.Rows L2
variable {a b:Addr}{kvs:List (Key×V)}{ep:Nat}
def iT:List KT->List D->KT->D->List D
 |k::ks,d::ds,q,x=>if k=q then x::ds else d::iT ks ds q x
 |_,ds,_,_=>ds
def wF {A g g' C:List Addr}(h:(A++g++C).Nodup)(n:g'.Nodup)(s:∀ x∈g',x∈g):(A++g'++C).Nodup:=by
 rw[LM,Lp]at h ⊢;obtain⟨h1,h2,h3⟩:=h;rw[Lp]at h2;obtain⟨h4,h5,h6⟩:=h2;refine⟨h1,Lp.mpr ⟨n,h5,λ a ha b hb=>h6 a (s a ha) b hb⟩,λ a ha b hb=>h3 a ha b ?_⟩;rcases Ls.mp hb with z|z
 ·exact Lu _ (s b z)
 ·exact Lx _ z
section
variable {K:PySem.W.Frag}{Y:XY}{H0 B0 B H:Hp}{σ:L2.St}{τ:SD}{P:List Addr}{F:Addr->Prop}{X:Cx}{pos:Pos}
def ai.conv {B' H':Hp}{M:List Addr}(kp:∀ d v h,Rep K B No H d v h->(∀ a∈h,a∈M)->Rep K B' No H' d v h):∀ {ds:List D}{vs:List V}{f:List Addr},ai K B No H ds vs f->(∀ a∈f,a∈M)->ai K B' No H' ds vs f
 |[],_,_,r,_=>r
 | d::ds,vs,f,r,m=>by
  obtain⟨v,w,f1,f2,rfl,r1,r2,rfl⟩:=r;exact⟨v,w,f1,f2,rfl,kp _ _ _ r1 λ a z=>m a (Lu _ z),ai.conv kp r2 λ a z=>m a (Lx _ z),rfl⟩
def ai.D6:∀ {kvs:List (Key×V)}{xs:List D}{f:List Addr}{k:Key}{din:D},ai K B No H xs (kvs.map (·.2)) f->eB (kvs.map λ p=>Sum.inl p.1) xs (.inl k)=some din ->
  ∃ w A g C,iG kvs k=some w/\f=A++g++C/\Rep K B No H din w g/\∀ {B' H':Hp}{d':D}{g':List Addr},(∀ d v h,Rep K B No H d v h->(∀ a∈h,a∈A++C)->Rep K B' No H' d v h)->Rep K B' No H' d' w g'->ai K B' No H' (iT (kvs.map λ p=>Sum.inl p.1) xs (.inl k) d') (kvs.map (·.2)) (A++g'++C)
 |[],xs,f,k,din,r,e=>by cases xs<;>cases e
 |p::kvs,[],f,k,din,r,e=>by cases e
 | p::kvs,d::ds,f,k,din,r,e=>by
  obtain⟨v,w,f1,f2,ev,r1,r2,rfl⟩:=r;rw[LA]at ev;cases ev;rw[LA,eB]at e;by_cases h:p.1=k
  ·rw[Lr (MG Sum.inl h)]at e;cases e;refine⟨p.2,[],f1,f2,jI h,rfl,r1,λ {B' H' d' g'} kp r'=>?_⟩;rw[LA,LA,iT,Lr (MG Sum.inl h)];exact⟨p.2,_,g',f2,rfl,r',ai.conv kp r2 (λ a m=>m),rfl⟩
  ·rw[Lw λ z=>h (NC z)]at e;obtain⟨w,A,g,C,h1,h2,h3,h4⟩:=ai.D6 r2 e;subst h2;refine⟨w,f1++A,g,C,by rw[iH h];exact h1,by simp,h3,λ {B' H' d' g'} kp r'=>?_⟩;rw[LA,LA,iT,Lw λ z=>h (NC z)];exact⟨p.2,_,f1,A++g'++C,rfl,kp _ _ _ r1 (λ a m=>Lu _ (Lu _ m)),h4 (λ d v u r m=>kp d v u r λ a z=>by
    rcases Ls.mp (m a z) with q|q
    ·exact Lu _ (Lx _ q)
    ·exact Lx _ q) r',by simp⟩
def m9 (i:Nat)(f1 fk fv:SD->Res D)(τ:SD):Fl:=(fv τ).je τ λ d=>match cT τ i with
 | some (t,false,ks,xs)=>(f1 τ).je τ λ d1=>match eu d1 with
  | some (.inl q1)=>match eB ks xs (.inl q1) with
   | some (.dct .own false ks2 ys)=>(fk τ).je τ λ dk=>match eu dk with
    |some (.inl q)=>if d.pure=true/\ks2.length<16777216 then .nx (τ.set i (some (.dct t false ks (iT ks xs (.inl q1) (.dct .own false (jr ks2 (.inl q)) (jq ks2 ys (.inl q) d)))))) else .bad
    |_=>.bad
   |_=>.bad
  |_=>.bad
 |_=>.bad
def pJ{o:HO}(n:a≠b)(h:H a=some (.dK kvs ep)):DictAt (upd H b o) a false (kvs.map λ p=>Sum.inl p.1) (kvs.map (·.2)):=.inl ⟨rfl,kvs,ep,by rw[aG n];exact h,rfl,rfl⟩
def SI.IS {i:Nat}{t:Tg}(ht:t.jN=true){ks2:List KT}{xs ys:List D}{q1 q:Key}{d:D}{v:V}(I:SI K H0 B0 B H σ τ P No)(hi:τ[i]?=some (some (.dct t false (kvs.map λ p=>Sum.inl p.1) xs)))(ev:σ[i]?=some (some (.ref a)))(ha:H a=some (.dK kvs ep))
  (hlk:eB (kvs.map λ p=>Sum.inl p.1) xs (.inl q1)=some (.dct .own false ks2 ys)) (hb:iG kvs q1=some (.ref b)) (hp:d.pure=true) (rd:Rep K B No H d v []) :
  ∃ kvs2 ep2,H b=some (.dK kvs2 ep2)/\ks2=kvs2.map (λ p=>Sum.inl p.1)/\∀ en,∃ P',jo K H0 B0 B H B (upd H b (.dK (putK kvs2 q v) en)) σ (τ.set i (some (.dct t false (kvs.map λ p=>Sum.inl p.1) (iT (kvs.map λ p=>Sum.inl p.1) xs (.inl q1) (.dct .own false (jr ks2 (.inl q)) (jq ks2 ys (.inl q) d)))))) P':=by
 have hi':i<τ.length:=(Lh.mp hi).1;obtain⟨A0,f0,C0,eP,g1,g2⟩:=I.rep.cut hi';obtain⟨v',e1,r1⟩:=g1 _ hi;rw[ev]at e1;cases e1;obtain⟨a',ws,g,ea,hq,rl,ef,back'⟩:=r1.aU ht;cases ea;rcases hq with ⟨_,kvs',ep',ha',hks',hws'⟩|⟨q0,_⟩
 rotate_left
 ·cases q0
 rw[ha]at ha';cases ha';subst hws';obtain⟨w,A,gi,C,hv1,hf,rin,back⟩:=ai.D6 rl hlk;rw[hb]at hv1;cases hv1;obtain⟨b',us,gg,eb,dqb,rlb,rfl⟩:=rin;cases eb;rcases dqb with ⟨_,kvs2,ep2,hb2,hks2,hus⟩|⟨q0,_⟩
 rotate_left
 ·cases q0
 subst hf ef hus hks2;refine⟨kvs2,ep2,hb2,rfl,λ en=>?_⟩;have nd0:=I.nd;rw[eP]at nd0;have ndf:(a::(A++b::gg++C)).Nodup:=(nd0.sublist (LS _ _)).sublist (LI _ _);have hab:a≠b:=λ z=>by
  subst z;exact(Lv.mp ndf).1 (by simp)
 have hbf:b∈a::(A++b::gg++C):=by simp
 obtain⟨p1,f',p2,p3,p4⟩:=wg Sum.inl (λ a b h=>NC h) (k:=q) (kvs:=kvs2) rlb rd λ _=>hp;have ndg:(b::gg).Nodup:=(((Lv.mp ndf).2.sublist (LS _ _)).sublist (LI _ _));have sg:∀ x∈f',x∈gg:=λ x m=>(p3 x m).resolve_right (by simp);have nf':(b::f').Nodup:=Lv.mpr ⟨λ m=>(Lv.mp ndg).1 (sg b m),p4 (Lv.mp ndg).2 Mu (λ _ m=>by cases m)⟩;have kp:iK H (upd H b (.dK (putK kvs2 q v) en)) [b]:=⟨λ x o h n=>by rw[aG (by simpa using n)];exact h,λ x m=>by
  have:x=b:=by simpa using m
  subst this;exact⟨_,hb2,trivial⟩⟩
 have es:σ.set i (some (.ref a))=σ:=by
  refine Mr λ k=>?_;by_cases hk:k=i
  ·subst hk;rw[Mg (Lh.mp ev).1,ev]
  ·rw[L8 (My hk)]
 have kpf:iK H (upd H b (.dK (putK kvs2 q v) en)) (a::(A++b::gg++C)):=⟨λ x o h n=>kp.keep x o h (λ z=>n (by
  have:x=b:=by simpa using z
  subst this;exact hbf)),λ x m=>I.rep.own x (by rw[eP];exact cH _ _ _ x m)⟩
 have nbM:∀ x∈A++C,x≠b:=λ x m z=>by
  subst z;have n:=(Lv.mp ndf).2;rw[LM,Lp]at n;obtain⟨_,n2,n3⟩:=n;rcases Ls.mp m with y|y
  ·exact n3 x y x (by simp) rfl
  ·rw[Lp]at n2;exact n2.2.2 x Le x y rfl
 have rin':Rep K B No (upd H b (.dK (putK kvs2 q v) en)) (.dct .own false (jr (kvs2.map λ p=>Sum.inl p.1) (.inl q)) (jq (kvs2.map λ p=>Sum.inl p.1) ys (.inl q) d)) (.ref b) (b::f'):=
  ⟨b,_,f',rfl,.inl ⟨rfl,_,en,aI,p1,rfl⟩,p2.keep kp (λ x m z=>(Lv.mp nf').1 ((by simpa using z:x=b)▸m)),rfl⟩
 have rn:=back' (pJ hab ha) (back (λ d v h r m=>r.keep kp λ x z y=>nbM x (m x z) (by simpa using y)) rin');have key:=I.put (i:=i) (H1:=upd H b (.dK (putK kvs2 q v) en)) hi' eP g2 kpf rn ?_ λ x m=>.inl ?_
 ·rw[es]at key;exact⟨_,key,au.refl _,λ x o h n=>kp.v9 h n⟩
 ·exact wF (A:=a::A) ndf nf' λ x m=>(Ln.mp m).elim (λ z=>z▸Le) λ z=>Ld _ (sg x z)
 ·have:x∈a::A++b::f'++C:=m;simp only[List.cons_append,Ln,Ls]at this ⊢;rcases this with z|(z|z|z)|z
  ·exact .inl z
  ·exact .inr (.inl (.inl z))
  ·exact .inr (.inl (.inr (.inl z)))
  ·exact .inr (.inl (.inr (.inr (sg x z))))
  ·exact .inr (.inr z)
def x9 (i:Nat){x:Str}{p1 p2 pos':Pos}{k1e ke value:Expr}{f1 fk fv:SD->Res D}(hu:X.A.units+1<cLine)(h1e:PE X k1e (tM X.K Y f1))(hk:PE X ke (tM X.K Y fk))(hv:PE X value (tM X.K Y fv))(hs1:DC k1e)(hN:X.N[i]?=some x:=by rfl)(hvi:rY X.env.scope x:=by first|exact Or.inl rfl|exact Or.inr (Or.inl rfl)|exact Or.inr (Or.inr rfl))(hd:(x == ("__debug__" : Str))=false:=by decide)(hcd:(x == ("__classdict__" : Str))=false:=by decide)
  (hs:swapsWith value (some (.Subscript (.Subscript (.Name x p1) k1e p2) ke pos')) pos.line X.env=pure false:=by rfl):PS X (.Assign [.Subscript (.Subscript (.Name x p1) k1e p2) ke pos'] value pos) (i0 X.K Y (m9 i f1 fk fv)):=by
 refine PS.imp (xy hu (xA hu (dg hN hvi hd hcd) h1e hs1) hk hv hs) λ E σ H hq=>ex7 hq λ H0 B0 B τ P I h=>?_;refine kT I h λ d v H1 B1 fp _ I1 s1 b1 r1 k1 h1=>?_;cases z:cT τ i with
 |none=>rw[z]at h1;exact h1.elim
 | some t =>
  obtain⟨t,k,ks,xs⟩:=t;rw[z]at h1;cases k with
  |true=>exact h1.elim
  | false =>
   simp only at h1;obtain⟨hi,ht⟩:=lz z;obtain⟨w,f,e1,r2,sf⟩:=I1.rep.get hi;obtain⟨a,ws,g,rfl,dq,rl,ef,_⟩:=r2.aU ht;rcases dq with ⟨_,kvs,ep,ha,hks,hws⟩|⟨q0,_⟩
   rotate_left
   ·cases q0
   subst hks hws;refine⟨.ref a,e1,?_⟩;refine⟨H0,B0,B1,τ,P,_,I1.hold k1,?_⟩;cases y:f1 τ with
   |fT C=>rw[y]at h1;exact λ H2 B2 I2 s2 b2=>h1 B2 H2 σ P (jo.grow (I2.mV λ _ x=>x.elim) b2 s2)
   |bad=>rw[y]at h1;exact h1
   | ok d1 =>
    rw[y]at h1;intro vk1 H2 B2 fq I2 s2 b2 rk1 kk1;simp only[Res.je]at h1;cases hk1:eu d1 with
    |none=>rw[hk1]at h1;exact h1.elim
    | some q1 =>
     rw[hk1]at h1;cases q1 with
     |inr q1=>exact h1.elim
     | inl q1 =>
      simp only at h1;have ev:=pF hk1 rk1;subst ev;have rl2:=rl.mono s2 b2 λ _ x=>x;have ha2:=s2 _ _ ha;cases hlk:eB (kvs.map λ p=>Sum.inl p.1) xs (.inl q1) with
      |none=>rw[hlk]at h1;exact h1.elim
      | some din =>
       rw[hlk]at h1;split at h1
       ·rename_i ks2 ys heq;cases heq;obtain⟨w,A,gi,C,hv1,hf,⟨b,us,gg,rfl,_,_,_⟩,_⟩:=ai.D6 rl2 hlk;refine⟨a,.ref b,rfl,hv1▸lN.k ⟨ep,ha2⟩,?_⟩;refine⟨H0,B0,B2,τ,P,_,I2,?_⟩;cases y2:fk τ with
        |fT C=>rw[y2]at h1;exact λ H3 B3 I3 s3 b3=>h1 B3 H3 σ P (jo.grow (I3.mV λ _ x=>x.elim) (b2.trans b3) (s2.trans s3))
        |bad=>rw[y2]at h1;exact h1
        | ok dk =>
         rw[y2]at h1;intro vk H3 B3 fr I3 s3 b3 rk kk;have I5:SI X.K H0 B0 B3 H3 σ τ P No:=I3.mV λ _ x=>x.elim;have h2:=cj.later h1 (jo.grow I5 (b2.trans b3) (s2.trans s3));simp only at h2;split at h2
         ·rename_i q hkk;split at h2
          ·rename_i hc;obtain⟨c1,c2⟩:=hc;have ef:=lP.1 d c1 r1;subst ef;have rd:=(r1.gy (bx d c1)).mono (s2.trans s3) (b2.trans b3) λ _ x=>x;have ev:=pF hkk rk;subst ev;obtain⟨kvs2,ep2,hb2,hks2,A'⟩:=I5.IS ht (q:=q) hi e1 (s3 _ _ ha2) hlk hv1 c1 rd;refine⟨b,rfl,.inl ⟨kvs2,q,⟨ep2,hb2⟩,rfl,?_,λ en=>?_⟩⟩
           ·rw[hks2,Lc]at c2;rw[Ma];exact c2
           ·obtain⟨P',A''⟩:=A' en;exact h2 B3 _ σ P' A''
          ·exact h2.elim
         ·exact h2.elim
       ·exact h1.elim
end
section
variable {K:PySem.W.Frag}{Y:XY}{H0 B0 B H:Hp}{σ:L2.St}{τ:SD}{P:List Addr}{F:Addr->Prop}{X:Cx}{pos:Pos}
def ji (i:Nat)(fk:SD->Res D)(j:Nat)(τ:SD):Fl:=match cT τ i,τ[j]? with
 | some (t,false,ks,xs),some (some d)=>(fk τ).je τ λ dk=>match eu dk with
  | some (.inl q)=>match eB ks xs (.inl q) with
   |some (.lst .own ys)=>if d.pure=true/\ks.length<16777216/\ys.length<16777216 then .nx (τ.set i (some (.dct t false ks (iT ks xs (.inl q) (.lst .own (ys++[d])))))) else .bad
   |none=>if d.pure=true/\ks.length<16777216 then .nx (τ.set i (some (.dct t false (ks++[.inl q]) (xs++[.lst .own [d]])))) else .bad
   |_=>.bad
  |_=>.bad
 |_,_=>.bad
def SI.IT {i:Nat}{t:Tg}(ht:t.jN=true){xs ys ys':List D}{q1:Key}{us us':List V}(I:SI K H0 B0 B H σ τ P No)(hi:τ[i]?=some (some (.dct t false (kvs.map λ p=>Sum.inl p.1) xs)))(ev:σ[i]?=some (some (.ref a)))(ha:H a=some (.dK kvs ep))
  (hlk:eB (kvs.map λ p=>Sum.inl p.1) xs (.inl q1)=some (.lst .own ys)) (hb:iG kvs q1=some (.ref b)) (hbl:H b=some (.lst us)) (items:∀ f,ai K B No H ys us f->ai K B No H ys' us' f) :
  ∃ P',jo K H0 B0 B H B (upd H b (.lst us')) σ (τ.set i (some (.dct t false (kvs.map λ p=>Sum.inl p.1) (iT (kvs.map λ p=>Sum.inl p.1) xs (.inl q1) (.lst .own ys'))))) P':=by
 have hi':i<τ.length:=(Lh.mp hi).1;obtain⟨A0,f0,C0,eP,g1,g2⟩:=I.rep.cut hi';obtain⟨v',e1,r1⟩:=g1 _ hi;rw[ev]at e1;cases e1;obtain⟨a',ws,g,ea,hq,rl,ef,back'⟩:=r1.aU ht;cases ea;rcases hq with ⟨_,kvs',ep',ha',hks',hws'⟩|⟨q0,_⟩
 rotate_left
 ·cases q0
 rw[ha]at ha';cases ha';subst hws';obtain⟨w,A,gi,C,hv1,hf,rin,back⟩:=ai.D6 rl hlk;rw[hb]at hv1;cases hv1;obtain⟨b',us0,gg,eb,hbl',rlb,rfl⟩:=rin;cases eb;rw[hbl]at hbl';cases hbl';subst hf ef;have nd0:=I.nd;rw[eP]at nd0;have ndf:(a::(A++b::gg++C)).Nodup:=(nd0.sublist (LS _ _)).sublist (LI _ _);have hab:a≠b:=λ z=>by
  subst z;exact(Lv.mp ndf).1 (by simp)
 have hbf:b∈a::(A++b::gg++C):=by simp
 have ndg:(b::gg).Nodup:=(((Lv.mp ndf).2.sublist (LS _ _)).sublist (LI _ _));have kp:iK H (upd H b (.lst us')) [b]:=⟨λ x o h n=>by rw[aG (by simpa using n)];exact h,λ x m=>by
  have:x=b:=by simpa using m
  subst this;exact⟨_,hbl,trivial⟩⟩
 have es:σ.set i (some (.ref a))=σ:=by
  refine Mr λ k=>?_;by_cases hk:k=i
  ·subst hk;rw[Mg (Lh.mp ev).1,ev]
  ·rw[L8 (My hk)]
 have kpf:iK H (upd H b (.lst us')) (a::(A++b::gg++C)):=⟨λ x o h n=>kp.keep x o h (λ z=>n (by
  have:x=b:=by simpa using z
  subst this;exact hbf)),λ x m=>I.rep.own x (by rw[eP];exact cH _ _ _ x m)⟩
 have nbM:∀ x∈A++C,x≠b:=λ x m z=>by
  subst z;have n:=(Lv.mp ndf).2;rw[LM,Lp]at n;obtain⟨_,n2,n3⟩:=n;rcases Ls.mp m with y|y
  ·exact n3 x y x (by simp) rfl
  ·rw[Lp]at n2;exact n2.2.2 x Le x y rfl
 have rin':Rep K B No (upd H b (.lst us')) (.lst .own ys') (.ref b) (b::gg):=⟨b,us',gg,rfl,aI,(items gg rlb).keep kp (λ x m z=>(Lv.mp ndg).1 ((by simpa using z:x=b)▸m)),rfl⟩;have rn:=back' (pJ hab ha) (back (λ d v h r m=>r.keep kp λ x z y=>nbM x (m x z) (by simpa using y)) rin');have key:=I.put (i:=i) (H1:=upd H b (.lst us')) hi' eP g2 kpf rn ndf λ x m=>.inl m;rw[es]at key;exact⟨_,key,au.refl _,λ x o h n=>kp.v9 h n⟩
def zD {p:Addr}{o1 o2 x:HO}(n:a≠p):upd (upd (upd H p o1) a x) p o2=upd (upd H p o2) a x:=by
 funext b;by_cases h1:b=p
 ·subst h1;rw[aI,aG (My n),aI]
 ·rw[aG h1];by_cases h2:b=a
  ·subst h2;rw[aI,aI]
  ·rw[aG h2,aG h1,aG h2,aG h1]
def BL (i j:Nat){x y:Str}{p1 p2 p3 a1 c1 a2 c2:Pos}{ke:Expr}{fk:SD->Res D}(hk:PE X ke (tM X.K Y fk))(hN:X.N[i]?=some x:=by rfl)(hM:X.N[j]?=some y:=by rfl)(hv:rY X.env.scope x:=by first|exact Or.inl rfl|exact Or.inr (Or.inl rfl)|exact Or.inr (Or.inr rfl))(hw:rY X.env.scope y:=by first|exact Or.inl rfl|exact Or.inr (Or.inl rfl)|exact Or.inr (Or.inr rfl))
  (hd:(x == ("__debug__" : Str))=false:=by decide) (hcd:(x == ("__classdict__" : Str))=false:=by decide) (hd':(y == ("__debug__" : Str))=false:=by decide) (hcd':(y == ("__classdict__" : Str))=false:=by decide)
  (hin:PE X (.Call (.Attribute (.Name x p1) "setdefault" a1) [ke,.List [] p3] [] c1) (Hq X.K "dict" BK (yR i) (lJ (tM X.K Y fk) (lJ (De ql) ql))))
  (hout:PE X (.Call (.Attribute (.Call (.Attribute (.Name x p1) "setdefault" a1) [ke,.List [] p3] [] c1) "append" a2) [.Name y p2] [] c2) (Hq X.K "list" oA (Hq X.K "dict" BK (yR i) (lJ (tM X.K Y fk) (lJ (De ql) ql))) (lJ (yR j) ql)))
  (hsw:swapsWith (.Call (.Attribute (.Call (.Attribute (.Name x p1) "setdefault" a1) [ke,.List [] p3] [] c1) "append" a2) [.Name y p2] [] c2) none pos.line X.env=pure false:=by rfl) :
  PS X (.Expr (.Call (.Attribute (.Call (.Attribute (.Name x p1) "setdefault" a1) [ke,.List [] p3] [] c1) "append" a2) [.Name y p2] [] c2) pos) (i0 X.K Y (ji i fk j)):=by
 refine PS.imp (gA hout hsw) λ E σ H hq=>ex7 hq λ H0 B0 B τ P I h=>?_;unfold ji at h;split at h
 ·rename_i t ks xs d z zj;obtain⟨hi,ht⟩:=lz z;obtain⟨w0,f0,e0,r0,_⟩:=I.rep.get hi;obtain⟨a,ws0,g0,rfl,dq0,_,_,_⟩:=r0.aU ht;have tyd:Jp X.K "dict" (.ref a) H:=by
   rcases dq0 with ⟨_,kvs,ep,ha,_⟩|⟨q0,_⟩
   ·exact .inr (.inr (.inl ⟨rfl,.inl ⟨kvs,ep,ha⟩⟩))
   ·cases q0
  refine⟨.ref a,e0,tyd,kT I h λ dk vk H1 B1 fp _ I1 s1 b1 rk k1 h1=>⟨by show 0<=_;exact Mk _,λ p hp=>?_⟩⟩;obtain⟨w,f,e1,r1,sf⟩:=I1.rep.get hi;rw[e0]at e1;cases e1;obtain⟨a',ws,g,ea,dq,rl,ef,_⟩:=r1.aU ht;cases ea;rcases dq with ⟨_,kvs,ep,ha,hks,hws⟩|⟨q0,_⟩
  rotate_left
  ·cases q0
  subst hks hws;obtain⟨wj,fj,ej,rj,sj⟩:=I1.rep.get zj;have ne:a≠p:=λ z=>by rw[<-z,ha]at hp;cases hp
  have sP:=dm (o:=.lst []) hp;split at h1
  ·rename_i q hq;have ev:=pF hq rk;subst ev;have look:=kC Sum.inl (λ a b h=>NC h) (k:=q) rl;split at h1
   ·rename_i ys hl;rw[hl]at look;obtain⟨v,g',hv1,rv,_⟩:=look;obtain⟨b,us,gg,rfl,hbl,rlb,rfl⟩:=rv;split at h1
    ·rename_i hc;have efj:=lP.1 d hc.1 rj;subst efj;refine⟨a,kvs,ep,q,.ref p,rfl,rfl,sP _ _ ha,by rw[Ma];simpa using hc.2.1,λ v2 hv2=>?_,(λ hn=>by rw[hv1]at hn;cases hn)⟩;rw[hv1]at hv2;cases hv2;have hb2:=sP _ _ hbl;refine⟨.inl ⟨rfl,us,c8.of hb2⟩,wj,ej,b,us,wj,rfl,rfl,hb2,by rw[<-rlb.length,Ma];exact hc.2.2,?_⟩;obtain⟨P',A'⟩:=(I1.grow sP).IT ht (ys':=ys++[d]) (us':=us++[wj]) hi e0 (sP _ _ ha) hl hv1 hb2 λ f r=>by
      have:=r.append (ai.one (rj.mono sP (au.refl _) λ _ x=>x));rw[LZ]at this;exact this
     exact h1 B1 _ σ P' ⟨A'.si,A'.b,(jP.of sP).trans A'.v9⟩
    ·exact h1.elim
   ·rename_i hl;rw[hl]at look;split at h1
    ·rename_i hc;have efj:=lP.1 d hc.1 rj;subst efj;refine⟨a,kvs,ep,q,.ref p,rfl,rfl,sP _ _ ha,by rw[Ma];simpa using hc.2,(λ v2 hv2=>by rw[look]at hv2;cases hv2),λ _ en=>?_⟩;have hp3:upd (upd H1 p (.lst [])) a (.dK (kvs++[(q,.ref p)]) en) p=some (.lst []):=by rw[aG (My ne),aI]
     refine⟨.inl ⟨rfl,[],c8.of hp3⟩,wj,ej,p,[],wj,rfl,rfl,hp3,by rw[Ma];decide,?_⟩;show E.nx σ (upd (upd (upd H1 p (.lst [])) a (.dK (kvs++[(q,.ref p)]) en)) p (.lst [wj]));rw[zD ne];have sQ:=dm (o:=.lst [wj]) hp;obtain⟨n1,n2,n3,n4⟩:=I1.xD hp;have kv:fL H0 B1 (upd H1 p (.lst [wj])) P No [p]:=⟨by simp,λ b m=>by
      have:b=p:=by simpa using m
      subst this;exact⟨n1,n2,by rw[aI];exact Mw _,n3,λ z=>z.elim⟩⟩
     obtain⟨P',A'⟩:=(I1.grow sQ).Gm ht (o':=.dK (kvs++[(q,.ref p)]) en) (ks':=(kvs.map λ p=>Sum.inl p.1)++[.inl q]) (xs':=xs++[.lst .own [d]]) hi e0 kv ⟨_,sQ _ _ ha,trivial⟩ λ vs f hda hr=>by
      rcases hda with ⟨_,kvs',ep',q1,q2,q3⟩|⟨q0,_⟩
      ·rw[sQ _ _ ha]at q1;cases q1;subst q3;refine⟨_,f++[p],.inl ⟨rfl,_,en,aI,by rw[Lz];rfl,rfl⟩,?_,λ b m=>Ls.mp m,λ nf dis=>Lp.mpr ⟨nf,by simp,λ a ha b hb e=>dis b hb (e▸ha)⟩⟩;rw[Lz];exact hr.append (ai.one ⟨p,[wj],[],rfl,aI,ai.one (rj.mono sQ (au.refl _) λ _ x=>x),rfl⟩)
      ·cases q0
     exact h1 B1 _ σ P' ⟨A'.si,A'.b,(jP.of sQ).trans A'.v9⟩
    ·exact h1.elim
   ·exact h1.elim
  ·exact h1.elim
 ·exact h.elim
end
end DL
namespace L2
open PySem PySem.Spec PyProof.Rows
section
variable {X:Cx}{p pos apos cpos:Pos}{o:Expr}{to:TE}
def ya:∀ {kvs:List (Key×V)}{ws:List (Key×Value)}{us:List Value},KV kvs ws->us.length=ws.length->(∀ (i:Nat) (v:Value),us[i]?=some v->∃ k,ws[i]?=some (k,v))->Vals (kvs.map (·.2)) us
 | [],ws,us,r,hl,_=>by
  have:=KV.length r;have e:us=[]:=MZ.mp (by rw[hl,<-this];rfl);subst e;exact .nil
 | kv::kvs,w::ws,u::us,r,hl,h=>by
  cases r with
  | cons h1 h2 =>
   obtain⟨k,e⟩:=h 0 u rfl;cases e;exact .cons h1.2 (ya h2 (by simpa using hl) λ i v e=>h (i+1) v e)
 |kv::kvs,[],us,r,_,_=>by cases r
 |kv::kvs,w::ws,[],_,hl,_=>by cases hl
def vc (hc:X.calm=true)(hg:Gl X "list")(hm:X.mg "list" = none)(ho:PE X o to)(hbase:attributeBase o "values" X.env (eval o X.env)=eval o X.env:=by rfl)(hline:(apos.endLine == cpos.line)=true:=by rfl)
  (hst:starEach [.Call (.Attribute o "values" apos) [] [] cpos] X.env=(false,eval (.Call (.Attribute o "values" apos) [] [] cpos) X.env)::starEach [] X.env:=by rfl) :
  PE X (.Call (.Name "list" p) [.Call (.Attribute o "values" apos) [] [] cpos] [] pos) (λ σ H Q=>to σ H λ x H1=>∃ a kvs ep,x=.ref a/\H1 a=some (.dK kvs ep)/\∀ q,H1 q=none->Q (.ref q) (upd H1 q (.lst (kvs.map (·.2))))):=by
 intro pins s σ H Q I h;refine MF (i7 I hg hm (by decide +kernel:bootBuiltins "list" = some (.type "list")) ?_);refine Mz (e:=.Call (.Attribute o "values" apos) [] [] cpos) (rest:=[]) ?_ hst rfl;rw[hst];show wpAny _ _ (spliced ((false,eval (.Call (.Attribute o "values" apos) [] [] cpos) X.env)::[])) _ _ s;refine OJ ?_;refine N1 hbase hline (dM (ho pins s σ H _ I h) λ v s1 ⟨x,H1,I1,r1,a,kvs,ep,e,ha,q⟩=>?_);subst e;cases r1;obtain⟨h1,h2⟩:=sD (T:="dict") I1 (show RelV (.ref a) (.ref a) from rfl) (.inr (.inr (.inl ⟨rfl,.inl ⟨kvs,ep,ha⟩⟩)));refine⟨"dict","dict.values",Nz,PySem.F.slot_dict_values,PySem.F.type_dict_values,h1,h2,M8 rfl (OC ?_)⟩;obtain⟨z,ns,ws,r,dd⟩:=(show bQ X.prog X.w H1 s1.heap a (.dK kvs ep) from I1.hok a _ ha);refine call_meetsIn PySem.F.slot_dict_values h1 PySem.F.entry_dict_values (PySem.F.args_dict_values_1 _) (meets_dict_values (bN X.prog X.w) a ns) ⟨⟨ws,dd.dictOf⟩,?_⟩;refine O0 ?_;have hl:=KV.length r;refine PySem.W.kdl_call (n:=ws.length) PySem.W.kdl_values (I1.ok.hd hc) ⟨⟨_,Lj _ rfl,rfl,rfl⟩,dd.push _⟩ (by rw[<-hl];exact z) λ h' tk acc c' kp hS hi=>?_;have ge:s1.heap.objs.size<=(s1.heap.push { cls:=.type "dict_values",data:=.fields #[.ref a] }).objs.size:=by
  show _<=(s1.heap.objs.push _).size;rw[Array.size_push];exact Nc _
 refine⟨.ref (s1.heap.push { cls:=.type "dict_values",data:=.fields #[.ref a] }).objs.size,_,I1.laid (t':=tk) (λ b o e=>kp b o (Lb _ e)) ge ?_,rfl,q _ (I1.hok.fresh ge)⟩;refine⟨by rw[Lc];exact z,acc.toList,c',?_,by rw[Oq];exact hS⟩;obtain⟨i1,i2⟩:=hi;exact ya r (by rw[LF];exact i1) λ i v e=>i2 i v (by rw[<-L1];exact e)
def IV (K:PySem.W.Frag):R2:=λ x y H Q=>∃ a b xs ys nss,x=.ref a/\y=.ref b/\c8 K H a xs/\c8 K H b ys/\ou K H xs nss/\ou K H ys nss/\Q (.bl false) H
def ou.get {K:PySem.W.Frag}{H:Hp}{xs:List V}{nss:List (List Int)}(x:ou K H xs nss):xs.length=nss.length/\∀ (j:Nat) v,xs[j]?=some v->∃ a,v=.ref a/\c8 K H a ((nss.getD j []).map V.int):=by
 induction x with
 |nil=>exact⟨rfl,λ j v e=>by simp at e⟩
 | cons a _ ih =>
  refine⟨by rw[Ly,Ly,ih.1],λ j v e=>?_⟩;cases j with
  | zero =>
   have e:=L5 e;subst e;exact⟨_,rfl,a⟩
  |succ j=>exact ih.2 j v e
def zE {pins:List (Addr×Obj)}{s:Shared}{σ:St}{H:Hp}{p q:Addr}{zs:List Int}{A:Around}(hu:A.units<cLine)(I:Inv X pins σ H s)(hp:c8 X.K H p (zs.map V.int))(hq:c8 X.K H q (zs.map V.int)):SeqAt.EqAt A s (.ref p) (.ref q) true:=by
 by_cases hpq:p=q
 ·subst hpq;exact SeqAt.EqAt.same _
 ·obtain⟨i1,r1,p1,_⟩:=I.list hp;obtain⟨i2,r2,p2,_⟩:=I.list hq;have l1:=r1.length;have l2:=r2.length;rw[Lc]at l1 l2;have h:=SeqAt.RcAt.lists (A:=A) p1.isList p2.isList (by rw[Lm,Lm];omega) (by omega) (xV r1 r2);rw[Lm,<-l1,u6 rfl,LO rfl]at h;exact SeqAt.EqAt.of_refs hpq h
def GJ (hu:X.A.units+1<cLine):jG X (compareOp .NotEq) (IV X.K):=by
 intro pins s σ H x y v u Q I rx ry h;obtain⟨a,b,xs,ys,nss,rfl,rfl,ha,hb,hx,hy,q⟩:=h;cases rx;cases ry;obtain⟨i1,r1,p1,_⟩:=I.list ha;obtain⟨i2,r2,p2,_⟩:=I.list hb;have l1:=r1.length;have l2:=r2.length;obtain⟨n1,g1⟩:=hx.get;obtain⟨n2,g2⟩:=hy.get;have h:=SeqAt.RcNeAt.lists (A:=X.A) (e:=λ _=>true) p1.isList p2.isList (by rw[Lm,Lm];omega) (by omega) (λ j h1 h2=>by
  have h1':j<xs.length:=by rw[l1];simpa using h1
  have h2':j<ys.length:=by rw[l2];simpa using h2
  obtain⟨u1,e1,q1⟩:=r1.get (Lg h1');obtain⟨u2,e2,q2⟩:=r2.get (Lg h2');have k1:i1.toArray[j]=u1:=by
   have:i1[j]?=some i1.toArray[j]:=by simpa using Lg (l:=i1) (by simpa using h1)
   rw[this]at e1;exact L5 e1
  have k2:i2.toArray[j]=u2:=by
   have:i2[j]?=some i2.toArray[j]:=by simpa using Lg (l:=i2) (by simpa using h2)
   rw[this]at e2;exact L5 e2
  obtain⟨c1,z1,s1⟩:=g1 j _ (Lg h1');obtain⟨c2,z2,s2⟩:=g2 j _ (Lg h2');rw[z1]at q1;rw[z2]at q2;cases q1;cases q2;rw[k1,k2];exact zE (by show X.A.units+1<cLine;exact hu) I s1 s2)
 have hz:((List.range i1.toArray.size).all (λ _=>true))=true:=by simp
 rw[hz]at h;exact h _ _ _ _ ⟨.bl _,H,I,rfl,q⟩
end
end L2
namespace DL
open PySem PySem.Spec PyProof.Rows L2
def GI {A:Around}{k:Nat}(hr:fY k A):A.units+2<cLine:=Nat.lt_of_le_of_lt (Nat.add_le_add_left (by decide:2<=64) _) hr.units
def D7 (x y:D):Res D:=match x,y with
 | .lst _ xs,.lst _ ys=>match l7 xs,l7 ys with
  |some a,some b=>if a=b then .ok (.bl false) else .bad
  |_,_=>.bad
 |_,_=>.bad
def pK (i:Nat)(τ:SD):Fl:=match τ[i]? with
 |some (some (.dct .own false _ xs))=>.rt (.lst .own xs)
 |_=>.bad
def rA:List D->Bool
 |[]=>true
 |.lst .own ys::r=>(intsOf ys).isSome&&(decide (ys.length<16777000)&&rA r)
 |_=>false
def l8 (i r:Nat)(τ:SD):Fl:=match τ[r]?,c5 τ i with
 |some none,some xs=>if i≠r/\xs.length<=200/\rA xs=true then .nx (τ.set i none) else .bad
 |_,_=>.bad
section
variable {K:PySem.W.Frag}{Y:XY}{H0 B0 B H:Hp}{σ:L2.St}{τ:SD}{P:List Addr}{F:Addr->Prop}{X:Cx}{pos:Pos}
def IU:o8 K Y (IV K) D7:=by
 intro H0 B0 B H σ τ P F d1 d2 x y f1 f2 Q I r1 r2 k h;unfold D7 at h;split at h
 ·rename_i t xs t' ys;split at h
  ·rename_i a b ea eb;split at h
   ·rename_i e;subst e;obtain⟨p,vs,g,rfl,q,l,s⟩:=r1.lst I;obtain⟨p',vs',g',rfl,q',l',s'⟩:=r2.lst I;exact⟨p,p',vs,vs',a,rfl,rfl,q,q',tK I ea l,tK I eb l',Out.here h I ⟨rfl,rfl⟩⟩
   ·exact h.elim
  ·exact h.elim
 ·exact h.elim
def zF (i:Nat){x:Str}{p pn pa pc pl:Pos}(hc:X.calm=true)(hg:Gl X "list")(hm:X.mg "list" = none)(hN:X.N[i]?=some x:=by rfl)(hv:rY X.env.scope x:=by first|exact Or.inl rfl|exact Or.inr (Or.inl rfl)|exact Or.inr (Or.inr rfl))(hd:(x == ("__debug__" : Str))=false:=by decide)(hcd:(x == ("__classdict__" : Str))=false:=by decide)(hl:Y.ln=false:=by rfl)
  (hbase:attributeBase (.Name x pn) "values" X.env (eval (.Name x pn) X.env)=eval (.Name x pn) X.env:=by rfl) (hline:(pa.endLine == pc.line)=true:=by rfl)
  (hst:starEach [.Call (.Attribute (.Name x pn) "values" pa) [] [] pc] X.env=(false,eval (.Call (.Attribute (.Name x pn) "values" pa) [] [] pc) X.env)::starEach [] X.env:=by rfl) :
  PS X (.Return (some (.Call (.Name "list" p) [.Call (.Attribute (.Name x pn) "values" pa) [] [] pc] [] pl)) pos) (i0 X.K Y (pK i)):=by
 refine PS.imp (rV (vc hc hg hm (dg hN hv hd hcd) hbase hline hst)) λ E σ H hq=>ex7 hq λ H0 B0 B τ P I h=>?_;unfold pK at h;split at h
 ·rename_i ks xs e;obtain⟨v,f,h1,h2,h3⟩:=I.rep.get e;obtain⟨a,vs,g,rfl,hq,rl,rfl⟩:=h2;rcases hq with ⟨_,kvs,ep,ha,hks,hws⟩|⟨q0,_⟩
  rotate_left
  ·cases q0
  subst hws;refine⟨.ref a,h1,a,kvs,ep,rfl,ha,λ p hp=>?_⟩;have s:=dm (o:=.lst (kvs.map (·.2))) hp;have sub:∀ b∈g,b∈P:=λ b m=>h3.subset (Ld _ m);have hpn:p∉g:=λ m=>I.stands (sub p m) hp;refine(cj.rt hl h) B _ (.ref p) (p::g) ⟨I.h0.trans s,I.b0,I.bh.trans s,I.nb,⟨p,_,g,rfl,aI,rl.mono s (au.refl _) (λ _ x=>x),rfl⟩,Lv.mpr ⟨hpn,(Lv.mp (I.nd.sublist h3)).2⟩,λ b m=>?_⟩;rcases Ln.mp m with e|m
  ·subst e;exact⟨I.bh.free hp,I.h0.free hp,by rw[aI];exact Mw _⟩
  ·obtain⟨a1,a2,_⟩:=I.own b (sub b m);exact⟨a1,a2,λ z=>I.stands (sub b m) (s.free z)⟩
 ·exact h.elim
def rB:∀ {xs:List D}{vs:List V}{g:List Addr},rA xs=true->ai K B No H xs vs g->∃ cs:List Addr,vs=cs.map V.ref/\∀ c∈cs,c∈g/\∃ ws,H c=some (.lst ws)/\ws.length<16777000
 | [],vs,g,_,r=>by
  obtain⟨rfl,rfl⟩:=r;exact⟨[],rfl,λ c m=>by cases m⟩
 | d::xs,vs,g,h,r=>by
  obtain⟨v,w,f1,f2,rfl,r1,r2,rfl⟩:=r;unfold rA at h;split at h
  ·rename_i heq;cases heq
  ·rename_i ys r' heq;cases heq;simp only[LW,MK]at h;obtain⟨cs,rfl,hc⟩:=rB h.2.2 r2;obtain⟨a,us,g',rfl,ha,rl,rfl⟩:=r1;refine⟨a::cs,rfl,λ c m=>?_⟩;rcases Ln.mp m with e|m
   ·subst e;exact⟨Lu _ Le,us,ha,by rw[<-rl.length];exact h.2.1⟩
   ·obtain⟨q1,q2⟩:=hc c m;exact⟨Lx _ q1,q2⟩
  ·cases h
def zG (i r:Nat){x:Str}{pn:Pos}{tg:Expr}{body rest:List Stmt}{s2:Stmt}{g:SF}(hp:PassesOwn (model X.prog X.w) X.A X.env X.xe)(hc:X.calm=true)(hg:PG X tg (oU r))
  (hb:kg X body (Aw (Hq X.K "list" oA (yR r) (lJ (KH (rU λ i=>.int (-i)) (tC (.int 1))) ql)))) (h2:PS X s2 (Aw (Hq X.K "list" oA (yR i) (lJ (De ql) ql)))) (hr:kg X rest (i0 X.K Y g))
  (hN:X.N[i]?=some x:=by rfl) (hv:rY X.env.scope x:=by first|exact Or.inl rfl|exact Or.inr (Or.inl rfl)|exact Or.inr (Or.inr rfl)) (hd:(x == ("__debug__" : Str))=false:=by decide) (hcd:(x == ("__classdict__" : Str))=false:=by decide)
  (hs:∀ x',foldedSetIterable (.Name x pn) X.env x'=pure x':=by intro _;rfl):kg X (.For tg (.Name x pn) body [] pos::s2::rest) (i0 X.K Y (aC (l8 i r) g)):=by
 refine kg.imp (oR (Au hp hc (Bc (dg hN hv hd hcd)) hg hb hs) (oR h2 hr)) λ E σ H hq=>ex7 hq λ H0 B0 B τ P I h=>?_;unfold aC l8 at h;split at h
 rotate_left
 ·exact h.elim
 rename_i xs hrn z;split at h
 rotate_left
 ·exact h.elim
 rename_i hk;obtain⟨hir,hx2,how⟩:=hk;have hi:=fO z;obtain⟨v0,f0,P1,e1,r1,I0,k0⟩:=I.E9 hi;obtain⟨a,vs,gg,rfl,ha,rl,rfl⟩:=r1;obtain⟨hag,_⟩:=Lv.mp k0.nd;have I1:=I0.hold k0;obtain⟨cs,rfl,hcs⟩:=rB how rl;have hlen:cs.length<=200:=by have:=rl.length;rw[Lc]at this;omega
 have rr:(τ.set i none)[r]?=some none:=by rw[L8 hir];exact hrn
 have hF:∀ c∈cs,c∈a::gg:=λ c m=>Ld _ (hcs c m).1;have h0:∀ c∈a::gg,H0 c=none:=λ c m=>(k0.own c m).2.1;have nea:∀ c∈cs,c≠a:=λ c m e=>hag (e▸(hcs c m).1);refine⟨.ref a,e1,.inl ⟨a,rfl,⟨_,c8.of ha⟩,?_⟩⟩;refine⟨λ k m σ' H'=>k<=cs.length/\m=cs.length-k/\SI X.K H0 B0 B H' σ' (τ.set i none) P1 (λ q=>q∈a::gg\/No q)/\σ'[i]?=some (some (.ref a))/\H' a=some (.lst (cs.map V.ref))/\(∀ c∈cs,∃ ws,H' c=some (.lst ws)/\ws.length<16777000+k)/\jP H H',
  ⟨cs.length,Mk _,rfl,I1,e1,ha,λ c m=>(hcs c m).2,jP.refl _⟩,?_⟩
 rintro k m σ' H' ⟨kl,rfl,J,es,hal,ff,im⟩;by_cases hk:k=cs.length
 ·refine .inl ⟨⟨_,c8.of hal,by rw[Lc];omega⟩,?_⟩;refine⟨.ref a,es,.inl ⟨rfl,_,c8.of hal⟩,Mk _,λ p hp=>?_⟩;have ne:a≠p:=λ e=>by subst e;rw[hal]at hp;cases hp
  have sU:au H' (upd H' p (.lst [])):=dm hp;refine⟨a,_,.ref p,rfl,rfl,by rw[aG ne];exact hal,by rw[Lc,Ma];omega,?_⟩;have W:=(J.grow sU).we (o':=.lst (cs.map V.ref++[.ref p])) (.inl Le) (h0 a Le) (show upd H' p (.lst []) a=some (.lst (cs.map V.ref)) by rw[aG ne];exact hal) trivial;have im2:jP H (upd (upd H' p (.lst [])) a (.lst (cs.map V.ref++[.ref p]))):=λ y o hy n=>by
   have q:=sU _ _ (im y o hy n);have ny:y≠a:=λ e=>by subst e;rw[aG ne,hal]at q;cases q;exact n trivial
   rw[aG ny];exact q
  exact⟨H0,B0,B,_,P1,W.mV (λ _ x=>x.elim),cj.later h ⟨W.mV (λ _ x=>x.elim),au.refl _,im2⟩⟩
 ·have hlt:k<(cs.map V.ref).length:=by rw[Lc];omega
  have hlt':k<cs.length:=by omega
  refine .inr ⟨⟨_,_,c8.of hal,Lg hlt⟩,λ σ3 H3=>k+1<=cs.length/\SI X.K H0 B0 B H3 σ3 (τ.set i none) P1 (λ q=>q∈a::gg\/No q)/\σ3[i]?=some (some (.ref a))/\H3 a=some (.lst (cs.map V.ref))/\(∀ c∈cs,∃ ws,H3 c=some (.lst ws)/\ws.length<16777000+(k+1))/\jP H H3,λ σ3 H3 q=>⟨cs.length-(k+1),by omega,q.1,rfl,q.2⟩,?_⟩;rintro x H2 ⟨rfl,hx⟩;have ex:=hx _ (c8.of hal);rw[LG,Lg hlt']at ex;cases ex;have mq:cs[k]∈cs:=Oj hlt';obtain⟨ws,hw,lw⟩:=ff _ mq;have J2:=J.free (some (.ref cs[k])) rr;have hl:r<σ'.length:=by
   rw[<-J.rep.length];exact(Lh.mp rr).1
  have gr:(σ'.set r (some (V.ref cs[k])))[r]?=some (some (.ref cs[k])):=Mg hl;refine⟨.ref cs[k],gr,.inl ⟨rfl,ws,c8.of hw⟩,1,rfl,cs[k],ws,.int (-1),rfl,rfl,hw,by rw[Ma];omega,?_⟩;refine⟨by omega,J2.we (o':=.lst (ws++[.int (-1)])) (.inl (hF _ mq)) (h0 _ (hF _ mq)) hw trivial,by rw[L8 (My hir)];exact es,by rw[aG (nea _ mq).symm];exact hal,λ y my=>?_,λ y o hy n=>?_⟩
  ·by_cases z:y=cs[k]
   ·subst z;exact⟨_,aI,by rw[Lo];show _+1<_;omega⟩
   ·obtain⟨us,q,l⟩:=ff y my;exact⟨us,by rw[aG z];exact q,by omega⟩
  ·have q:=im y o hy n;have z:y≠cs[k]:=λ z=>by subst z;rw[hw]at q;cases q;exact n trivial
   rw[aG z];exact q
end
end DL
namespace L2
open PySem PySem.Spec PyProof.Rows
open PySem.AutoSeq1 PySem.MeetsSeq PySem.MeetsSeq2 PySem.MeetsSeq3
def BO (a:Addr)(us:Array Value)(n:Nat)(b:Addr)(ws:Array Value)(k:Nat)(dd:Option Addr)(sl:Array (Option Value))(h0:¬ (!us.isEmpty&&Builtin.List.listTooLong (us.size+ws.size))=true)(h1:us.size<=sizeLine)(h2:us.size+ws.size<=sizeLine+1) :
  Meets (Builtin.«list.extend» ⟨[.ref a,.ref b],[]⟩) (λ _ R s=>s.heap.get? a=some { cls:=.type "list",data:=.seq us n }/\s.heap.get? b=some { cls:=.type "list",dict:=dd,data:=.seq ws k,slots:=sl }/\R (.ok (.ret .none)) { s with heap:=s.heap.update a (Obj.mapSeq (· ++ ws)),toks:=s.toks }):=
 .of_wp λ prog w A R s ⟨ha,hb,h⟩=>by
  obtain⟨hp,g,d,tk,os⟩:=s;have e1:=idx_int;have e2:=AutoSeq1.sub_tuple_tuple;have e3:=AutoSeq1.sub_list_list;have e4:=AutoSeq1.sub_tuple_list;have e5:=AutoSeq1.sub_list_tuple;have hz:(us++ws).size<=sizeLine+1:=by rw[Array.size_append];exact h2
  wp_walk using (NW ha rfl (hz:=h1) (_hz':=hz)),wpAny_loadPart' ha,wpAny_loadPart' hb
  exact⟨_,rfl,h⟩
section
variable {X:Cx}
def IW (K:PySem.W.Frag):V->List V->Hp->VK->Prop:=λ x vs H Q=>∃ l b xs zs,x=.ref l/\vs=[.ref b]/\H l=some (.lst xs)/\c8 K H b zs/\xs.length+zs.length<=sizeLine/\Q .bg (upd H l (.lst (xs++zs)))
def D8:EW X "list.extend" (IW X.K):=by
 intro pins s σ H x vs v us Q I rx rv h;obtain⟨l,b,xs,zs,rfl,rfl,hH,hB,hz,q⟩:=h;cases rx;obtain⟨u,rfl,ru⟩:=rv.one;cases ru;obtain⟨z,its,n,r,hl,e⟩:=I.yX hH;obtain⟨its2,r2,⟨⟨c2,d2,k2,s2⟩,n2,e2,c2',d2',k2'⟩,_⟩:=I.list hB;have hl2:=r2.length;simp only at c2' d2' k2';subst c2' d2' k2';have hsz:its.toArray.size+its2.toArray.size<=sizeLine:=by rw[Lm,Lm];omega
 have hlong:¬ (!its.toArray.isEmpty&&Builtin.List.listTooLong (its.toArray.size+its2.toArray.size))=true:=by
  rw[uF hsz,Bool.and_false];exact Li
 refine Of F.slot_list_extend ⟨_,e,rfl⟩ F.entry_list_extend (F.args_list_extend_2 _ _) (BO l its.toArray n b its2.toArray n2 none s2 hlong (by rw[Lm];omega) (by omega)) ⟨e,e2,?_⟩;refine⟨.bg,_,I.AF (its':=its++its2) hH e (by simp) (r.append r2) ?_,rfl,q⟩;rw[Lo];omega
end
end L2
namespace DL
open PySem PySem.Spec PyProof.Rows L2
section
variable {K:PySem.W.Frag}{Y:XY}{H0 B0 B H:Hp}{σ:L2.St}{τ:SD}{P:List Addr}{F:Addr->Prop}{X:Cx}{pos:Pos}{e:Expr}{fe:SD->Res D}
def BN (i:Nat)(xs:List D)(τ:SD):D->Fl
 |.lst _ ys=>if lB ys=true/\xs.length+ys.length<=16777216 then .nx (τ.set i (some (.lst .own (xs++ys)))) else .bad
 |_=>.bad
def vd (i:Nat)(f:SD->Res D)(τ:SD):Fl:=match c5 τ i with
 |some xs=>(f τ).je τ (BN i xs τ)
 |none=>.bad
def GK (i:Nat){x:Str}{p1 apos cpos:Pos}(he:PE X e (tM X.K Y fe))(hN:X.N[i]?=some x:=by rfl)(hv:rY X.env.scope x:=by first|exact Or.inl rfl|exact Or.inr (Or.inl rfl)|exact Or.inr (Or.inr rfl))(hd:(x == ("__debug__" : Str))=false:=by decide)(hcd:(x == ("__classdict__" : Str))=false:=by decide)
  (hbase:attributeBase (.Name x p1) "extend" X.env (eval (.Name x p1) X.env)=eval (.Name x p1) X.env:=by rfl)
  (hfew:((backTo cpos (starEach [e] X.env)).all (λ x=>!x.1)&&(backToKw cpos (keywordEach [] X.env)).all (λ x=>x.1.isSome)
   && decide ([e].length+([]:List Keyword).length+(if ([]:List Keyword).isEmpty then 0 else 1)<30))=true:=by rfl)
  (hline:(apos.endLine == cpos.line)=true:=by rfl) (hs:starEach [e] X.env=(false,eval e X.env)::starEach [] X.env:=by rfl) (hplain:(backTo cpos (starEach [] X.env)).any (·.1)=false:=by rfl)
  (hsw:swapsWith (.Call (.Attribute (.Name x p1) "extend" apos) [e] [] cpos) none pos.line X.env=pure false:=by rfl) :
  PS X (.Expr (.Call (.Attribute (.Name x p1) "extend" apos) [e] [] cpos) pos) (i0 X.K Y (vd i fe)):=by
 refine PS.imp (gA (lK Mh PySem.F.slot_list_extend PySem.F.type_list_extend D8 (dg hN hv hd hcd) (cR he dJ hs) hbase hfew hline hs hplain) hsw) λ E σ H hq=>ex7 hq λ H0 B0 B τ P I h=>?_;unfold vd at h;cases z:c5 τ i with
 |none=>rw[z]at h;exact h.elim
 | some xs =>
  rw[z]at h;have hi:=fO z;obtain⟨a,vs,ea,ha,hl⟩:=I.listAt hi;refine⟨.ref a,ea,.inl ⟨rfl,vs,c8.of ha⟩,kT I h λ d v H1 B1 fp _ I1 s1 b1 r1 k1 h1=>?_⟩;have ha1:=s1 a _ ha;unfold BN at h1;split at h1
  ·rename_i ys _;split at h1
   ·rename_i hc;obtain⟨b,ws,g,rfl,q,l,s⟩:=r1.lst I1;have hl2:=l.length;refine⟨a,b,vs,ws,rfl,rfl,ha1,q,by rw[<-hl,<-hl2,Ma];exact hc.2,?_⟩;obtain⟨_,rl3⟩:=ai.pG (B':=B1) (S':=No) (jP.refl H1) hc.1 l;obtain⟨P',I'⟩:=I1.Ba (xs':=xs++ys) (vs':=vs++ws) (gp:=[]) hi ea fL.nil (λ g _ rl=>⟨g++[],rl.append rl3,λ b m=>by rw[LZ]at m;exact .inl m,λ nf _=>by rw[LZ];exact nf⟩) ha1;exact h1 B1 _ σ P' I'
   ·exact h1.elim
  ·exact h1.elim
end
end DL
namespace L2
open PySem PySem.Spec PyProof.Rows
def Ku (a:Addr)(kvs:List (Key×V))(ep:Nat):It:=
 ⟨λ i H=>H a=some (.dK kvs ep)/\i<kvs.length,λ i H x H'=>H'=H/\∃ p,kvs[i]?=some p/\x=kV p.1,λ i H=>H a=some (.dK kvs ep)/\kvs.length<=i⟩
def IX {P:Program}{w:World}{k:Key}{u:Value}(h:(bN P w).is k u=true):RelV (kV k) u:=by
 rcases cG (show oV k u=true from h) with ⟨i,t,rfl,rfl⟩|⟨x,t,rfl,rfl⟩
 ·exact⟨t,rfl⟩
 ·exact⟨t,rfl⟩
def BQ:∀ {kvs:List (Key×V)}{vs:List (Key×Value)},KV kvs vs->∀ {i:Nat}{p:Key×V},kvs[i]?=some p->∃ v,vs[i]?=some (p.1,v)
 |_,_,.nil,i,p,h=>by simp at h
 |_,_,.cons (b:=q) r t,0,p,h=>by cases h;exact⟨q.2,by simp[r.1]⟩
 |_,_,.cons r t,i+1,p,h=>BQ t (i:=i) h
def zI {P:Program}{w:World}{K:PySem.W.Frag}{tg:Expr}(a it:Addr)(kvs:List (Key×V))(ep:Nat):Turn P w K tg (Ku a kvs ep) [it] it (λ i h=>h.IsKeyIter it a i kvs.length ep) where
 mem:=by simp
 obj:=λ i h st b hb=>by
  have e:b=it:=by simpa using hb
  subst e;obtain⟨o,e,c,d⟩:=st;exact⟨o,e,λ v z=>by rw[d]at z;cases z⟩
 keep:=λ i h h' st k=>by
  obtain⟨o,e,c,d⟩:=st;exact⟨o,k it (by simp) o e,c,d⟩
 item:=by
  intro X hP hw hK hc i pins s σ H E I hf st hg;subst hP hw hK;obtain⟨ha,hi⟩:=hg;obtain⟨z,y,vs,r,dd⟩:=(show bQ X.prog X.w H s.heap a (.dK kvs ep) from I.hok a _ ha);have hl:kvs.length=vs.length:=MR r;obtain⟨v,hv⟩:=BQ r (Lg hi);obtain⟨f0,f1,f2,f3,f4,f5⟩:=hf it (by simp);rw[hl]at st;refine wpAny_pyNext_dict_item st dd hv λ key h' hk st' sb=>?_;have I1:Inv X pins σ H { s with heap:=h' }:=I.turned (t':=s.toks) (λ b o hb e=>(sb.2 b hb).trans e) f0 f1 f3 f4 f5;obtain⟨o,e,c,d⟩:=id st';rw[<-hl]at st';exact⟨key,rfl,xr (s:={ s with heap:=h' }) e c d (by decide) ⟨kV kvs[i].1,H,I1,IX hk,⟨rfl,_,Lg hi,rfl⟩,st',λ b hb=>(hf b hb).1⟩⟩
 done:=by
  intro X hP hw hK hc i pins s σ H E I hf st hg;subst hP hw hK;obtain⟨ha,hi⟩:=hg;obtain⟨z,y,vs,r,dd⟩:=(show bQ X.prog X.w H s.heap a (.dK kvs ep) from I.hok a _ ha);have hl:kvs.length=vs.length:=MR r;obtain⟨f0,f1,f2,f3,f4,f5⟩:=hf it (by simp);rw[hl]at st;exact wpAny_pyNext_dict_end (I.ok.hd hc) st dd (Mc (by omega)) λ h' eb=>⟨rfl,I.turned (t':=s.toks) (λ b o hb e=>eb b o hb e) f0 f1 f3 f4 f5⟩
 self:=λ _ _ _ _ _ st h=>wpAny_pyIter_keyiter st h
section
variable {X:Cx}{tg:Expr}
def D9 {l:Expr}{tl:TE}(hl:PE X l tl):PI X tg l (λ σ H R=>tl σ H λ x H1=>∃ a kvs ep,x=.ref a/\H1 a=some (.dK kvs ep)/\R (Ku a kvs ep) H1):=by
 intro pins s σ H R I h;refine dM (hl pins s σ H _ I h) λ v s1 ⟨x,H1,I1,r1,a,kvs,ep,e,ha,q⟩=>?_;subst e;cases r1;obtain⟨z,y,vs,r,dd⟩:=(show bQ X.prog X.w H1 s1.heap a (.dK kvs ep) from I1.hok a _ ha);have hl:kvs.length=vs.length:=MR r;refine wpAny_pyIter_dict y dd ?_;refine⟨s1.heap.objs.size,[s1.heap.objs.size],_,_,H1,rfl,I1.kept (t':=s1.toks) λ b o e=>Lb _ e,zI a _ kvs ep,⟨_,Lj _ rfl,rfl,by rw[hl];rfl⟩,λ b hb=>?_,q⟩;have e:b=s1.heap.objs.size:=by simpa using hb
 subst e;exact I1.qm (Ll _) (I1.hok.fresh (Ll _))
end
end L2
namespace DL
open PySem PySem.Spec PyProof.Rows L2
def yb:KT->D
 |.inl (.inl i)=>.int i
 |.inl (.inr x)=>.str x
 |.inr _=>.bg
def wG (ks:List KT):aJ (ks.map yb)=true:=bH λ d m=>by
 obtain⟨k,_,rfl⟩:=Lq.mp m
 match k with
 |.inl (.inl i)=>rfl|.inl (.inr x)=>rfl|.inr _=>rfl
def BR:D->Res (Bool×List D)
 |.dct t false ks vs=>.ok ((D.dct t false ks vs).aw,ks.map yb)
 |_=>.bad
def nM (f:SD->Res D)(τ:SD):Res (Bool×List D):=(f τ).bind BR
section
variable {K:PySem.W.Frag}{Y:XY}{B H:Hp}{X:Cx}{e:Expr}{fe:SD->Res D}
def BP {a:Addr}{kvs:List (Key×V)}{ep:Nat}(hb:B a=some (.dK kvs ep)):DR K (Ku a kvs ep) ((kvs.map λ p=>(Sum.inl p.1:KT)).map yb) B H where
 go:=λ B' H' i d s1 s2 im e=>by
  have:=(Lh.mp e).1;exact⟨s2 _ _ (s1 _ _ hb),by simpa using this⟩
 vM:=λ B' H' i d x H'' s1 s2 im e y=>by
  obtain⟨rfl,p,hp,rfl⟩:=y;rw[LG,LG,hp]at e;cases e;refine⟨au.refl _,?_⟩;obtain⟨k,v⟩:=p
  match k with
  |.inl i=>exact⟨rfl,rfl⟩| .inr x=>exact⟨rfl,rfl⟩
 stop:=λ B' H' s1 s2 im=>⟨s2 _ _ (s1 _ _ hb),by rw[Lc,Lc];exact Ll _⟩
def Ea {tg:Expr}(he:PE X e (tM X.K Y fe)):PI X tg e (Aj X.K Y (nM fe)):=by
 refine PI.imp (D9 he) λ σ H R hq=>ex8 hq λ H0 B0 B τ P F I h=>⟨H0,B0,B,τ,P,F,I,?_⟩;cases z:fe τ with
 |fT C=>simp only[nM,z,Res.iJ]at h;exact h|bad=>simp only[nM,z,Res.iI]at h
 | ok d =>
  simp only[nM,z,Res.aH]at h;intro v H1 B1 fp I1 s1 b1 r1 k1;cases d with
  | dct t k ks xs =>
   cases k with
   |true=>exact h.elim
   | false =>
    simp only[BR]at h;obtain⟨a,vs,g,rfl,q,_⟩:=r1.dc I1;rcases q with ⟨_,kvs,ep,ha,hks,hvs⟩|⟨q0,_⟩
    ·refine⟨a,kvs,ep,rfl,ha,h _ H1 _ fp I1 s1 b1 k1 λ Bx sB sH h1 h2=>?_⟩;obtain⟨a',ws,ea,q',rl,_⟩:Rep X.K Bx No H1 (D.dct .aq false ks (aE xs)) (.ref a) []:=ia r1 sB h1 h2;cases ea;rw[dE _ (wG ks),hks];rcases q' with ⟨_,kvs',ep',hb,_⟩|⟨q0,_⟩
     ·have e1:=sH _ _ hb;rw[ha]at e1;cases e1;exact BP hb
     ·cases q0
    ·cases q0
  |_=>exact h.elim
end
end DL
namespace DI
open PySem
variable {d it:Addr}{es:Array DictEntry}{ep i:Nat}{o:Obj}{x y:Value}{Q:Value->Shared->Prop}
variable {prog:Program}{w:World}{A:Around}{E:Value->Shared->Prop}{s:Shared}
def wI{n:Nat}{u v:Value}(ht:IsItemIter s.heap it d i n ep x y)
  (h:∀ h',IsItemIterOut h' it d i n ep u v s.heap.objs.size->h'.get? s.heap.objs.size=some { cls:=.type "tuple",data:=.seq #[u,v] }->(∀ b o,b≠it->s.heap.get? b=some o->h'.get? b=some o)->Q (.ref s.heap.objs.size) { s with heap:=h' }) :
  wpAny (model prog w) A (Builtin.Dict_items.pairFromOwner (.ref it) 6 u v) Q E s:=by
 unfold Builtin.Dict_items.pairFromOwner Builtin.Dict_items.ownedTupleIsFree;have lt:it<s.heap.objs.size:=Lk ht;refine La (ON ?_);generalize hk:s.heap.push { cls:=.type "tuple",data:=.seq #[u,v] }=k;have tk:k.get? s.heap.objs.size=some { cls:=.type "tuple",data:=.seq #[u,v] }:=by rw[<-hk];exact Lj _ rfl
 have ks:∀ b o,s.heap.get? b=some o->k.get? b=some o:=λ b o e=>by rw[<-hk];exact Lb _ e
 have r0:IsItemIter k it d i n ep x y:=ks _ _ ht;refine La (La (Mb r0 rfl (x:=.none) rfl (Lf ?_)));simp only[Nh];refine La (Mb r0 rfl (x:=x) rfl (La (Mb r0 rfl (x:=y) rfl (La ?_))));refine LK r0 (by simp) λ k1 r1 q1=>La (LK r1 (by simp) λ k2 r2 q2=>La (LK r2 (by simp) λ k3 r3 q3=>La (LK r3 (by simp) λ k4 r4 q4=>?_)));have ex:∀ b o,b≠it->k.get? b=some o->k4.get? b=some o:=λ b o nb e=>Nu q4 b o nb (Nu q3 b o nb (Nu q2 b o nb (Nu q1 b o nb e)));exact La (O1 (Lf (h k4 r4 (ex _ _ (M7 lt) tk) λ b o nb e=>ex b o nb (ks b o e))))
def wH{Q:Option Value->Shared->Prop}(hi:i<es.size)(ho:s.heap.get? d=some o)(hdat:o.data=.dict es ep)(ht:IsItemIter s.heap it d i es.size ep x y)
  (h:∀ h',IsItemIterOut h' it d (i+1) es.size ep es[i].key es[i].val s.heap.objs.size->h'.get? s.heap.objs.size=some { cls:=.type "tuple",data:=.seq #[es[i].key,es[i].val] } ->
   (∀ b o,b≠it->s.heap.get? b=some o->h'.get? b=some o)->Q (some (.ref s.heap.objs.size)) { s with heap:=h' }) :
  wpAny (model prog w) A (pyNext (.ref it)) Q E s:=by
 have hT:s.TypeIs (.ref it) "dict_itemiterator" :=⟨_,ht,rfl⟩;obtain⟨cl,dd,dt,sl⟩:=o;simp only at hdat;subst hdat;have hw:Builtin.Dict_items.ownsTuple "dict_itemiterator" = true:=by decide
 have n0:¬ ((i:Int)<0):=by omega
 have e0:es[((i:Int)).toNat]?=some es[i]:=by rw[LY];exact LB hi
 unfold pyNext;refine La (MT (LX hT MY (LV MY hT F.entry_dict_itemiterator_next ?_ (Oa _))))
 wp_walk using Mq hT,MD hT
 rw[Lw (by simp)]
 wp_walk using Mq hT,MD hT
 simp only[e0];refine La (La (Mq hT (Lf (La (MD hT (La ?_))))));refine LK ht (by rw[hw];simp) λ k1 a1 b1=>?_;replace b1:Heap.SameBut it s.heap k1:=b1;have f1:IsItemIter k1 it d (i+1) es.size ep x y:=by
  have e:((i+1:Nat):Int)=(i:Int)+1:=by omega
  unfold IsItemIter;rw[e];exact a1
 have T1:Shared.TypeIs ⟨k1,s.gens,s.drawn,s.toks,s.os⟩ (.ref it) "dict_itemiterator" :=⟨_,f1,rfl⟩;clear a1;have z1:k1.objs.size=s.heap.objs.size:=b1.1;have lt:it<s.heap.objs.size:=Lk ht;refine La (MS (La (MD T1 (La (MD T1 ?_)))));rw[Lw (by decide)];refine wI f1 λ k2 p1 p2 p3=>Lf ⟨_,rfl,Lf ?_⟩;rw[z1]at p1 p2 ⊢;exact h k2 p1 p2 λ b o nb e=>p3 b o nb (Nu b1 b o nb e)
def zJ{Q:Option Value->Shared->Prop}(hh:A.handled=none)(hi:es.size<=i)(ho:s.heap.get? d=some o)(hdat:o.data=.dict es ep)(ht:IsItemIter s.heap it d i es.size ep x y)
  (h:∀ h',Heap.ExtBut it s.heap h'->Q none { s with heap:=h' }):wpAny (model prog w) A (pyNext (.ref it)) Q E s:=by
 have hT:s.TypeIs (.ref it) "dict_itemiterator" :=⟨_,ht,rfl⟩;obtain⟨cl,dd,dt,sl⟩:=o;simp only at hdat;subst hdat;have e0:es[((i:Int)).toNat]?=none:=by rw[LY];exact Na hi
 unfold pyNext;refine La (MT (LX hT MY (LV MY hT F.entry_dict_itemiterator_next ?_ (Oa _))))
 wp_walk using Mq hT,MD hT
 rw[Lw (by simp)]
 wp_walk using Mq hT,MD hT
 simp only[e0];refine La (La (Mq hT (Lf (La ?_))));refine LK ht (by rw[show Builtin.Dict_items.ownsTuple "dict_itemiterator" = true by decide];simp) λ k1 r1 q1=>?_;replace q1:Heap.SameBut it s.heap k1:=q1
 wp_walk
 unfold raiseNew;refine La (O6 ?_);rw[show A.in1.handled=none from hh];refine La (Lf (wpAny_throw ?_));refine La (Ny (T:="StopIteration") (b:=true) ⟨_,Lj _ rfl,rfl⟩ isSubtype_stop (Lf ?_));exact h _ ((q1.extBut.push _).push _)
def zK(hn:(d == sysModules)=false)(ho:s.heap.get? d=some o)(hx:o.ExactDict)
  (h:Q (.ref s.heap.objs.size) { s with heap:=s.heap.push { cls:=.type "dict_items",data:=.fields #[.ref d] } }):wpAny (model prog w) A (call (.builtin "dict.items") [.ref d]) Q E s:=by
 have hT:s.TypeIs (.ref d) "dict" :=⟨o,ho,hx.1⟩;refine LV F.slot_dict_items hT F.entry_dict_items ?_ (F.args_dict_items_1 _)
 wp_walk
 rw[Lw (by rw[hx.1];decide)]
 wp_walk
 exact⟨_,rfl,h⟩
def zM {v:Addr}(hv:s.heap.IsItemsView v d)(ho:s.heap.get? d=some o)(hdat:o.data=.dict es ep)
  (h:∀ h',IsItemIter h' s.heap.objs.size d 0 es.size ep .none .none->(∀ b o,s.heap.get? b=some o->h'.get? b=some o)->Q (.ref s.heap.objs.size) { s with heap:=h' }):wpAny (model prog w) A (pyIter (.ref v)) Q E s:=by
 obtain⟨⟨c1,d1,t1,l1⟩,h1,h2,h3⟩:=id hv;obtain⟨c2,d2,t2,l2⟩:=o;simp only at h2 h3 hdat;subst h2 h3 hdat;refine N7 hv.typeIs F.slot_dict_items_iter (LV F.slot_dict_items_iter hv.typeIs F.entry_dict_items_iter ?_ (F.args_dict_items_iter_1 _))
 wp_walk
 exact⟨_,rfl,"dict_itemiterator",_,⟨_,Lj _ rfl,rfl⟩,F.slot_dict_itemiterator_next.lookup,h _ (Lj _ rfl) λ b o e=>Lb _ e⟩
def entry_self:entryFor table "dict_itemiterator.__iter__" = some Builtin.«dict_keyiterator.__iter__» :=by
 first|exact entryFor_alias (id':="dict_keyiterator.__iter__") (by kernel_rfl) rfl (by decide +kernel) (by kernel_rfl)|exact entryFor_of_tree (by kernel_rfl)
def zL{n:Nat}(ht:IsItemIter s.heap it d i n ep x y)(h:Q (.ref it) s):wpAny (model prog w) A (pyIter (.ref it)) Q E s:=by
 have hT:s.TypeIs (.ref it) "dict_itemiterator" :=⟨_,ht,rfl⟩;refine N7 hT F.slot_dict_itemiterator_iter (LV F.slot_dict_itemiterator_iter hT entry_self ?_ (F.args_dict_itemiterator_iter_1 _))
 wp_walk
 exact⟨_,rfl,"dict_itemiterator",_,hT,F.slot_dict_itemiterator_next.lookup,h⟩
end DI
namespace L2
open PySem PySem.Spec PyProof.Rows
def Kv (a:Addr)(kvs:List (List Key×V))(ep:Nat):It:=
 ⟨λ i H=>H a=some (.dT kvs ep)/\i<kvs.length,λ i H x H'=>∃ p b q,kvs[i]?=some q/\H b=some (.tup (q.1.map kV))/\H p=none/\x=.ref p/\H'=upd H p (.tup [.ref b,q.2]),λ i H=>H a=some (.dT kvs ep)/\kvs.length<=i⟩
def rC {α β:Type}{R:α->β->Prop}:∀ {l:List α}{m:List β},Paired R l m->∀ {i:Nat},i<l.length->∃ p q,l[i]?=some p/\m[i]?=some q/\R p q
 |_,_,.nil,i,h=>absurd h (Nn _)
 |_,_,.cons r t,0,h=>⟨_,_,rfl,rfl,r⟩
 |_,_,.cons r t,i+1,h=>rC t (i:=i) (by simpa using h)
def wJ {P:Program}{w:World}{K:PySem.W.Frag}{elts:List Expr}{x1:Nat}{tp:Pos}(a it:Addr)(kvs:List (List Key×V))(ep:Nat):Turn P w K (.Tuple elts x1 tp) (Kv a kvs ep) [it] it (λ i h=>∃ x y,IsItemIter h it a i kvs.length ep x y) where
 mem:=by simp
 obj:=λ i h st b hb=>by
  have e:b=it:=by simpa using hb
  subst e;obtain⟨x,y,q⟩:=st;exact⟨_,q,λ v z=>by cases z⟩
 keep:=λ i h h' st k=>by
  obtain⟨x,y,q⟩:=st;exact⟨x,y,k it (by simp) _ q⟩
 item:=by
  intro X hP hw hK hc i pins s σ H E I hf st hg;obtain⟨ha,hi⟩:=hg;obtain⟨x,y,st⟩:=st;subst hP hw hK;obtain⟨z,ns,xs,r,o,es,ho,hx,hd,he,_⟩:=(show bQ X.prog X.w H s.heap a (.dT kvs ep) from I.hok a _ ha);have hl:kvs.length=xs.length:=MR r;have hs:es.size=kvs.length:=by rw[<-LF,he,Lc,hl]
  have hi':i<es.size:=by omega
  obtain⟨f0,f1,f2,f3,f4,f5⟩:=hf it (by simp);obtain⟨q,u,hq,hu,e1,hb,rv⟩:=rC r hi;have hes:es[i]=entryOfKey (tupleKind (bN X.prog X.w)) u:=by
   have e2:es[i]?=some (entryOfKey (tupleKind (bN X.prog X.w)) u):=by rw[<-L1,he,LG,hu];rfl
   rw[LB hi']at e2;exact L5 e2
  rw[<-hs]at st;have lt:it<s.heap.objs.size:=Lk st;refine DI.wH hi' ho hd st λ h1 k1 k2 k3=>⟨_,rfl,wpAny_letOwnedTupleGo_items k1 λ h2 m1 m2=>?_⟩;have m2:Heap.SameBut it h1 h2:=m2;rw[hes]at k2 m1;have fr:H s.heap.objs.size=none:=I.fresh;have kp:∀ b o,b≠it->s.heap.get? b=some o->h2.get? b=some o:=λ b o nb e=>(m2.2 b nb).trans (k3 b o nb e);have tk:h2.get? s.heap.objs.size=some { cls:=.type "tuple",data:=.seq #[.ref u.2.1,u.2.2] }:=(m2.2 _ (M7 lt)).trans k2;have ok1:i6 X.prog X.w H h2:=λ b o hb=>(I.hok b o hb).stay (λ c v hcb q=>kp c v (λ z=>by
    subst z;rcases hcb with z|z
    ·subst z;rw[f0]at hb;cases hb
    ·rw[f0]at z;cases z) q) (λ _ z=>z) λ _ _ z=>z
  have ok2:i6 X.prog X.w (upd H s.heap.objs.size (.tup [.ref u.2.1,q.2])) h2:=sI ok1 fr ⟨by show 2<=sizeLine;decide,[.ref u.2.1,u.2.2],.cons rfl (.cons rv .nil),⟨_,tk⟩⟩;have I2:Inv X pins σ (upd H s.heap.objs.size (.tup [.ref u.2.1,q.2])) { s with heap:=h2 }:=by
   refine I.step (g':=s.gens) (d':=s.drawn) (ch:=[it]) (λ b hb=>?_) (λ b o _ _ hb q _=>kp b o (λ z=>hb (by simp[z])) q) (λ b o _ _ hb q _=>⟨o.slots,kp b o (λ z=>hb (by simp[z])) q⟩)
    (λ b o _ q n=>by rw[aG (LH (Lk q))];exact n) (λ b o hb q=>⟨o,kp b o (λ z=>hb (by simp[z])) q⟩)
    (λ b ys q=>by rw[aG (bo q fr)];exact q) (λ b o v q=>by rw[aG (bo q fr)];exact q) (λ b ps q=>⟨#[],by rw[aG (bo q fr),NZ];exact q⟩)
    (λ m hm=>hm.at λ o q=>kp _ o (My f1) q) ok2 I.bare
   have z:b=it:=by simpa using hb
   subst z;exact⟨f3,f1,f4,f5⟩
  refine⟨.ref s.heap.objs.size,_,I2,rfl,⟨_,u.2.1,q,hq,hb,fr,rfl,rfl⟩,⟨.ref u.2.1,u.2.2,?_⟩,λ b hb=>?_⟩
  ·rw[<-hs];exact m1
  ·have z:b=it:=by simpa using hb
   subst z;rw[aG (LH lt)];exact f0
 done:=by
  intro X hP hw hK hc i pins s σ H E I hf st hg;obtain⟨ha,hi⟩:=hg;obtain⟨x,y,st⟩:=st;subst hP hw hK;obtain⟨z,ns,xs,r,o,es,ho,hx,hd,he,_⟩:=(show bQ X.prog X.w H s.heap a (.dT kvs ep) from I.hok a _ ha);have hl:kvs.length=xs.length:=MR r;have hs:es.size=kvs.length:=by rw[<-LF,he,Lc,hl]
  obtain⟨f0,f1,f2,f3,f4,f5⟩:=hf it (by simp);rw[<-hs]at st;exact DI.zJ (I.ok.hd hc) (by omega) ho hd st λ h' eb=>⟨rfl,I.turned (t':=s.toks) (λ b o hb e=>eb b o hb e) f0 f1 f3 f4 f5⟩
 self:=λ _ _ _ _ _ ⟨_,_,st⟩ h=>DI.zL st h
section
variable {X:Cx}{elts:List Expr}{x1:Nat}{tp apos cpos:Pos}
def BV {o:Expr}{to:TE}(ho:PE X o to)(hbase:attributeBase o "items" X.env (eval o X.env)=eval o X.env:=by rfl)(hline:(apos.endLine == cpos.line)=true:=by rfl) :
  PI X (.Tuple elts x1 tp) (.Call (.Attribute o "items" apos) [] [] cpos) (λ σ H R=>to σ H λ x H1=>∃ a kvs ep,x=.ref a/\H1 a=some (.dT kvs ep)/\R (Kv a kvs ep) H1):=by
 intro pins s σ H R I h;refine N1 hbase hline (dM (ho pins s σ H _ I h) λ v s1 ⟨x,H1,I1,r1,a,kvs,ep,e,ha,q⟩=>?_);subst e;cases r1;obtain⟨h1,h2⟩:=sD (T:="dict") I1 (show RelV (.ref a) (.ref a) from rfl) (.inr (.inr (.inl ⟨rfl,.inr ⟨kvs,ep,ha⟩⟩)));refine⟨"dict","dict.items",Nz,PySem.F.slot_dict_items,PySem.F.type_dict_items,h1,h2,M8 rfl (OC ?_)⟩;obtain⟨z,ns,xs,r,o,es,hob,hx,hd,he,_⟩:=(show bQ X.prog X.w H1 s1.heap a (.dT kvs ep) from I1.hok a _ ha);have hl:kvs.length=xs.length:=MR r;have hs:es.size=kvs.length:=by rw[<-LF,he,Lc,hl]
 refine DI.zK ns hob hx ?_;refine DI.zM (v:=s1.heap.objs.size) ⟨_,Lj _ rfl,rfl,rfl⟩ (Lb _ hob) hd λ h' k1 k2=>?_;have I2:Inv X pins σ H1 { s1 with heap:=s1.heap.push { cls:=.type "dict_items",data:=.fields #[.ref a] } }:=I1.kept (t':=s1.toks) λ b o e=>Lb _ e;have I3:Inv X pins σ H1 { s1 with heap:=h' }:=I2.kept (t':=s1.toks) λ b o e=>k2 b o e;refine⟨_,[_],_,_,H1,rfl,I3,wJ a _ kvs ep,⟨_,_,by rw[<-hs];exact k1⟩,λ b hb=>?_,q⟩;have e:=L4.mp hb;subst e;exact I2.qm (Ll _) (I2.hok.fresh (Ll _))
end
end L2
namespace DL
open PySem PySem.Spec PyProof.Rows L2
def yc:Key->D|.inl i=>.int i|.inr x=>.str x
def yd:KT->D|.inr ks=>.tup (ks.map yc)|.inl _=>.bg
def gq:List KT->List D->List D
 |k::ks,d::ds=>.tup [yd k,d]::gq ks ds
 |_,_=>[]
def BU:D->Res (Bool×List D)
 |.dct t true ks vs=>if aJ vs=true then .ok ((D.dct t true ks vs).aw,gq ks vs) else .bad
 |_=>.bad
def jV (f:SD->Res D)(τ:SD):Res (Bool×List D):=(f τ).bind BU
section
variable {K:PySem.W.Frag}{Y:XY}{B H:Hp}{X:Cx}{e:Expr}{fe:SD->Res D}
def pL {S:Addr->Prop}:∀ (ks:List Key),ai K B S H (ks.map yc) (ks.map kV) []
 |[]=>⟨rfl,rfl⟩
 |.inl i::ks=>⟨_,_,[],[],rfl,⟨rfl,rfl⟩,pL ks,rfl⟩
 |.inr x::ks=>⟨_,_,[],[],rfl,⟨rfl,rfl⟩,pL ks,rfl⟩
def wK (ks:List Key):aJ (ks.map yc)=true:=bH λ d m=>by
 obtain⟨k,_,rfl⟩:=Lq.mp m;cases k<;>rfl
def wL (k:KT):(yd k).pure=true:=by
 cases k with
 |inl k=>rfl|inr k=>exact wK k
def nN:∀ (ks:List KT) (vs:List D),aJ vs=true->aJ (gq ks vs)=true
 |[],vs,_=>by cases vs<;>rfl
 |k::ks,[],_=>rfl
 | k::ks,d::ds,h=>by
  have h:(d.pure&&aJ ds)=true:=h;rw[LW]at h;show((yd k).pure&&(d.pure&&true)&&aJ (gq ks ds))=true;rw[wL,h.1,nN ks ds h.2];rfl
def kF {S:Addr->Prop}:∀ {kvs:List (List Key×V)}{vs:List D}{f:List Addr},ai K B S H vs (kvs.map (·.2)) f->(gq (kvs.map λ p=>Sum.inr p.1) vs).length=kvs.length/\∀ {i:Nat}{d:D}{q:List Key×V},(gq (kvs.map λ p=>Sum.inr p.1) vs)[i]?=some d->kvs[i]?=some q->∃ x g,vs[i]?=some x/\d=.tup [.tup (q.1.map yc),x]/\Rep K B S H x q.2 g
 | [],vs,f,r=>by
  cases vs with
  |nil=>exact⟨rfl,λ h=>by simp[gq]at h⟩| cons v vs=>obtain⟨_,_,_,_,e,_⟩:=r;cases e
 |p::kvs,[],f,r=>by obtain⟨e,_⟩:=r;cases e
 | p::kvs,x::vs,f,r=>by
  obtain⟨v,w,f1,f2,e,r1,r2,rfl⟩:=r;rw[LA]at e;cases e;obtain⟨h1,h2⟩:=kF r2;refine⟨by rw[LA,gq,Ly,Ly,h1],λ {i d q} hd hq=>?_⟩;cases i with
  |zero=>cases hd;cases hq;exact⟨x,f1,rfl,rfl,r1⟩| succ i=>exact h2 (i:=i) hd hq
def zN {a:Addr}{kvs:List (List Key×V)}{ep:Nat}{vs:List D}(hb:B a=some (.dT kvs ep))(r:ai K B No H vs (kvs.map (·.2)) [])(hp:aJ vs=true):DR K (Kv a kvs ep) (gq (kvs.map λ p=>Sum.inr p.1) vs) B H where
 go:=λ B' H' i d s1 s2 im e=>by
  have:=(Lh.mp e).1;rw[(kF r).1]at this;exact⟨s2 _ _ (s1 _ _ hb),this⟩
 vM:=λ B' H' i d x H'' s1 s2 im e y=>by
  obtain⟨p,b,q,hq,hbt,hpn,rfl,rfl⟩:=y;obtain⟨x,g,hx,rfl,rx⟩:=(kF r).2 e hq;have sm:au H' (upd H' p (.tup [.ref b,q.2])):=dm hpn;have px:x.pure=true:=qR hp x (Oo hx);have eg:=lP.1 x px rx;subst eg;refine⟨sm,p,_,rfl,aI,.ref b,[q.2],[],[],rfl,⟨b,_,rfl,sm _ _ hbt,pL _⟩,ai.one ((rx.stay s1 im rfl).mono sm (au.refl _) λ _ x=>x),rfl⟩
 stop:=λ B' H' s1 s2 im=>⟨s2 _ _ (s1 _ _ hb),by rw[(kF r).1];exact Ll _⟩
def BS {elts:List Expr}{x1:Nat}{tp apos cpos:Pos}(he:PE X e (tM X.K Y fe))(hbase:attributeBase e "items" X.env (eval e X.env)=eval e X.env:=by rfl)(hline:(apos.endLine == cpos.line)=true:=by rfl) :
  PI X (.Tuple elts x1 tp) (.Call (.Attribute e "items" apos) [] [] cpos) (Aj X.K Y (jV fe)):=by
 refine PI.imp (BV he hbase hline) λ σ H R hq=>ex8 hq λ H0 B0 B τ P F I h=>⟨H0,B0,B,τ,P,F,I,?_⟩;cases z:fe τ with
 |fT C=>simp only[jV,z,Res.iJ]at h;exact h|bad=>simp only[jV,z,Res.iI]at h
 | ok d =>
  simp only[jV,z,Res.aH]at h;intro v H1 B1 fp I1 s1 b1 r1 k1;cases d with
  | dct t k ks xs =>
   cases k with
   |false=>exact h.elim
   | true =>
    simp only[BU]at h;by_cases hp:aJ xs=true
    ·rw[Lr hp]at h;obtain⟨a,vs,g,rfl,q,_⟩:=r1.dc I1;rcases q with ⟨q0,_⟩|⟨_,kvs,ep,ha,hks,hvs⟩
     ·cases q0
     ·refine⟨a,kvs,ep,rfl,ha,h _ H1 _ fp I1 s1 b1 k1 λ Bx sB sH h1 h2=>?_⟩;obtain⟨a',ws,ea,q',rl,_⟩:Rep X.K Bx No H1 (D.dct .aq true ks (aE xs)) (.ref a) []:=ia r1 sB h1 h2;cases ea;rw[dE _ hp]at rl;rw[dE _ (nN ks xs hp),hks];rcases q' with ⟨q0,_⟩|⟨_,kvs',ep',hb,_,hvs'⟩
      ·cases q0
      ·have e1:=sH _ _ hb;rw[ha]at e1;cases e1;subst hvs';exact zN hb (rl.mono (au.refl _) (au.refl _) λ _ x=>x) hp
    ·rw[Lw hp]at h;exact h.elim
  |_=>exact h.elim
end
end DL
namespace SR
open PySem
variable {xs:Array Nat}{led:Bool}{j:Nat}
abbrev tN (xs:Array Nat):Prop:=xs.toList.Pairwise (· < ·)
def oH(h:tN xs){i:Nat}{a b:Nat}(hi:xs[i]?=some a)(hj:xs[j]?=some b)(hij:i<j):a<b:=by
 rw[<-L1]at hi hj;obtain⟨h1,e1⟩:=Lh.mp hi;obtain⟨h2,e2⟩:=Lh.mp hj;rw[<-e1,<-e2];exact Mt.mp h i j h1 h2 hij
def tL {xs:Array Nat}{j:Nat}(hr:tN xs):∀ (fuel lo hi:Nat),lo<=hi->hi<=xs.size->hi-lo<=fuel->(∀ (i a:Nat),xs[i]?=some a->i<lo->a<j)->(∀ (i a:Nat),xs[i]?=some a->hi<=i->j<=a) ->
  SetTable.below.go xs j fuel lo hi<=xs.size/\(∀ (i a:Nat),xs[i]?=some a->i<SetTable.below.go xs j fuel lo hi->a<j)/\(∀ (i a:Nat),xs[i]?=some a->SetTable.below.go xs j fuel lo hi<=i->j<=a)
 | 0,lo,hi,h1,h2,h3,h4,h5=>by
  have e:lo=hi:=by omega
  subst e;exact⟨h2,h4,h5⟩
 | fuel+1,lo,hi,h1,h2,h3,h4,h5=>by
  unfold SetTable.below.go;by_cases hlt:lo<hi
  ·rw[Lr hlt];have hm:(lo+hi)/2<hi:=by omega
   have hm2:lo<=(lo+hi)/2:=by omega
   have hs:(lo+hi)/2<xs.size:=by omega
   have hg:xs[(lo+hi)/2]?=some xs[(lo+hi)/2]:=LB hs;have hd:xs.getD ((lo+hi)/2) j=xs[(lo+hi)/2]:=by rw[L7,hg];rfl
   show(if xs.getD ((lo+hi)/2) j<j then SetTable.below.go xs j fuel ((lo+hi)/2+1) hi else SetTable.below.go xs j fuel lo ((lo+hi)/2))<=_/\_;by_cases hc:xs.getD ((lo+hi)/2) j<j
   ·simp only[Lr hc];refine tL hr fuel _ _ (by omega) h2 (by omega) (λ i a ha hi'=>?_) h5;rcases Nat.lt_or_ge i ((lo+hi)/2) with q|q
    ·have:=oH hr ha hg q;rw[hd]at hc;omega
    ·have e:i=(lo+hi)/2:=by omega
     subst e;rw[hg]at ha;cases ha;rw[hd]at hc;exact hc
   ·simp only[Lw hc];refine tL hr fuel _ _ hm2 (by omega) (by omega) h4 (λ i a ha hi'=>?_);rw[hd]at hc;rcases Nat.lt_or_ge ((lo+hi)/2) i with q|q
    ·have:=oH hr hg ha q;omega
    ·have e:i=(lo+hi)/2:=by omega
     subst e;rw[hg]at ha;cases ha;omega
  ·rw[Lw hlt];have e:lo=hi:=by omega
   subst e;exact⟨h2,h4,h5⟩
def lD(hr:tN xs)(j:Nat):SetTable.below xs j<=xs.size/\(∀ (i a:Nat),xs[i]?=some a->i<SetTable.below xs j->a<j)/\(∀ (i a:Nat),xs[i]?=some a->SetTable.below xs j<=i->j<=a):=
 tL hr xs.size 0 xs.size (Mk _) (Ll _) (Ll _) (λ _ _ _ h=>absurd h (Nn _)) λ i a ha h=>by
  have:=(Array.getElem?_eq_some_iff.mp ha).1;omega
def BX(hr:tN xs)(hn:xs[SetTable.below xs j]?≠some j):tN (SetTable.insertAt xs (SetTable.below xs j) j):=by
 obtain⟨h1,h2,h3⟩:=lD hr j;unfold tN;rw[SetTable.toList_insertAt];have hr':xs.toList.Pairwise (· < ·):=hr;rw[<-List.take_append_drop (SetTable.below xs j) xs.toList]at hr';obtain⟨p1,p2,p3⟩:=List.pairwise_append.mp hr';have lo:∀ a∈xs.toList.take (SetTable.below xs j),a<j:=λ a ha=>by
  obtain⟨i,hi,e⟩:=M6 ha;rw[MQ]at hi;rw[List.getElem_take]at e;exact h2 i a (by rw[<-L1,<-e];exact Lg (by omega)) (by omega)
 have hi:∀ a∈xs.toList.drop (SetTable.below xs j),j<a:=λ a ha=>by
  obtain⟨i,hi,e⟩:=M6 ha;rw[NP]at hi;rw[List.getElem_drop]at e;have hg:xs[SetTable.below xs j+i]?=some a:=by rw[<-L1,<-e];exact Lg (by omega)
  have g:=h3 _ a hg (Pc _ _);rcases Nat.lt_or_eq_of_le g with g|g
  ·exact g
  ·subst g;rcases Nat.eq_zero_or_pos i with z|z
   ·subst z;exact absurd hg hn
   ·have hg0:xs[SetTable.below xs j]?=some (xs[SetTable.below xs j]'(by simp at hi;omega)):=LB _;have l:=oH hr hg0 hg (by omega);have g0:=h3 _ _ hg0 (Ll _);omega
 refine List.pairwise_append.mpr ⟨p1,OQ.mpr ⟨hi,p2⟩,λ a ha b hb=>?_⟩;rcases Ln.mp hb with rfl|hb
 ·exact lo a ha
 ·exact Pj (lo a ha) (hi b hb)
structure Good (led:Bool)(t:SetTable):Prop where
 led:t.led=led
 rise:tN t.place
 Kw:t.dummies = #[]
def wM (led:Bool):Good led (SetTable.fresh 0 0 led):=⟨rfl,List.Pairwise.nil,rfl⟩
def jj{t:SetTable}(g:Good led t)(n:Nat):Good led (t.standIn n):=⟨g.led,by
 show(Array.range n).toList.Pairwise (· < ·);rw[Array.toList_range];exact List.pairwise_lt_range,rfl⟩
def wO{t:SetTable}(g:Good led t):Good led { t with plain:=false }:=⟨g.led,g.rise,g.Kw⟩
def ye (j:Nat):SetTable.has #[] j=false:=by
 unfold SetTable.has;simp
def qB{t:SetTable}(g:Good led t)(j:Nat):t.slot j ≠ .dummy:=by
 unfold SetTable.slot;rw[g.Kw,ye];simp only[LP,Nx];split<;>simp
def wQ {t:SetTable}(h:t.slot j=.empty):t.place[SetTable.below t.place j]?≠some j:=λ e=>by
 unfold SetTable.slot at h;simp only[e,Pe,Nh]at h;cases h
def pM {led:Bool}{t:SetTable}(g:Good led t){h:Int}:∀ (fuel:Nat) (p:SetTable.Probe) (j:Nat) (d:Option Nat),p.dummy=none->SetTable.probe.go t (λ _=>h+1) h fuel p=some (.empty j d)->d=none/\t.slot j=.empty
 |0,p,j,d,_,e=>by unfold SetTable.probe.go at e;cases e
 | fuel+1,p,j,d,hp,e=>by
  unfold SetTable.probe.go at e;cases z:t.slot p.j with
  | empty =>
   rw[z]at e;simp only[N8,SetTable.Met.empty.injEq]at e;exact⟨e.2.symm.trans hp,e.1▸z⟩
  |dummy=>exact absurd z (qB g p.j)
  | live i =>
   rw[z]at e;have hne:(h+1 == h)=false:=by
    rw[Nr];omega
   simp only[hne,LP,Nx]at e;refine pM g fuel (t.advance p) j d ?_ e;unfold SetTable.advance;split
   ·exact hp
   ·exact hp
def zO{t:SetTable}(g:Good led t){h:Int}{b:Bool}(e:t.freeSlot h=some (j,b)):t.slot j=.empty:=by
 unfold SetTable.freeSlot at e;split at e
 ·rename_i j' d hp;obtain⟨rfl,hs⟩:=pM g _ _ j' d rfl hp;simp only[O9,Option.isSome_none,N8,Prod.mk.injEq]at e;exact e.1▸hs
 ·cases e
def BW{t:SetTable}(g:Good led t)(h:t.slot j=.empty):Good led (t.put j).1:=by
 refine⟨g.led,BX g.rise (wQ h),?_⟩;show(if SetTable.has t.dummies j=true then SetTable.eraseAt t.dummies (SetTable.below t.dummies j) else t.dummies) = #[];rw[g.Kw,ye];rfl
def BY{t:SetTable}(g:Good led t)(es:Array (Int×Value))(h:Int)(x:Value):Good led (layNew t es h x).2.1:=by
 unfold layNew;split
 ·rename_i slot b e;show Good led ((t.put slot).1.orStandIn _);have gp:=BW g (zO g e);unfold SetTable.orStandIn;split
  ·exact gp
  ·exact jj gp _
 ·exact jj g _
def zP (n:Nat)(f:Nat->Option Nat):(((List.range n).filterMap λ j=>(f j).map (j,·)).map (·.1)).Pairwise (· < ·):=by
 have hs:(((List.range n).filterMap λ j=>(f j).map (j,·)).map (·.1)).Sublist (List.range n):=by
  induction List.range n with
  |nil=>exact List.Sublist.slnil
  | cons a r ih =>
   cases e:f a with
   |none=>rw[List.filterMap_cons_none (by rw[e];rfl)];exact ih.cons a|some b=>rw[List.filterMap_cons_some (b:=(a,b)) (by rw[e];rfl)];exact ih.cons₂ a
 exact List.pairwise_lt_range.sublist hs
def wN{t:SetTable}(g:Good led t)(es:Array (Int×Value))(w:Nat):Good led (relayAll t es w).2.1:=by
 unfold relayAll;split
 ·rename_i t' order e;dsimp only;split
  ·unfold SetTable.relaid SetTable.laid at e;simp only[Option.bind_eq_bind,Option.bind_eq_some_iff]at e;obtain⟨owner,_,e⟩:=e;simp only[Option.pure_def,N8,Prod.mk.injEq]at e;obtain⟨e,_⟩:=e;subst e;exact⟨g.led,by simpa[tN] using zP _ λ j=>owner.getD j none,rfl⟩
  ·exact jj g _
 ·exact jj g _
end SR
namespace SR
open PySem PySem.Spec PyProof.Rows
section
variable {prog:Program}{w:World}{A:Around}{E:Value->Shared->Prop}{s:Shared}{led:Bool}
def iy (prog:Program)(w:World)(led:Bool)(h:Heap)(a:Addr)(S:Int->Bool)(n:Nat):Prop:=
 ∃ o es ep t,h.get? a=some o/\o.ExactSet/\o.data=.set es ep t/\ElemsOf (intKind prog w) es.toList/\(∀ k,S k=true↔∃ e∈es.toList,(intKind prog w).is k e.2=true)
  /\ es.size<scanBound/\t.fits es.size=true/\es.size=n/\Good led t
def iy.store {h:Heap}{a:Addr}{o:Obj}{es es':Array (Int×Value)}{ep:Nat}{t t':SetTable}{S':Int->Bool}(ho:h.get? a=some o)(hex:o.ExactSet)(hd:o.data=.set es ep t)
  (hel:ElemsOf (intKind prog w) es'.toList) (hmem:∀ k,S' k=true↔∃ e∈es'.toList,(intKind prog w).is k e.2=true) (hb:es'.size<scanBound) (hf:t'.fits es'.size=true) (g:Good led t') :
  (h.update a (Obj.putSet es' t')).get? a=some { o with data:=.set es' (ep+1) t' }/\iy prog w led (h.update a (Obj.putSet es' t')) a S' es'.size:=by
 obtain⟨hg,_⟩:=SetOf_store (knd:=intKind prog w) ho hex hd hel hmem hb hf;exact⟨hg,_,es',ep+1,t',hg,hex,rfl,hel,hmem,hb,hf,rfl,g⟩
def BZ {gw:Bool->Sem Unit}(hg:∀ (b:Bool) (s₁:Shared) (Q':Unit->Shared->Prop),Q' () s₁->wpAny (model prog w) A (gw b) Q' E s₁)
  {a:Addr}{o:Obj}{es es1:Array (Int×Value)}{ep:Nat}{t t2:SetTable}{S':Int->Bool} (ho:s.heap.get? a=some o) (hex:o.ExactSet) (hd:o.data=.set es ep t)
  (hel1:ElemsOf (intKind prog w) es1.toList) (hmem1:∀ k',S' k'=true↔∃ e∈es1.toList,(intKind prog w).is k' e.2=true)
  (hb1:es1.size<scanBound) (hf2:t2.fits es1.size=true) (g2:Good led t2) {wasDummy:Bool}{R:Option Bool->Shared->Prop}
  (h:∀ h',Heap.SameBut a s.heap h'->iy prog w led h' a S' es1.size->R (some true) { s with heap:=h' }) :
  wpAny (model prog w) A (do
    storeSet a es1 t2
    if (!wasDummy&&t2.tooFull)=true then do
      gw (relayAll t2 es1 (SetTable.grown es1.size)).2.2
      storeSet a (relayAll t2 es1 (SetTable.grown es1.size)).1 (relayAll t2 es1 (SetTable.grown es1.size)).2.1
      pure (some true)
     else pure (some true)) R E s:=by
 refine La (wpAny_storeSet_of ho hd ?_ (O4 hb1));obtain⟨ho1,hS1⟩:=iy.store (prog:=prog) (w:=w) (led:=led) ho hex hd hel1 hmem1 hb1 hf2 g2;have hsb1:=MN s.heap a (Obj.putSet es1 t2);split
 ·have hp:=relayAll_perm t2 es1 (SetTable.grown es1.size);have hfr:=relayAll_fits t2 es1 (SetTable.grown es1.size);have gr:=wN g2 es1 (SetTable.grown es1.size);have hsz:(relayAll t2 es1 (SetTable.grown es1.size)).1.size=es1.size:=by rw[<-LF,hp.length_eq,LF]
  have hb2:(relayAll t2 es1 (SetTable.grown es1.size)).1.size<scanBound:=by rw[hsz];exact hb1
  refine La (hg _ _ _ (La (wpAny_storeSet_of ho1 rfl ?_ (O4 hb2))));obtain⟨_,hS2⟩:=iy.store (prog:=prog) (w:=w) (led:=led) ho1 hex rfl (hel1.perm hp) (λ k'=>(hmem1 k').trans ⟨λ ⟨e,he,q⟩=>⟨e,hp.mem_iff.mpr he,q⟩,λ ⟨e,he,q⟩=>⟨e,hp.mem_iff.mp he,q⟩⟩) hb2 hfr gr;rw[hsz]at hS2;exact Lf (h _ (hsb1.trans (MN _ a _)) hS2)
 ·exact Lf (h _ hsb1 hS1)
def IY {a:Addr}{S:Int->Bool}{n:Nat}{k:Int}{x:Value}{Q:Bool->Shared->Prop}(hkey:(intKind prog w).is k x=true)(hsc:x.scannable=true)(hS:iy prog w led s.heap a S n)(hroom:n+1<scanBound)
  (h:∀ h',Heap.SameBut a s.heap h'->iy prog w led h' a (λ k'=>S k'||decide (k'=k)) (if S k then n else n+1)->Q (!S k) { s with heap:=h' }) :
  wpAny (model prog w) A (setAddHashed a x ((intKind prog w).hash k)) Q E s:=by
 obtain⟨o,es,ep,t,ho,hex,hd,hel,hmem,hb,hf,hn,g⟩:=hS;have hb1:es.size+1<scanBound:=by rw[hn];exact hroom
 unfold setAddHashed setAddHashedIn;refine MS (La (M0 ho hd hf ?_));dsimp only;rw[byScan_of hsc hb hel];simp only[↓reduceIte];unfold setAddByScan;refine La (La (NG (La (wpAny_setScan_of hkey ho hd hf hel ?_))));cases hr:List.findIdx? (λ e=>(intKind prog w).is k e.2) es.toList with
 | some j =>
  dsimp only;obtain⟨hj,hpj,_⟩:=Ni.mp hr;have hSk:S k=true:=(hmem k).mpr ⟨es.toList[j],Oj hj,hpj⟩;refine Lf (Lf ?_);have e:s={ s with heap:=s.heap }:=by cases s;rfl
  have:=h s.heap (Heap.SameBut.refl a s.heap) ⟨o,es,ep,t,ho,hex,hd,hel,λ k'=>by
   rw[Bool.or_eq_true,MK,<-hmem k'];exact⟨λ hk=>hk.elim id (λ e=>e▸hSk),.inl⟩,hb,hf,by rw[hSk];exact hn,g⟩
  rw[hSk]at this;rw[e];exact this
 | none =>
  dsimp only;have hSk:S k=false:=by
   cases hk:S k with
   |false=>rfl|true=>obtain⟨e,he,hp⟩:=(hmem k).mp hk;have:=OW.mp hr e he;rw[hp]at this;exact Bool.noConfusion this
  have hgw:∀ (b:Bool) {s₁:Shared}{Q':Unit->Shared->Prop},Q' () s₁->wpAny (model prog w) A (match b with|true=>rule "set.scan.the-table-gave-way" |false=>pure ()) Q' E s₁:=
   λ b s₁ Q' hq=>by cases b<;>first|exact Lf hq|exact NG hq
  have hperm:=layNew_perm t es ((intKind prog w).hash k) x;have hfits:=layNew_fits t es ((intKind prog w).hash k) x;have g1:=BY g es ((intKind prog w).hash k) x;generalize hL:layNew t es ((intKind prog w).hash k) x=L at hperm hfits g1 ⊢;obtain⟨es1,t1,wasDummy,gave⟩:=L;dsimp only at hperm hfits g1 ⊢;rw[Array.toList_push]at hperm;have hel1:ElemsOf (intKind prog w) es1.toList:=(hel.push hkey hsc).perm hperm;have hmem1:∀ k',(S k'||decide (k'=k))=true↔∃ e∈es1.toList,(intKind prog w).is k' e.2=true:=mem_push_iff hkey hmem hperm;have hsz1:es1.size=n+1:=by rw[<-LF,hperm.length_eq,Lo,LF,hn];rfl
  have hb1':es1.size<scanBound:=by rw[hsz1];exact hroom
  refine La (hgw _ ?_);have hend:∀ h',Heap.SameBut a s.heap h'->iy prog w led h' a (λ k'=>S k'||decide (k'=k)) es1.size->Q true { s with heap:=h' }:=by
   intro h' hsb hS';have:=h h' hsb;rw[hSk]at this;rw[hsz1]at hS';exact this hS'
  split
  ·refine La ?_;rw[hashByValue_scannable 8 hsc];refine Lf ?_;refine BZ (led:=led) ?_ ho hex hd hel1 hmem1 hb1' ?_ ?_ ?_
   ·intro b s₁ Q' hq;cases b<;>first|exact Lf hq|exact NG hq
   ·split
    ·exact hfits
    ·exact SetTable.fits_plain_off hfits
   ·split
    ·exact g1
    ·exact wO g1
   ·intro h' hsb hS';dsimp only;exact Lf (hend h' hsb hS')
  ·refine La (Lf ?_);simp only[↓reduceIte];refine BZ (led:=led) ?_ ho hex hd hel1 hmem1 hb1' hfits g1 ?_
   ·intro b s₁ Q' hq;cases b<;>first|exact Lf hq|exact NG hq
   ·intro h' hsb hS';dsimp only;exact Lf (hend h' hsb hS')
def iy.congr {h:Heap}{a:Addr}{S S':Int->Bool}{n n':Nat}(hS:iy prog w led h a S n)(e:∀ k,S k=S' k)(en:n=n'):iy prog w led h a S' n':=by
 have:S=S':=funext e;subst this en;exact hS
def iy.keep {h h':Heap}{a:Addr}{S:Int->Bool}{n:Nat}(hS:iy prog w led h a S n)(hk:∀ o,h.get? a=some o->h'.get? a=some o):iy prog w led h' a S n:=by
 obtain⟨o,es,ep,t,ho,rest⟩:=hS;exact⟨o,es,ep,t,hk o ho,rest⟩
def Eb (led:Bool){h:Heap}{a:Addr}(ho:h.get? a=some { cls:=.type "set",dict:=none,data:=.set #[] 0 (.fresh 0 0 led) }):iy prog w led h a (λ _=>false) 0:=
 ⟨_,#[],0,_,ho,⟨rfl,rfl,rfl⟩,rfl,λ e he=>by simp at he,λ k=>by simp,by decide,rfl,rfl,wM led⟩
end
section
variable {prog:Program}{w:World}{A:Around}{R:Result->Shared->Prop}{I:Addr}{fp wr:List Addr}{G:Array GenState->Array GenState->Prop}{n:Nat}{P:Nat->Value->Prop}{St:Nat->Shared->Prop}{led:Bool}
def GL (W:WalksS prog w A.in1 I fp wr G n P St)(S:Addr)(hSf:S∉fp)(val:Nat->Int)(hval:∀ i v,P i v->∃ t,v=.int (val i) t)(hb:n+1<scanBound) :
  ∀ (k i:Nat) (s:Shared),n-i=k->i<=n->St i s->iy prog w led s.heap S (λ k'=>(firstMet val i).any (· == k')) (firstMet val i).length ->
   (∀ s',Moved (S::wr) G s s'->iy prog w led s'.heap S (λ k'=>(firstMet val n).any (· == k')) (firstMet val n).length->R (.ok (.ret .none)) s') ->
   codeAny (model prog w) A (.builtin "set.update.loop" ⟨[.ref S,.ref I],[]⟩) R s:=by
 have hSw:S∉wr:=λ h=>hSf (W.sub _ h);have hsub:∀ b∈wr,b∈S::wr:=λ b hb=>Ld _ hb;intro k
 induction k with
 | zero =>
  intro i s hk hi hst hS hR;have hin:i=n:=by omega
  subst hin;refine M4 F.entry_set_update_loop ?_;rw[MI N3 _];show wpAny _ A.in1 (pyNext (.ref I) >>= _) _ _ s;refine La (W.done s _ _ hst λ s' hm=>?_);exact Lf (hR s' (hm.mono hsub) (hS.keep λ o ho=>hm.heap S _ hSw ho))
 | succ k ih =>
  intro i s hk hi hst hS hR;have hlt:i<n:=by omega
  refine M4 F.entry_set_update_loop ?_;rw[MI N3 _];show wpAny _ A.in1 (pyNext (.ref I) >>= _) _ _ s;refine La (W.item i s _ _ hlt hst λ v s' hP hst' hm=>?_);obtain⟨t,rfl⟩:=hval i v hP;have hS':=hS.keep (h':=s'.heap) λ o ho=>hm.heap S _ hSw ho;show wpAny _ A.in1 (holding [Value.int (val i) t] (setAdd S (.int (val i) t)) >>= _) _ _ s';refine La (MS ?_);unfold setAdd;refine MS (La ((intKind prog w).pyHash (k:=val i) (intKind_is _ _ _ _) ?_));have hroom:(firstMet val i).length+1<scanBound:=by have:=firstMet_length_le val i;omega
  refine IY (s:={ s' with toks:=s'.toks+1 }) (intKind_is _ _ _ _) rfl hS' hroom λ h' hsb hS2=>?_;have hSi:iy prog w led h' S (λ k'=>(firstMet val (i+1)).any (· == k')) (firstMet val (i+1)).length:=hS2.congr (λ k'=>by rw[firstMet_succ,step_any]) (by rw[firstMet_succ,step_length]);refine Lf ⟨NT N3 _,ih (i+1) _ (by omega) hlt (W.frame _ s' _ _ hst' (Nc _) λ b hb o e=>?_) hSi λ s'' hm'' hS''=>?_⟩
  ·rw[hsb.2 b (λ h:b=S=>hSf (by rw[<-h];exact hb))];exact e
  ·refine hR s'' (Moved.trans W.gtrans ((hm.mono hsub).then_heap (Nc _) λ b o hb e=>?_) hm'') hS'';rw[hsb.2 b (λ h:b=S=>hb (by rw[h];exact Le))];exact e
end
variable {T a:Addr}{A:Around}{es:Array (Int×Value)}{h:Heap}{S':Int->Bool}{ep i n slot:Nat}{o:Obj}{Q:Option Value->Shared->Prop}{prog:Program}{s:Shared}{x:Value}{E:Value->Shared->Prop}{w:World}
def qC (w:World):Bool:=!w.params.followText "set-order"
abbrev zQ (w:World):Obj:=⟨.type "set",none,.set #[] 0 (.fresh 0 0 (qC w)),#[]⟩
section
def IZ (a:Value){R:Value->Shared->Prop}(h:R (.ref s.heap.objs.size) { s with heap:=s.heap.push (zQ w) }):codeAny (model prog w) A (.call (.builtin "set.__new__") ⟨[.type "set",a],[]⟩) (wants R E) s:=by
 have self:=sub_set_self;refine codeAny_of_tree (La (wpAny_of_eq (F.newCall_set_1 a) (Lf ⟨NT F.plain_set_new _,M4 F.entry_set_new ?_⟩)));rw[MI F.plain_set_new _];unfold Builtin.«set.__new__» Builtin.Frozenset.newClass;cases s;dsimp only
 wp_walk
 exact wpAny_askSetting (Lf (La (wpAny_alloc (Lf (Lf h)))))
abbrev Made (prog:Program)(w:World)(s:Shared)(ns:List Int)(n:Nat)(S:Addr)(s':Shared):Prop:=∃ h' tk,s'={ s with heap:=h',toks:=tk }/\iy prog w (qC w) h' S (λ k=>(firstMet (λ i=>ns.getD i 0) n).any (· == k)) (firstMet (λ i=>ns.getD i 0) n).length/\∀ b o,b≠S->s.heap.get? b=some o->h'.get? b=some o
def GN {l S:Addr}{items:Array Value}{ns:List Int}(hh:A.handled=none)(hl:s.heap.IsList l items)(hi:IntsAre items.toList ns)(hb:items.size+1<scanBound)(hS:s.heap.get? S=some (zQ w))(ne:l≠S) :
  codeAny (model prog w) A (.call (.builtin "set.__init__") ⟨[.ref S,.ref l],[]⟩) (wants (λ r s'=>r=.none/\Made prog w s ns items.size S s') E) s:=by
 have hT:s.TypeIs (.ref S) "set" :=⟨_,hS,rfl⟩;refine codeAny_call_builtin F.called_set.init.plain F.entry_set_init (check_set_init_1 hT ?_);obtain⟨⟨c,dc,dt,sl⟩,g1,g2,n,g3⟩:=id hl;simp only at g2 g3;subst g2 g3;have x1:=F.sub_list_set;have x2:=F.sub_list_frozenset;have x3:(Value.type "list" == Value.type "dict")=false:=by decide
 unfold Builtin.«set.__init__» noKeywords Builtin.Frozenset.updateFrom;generalize hI:pyIter=It
 wp_walk
 subst hI;refine O3 hl (La (wpAny_runValue ?_));have lS:S<s.heap.objs.size:=Lk hS;have ll:l<s.heap.objs.size:=Lk g1;refine GL (led:=qC w) ((Walks.list (by simp[hh]) _ l (LH ll) items).toS) S (by simp[LH lS,ne.symm]) (λ i=>ns.getD i 0) (λ i v e=>IntsAre.int_at hi i v (by rw[L1];exact e)) hb (items.size-0) 0 _ (by omega) (Mk _)
  ⟨⟨_,Lj _ rfl,rfl,rfl⟩,hl.push _⟩ ((Eb (qC w) (Lb _ hS)).congr (λ _=>rfl) rfl) ?_
 rintro⟨h',g',d',tk',os'⟩ hm hG;have e1:g'=s.gens:=hm.gens;have e2:d'=s.drawn:=hm.drawn;have e3:os'=s.os:=hm.os;subst e1 e2 e3;refine Lf (Lf ⟨rfl,h',tk',rfl,hG,λ b o nb e=>hm.heap b o ?_ (Lb _ e)⟩);simp[nb,LH (Lk e)]
def wR {l:Addr}{items:Array Value}{ns:List Int}{Q:Value->Shared->Prop}(hh:A.handled=none)(hl:s.heap.IsList l items)(hi:IntsAre items.toList ns)(hb:items.size+1<scanBound)
  (h:∀ (h':Heap) (tk:Nat),iy prog w (qC w) h' s.heap.objs.size (λ k=>(firstMet (λ i=>ns.getD i 0) items.size).any (· == k)) (firstMet (λ i=>ns.getD i 0) items.size).length->(∀ b o,b<s.heap.objs.size->s.heap.get? b=some o->h'.get? b=some o)->Q (.ref s.heap.objs.size) { s with heap:=h',toks:=tk }) :
  wpAny (model prog w) A (call (.type "set") [.ref l]) Q E s:=by
 have T:=F.called_set;obtain⟨m1,m2,m3⟩:=T.mro;have m4:=T.made;have m5:=T.sub;have m6:=T.notType;have m7:=T.canCreate;have m8:=F.typeCall_set_1 (.ref l);refine wpAny_call (codeAny_of_tree (Lf ⟨Code.quiet_builtin _ (by decide +kernel),M4 F.entry_type_call ?_⟩));rw[Around.under_plain (weight_type_call_type "set" [.ref l] []) rfl]
 repeat (any_goals (first|assumption|wp_step))
 refine OG (IZ (.ref l) (E:=E) (R:=λ x s'=>x=.ref s.heap.objs.size/\s'={ s with heap:=s.heap.push (zQ w) }) ⟨rfl,rfl⟩) λ r1 s1 q1=>?_;rcases r1 with e|fl
 ·exact q1
 cases fl with
 | ret x =>
  obtain⟨rfl,rfl⟩:=q1;have gS:(s.heap.push (zQ w)).get? s.heap.objs.size=some (zQ w):=Lj _ rfl;have y1:=T.init.lookup;have y2:=T.init.bind (.ref s.heap.objs.size);have y3:Shared.TypeIs { s with heap:=s.heap.push (zQ w) } (.ref s.heap.objs.size) "set" :=⟨_,gS,rfl⟩
  repeat (any_goals (first|assumption|wp_step))
  obtain⟨ol,g1,_⟩:=id hl;refine OG (GN (E:=E) (ns:=ns) (by simp[hh]) (hl.push _) hi hb gS (LH (Lk g1))) λ r2 s2 q2=>?_;rcases r2 with e|fl
  ·exact q2
  cases fl with
  | ret x =>
   obtain⟨rfl,h',tk,rfl,hG,hk⟩:=q2
   repeat (any_goals (first|assumption|wp_step))
   exact h _ _ hG λ b o lb e=>hk b o (LH lb) (Lb _ e)
  |_=>exact q2.elim
 |_=>exact q1.elim
end
def pO:entryFor table "set.__iter__" = some Builtin.«frozenset.__iter__» :=
 entryFor_alias (id':="frozenset.__iter__") (by kernel_rfl) rfl (by decide +kernel) (by kernel_rfl)
def bD:Slot "set_iterator" "__next__" "set_iterator.__next__" :=
 .of (owner:="set_iterator") (n:="__next__") (by rw[typeLookup_type,Oc];kernel_rfl) (by decide +kernel) (by decide +kernel) (by decide +kernel)
  (by first|exact .inl (by decide +kernel)|exact .inr (by decide +kernel)) (by rw[OR];kernel_rfl)
def fW:entryFor table "set_iterator.__next__" = some Builtin.«set_iterator.__next__» :=entryFor_of_tree (by kernel_rfl)
def gF (a:Value):argsOk "set_iterator.__next__" ⟨[a],[]⟩:=by unfold argsOk;kernel_rfl
section
def gP {α:Type}:∀ (l:List α) (i:Nat) (h:i<l.length),(l[i]::l.eraseIdx i).Perm l
 |[],i,h=>absurd h (Nn _)
 |a::l,0,_=>Mp _
 | a::l,i+1,h=>by
  have hi:i<l.length:=by simpa using h
  have ih:=gP l i hi;show(l[i]::a::l.eraseIdx i).Perm (a::l);exact(List.Perm.swap a l[i] _).trans (List.Perm.cons a ih)
def wU {M:Model}{src:Source}{Q:Nat->Shared->Prop}(hn:n≠0)(h:∀ (i:Nat) d,i<n->Q i { s with drawn:=d }):wpAny M A (choose src n) Q E s:=λ Γ p hΓ=>
 ⟨hn,h _ _ (Nat.mod_lt _ (Nat.pos_of_ne_zero hn))⟩
def ve {M:Model}{α:Type}:∀ (n:Nat) (xs:List α) (s:Shared) (Q:List α->Shared->Prop),xs.length=n->(∀ ys d,ys.Perm xs->Q ys { s with drawn:=d })->wpAny M A (drawOrder n xs) Q E s
 | 0,xs,s,Q,hl,h=>by
  have e:xs=[]:=MZ.mp hl;subst e;unfold drawOrder;have:=h [] s.drawn (Mp _);exact Lf this
 |n+1,[],s,Q,hl,h=>by simp at hl
 | n+1,x::r,s,Q,hl,h=>by
  unfold drawOrder;refine La (wU (by simp) λ i d hi=>?_);have hg:(x::r)[i]?=some ((x::r)[i]):=Lg hi;simp only[hg];refine La (ve n ((x::r).eraseIdx i) _ _ (by rw[OS hi,hl];rfl) λ ys d' hp=>?_);exact Lf (h _ d' ((List.Perm.cons _ hp).trans (gP _ _ hi)))
def yf {α:Type}(next:Nat->Nat):∀ (fuel k:Nat) (left:List α) (out:Array α),left.length=fuel->∃ l:List α,l.Perm left/\(pickOrder.go next fuel k left out).toList=out.toList++l
 | 0,k,left,out,hl=>by
  have e:left=[]:=MZ.mp hl;subst e;exact⟨[],Mp _,by unfold pickOrder.go;simp⟩
 | fuel+1,k,left,out,hl=>by
  have hpos:0<left.length:=by omega
  have hi:next k%left.length<left.length:=Nat.mod_lt _ hpos
  have hg:left[next k%left.length]?=some (left[next k%left.length]):=Lg hi;obtain⟨l,hp,e⟩:=yf next fuel (k+1) (left.eraseIdx (next k%left.length)) (out.push (left[next k%left.length])) (by rw[OS hi,hl];rfl)
  refine⟨left[next k%left.length]::l,(List.Perm.cons _ hp).trans (gP _ _ hi),?_⟩;unfold pickOrder.go;rw[hg];show(pickOrder.go next fuel (k+1) (left.eraseIdx (next k%left.length)) (out.push (left[next k%left.length]))).toList=_;rw[e,Array.toList_push,LM];rfl
def nc {α:Type}(next:Nat->Nat)(xs:Array α):(pickOrder next xs).toList.Perm xs.toList:=by
 obtain⟨l,hp,e⟩:=yf next xs.size 0 xs.toList #[] (by simp)
 unfold pickOrder;rw[e];simpa using hp
variable {it:Addr}{t:SetTable}
def l9 {M:Model}{Q:Bool->Shared->Prop}(h:Q (M.w.params.followText "set-order") s):wpAny M A setsByText Q E s:=by
 unfold setsByText;exact La (wpAny_askSetting (Lf h))
def B6 (hby:w.params.followText "set-order" = true)(ho:s.heap.get? a=some o)(hd:o.data=.set es ep t)(hf:t.fits es.size=true){Q:Option (Value×Nat)->Shared->Prop}
  (h:Q (((pickOrder (w.params.setOrder a ep) es)[i]?).map λ e=>(e.2,slot)) s):wpAny (model prog w) A (setNext a slot i ep) Q E s:=by
 unfold setNext;refine La (M0 ho hd hf ?_);dsimp only;refine La (l9 ?_);rw[show(model prog w).w.params.followText "set-order" = true from hby];simp only[↓reduceIte,Ms,LP];refine La ?_;unfold setWalk;refine La (M0 ho hd hf ?_);dsimp only;refine La (l9 ?_);rw[show(model prog w).w.params.followText "set-order" = true from hby];simp only[↓reduceIte];exact La (wpAny_askSetting (Lf (Lf h)))
def B7 (hby:w.params.followText "set-order" = false)(hdr:(!t.plain&&decide (es.size>1))=false)(hled:t.led=true)(ho:s.heap.get? a=some o)(hd:o.data=.set es ep t)(hf:t.fits es.size=true){Q:Option (Value×Nat)->Shared->Prop}
  (h:Q (match es[SetTable.below t.place slot]?,t.place[SetTable.below t.place slot]? with|some (_,x),some j=>some (x,j+1)|_,_=>none) s):wpAny (model prog w) A (setNext a slot i ep) Q E s:=by
 unfold setNext;refine La (M0 ho hd hf ?_);dsimp only;refine La (l9 ?_);rw[show(model prog w).w.params.followText "set-order" = false from hby];simp only[LP,↓reduceIte];split
 ·rename_i hx;have hx':(!t.plain&&decide (es.size>1))=true:=hx;rw[hdr]at hx';cases hx'
 ·refine La ?_;show wpAny _ _ (if (!t.led && !es.isEmpty)=true then unsupported "set:maker-not-led" else pure ()) _ _ _;rw[hled,Lw (by simp)];exact Lf (Lf h)
abbrev pN (first:Value)(i:Nat)(a:Addr)(n ep:Nat):Obj:={ cls:=.type "set_iterator",dict:=none,data:=.fields #[first,.int i 0,.ref a,.int n 0,.int ep 0],slots:=#[] }
def rE {nx:Nat}(hit:s.heap.get? it=some (pN (.int slot 0) i a es.size ep))(ho:s.heap.get? a=some o)(hd:o.data=.set es ep t)(hf:t.fits es.size=true)
  (hn:∀ (A':Around) (E':Value->Shared->Prop) (Q':Option (Value×Nat)->Shared->Prop),Q' (some (x,nx)) s->wpAny (model prog w) A' (setNext a slot i ep) Q' E' s)
  (hQ:∀ h',h'.get? it=some (pN (.int nx 0) (i+1) a es.size ep)->Heap.SameBut it s.heap h'->Q (some x) { s with heap:=h' }):wpAny (model prog w) A (pyNext (.ref it)) Q E s:=by
 have hT:s.TypeIs (.ref it) "set_iterator" :=⟨_,hit,rfl⟩;unfold pyNext;refine La (MT (LX (name:=Str.ofString "__next__") hT bD (LV bD hT fW ?_ (gF _))));unfold Builtin.«set_iterator.__next__» slotArgs;simp only[NR,NJ,LP,↓reduceIte,Mn,Ms];refine La (Lf ?_);dsimp only;refine La (OT hit rfl ?_);dsimp only;refine La (Nv ho hd hf ?_);simp only[Ms,LP,↓reduceIte];rw[LY,LY,LY];refine La (hn _ _ _ ?_);dsimp only;refine La (LK hit (by simp) λ h1 e1 sb1=>?_);refine La (LK (s:={ s with heap:=h1 }) e1 (by simp) λ h2 e2 sb2=>?_);refine Lf ⟨_,rfl,Lf (hQ h2 ?_ (sb1.trans sb2))⟩;rw[e2];simp[rawInt,pN]
def ju:isSubtype (.type "StopIteration") (.type "StopIteration")=pure true:=by rw[OR];kernel_rfl
def rD(hh:A.handled=none)(hit:s.heap.get? it=some (pN (.int slot 0) i a es.size ep))(ho:s.heap.get? a=some o)(hd:o.data=.set es ep t)(hf:t.fits es.size=true)
  (hn:∀ (A':Around) (E':Value->Shared->Prop) (Q':Option (Value×Nat)->Shared->Prop),Q' none s->wpAny (model prog w) A' (setNext a slot i ep) Q' E' s)
  (hQ:∀ h',Heap.ExtBut it s.heap h'->Q none { s with heap:=h' }):wpAny (model prog w) A (pyNext (.ref it)) Q E s:=by
 have hT:s.TypeIs (.ref it) "set_iterator" :=⟨_,hit,rfl⟩;unfold pyNext;refine La (MT (LX (name:=Str.ofString "__next__") hT bD (LV bD hT fW ?_ (gF _))));unfold Builtin.«set_iterator.__next__» slotArgs;simp only[NR,NJ,LP,↓reduceIte,Mn,Ms];refine La (Lf ?_);dsimp only;refine La (OT hit rfl ?_);dsimp only;refine La (Nv ho hd hf ?_);simp only[Ms,LP,↓reduceIte];rw[LY,LY,LY];refine La (hn _ _ _ ?_);dsimp only;refine La (OM hit rfl (by simp) ?_);show wpAny _ _ (newExc (.type "StopIteration") [] >>= _) _ _ _;refine La ?_;simp only[newExc,newTuple];refine La (L3 ?_ (by size_fits));refine La (m:=firstArgMember _ _) (wpAny_of_eq (a:=Value.none) (by first|rfl|(simp only[firstArgMember];rfl)) ?_);refine L3 ?_ (by size_fits);simp only[raiseNew];refine La (O6 ?_);rw[show A.in1.handled=none from hh];refine La (Lf (wpAny_throw ?_));refine La (Ny (T:="StopIteration") (b:=true) ⟨_,Lj _ rfl,rfl⟩ ju ?_);exact Lf (hQ _ (((MN ..).extBut.push _).push _))
def zR {p:Nat}{ps:Array Value}(hit:s.heap.get? it=some (pN (.ref T) i a es.size ep))(ho:s.heap.get? a=some o)(hd:o.data=.set es ep t)(hf:t.fits es.size=true)
  (hp:s.heap.IsTuple T ps) (hpi:ps[i]?=some (.int p 0)) (hx:(es[p]?).map (·.2)=some x)
  (hQ:∀ h',h'.get? it=some (pN (.ref T) (i+1) a es.size ep)->Heap.SameBut it s.heap h'->Q (some x) { s with heap:=h' }):wpAny (model prog w) A (pyNext (.ref it)) Q E s:=by
 have hT:s.TypeIs (.ref it) "set_iterator" :=⟨_,hit,rfl⟩;obtain⟨ot,hot,_,nt,hdt⟩:=hp;unfold pyNext;refine La (MT (LX (name:=Str.ofString "__next__") hT bD (LV bD hT fW ?_ (gF _))));unfold Builtin.«set_iterator.__next__» slotArgs;simp only[NR,NJ,LP,↓reduceIte,Mn,Ms];refine La (Lf ?_);dsimp only;refine La (OT hit rfl ?_);dsimp only;refine La (Nv ho hd hf ?_);simp only[Ms,LP,↓reduceIte];refine La (ME hot hdt ?_);dsimp only;rw[LY,hpi];dsimp only;rw[LY,LY];refine La ?_;unfold setNextDrawn;refine La (M0 ho hd hf ?_);simp only[Ms,LP,↓reduceIte];cases he:es[p]? with
 |none=>rw[he]at hx;cases hx
 | some e =>
  rw[he]at hx;simp only[NU,N8]at hx;subst hx;dsimp only;refine Lf ?_;refine La (LK hit (by simp) λ h1 e1 sb1=>?_);refine Lf ⟨_,rfl,Lf (hQ h1 ?_ sb1)⟩;rw[e1];simp[rawInt,pN]
def zS{ps:Array Value}(hh:A.handled=none)(hit:s.heap.get? it=some (pN (.ref T) i a es.size ep))(ho:s.heap.get? a=some o)(hd:o.data=.set es ep t)(hf:t.fits es.size=true)
  (hp:s.heap.IsTuple T ps) (hpi:ps[i]?=none)
  (hQ:∀ h',Heap.ExtBut it s.heap h'->Q none { s with heap:=h' }):wpAny (model prog w) A (pyNext (.ref it)) Q E s:=by
 have hT:s.TypeIs (.ref it) "set_iterator" :=⟨_,hit,rfl⟩;obtain⟨ot,hot,_,nt,hdt⟩:=hp;unfold pyNext;refine La (MT (LX (name:=Str.ofString "__next__") hT bD (LV bD hT fW ?_ (gF _))));unfold Builtin.«set_iterator.__next__» slotArgs;simp only[NR,NJ,LP,↓reduceIte,Mn,Ms];refine La (Lf ?_);dsimp only;refine La (OT hit rfl ?_);dsimp only;refine La (Nv ho hd hf ?_);simp only[Ms,LP,↓reduceIte];refine La (ME hot hdt ?_);dsimp only;rw[LY,hpi];dsimp only;refine La (LK hit (by simp) λ h1 e1 sb1=>?_);refine La (OM (s:={ s with heap:=h1 }) e1 rfl (by simp) ?_);show wpAny _ _ (newExc (.type "StopIteration") [] >>= _) _ _ _;refine La ?_;simp only[newExc,newTuple];refine La (L3 ?_ (by size_fits));refine La (m:=firstArgMember _ _) (wpAny_of_eq (a:=Value.none) (by first|rfl|(simp only[firstArgMember];rfl)) ?_);refine L3 ?_ (by size_fits);simp only[raiseNew];refine La (O6 ?_);rw[show A.in1.handled=none from hh];refine La (Lf (wpAny_throw ?_));refine La (Ny (T:="StopIteration") (b:=true) ⟨_,Lj _ rfl,rfl⟩ ju ?_);exact Lf (hQ _ (((sb1.trans (MN ..)).extBut.push _).push _))
end
def mf:Slot "set_iterator" "__iter__" "set_iterator.__iter__" :=
 .of (owner:="set_iterator") (n:="__iter__") (by rw[typeLookup_type,Oc];kernel_rfl) (by decide +kernel) (by decide +kernel) (by decide +kernel)
  (by first|exact .inl (by decide +kernel)|exact .inr (by decide +kernel)) (by rw[OR];kernel_rfl)
def qD:entryFor table "set_iterator.__iter__" = some Builtin.«dict_keyiterator.__iter__» :=entryFor_alias (id':="dict_keyiterator.__iter__") (by kernel_rfl) rfl (by decide +kernel) (by kernel_rfl)
def tP (a:Value):argsOk "set_iterator.__iter__" ⟨[a],[]⟩:=by unfold argsOk;kernel_rfl
section
variable{I:Addr}{t:SetTable}
def tO {h:s.TypeIs (.ref I) "set_iterator"}{Q:Value->Shared->Prop}(hQ:Q (.ref I) s):wpAny (model prog w) A (pyIter (.ref I)) Q E s:=by
 refine N7 h mf (LV mf h qD ?_ (tP _));show wpAny _ _ (ret (.ref I)) _ _ s;exact Lf ⟨_,rfl,"set_iterator",_,h,bD.lookup,hQ⟩
def GQ (hby:w.params.followText "set-order" = true)(hh:A.handled=none)(hne:a≠I)(hd:o.data=.set es ep t)(hf:t.fits es.size=true) :
  Walks prog w A I [I,a] [I] es.size (λ i v=>((pickOrder (w.params.setOrder a ep) es).toList.map (·.2))[i]?=some v) (λ i h=>h.get? I=some (pN (.int (0:Nat) 0) i a es.size ep)/\h.get? a=some o) where
 sub:=λ b hb=>by simp at hb;simp[hb]
 frame:=λ _ _ _ st hk=>⟨hk I (by simp) _ st.1,hk a (by simp) _ st.2⟩
 item:=λ i s Q E hi st hQ=>by
  have hl:=(nc (w.params.setOrder a ep) es).length_eq;simp only[LF]at hl;have hg:(pickOrder (w.params.setOrder a ep) es)[i]?=some ((pickOrder (w.params.setOrder a ep) es)[i]'(by omega)):=LB _;refine rE (slot:=0) (nx:=0) (x:=((pickOrder (w.params.setOrder a ep) es)[i]'(by omega)).2) st.1 st.2 hd hf (λ A' E' Q' q=>B6 hby st.2 hd hf (by rw[hg];exact q)) λ h' e1 sb=>?_;refine hQ _ h' s.toks ?_ ⟨e1,?_⟩ λ b o' hb e=>?_
  ·rw[LG,L1,hg];rfl
  ·rw[sb.2 a hne];exact st.2
  ·rw[sb.2 b (λ z=>hb (by simp[z]))];exact e
 done:=λ s Q E st hQ=>by
  have hl:=(nc (w.params.setOrder a ep) es).length_eq;simp only[LF]at hl;refine rD (slot:=0) hh st.1 st.2 hd hf (λ A' E' Q' q=>B6 hby st.2 hd hf (by rw[Na (by omega)];exact q)) λ h' he=>?_;exact hQ h' s.toks λ b o hb e=>he b o (λ h=>hb (by simp[h])) e
 self:=λ _ s _ _ st hQ=>tO (h:=⟨_,st.1,rfl⟩) hQ
def nO (t:SetTable):Nat->Nat
 |0=>0
 |i+1=>t.place.getD i 0+1
def pP (hr:tN t.place):∀ i,i<=t.place.size->SetTable.below t.place (nO t i)=i
 | 0,_=>by
  obtain⟨h1,h2,h3⟩:=lD hr 0;show SetTable.below t.place 0=0;rcases Nat.eq_zero_or_pos (SetTable.below t.place 0) with z|z
  ·exact z
  ·have:=h2 0 _ (LB (by omega)) z;omega
 | i+1,hi=>by
  have hg:t.place[i]?=some (t.place[i]'(by omega)):=LB _;have hgd:t.place.getD i 0=t.place[i]'(by omega):=by rw[L7,hg];rfl
  obtain⟨h1,h2,h3⟩:=lD hr (nO t (i+1));have es:nO t (i+1)=t.place[i]'(by omega)+1:=by show t.place.getD i 0+1=_;rw[hgd]
  rw[es]at h1 h2 h3 ⊢;rcases M1 (SetTable.below t.place (t.place[i]'(by omega)+1)) (i+1) with z|z|z
  ·have:=h3 i _ hg (by omega);omega
  ·exact z
  ·have hg':t.place[i+1]?=some (t.place[i+1]'(by omega)):=LB _;have l:=h2 (i+1) _ hg' z;have r:=oH hr hg hg' (by omega);omega
def GO (hby:w.params.followText "set-order" = false)(hdr:(!t.plain&&decide (es.size>1))=false)(g:Good true t)(hh:A.handled=none)(hne:a≠I)(hd:o.data=.set es ep t)(hf:t.fits es.size=true) :
  Walks prog w A I [I,a] [I] es.size (λ i v=>(es.toList.map (·.2))[i]?=some v) (λ i h=>i<=es.size/\h.get? I=some (pN (.int (nO t i:Nat) 0) i a es.size ep)/\h.get? a=some o) where
 sub:=λ b hb=>by simp at hb;simp[hb]
 frame:=λ _ _ _ st hk=>⟨st.1,hk I (by simp) _ st.2.1,hk a (by simp) _ st.2.2⟩
 item:=λ i s Q E hi st hQ=>by
  have hp:t.place.size=es.size:=by
   unfold SetTable.fits at hf;simp only[LW,Nq]at hf;exact hf.1
  have hb:=pP g.rise i (by omega);have hg:es[i]?=some (es[i]'hi):=LB _;have hgp:t.place[i]?=some (t.place[i]'(by omega)):=LB _;have hgd:t.place.getD i 0=t.place[i]'(by omega):=by rw[L7,hgp];rfl
  refine rE (slot:=nO t i) (nx:=nO t (i+1)) (x:=(es[i]'hi).2) st.2.1 st.2.2 hd hf (λ A' E' Q' q=>B7 hby hdr g.led st.2.2 hd hf (by
   rw[hb,hg,hgp];have:nO t (i+1)=t.place[i]'(by omega)+1:=by show t.place.getD i 0+1=_;rw[hgd]
   rw[this]at q;exact q)) λ h' e1 sb=>?_
  refine hQ _ h' s.toks ?_ ⟨hi,e1,?_⟩ λ b o' hb e=>?_
  ·rw[LG,L1,hg];rfl
  ·rw[sb.2 a hne];exact st.2.2
  ·rw[sb.2 b (λ z=>hb (by simp[z]))];exact e
 done:=λ s Q E st hQ=>by
  have hp:t.place.size=es.size:=by
   unfold SetTable.fits at hf;simp only[LW,Nq]at hf;exact hf.1
  have hb:=pP g.rise es.size (by omega);refine rD (slot:=nO t es.size) hh st.2.1 st.2.2 hd hf (λ A' E' Q' q=>B7 hby hdr g.led st.2.2 hd hf (by rw[hb,Na (Ll _)];exact q)) λ h' he=>?_;exact hQ h' s.toks λ b o hb e=>he b o (λ h=>hb (by simp[h])) e
 self:=λ _ s _ _ st hQ=>tO (h:=⟨_,st.2.1,rfl⟩) hQ
def Ec (es:Array (Int×Value))(ps:List Nat):List Value:=ps.map λ p=>((es[p]?).map (·.2)).getD .none
def GP{ps:List Nat}(hps:ps.Perm (List.range es.size))(hh:A.handled=none)(hne:a≠I)(hnT:T≠I)(hd:o.data=.set es ep t)(hf:t.fits es.size=true) :
  Walks prog w A I [I,a,T] [I] es.size (λ i v=>(Ec es ps)[i]?=some v) (λ i h=>h.get? I=some (pN (.ref T) i a es.size ep)/\h.get? a=some o/\h.IsTuple T (ps.map λ p:Nat=>Value.int p 0).toArray) where
 sub:=λ b hb=>by simp at hb;simp[hb]
 frame:=λ _ _ _ st hk=>⟨hk I (by simp) _ st.1,hk a (by simp) _ st.2.1,st.2.2.at λ o e=>hk T (by simp) o e⟩
 item:=λ i s Q E hi st hQ=>by
  have hl:ps.length=es.size:=by rw[hps.length_eq,LU]
  have hpi:ps[i]?=some (ps[i]'(by omega)):=Lg _;have hpm:ps[i]'(by omega)<es.size:=LN.mp (hps.mem_iff.mp (Oj _));have hg:es[ps[i]'(by omega)]?=some (es[ps[i]'(by omega)]'hpm):=LB _;refine zR (p:=ps[i]'(by omega)) (x:=(es[ps[i]'(by omega)]'hpm).2) st.1 st.2.1 hd hf st.2.2 (by rw[<-L1,List.toList_toArray,LG,hpi];rfl) (by rw[hg];rfl) λ h' e1 sb=>?_;refine hQ _ h' s.toks ?_ ⟨e1,?_,?_⟩ λ b o' hb e=>?_
  ·unfold Ec;rw[LG,hpi,NU,hg];rfl
  ·rw[sb.2 a hne];exact st.2.1
  ·exact st.2.2.at λ o e=>by rw[sb.2 T hnT];exact e
  ·rw[sb.2 b (λ z=>hb (by simp[z]))];exact e
 done:=λ s Q E st hQ=>by
  have hl:ps.length=es.size:=by rw[hps.length_eq,LU]
  refine zS hh st.1 st.2.1 hd hf st.2.2 (by rw[<-L1,List.toList_toArray,Mc (by rw[Lc];omega)]) λ h' he=>?_;exact hQ h' s.toks λ b o hb e=>he b o (λ h=>hb (by simp[h])) e
 self:=λ _ s _ _ st hQ=>tO (h:=⟨_,st.1,rfl⟩) hQ
def zT {ps:List Nat}(hps:ps.Perm (List.range es.size)):(Ec es ps).Perm (es.toList.map (·.2)):=by
 unfold Ec;refine(hps.map _).trans ?_;refine List.Perm.of_eq ?_;refine Nd (by simp) λ i h1 h2=>?_;have hi:i<es.size:=by simpa using h1
 simp[hi]
end
def Ed:typeLookup (.type "set") "__len__" = pure (some (.builtin "set.__len__")):=by rw[typeLookup_type,Oc];kernel_rfl
section
variable{t:SetTable}
def GR (ho:s.heap.get? a=some o)(hex:o.ExactSet)(hd:o.data=.set es ep t)(hf:t.fits es.size=true)(g:Good (qC w) t)(hb:es.size<scanBound){Q:Value->Shared->Prop}
  (hQ:∀ (I:Addr) (fp:List Addr) (ord:List Value) (St:Nat->Heap->Prop) (h':Heap) d,(∀ A':Around,A'.handled=none->Walks prog w A' I fp [I] es.size (λ i v=>ord[i]?=some v) St)->ord.Perm (es.toList.map (·.2))->St 0 h' ->
   (∀ b∈fp,b=a\/s.heap.objs.size<=b)->s.heap.objs.size<=I->(∀ b o,s.heap.get? b=some o->h'.get? b=some o)->Q (.ref I) { s with heap:=h',drawn:=d }):wpAny (model prog w) A (pyIter (.ref a)) Q E s:=by
 have hT:s.TypeIs (.ref a) "set" :=⟨o,ho,hex.1⟩;have hal:a<s.heap.objs.size:=Lk ho;have hsl:sizeLine=16777216:=Ma;refine N7 hT F.slot_set_iter (LV F.slot_set_iter hT pO ?_ (F.args_set_iter_1 _));unfold Builtin.«frozenset.__iter__» Builtin.Frozenset.slot0 slotArgs;simp only[NR,NJ,LP,↓reduceIte,bind_assoc,Mn,Ms];unfold Builtin.Frozenset.addrOf Builtin.Frozenset.sizeOf;refine La (Lf ?_);dsimp only;refine La (Lf ?_);refine La (La (Nv ho hd hf (Lf ?_)));refine La ?_;unfold setDrawn;refine La (M0 ho hd hf ?_);dsimp only;refine La (l9 (Lf ?_));have ep_any:∀ (s1:Shared) (Q':Nat->Shared->Prop),s1.heap.get? a=some o->Q' ep s1->wpAny (model prog w) A.in1 (setEpoch a) Q' E s1:=λ s1 Q' h1 q=>by
  unfold setEpoch;exact La (M0 h1 hd hf (Lf q))
 cases hby:w.params.followText "set-order" with
 | true =>
  rw[show(model prog w).w.params.followText "set-order" = true from hby];simp only[NJ,Bool.false_and,LP,↓reduceIte];refine La (Lf ?_);refine La (ep_any _ _ ho ?_);refine La (L3 (Lf ⟨_,rfl,"set_iterator",_,⟨_,Lj _ rfl,rfl⟩,bD.lookup,?_⟩));refine hQ s.heap.objs.size [s.heap.objs.size,a] _ _ _ s.drawn (λ A' hh=>GQ (prog:=prog) (I:=s.heap.objs.size) (o:=o) hby hh (LH hal) hd hf) ((nc _ es).map _) ⟨Lj _ rfl,Lb _ ho⟩ (λ b hbm=>?_) (Ll _) λ b o e=>Lb _ e;rcases Ln.mp hbm with rfl|hbm
  ·exact .inr (Ll _)
  ·rcases Ln.mp hbm with rfl|hbm
   ·exact .inl rfl
   ·cases hbm
 | false =>
  rw[show(model prog w).w.params.followText "set-order" = false from hby];have gl:Good true t:=by
   have e:qC w=true:=by unfold qC;rw[hby];rfl
   rw[e]at g;exact g
  cases hdr:(!t.plain&&decide (es.size>1)) with
  | false =>
   refine NX (λ hc=>?_) (λ _=>?_)
   ·have hc':(!false&&(!t.plain&&decide (es.size>1)))=true:=hc;rw[hdr]at hc';cases hc'
   refine La (Lf ?_);refine La (ep_any _ _ ho ?_);refine La (L3 (Lf ⟨_,rfl,"set_iterator",_,⟨_,Lj _ rfl,rfl⟩,bD.lookup,?_⟩));refine hQ s.heap.objs.size [s.heap.objs.size,a] _ _ _ s.drawn (λ A' hh=>GO (prog:=prog) (I:=s.heap.objs.size) (o:=o) hby hdr gl hh (LH hal) hd hf) (Mp _) ⟨Mk _,Lj _ rfl,Lb _ ho⟩ (λ b hbm=>?_) (Ll _) λ b o e=>Lb _ e;rcases Ln.mp hbm with rfl|hbm
   ·exact .inr (Ll _)
   ·rcases Ln.mp hbm with rfl|hbm
    ·exact .inl rfl
    ·cases hbm
  | true =>
   refine NX (λ _=>?_) (λ hc=>?_)
   ·refine La (ve es.size (List.range es.size) s _ (LU) λ ps d hps=>?_);have hpl:ps.length=es.size:=by rw[hps.length_eq,LU]
    simp only[newTuple];refine La (L3 ?_ ?_)
    ·refine La (ep_any _ _ (Lb _ ho) ?_);refine La (L3 (Lf ⟨_,rfl,"set_iterator",_,⟨_,Lj _ rfl,rfl⟩,bD.lookup,?_⟩));refine hQ _ [_,a,s.heap.objs.size] _ _ _ d (λ A' hh=>GP (prog:=prog) (w:=w) (o:=o) (T:=s.heap.objs.size) hps hh ?_ ?_ hd hf) (zT hps) ⟨Lj _ rfl,Lb _ (Lb _ ho),?_⟩ (λ b hbm=>?_) ?_ λ b o e=>Lb _ (Lb _ e)
     ·rw[Mf];exact LH (NO hal)
     ·rw[Mf];exact LH (Og _)
     ·exact⟨_,Lb _ (Lj _ rfl),rfl,0,rfl⟩
     ·rcases Ln.mp hbm with rfl|hbm
      ·right;rw[Mf];exact Nc _
      ·rcases Ln.mp hbm with rfl|hbm
       ·exact .inl rfl
       ·rcases Ln.mp hbm with rfl|hbm
        ·exact .inr (Ll _)
        ·cases hbm
     ·rw[Mf];exact Nc _
    ·show(ps.map λ (i:Nat)=>rawInt i).toArray.size<=sizeLine;rw[Lm,Lc,hpl];unfold scanBound at hb;omega
   ·exact absurd (show(!false&&(!t.plain&&decide (es.size>1)))=true by rw[hdr];rfl) hc
def B9 (hT:s.TypeIs (.ref a) "set"){Q:Bool->Shared->Prop}(h:Q false s):wpAny (model prog w) A (Builtin.List.listLengthHint (.ref a)) Q E s:=by
 unfold Builtin.List.listLengthHint;refine La (wpAny_specialOf hT Ed ?_);generalize hid:("set.__len__" : String)=id0
 wp_delta
 rw[show splitId id0=some ("set","__len__") from by subst hid;decide +kernel];subst hid;refine La (Ny (T:="set") (b:=true) hT (by rw[OR];kernel_rfl) ?_);refine NX (λ hab=>absurd hab (by decide)) (λ _=>?_);refine NX (λ _=>?_) (λ hab=>absurd (by decide +kernel) hab);refine La (OH hT ?_);exact Lf h
def B8 {ord:List Value}{acc:Array Value}(h:ItemsOf (λ i v=>ord[i]?=some v) acc n)(hn:ord.length=n):acc.toList=ord:=by
 refine Mr λ i=>?_;rcases Nat.lt_or_ge i n with q|q
 ·have hi:i<acc.size:=by rw[h.1];exact q
  have e:acc[i]?=some acc[i]:=LB hi;rw[L1,e,h.2 i _ e]
 ·rw[Mc (by rw[LF,h.1];exact q),Mc (by omega)]
def zU (hh:A.handled=none)(ho:s.heap.get? a=some o)(hex:o.ExactSet)(hd:o.data=.set es ep t)(hf:t.fits es.size=true)(g:Good (qC w) t)(hb:es.size<scanBound){Q:List Value->Shared->Prop}
  (hQ:∀ (vs:List Value) (h':Heap) (tk:Nat) d,vs.Perm (es.toList.map (·.2))->(∀ b o,s.heap.get? b=some o->h'.get? b=some o)->s.heap.objs.size<=h'.objs.size->Q vs { s with heap:=h',toks:=tk,drawn:=d }):wpAny (model prog w) A (collect (.ref a)) Q E s:=by
 have hal:a<s.heap.objs.size:=Lk ho;have hn:es.size<=sizeLine:=O4 hb;unfold collect;refine La (wpAny_runValue (M4 F.entry_proto_collect ?_));rw[MI F.plain_proto_collect _];show wpAny _ A.in1 (newList [] >>= λ l=>again (.builtin "list.__iadd__" ⟨[l,.ref a],[]⟩)) _ _ s;refine La (L3 ?_);refine Lf ⟨NT F.plain_list_iadd _,M4 F.entry_list_iadd ?_⟩;rw[MI F.plain_list_iadd _];have ho1:(s.heap.push { cls:=.type "list",data:=.seq ([]:List Value).toArray }).get? a=some o:=Lb _ ho;show wpAny _ A.in1 (Builtin.List.listExtendWith (.ref s.heap.objs.size) (.ref a) (.ref s.heap.objs.size)) _ _ _;unfold Builtin.List.listExtendWith;refine La (OH (T:="set") ⟨o,ho1,hex.1⟩ ?_);have h1:Builtin.List.listSameRef (.ref s.heap.objs.size) (.ref a)=false:=by simp[Builtin.List.listSameRef,M7 hal]
 have h2:(Value.type "set" == Value.type "list")=false:=by decide
 have h3:(Value.type "set" == Value.type "tuple")=false:=by decide
 simp only[h1,h2,h3,Bool.or_false,LP,Nx];refine La (GR (s:={ s with heap:=s.heap.push { cls:=.type "list",data:=.seq ([]:List Value).toArray } }) ho1 hex hd hf g hb λ I fp ord St hp d W hord hst hfp hI kp=>?_);have hS0:hp.get? s.heap.objs.size=some { cls:=.type "list",data:=.seq ([]:List Value).toArray }:=kp _ _ (Lj _ rfl);have hsz:s.heap.objs.size+1<=I:=by
  have:(s.heap.push { cls:=.type "list",data:=.seq ([]:List Value).toArray }).objs.size<=I:=hI;rw[Mf]at this;exact this
 refine La (MS (B9 ⟨o,kp _ _ ho1,hex.1⟩ ?_));refine NX (λ _=>?_) (λ hc=>absurd (by decide +kernel) hc);refine La (NG ?_);refine La ?_;show wpAny _ _ (updateSeq s.heap.objs.size (·.push .none) >>= λ _=>updateSeq s.heap.objs.size (·.pop)) _ _ _;refine La (NW hS0 rfl ?_);have hS₂:=MO (Obj.mapSeq (·.push Value.none)) hS0 rfl;refine NW hS₂ rfl ?_;have hS₃:=MO (Obj.mapSeq (·.pop)) hS₂ rfl;have oth:∀ b o,b≠s.heap.objs.size->hp.get? b=some o->((hp.update s.heap.objs.size (Obj.mapSeq (·.push Value.none))).update s.heap.objs.size (Obj.mapSeq (·.pop))).get? b=some o:=
  λ b o hb e=>(M9 _ _ (My hb)).trans ((M9 _ _ (My hb)).trans e)
 have WS:=(W A.in1 hh).toS;have hSf:s.heap.objs.size∉fp:=λ hm=>by
  rcases hfp _ hm with z|z
  ·exact absurd z (M7 hal)
  ·have z:(s.heap.push { cls:=.type "list",data:=.seq ([]:List Value).toArray }).objs.size<=s.heap.objs.size:=z;rw[Mf]at z;exact absurd z (Nat.not_succ_le_self _)
 have hol:ord.length=es.size:=by rw[hord.length_eq,Lc,LF]
 refine Lf ⟨NT F.plain_extend_loop _,codeAny_extend_loopS WS hn _ hSf _ es.size 0 _ _ _ rfl (Mk _)
  (WS.frame 0 ({ s with heap:=hp,drawn:=d }:Shared) _ s.toks hst (Ll _) λ b hb o e=>oth b o (λ h=>hSf (h▸hb)) e) hS₃ (ItemsOf.nil _) λ s' acc' c' hm hS' hacc=>?_⟩
 show wpAny _ A (load s.heap.objs.size >>= _) _ _ s';refine La (wpAny_load hS' ?_);refine Lf ?_;rw[B8 hacc hol];obtain⟨h',g',d',tk',os'⟩:=s';have eg:g'=s.gens:=hm.gens;have ed:d'=d:=hm.drawn;have eo:os'=s.os:=hm.os;subst eg ed eo;refine hQ ord h' tk' _ hord (λ b o' e=>hm.heap b o' (λ z=>?_) (oth b o' (LH (Lk e)) (kp b o' (Lb _ e)))) (ND (Lk hS'));rcases Ln.mp z with z|z
 ·exact absurd z (LH (Lk e))
 ·have z:b=I:=by simpa using z
  have l:=LR (Lk e) (NN hsz);rw[z]at l;exact absurd l (Mj _)
end
def l6:∀ (vs:List Value),(∀ v∈vs,∃ k t,v=.int k t)->∃ ns:List Int,IntsAre vs ns/\ns.length=vs.length/\∀ k,k∈ns↔∃ t,Value.int k t∈vs
 |[],_=>⟨[],.nil,rfl,λ k=>by simp⟩
 | v::vs,h=>by
  obtain⟨k,t,rfl⟩:=h v Le;obtain⟨ns,h1,h2,h3⟩:=l6 vs λ v hv=>h v (Ld _ hv);refine⟨k::ns,.cons k t h1,by rw[Ly,Ly,h2],λ k'=>?_⟩;constructor
  ·intro m;rcases Ln.mp m with rfl|m
   ·exact⟨t,Le⟩
   ·obtain⟨t',q⟩:=(h3 k').mp m;exact⟨t',Ld _ q⟩
  ·rintro⟨t',m⟩;rcases Ln.mp m with e|m
   ·cases e;exact Le
   ·exact Ld _ ((h3 k').mpr ⟨t',m⟩)
section
def Cb (hh:A.handled=none){S:Int->Bool}(hS:iy prog w (qC w) s.heap a S n)(h64:n<64){Q:Value->Shared->Prop}
  (h:∀ (out:Array Value) (ns':List Int) (h':Heap) (tk:Nat) d (q:Addr),IntsAre out.toList ns'->ns'.Pairwise (· <= ·)->(∀ k,k∈ns'↔S k=true)->ns'.length=n->(∀ b o,s.heap.get? b=some o->h'.get? b=some o)->s.heap.objs.size<=q ->
   (∃ e,h'.get? q=some (seqObj "list" out e))->Q (.ref q) { s with heap:=h',toks:=tk,drawn:=d }) :
  wpAny (model prog w) A (call (.builtin "sorted") [.ref a]) Q E s:=by
 obtain⟨o,es,ep,t,ho,hex,hd,hel,hmem,hb,hf,hn,g⟩:=hS;refine Calls.call_function_entry kind_sorted plain_sorted entry_sorted (args_sorted1 _) ?_;unfold Builtin.«sorted»;refine La (m:=checkCount "sorted" 1 1 _) (Lf ?_);refine La (zU (A:=A.in1) hh ho hex hd hf g hb λ vs h1 tk d hp kp hsz=>?_);have hvl:vs.length=n:=by rw[hp.length_eq,Lc,LF,hn]
 obtain⟨ns,hI,hnl,hnm⟩:=l6 vs λ v hv=>by
  obtain⟨e,he,rfl⟩:=Lq.mp (hp.mem_iff.mp hv);obtain⟨⟨k,hk,_⟩,_⟩:=hel e he;obtain⟨t',q⟩:=OY hk;exact⟨k,t',q⟩
 refine La (wpAny_newList ?_ (by rw[hvl,Ma];omega));have hoL:(h1.push (seqObj "list" vs.toArray 0)).get? h1.objs.size=some (seqObj "list" vs.toArray 0):=Lj _ rfl;show wpAny _ _ _ _ _ ({ s with heap:=h1.push (seqObj "list" vs.toArray 0),toks:=tk,drawn:=d }:Shared);refine La (MS (LV slot_list_sort ⟨_,hoL,rfl⟩ entry_list_sort (list_sort_tree hoL hI (by omega) λ out ns' a1 a2 a3=>⟨_,rfl,?_⟩) (args_list_sort _)));have ge:∀ b o,s.heap.get? b=some o->b<h1.objs.size:=λ b o e=>Lk (kp b o e);refine Lf ⟨_,rfl,h out ns' _ tk d h1.objs.size a1 a3 (λ k=>?_) (by rw[a2.length_eq,hnl,hvl]) (λ b o e=>?_) ?_ (sortedHeap_at hoL)⟩
 ·rw[a2.mem_iff,hnm,hmem];constructor
  ·rintro⟨t',m⟩;obtain⟨e,he,q⟩:=Lq.mp (hp.mem_iff.mp m);exact⟨e,he,by rw[q];exact intKind_is _ _ _ _⟩
  ·rintro⟨e,he,q⟩;obtain⟨t',q⟩:=OY q;exact⟨t',hp.mem_iff.mpr (Lq.mpr ⟨e,he,q⟩)⟩
 ·have hlt:=ge b o e;have hne:b≠h1.objs.size:=LH hlt;have sh:(sortedHeap (h1.push (seqObj "list" vs.toArray 0)) h1.objs.size vs out).get? b=(h1.push (seqObj "list" vs.toArray 0)).get? b:=sortedHeap_old hne (by rw[size_push'];exact NO hlt);show(sortedHeap (h1.push (seqObj "list" vs.toArray 0)) h1.objs.size vs out).get? b=some o;rw[sh];exact Lb _ (kp b o e)
 ·exact hsz
end
end SR
namespace L2
open PySem PySem.Spec PyProof.Rows
def vg:∀ (ns acc:List Int),acc.Nodup->(ns.foldl step_dedup acc).Nodup
 |[],acc,h=>h
 | x::r,acc,h=>by
  rw[Pn];refine vg r _ ?_;unfold step_dedup;split
  ·exact h
  ·rename_i hx;rw[Lp];refine⟨h,Lv.mpr ⟨Mv,Mu⟩,λ a ha b hb z=>hx ?_⟩;have e:b=x:=by simpa using hb
   rw[NB];exact⟨a,ha,by rw[z,e];simp⟩
def GS (ns:List Int)(k:Int):(dd ns).any (· == k)=true↔k∈dd ns:=by
 rw[NB];constructor
 ·rintro⟨x,hx,e⟩;have e:x=k:=by simpa using e
  exact e▸hx
 ·intro h;exact⟨k,h,by simp⟩
def yg:∀ (d ks:List Int),d.Nodup->(∀ k∈d,k∈ks)->ks.length<=d.length->ks.Perm d
 | [],ks,_,_,hl=>by
  have e:ks=[]:=MZ.mp (Nat.le_zero.mp hl);subst e;exact Mp _
 | x::r,ks,hn,hm,hl=>by
  have hx:=hm x Le;have hp:=List.perm_cons_erase hx;have hn':=Lv.mp hn;have ih:=yg r (ks.erase x) hn'.2 (λ k hk=>(List.mem_erase_of_ne (λ z:k=x=>hn'.1 (z▸hk))).mpr (hm k (Ld _ hk))) (by
   have:=hp.length_eq;rw[Ly]at this hl;omega)
  exact hp.trans (List.Perm.cons x ih)
def Inv.Ca {X:Cx}{pins:List (Addr×Obj)}{σ:L2.St}{H:Hp}{s:Shared}(I:Inv X pins σ H s)(d):Inv X pins σ H { s with drawn:=d }:=
 ⟨I.ok,I.os,I.bare,I.base,I.loc,I.cell,I.free,I.jH,I.pin,I.hok,I.len⟩
section
variable {X:Cx}{x y:Str}{p p2 pos pos2:Pos}{e:Expr}{te:TE}
def tQ (hc:X.calm=true)(hg:Gl X x)(hm:X.mg x=none)(hv:bootBuiltins x=some (.builtin "sorted"))(hg2:Gl X y)(hm2:X.mg y=none)(hv2:bootBuiltins y=some (.type "set"))(he:PE X e te)
  (hn:x ≠ "__name__" :=by decide) (hdb:(x == ("__debug__" : Str))=false:=by decide) (hn2:y ≠ "__name__" :=by decide) (hdb2:(y == ("__debug__" : Str))=false:=by decide)
  (hst:starEach [.Call (.Name y p2) [e] [] pos2] X.env=(false,eval (.Call (.Name y p2) [e] [] pos2) X.env)::starEach [] X.env:=by rfl) (hst2:starEach [e] X.env=(false,eval e X.env)::starEach [] X.env:=by rfl) :
  PE X (.Call (.Name x p) [.Call (.Name y p2) [e] [] pos2] [] pos) (λ σ H Q=>lJ te ql σ H λ vs H1=>∃ a ns,vs=[.ref a]/\c8 X.K H1 a (ns.map V.int)/\ns.length<64 /\
   ∀ (q:Addr) (ns':List Int),H1 q=none->ns'.Perm (dd ns)->ns'.Pairwise (· <= ·)->Q (.ref q) (upd H1 q (.lst (ns'.map V.int)))):=by
 intro pins s σ H Q I h;refine MF (i7 I hg hm hv ?_ hn hdb);refine Oe (e:=.Call (.Name y p2) [e] [] pos2) (rest:=[]) ?_ hst rfl;rw[hst];show wpAny _ _ (spliced ((false,eval (.Call (.Name y p2) [e] [] pos2) X.env)::[])) _ _ s;refine OJ ?_;refine MF (i7 I hg2 hm2 hv2 ?_ hn2 hdb2);refine Mz (e:=e) (rest:=[]) (dM (cR he dJ hst2 pos2 pins s σ H _ I h) λ us s1 hq5=>L2.ex5 hq5 λ vs H1 I1 r1 q1=>?_) hst2 rfl;obtain⟨a,ns,rfl,hq,hl,q⟩:=q1;obtain⟨u,rfl,ru⟩:=r1.one;cases ru;obtain⟨its,rv,pl,hz⟩:=I1.list hq;have hlen:=rv.length;rw[Lc]at hlen;have hsz:its.toArray.size=ns.length:=by rw[Lm,hlen]
 refine SR.wR (I1.ok.hd hc) pl.isList (by simpa using intsAre_of rv) (by show its.toArray.size+1<4096;omega) λ h2 tk2 hs2 kp2=>?_;rw[hsz]at hs2;refine O0 ?_;have hdl:(dd ns).length<=ns.length:=PyProof.Rows.firstMet_length_le _ _;refine SR.Cb (s:={ s1 with heap:=h2,toks:=tk2 }) (I1.ok.hd hc) hs2 (show(dd ns).length<64 by omega) λ out ns' h3 tk3 d q' a1 a2 a3 a4 k3 g3 a5=>?_;obtain⟨ep,e5⟩:=a5;have hpm:ns'.Perm (dd ns):=yg (dd ns) ns' (vg _ [] Mu) (λ k hk=>(a3 k).mpr ((GS ns k).mpr hk)) (by rw[a4];exact Ll _);have hge:s1.heap.objs.size<=q':=by
  obtain⟨o,es,ep',t,ho,_⟩:=hs2;exact MC (ND (Lk ho)) g3
 refine⟨.ref q',_,(I1.laid (t':=tk3) (λ b o z=>k3 b o (kp2 b o (Lk z) z)) hge ?_).Ca d,rfl,q q' ns' (I1.hok.fresh hge) hpm a2⟩;refine⟨?_,out.toList,ep,ki a1,by rw[Oq];exact e5⟩;rw[Lc,a4];exact MC (ND (show(dd ns).length<64 by omega)) (by decide)
end
end L2
namespace DL
open PySem PySem.Spec PyProof.Rows L2
section
variable {K:PySem.W.Frag}{Y:XY}{X:Cx}{pos pos2 p p2:Pos}{e:Expr}{fe:SD->Res D}{x y:Str}
def pQ:D->Res D
 |.lst _ xs=>match intsOf xs with|some ns=>if ns.length<64 then .ok (.lst .own ((sortI (dd ns)).map D.int)) else .bad|none=>.bad
 |_=>.bad
def vf (hc:X.calm=true)(hg:Gl X x)(hm:X.mg x=none)(hv:bootBuiltins x=some (.builtin "sorted"))(hg2:Gl X y)(hm2:X.mg y=none)(hv2:bootBuiltins y=some (.type "set"))(he:PE X e (tM X.K Y fe))
  (hn:x ≠ "__name__" :=by decide) (hdb:(x == ("__debug__" : Str))=false:=by decide) (hn2:y ≠ "__name__" :=by decide) (hdb2:(y == ("__debug__" : Str))=false:=by decide)
  (hst:starEach [.Call (.Name y p2) [e] [] pos2] X.env=(false,eval (.Call (.Name y p2) [e] [] pos2) X.env)::starEach [] X.env:=by rfl) (hst2:starEach [e] X.env=(false,eval e X.env)::starEach [] X.env:=by rfl) :
  PE X (.Call (.Name x p) [.Call (.Name y p2) [e] [] pos2] [] pos) (tM X.K Y (kK pQ fe)):=
 PE.imp (tQ hc hg hm hv hg2 hm2 hv2 he hn hdb hn2 hdb2 hst hst2) λ σ H Q hq=>ex8 hq λ H0 B0 B τ P F I h=>tM.seq I h λ d v H1 B1 f _ I1 _ _ r1 k h1=>by
  cases d with
  | lst t xs =>
   obtain⟨a,ws,g,rfl,q,l,s⟩:=r1.lst I1;have h3:Goal X.K Y H0 B0 B1 H1 σ τ P F Q (match intsOf xs with|some ns=>if ns.length<64 then .ok (.lst .own ((sortI (dd ns)).map D.int)) else .bad|none=>.bad):=h1;cases e:intsOf xs with
   |none=>rw[e]at h3;exact h3.elim
   | some ns =>
    rw[e]at h3;simp only at h3;split at h3
    ·rename_i hl;have ex:=fQ e;subst ex;obtain⟨rfl,rfl⟩:=fP l;refine⟨a,ns,rfl,fC q,hl,λ p ns' hp h1 h2=>?_⟩;have e2:ns'=sortI (dd ns):=dF (h1.trans (sortI_perm (dd ns)).symm) h2 (cS (dd ns));subst e2;exact Out.wa h3 I1 (kB _) fL.nil hp
    ·exact h3.elim
  |_=>exact h1.elim
end
end DL
namespace KL
open PySem PySem.Spec PyProof.Rows L2 DL
def top (i:Nat):Stmt:=PySem.Challenge.pw_modulewood_k08_greatest_within.main.body.getD i (.Pass ⟨0,0,0,0⟩)
structure Txt (mg:Str->Option Value):Prop where
 GV:mg "bool" = none
 nS:mg "enumerate" = none
 Ja:mg "int" = none
 gG:mg "isinstance" = none
 nU:mg "len" = none
 pS:mg "list" = none
 Cf:mg "max" = none
 Fb:mg "min" = none
 kG:mg "range" = none
 Jb:mg "set" = none
 f9:mg "sorted" = none
 tU:mg "tuple" = none
 Fc:mg "zip" = none
structure Bd where
 P:Program
 w:World
 K:PySem.W.Frag
 mg:Str->Option Value
 base:Heap
abbrev TX (b:Bd):=Txt b.mg
section
variable {b:Bd}
abbrev jx:Stmt:=top 5
def iU:aW ["places","place"] ["places","place"] (aA jx):=oG
abbrev jw (K:PySem.W.Frag)(mg:Str->Option Value):=nI K mg "require_place" jx ["places","place"]
def eQ:SF:=dI (eT (af (inD true) (aa 1) (aa 0))) dh aQ
def dC:DF:=cB 2 2 (eQ)
abbrev jv (b:Bd):=mJ b.P b.w b.K b.mg b.base 1 "require_place" ["places","place"] (kL b.K (dC))
def nh (T:TX b)  (F:jw b.K b.mg):jv b:=bK (k:=0) (g:=eQ) F iU rfl rfl λ f cdv A outer s H hr=>by
 have nd:=iU.nd;have hu:=dG hr;exact az (fg (aO fB (AL true) (qv 1) (qv 0))
   (az xJ)
   (bI))
abbrev kW:Stmt:=top 6
def jZ:aW ["places","some","place"] ["places","some"] (aA kW):=oG
def c7:SF:=e9 (aB dC (ae (aa 0) (ae (aa 2) ao)))
abbrev kX (K:PySem.W.Frag)(mg:Str->Option Value):=nI K mg "checked_set" kW ["places","some"]
def iz:SF:=aC (bU [1] (eN (aa 1)) (gN 2) c7) (aC (dI (eT (af gJ (eA dP (ae (aa 1) ao)) (eC (.int 0)))) dh aQ) (bM (kK pQ (aa 1))))
def eK:DF:=cB 2 3 (iz)
abbrev kZ (b:Bd):=mJ b.P b.w b.K b.mg b.base 2 "checked_set" ["places","some"] (kL b.K (eK))
def pR (T:TX b)(C_require_place:jv b)(F:kX b.K b.mg):kZ b:=bK (k:=1) (g:=iz) F jZ rfl rfl λ f cdv A outer s H hr=>by
 have nd:=jZ.nd;have hu:=dG hr;exact ak (f6 [1] L0 rfl (eU (qv 1)) (bP 2 nd)
   (az (Gi (bb C_require_place hr (jT (qv 0) (qv 2))))))
   (ak (fg (aO fu jb (jg e7 nG T.nU (jS (qv 1))) aj)
   (az xJ)
   (bI))
   (az (cD (vf rfl rfl T.f9 (by decide +kernel) rfl T.Jb (by decide +kernel) (qv 1)))))
abbrev Cg:Stmt:=top 8
def yh:aW ["one","other"] ["one","other"] (aA Cg):=oG
abbrev Cc (K:PySem.W.Frag)(mg:Str->Option Value):=nI K mg "pair" Cg ["one","other"]
def Ce:SF:=bM (sO (eT (af Hr (aa 0) (aa 1))) (eA gD (ae (aa 0) (ae (aa 1) ao))) (eA gD (ae (aa 1) (ae (aa 0) ao))))
def tR:DF:=cB 2 2 (Ce)
abbrev Cd (b:Bd):=mJ b.P b.w b.K b.mg b.base 1 "pair" ["one","other"] (kL b.K (tR))
def Ef (T:TX b)  (F:Cc b.K b.mg):Cd b:=bK (k:=0) (g:=Ce) F yh rfl rfl λ f cdv A outer s H hr=>by
 have nd:=yh.nd;have hu:=dG hr;exact az (cD (Kf (aO ET Il (qv 0) (qv 1)) (uQ (jT (qv 0) (qv 1))) (uQ (jT (qv 1) (qv 0)))))
abbrev mw:Stmt:=top 9
def k7:aW ["net","colours","place","row","ahead","tint"] ["net"] (aA mw):=oG
def eO:SF:=eE 1 (aB tR (ae (aa 2) (ae (aa 4) ao))) (aa 5)
def dB:SF:=bU [0,3] (tw (ae (af cz (aa 0) (eC (.int 0))) (ae (aa 3) ao))) (gT 2 (aM 4 (aM 5 cJ))) eO
abbrev mz (K:PySem.W.Frag)(mg:Str->Option Value):=nI K mg "colours_of" mw ["net"]
def jk:SF:=aC (aV 1 (dY true)) (aC (bU [0] (tw (ae (af cz (aa 0) (eC (.int 0))) (ae (af cz (aa 0) (eC (.int 1))) ao))) (gT 2 (aM 2 (aM 3 cJ))) dB) (du 1))
def dj:DF:=cB 1 6 (jk)
abbrev ml (b:Bd):=mJ b.P b.w b.K b.mg b.base 2 "colours_of" ["net"] (kL b.K (dj))
def qE (T:TX b)(C_pair:Cd b)(F:mz b.K b.mg):ml b:=bK (k:=1) (g:=jk) F k7 rfl rfl λ f cdv A outer s H hr=>by
 have nd:=k7.nd;have hu:=dG hr;exact ak (aR 1 nd DW)
   (ak (f6 [0] L0 rfl (BB rfl T.Fc (jT (bX (qv 0) aj) (bX (qv 0) aj))) (uU rfl (fU (i:=2) nd rfl (by walk_at "l") (fU (i:=3) nd rfl (by walk_at "l") pC)))
   (az (f6 [0,3] L0 rfl (BB rfl T.Fc (jT (bX (qv 0) aj) (qv 3))) (uU rfl (fU (i:=4) nd rfl (by walk_at "l") (fU (i:=5) nd rfl (by walk_at "l") pC)))
   (az (Bp 1 hu (bb C_pair hr (jT (qv 2) (qv 4))) (qv 5))))))
   (az (lu 1)))
abbrev nR:Stmt:=top 11
def mE:aW ["net","sights","place","ends","tint"] ["net"] (aA nR):=oG
def dS:SF:=aC (m9 1 (af cz (aa 3) (eC (.int 0))) (af cz (aa 3) (eC (.int 1))) (aa 4)) (m9 1 (af cz (aa 3) (eC (.int 1))) (af cz (aa 3) (eC (.int 0))) (aa 4))
def gQ:SF:=eE 1 (aa 2) (dY false)
abbrev nT (K:PySem.W.Frag)(mg:Str->Option Value):=nI K mg "sights_of" nR ["net"]
def j4:SF:=aC (aV 1 (dY false)) (aC (bU [0] (eN (af cz (aa 0) (eC (.int 0)))) (gN 2) gQ) (aC (bU [0] (jV (aB dj (ae (aa 0) ao))) (gT 2 (aM 3 (aM 4 cJ))) dS) (du 1)))
def f7:DF:=cB 1 5 (j4)
abbrev nW (b:Bd):=mJ b.P b.w b.K b.mg b.base 3 "sights_of" ["net"] (kL b.K (f7))
def tT (T:TX b)(C_colours_of:ml b)(F:nT b.K b.mg):nW b:=bK (k:=2) (g:=j4) F mE rfl rfl λ f cdv A outer s H hr=>by
 have nd:=mE.nd;have hu:=dG hr;exact ak (aR 1 nd sY)
   (ak (f6 [0] L0 rfl (eU (bX (qv 0) aj)) (bP 2 nd)
   (az (Bp 1 hu (qv 2) sY)))
   (ak (f6 [0] L0 rfl (BS (bb C_colours_of hr (jS (qv 0)))) (uU rfl (fU (i:=3) nd rfl (by walk_at "l") (fU (i:=4) nd rfl (by walk_at "l") pC)))
   (ak (x9 1 hu (bX (qv 3) aj) (bX (qv 3) aj) (qv 4) (λ _ _=>rfl))
   (az (x9 1 hu (bX (qv 3) aj) (bX (qv 3) aj) (qv 4) (λ _ _=>rfl)))))
   (az (lu 1))))
abbrev k8:Stmt:=top 12
def jY:aW ["sight","members","member"] ["sight","members"] (aA k8):=oG
def ba:SF:=dI (eT (af oE (af c6 (aa 0) (aa 2)) (af c6 (aa 0) (af cz (aa 1) (eC (.int 0)))))) (du 2) aQ
abbrev kY (K:PySem.W.Frag)(mg:Str->Option Value):=nI K mg "first_apart" k8 ["sight","members"]
def fX:SF:=aC (bU [1] (eN (aa 1)) (gN 2) ba) (bM (eC .bg))
def cX:DF:=cB 2 3 (fX)
abbrev kU (b:Bd):=mJ b.P b.w b.K b.mg b.base 1 "first_apart" ["sight","members"] (kL b.K (cX))
def pT (T:TX b)  (F:kY b.K b.mg):kU b:=bK (k:=0) (g:=fX) F jY rfl rfl λ f cdv A outer s H hr=>by
 have nd:=jY.nd;have hu:=dG hr;exact ak (f6 [1] L0 rfl (eU (qv 1)) (bP 2 nd)
   (az (fg (aO uv A4 (ly hu (qv 0) (qv 2) (λ _ _=>rfl)) (ly hu (qv 0) (bX (qv 1) aj) (λ _ _=>rfl)))
   (az (lu 2))
   (bI))))
   (az (cD o9))
abbrev j3:Stmt:=top 13
def jy:aW ["sights","members","place","other"] ["sights","members"] (aA j3):=oG
def aY:SF:=dI (eT (af (inD true) (aa 2) (aa 1))) (aC (aV 3 (aB cX (ae (af c6 (aa 0) (aa 2)) (ae (aa 1) ao)))) (dI (eT (af (gm true) (aa 3) (eC .bg))) (bM (eA gD (ae (aa 2) (ae (af cz (aa 1) (eC (.int 0))) (ae (aa 3) ao))))) aQ)) aQ
abbrev jX (K:PySem.W.Frag)(mg:Str->Option Value):=nI K mg "teller_among" j3 ["sights","members"]
def fH:SF:=aC (bU [0] (nM (aa 0)) (gN 2) aY) (bM (eC .bg))
def cM:DF:=cB 2 4 (fH)
abbrev jW (b:Bd):=mJ b.P b.w b.K b.mg b.base 2 "teller_among" ["sights","members"] (kL b.K (cM))
def ow (T:TX b)(C_first_apart:kU b)(F:jX b.K b.mg):jW b:=bK (k:=1) (g:=fH) F jy rfl rfl λ f cdv A outer s H hr=>by
 have nd:=jy.nd;have hu:=dG hr;exact ak (f6 [0] L0 rfl (Ea (qv 0)) (bP 2 nd)
   (az (fg (aO fB (AL true) (qv 2) (qv 1))
   (ak (aR 3 nd (bb C_first_apart hr (jT (ly hu (qv 0) (qv 2) (λ _ _=>rfl)) (qv 1))))
   (az (fg (aO rW wc (qv 3) o9)
   (az (cD (uQ (aD (qv 2) (aD (bX (qv 1) aj) (aD (qv 3) cE))))))
   (bI))))
   (bI))))
   (az (cD o9))
abbrev nV:Stmt:=top 14
def mh:aW ["sight","members","shares","member"] ["sight","members"] (aA nV):=oG
def cy:SF:=ji 2 (af c6 (aa 0) (aa 3)) 3
abbrev nQ (K:PySem.W.Frag)(mg:Str->Option Value):=nI K mg "shares_by" nV ["sight","members"]
def j0:SF:=aC (aV 2 (dY false)) (aC (bU [1] (eN (aa 1)) (gN 3) cy) (pK 2))
def gf:DF:=cB 2 4 (j0)
abbrev nP (b:Bd):=mJ b.P b.w b.K b.mg b.base 1 "shares_by" ["sight","members"] (kL b.K (gf))
def tS (T:TX b)  (F:nQ b.K b.mg):nP b:=bK (k:=0) (g:=j0) F mh rfl rfl λ f cdv A outer s H hr=>by
 have nd:=mh.nd;have hu:=dG hr;exact ak (aR 2 nd sY)
   (ak (f6 [1] L0 rfl (eU (qv 1)) (bP 3 nd)
   (az (BL 2 3 (ly hu (qv 0) (qv 3) (λ _ _=>rfl)) (hin:=lK Nz M5 OA x6 (dg (i:=2) rfl (by first|exact Or.inl rfl|exact Or.inr (Or.inl rfl)|exact Or.inr (Or.inr rfl))) (cR (ly hu (qv 0) (qv 3) (λ _ _=>rfl)) (cR (sd dJ) dJ))) (hout:=lK Mh MU MV gI (lK Nz M5 OA x6 (dg (i:=2) rfl (by first|exact Or.inl rfl|exact Or.inr (Or.inl rfl)|exact Or.inr (Or.inr rfl))) (cR (ly hu (qv 0) (qv 3) (λ _ _=>rfl)) (cR (sd dJ) dJ))) (cR (dg (i:=3) rfl (by first|exact Or.inl rfl|exact Or.inr (Or.inl rfl)|exact Or.inr (Or.inr rfl))) dJ)))))
   (az (zF 2 rfl rfl T.pS)))
abbrev ie:Stmt:=top 15
def gR:aW ["net","some","waiting","sights","told","part","found"] ["net","some"] (aA ie):=oG
def bu:SD->Res Bool:=Jy (aa 2)
def a7:SF:=aC (rz 5 2) (aC (aV 6 (aB cM (ae (aa 3) (ae (aa 5) ao)))) (dI (eT (af (gm false) (aa 6) (eC .bg))) (u7 4 5) (BD 2 (aB gf (ae (af c6 (aa 3) (af cz (aa 6) (eC (.int 0)))) (ae (aa 5) ao))))))
abbrev ic (K:PySem.W.Frag)(mg:Str->Option Value):=nI K mg "greatest_within" ie ["net","some"]
def fG:SF:=aC (aV 2 (eA cA (ae (aB eK (ae (af cz (aa 0) (eC (.int 0))) (ae (aa 1) ao))) ao))) (aC (aV 3 (aB f7 (ae (aa 0) ao))) (aC (gn [3] (aV 4 (eA cA ao))) (aC (jR bu a7) (jU 4))))
def bL:DF:=cB 2 7 (fG)
abbrev ib (b:Bd):=mJ b.P b.w b.K b.mg b.base 4 "greatest_within" ["net","some"] (kL b.K (bL))
def lE (T:TX b)(C_checked_set:kZ b)(C_sights_of:nW b)(C_teller_among:jW b)(C_shares_by:nP b)(F:ic b.K b.mg):ib b:=bK (k:=3) (g:=fG) F gR rfl rfl λ f cdv A outer s H hr=>by
 have nd:=gR.nd;have hu:=dG hr;exact ak (aR 2 nd (gz (jS (bb C_checked_set hr (jT (bX (qv 0) aj) (qv 1))))))
   (ak (aR 3 nd (bb C_sights_of hr (jS (qv 0))))
   (ak (Bb [3] (aR 4 nd (gz cE)))
   (ak (xM L0 (GD (qv 2))
   (ak (GG 5 2 nd rfl (by walk_at "l"))
   (ak (aR 6 nd (bb C_teller_among hr (jT (qv 3) (qv 5))))
   (az (fg (aO F1 IA (qv 6) o9)
   (az (GH 4 5))
   (az (IL 2 (bb C_shares_by hr (jT (ly hu (qv 3) (bX (qv 6) aj) (λ _ _=>rfl)) (qv 5))))))))))
   (az (zB 4 (GI hr) rfl T.f9)))))
abbrev s_Lcell:Stmt:=top 17
def sc_Lcell:aW ["_law_script","_law_k"] ["_law_script","_law_k"] (aA s_Lcell):=oG
abbrev E_Lcell (K:PySem.W.Frag)(mg:Str->Option Value):=nI K mg "_law_cell" s_Lcell ["_law_script","_law_k"]
def g_Lcell:SF:=aC (dI (eT (af Js (aa 1) (eA dP (ae (aa 0) ao)))) (bM (af cz (aa 0) (aa 1))) aQ) (bM (eC (.int 0)))
def G_Lcell:DF:=cB 2 2 (g_Lcell)
abbrev Q_Lcell (b:Bd):=mJ b.P b.w b.K b.mg b.base 1 "_law_cell" ["_law_script","_law_k"] (kL b.K (G_Lcell))
def ok_Lcell (T:TX b)  (F:E_Lcell b.K b.mg):Q_Lcell b:=bK (k:=0) (g:=g_Lcell) F sc_Lcell rfl rfl λ f cdv A outer s H hr=>by
 have nd:=sc_Lcell.nd;have hu:=dG hr;exact ak (fg (aO ES Io (qv 1) (jg e7 nG T.nU (jS (qv 0))))
   (az (cD (bX (qv 0) (qv 1))))
   (bI))
   (az (cD aj))
abbrev s_Lmany:Stmt:=top 18
def sc_Lmany:aW ["_law_cell_here"] ["_law_cell_here"] (aA s_Lmany):=oG
abbrev E_Lmany (K:PySem.W.Frag)(mg:Str->Option Value):=nI K mg "_law_many" s_Lmany ["_law_cell_here"]
def g_Lmany:SF:=aC (dI (eT (af gJ (af bB (af bV (aa 0) (eC (.int 9))) (eC (.int 16))) (eC (.int 1)))) (bM (af bq (eC (.int 1)) (af bB (af bV (aa 0) (eC (.int 144))) (eC (.int 16))))) aQ) (bM (af bq (eC (.int 1)) (af bB (aa 0) (eC (.int 9)))))
def G_Lmany:DF:=cB 1 1 (g_Lmany)
abbrev Q_Lmany (b:Bd):=mJ b.P b.w b.K b.mg b.base 1 "_law_many" ["_law_cell_here"] (kL b.K (G_Lmany))
def ok_Lmany (T:TX b)  (F:E_Lmany b.K b.mg):Q_Lmany b:=bK (k:=0) (g:=g_Lmany) F sc_Lmany rfl rfl λ f cdv A outer s H hr=>by
 have nd:=sc_Lmany.nd;have hu:=dG hr;exact ak (fg (aO fu jb (aK bj b6 (aK bY cV (qv 0) aj) aj) aj)
   (az (cD (aK aT cC aj (aK bj b6 (aK bY cV (qv 0) aj) aj))))
   (bI))
   (az (cD (aK aT cC aj (aK bj b6 (qv 0) aj))))
abbrev s_Lmix:Stmt:=top 19
def sc_Lmix:aW ["_law_script","_law_at","_law_k","_law_many_here"] ["_law_script","_law_at","_law_k"] (aA s_Lmix):=oG
abbrev E_Lmix (K:PySem.W.Frag)(mg:Str->Option Value):=nI K mg "_law_mix" s_Lmix ["_law_script","_law_at","_law_k"]
def g_Lmix:SF:=aC (aV 3 (eA d9 (ae (eC (.int 1)) (ae (af DO (eA dP (ae (aa 0) ao)) (aa 1)) ao)))) (bM (af bB (af bq (af bq (af pe (aB G_Lcell (ae (aa 0) (ae (af bq (aa 1) (af bB (aa 2) (aa 3))) ao))) (eC (.int 48271))) (af pe (aa 2) (eC (.int 16807)))) (eC (.int 11))) (eC (.int 2147483647))))
def G_Lmix:DF:=cB 3 4 (g_Lmix)
abbrev Q_Lmix (b:Bd):=mJ b.P b.w b.K b.mg b.base 2 "_law_mix" ["_law_script","_law_at","_law_k"] (kL b.K (G_Lmix))
def ok_Lmix (T:TX b)(C_Lcell:Q_Lcell b)(F:E_Lmix b.K b.mg):Q_Lmix b:=bK (k:=1) (g:=g_Lmix) F sc_Lmix rfl rfl λ f cdv A outer s H hr=>by
 have nd:=sc_Lmix.nd;have hu:=dG hr;exact ak (aR 3 nd (jg (mQ rfl) wd T.Cf (jT aj (aK vJ A2 (jg e7 nG T.nU (jS (qv 0))) (qv 1)))))
   (az (cD (aK bj b6 (aK aT cC (aK aT cC (aK ja ph (bb C_Lcell hr (jT (qv 0) (aK aT cC (qv 1) (aK bj b6 (qv 2) (qv 3))))) aj) (aK ja ph (qv 2) aj)) aj) aj)))
abbrev s_Lplaces:Stmt:=top 20
def sc_Lplaces:aW ["_law_script","_law_at","_law_many_here","_law_head","_law_step","_law_number","_law_places_here","_law_k"] ["_law_script","_law_at","_law_many_here"] (aA s_Lplaces):=oG
def g_Lplaces_b1:SF:=aC (gW 6 (aa 5)) (aV 5 (af bq (af bq (aa 5) (eC (.int 1))) (af bB (af bV (aa 4) (af bq (aa 7) (eC (.int 1)))) (af cz (eA cA (ae (eC (.int 1)) (ae (eC (.int 3)) (ae (af qx (eC (.int 10)) (eC (.int 29))) ao)))) (af bB (aa 4) (eC (.int 3)))))))
abbrev E_Lplaces (K:PySem.W.Frag)(mg:Str->Option Value):=nI K mg "_law_places" s_Lplaces ["_law_script","_law_at","_law_many_here"]
def g_Lplaces:SF:=aC (aV 3 (aB G_Lcell (ae (aa 0) (ae (aa 1) ao)))) (aC (aV 4 (aB G_Lcell (ae (aa 0) (ae (af bq (aa 1) (eC (.int 1))) ao)))) (aC (aV 5 (af bB (af bV (aa 3) (eC (.int 2))) (eC (.int 4)))) (aC (dI (eT (af gJ (af bB (aa 3) (eC (.int 2))) (eC (.int 1)))) (aV 5 (af bB (af bV (aa 3) (eC (.int 2))) (af qx (eC (.int 10)) (eC (.int 30))))) aQ) (aC (aV 6 (eA cA ao)) (aC (bU [] (bE (ae (aa 2) ao)) (gN 7) g_Lplaces_b1) (du 6))))))
def G_Lplaces:DF:=cB 3 8 (g_Lplaces)
abbrev Q_Lplaces (b:Bd):=mJ b.P b.w b.K b.mg b.base 2 "_law_places" ["_law_script","_law_at","_law_many_here"] (kL b.K (G_Lplaces))
def ok_Lplaces (T:TX b)(C_Lcell:Q_Lcell b)(F:E_Lplaces b.K b.mg):Q_Lplaces b:=bK (k:=1) (g:=g_Lplaces) F sc_Lplaces rfl rfl λ f cdv A outer s H hr=>by
 have nd:=sc_Lplaces.nd;have hu:=dG hr;exact ak (aR 3 nd (bb C_Lcell hr (jT (qv 0) (qv 1))))
   (ak (aR 4 nd (bb C_Lcell hr (jT (qv 0) (aK aT cC (qv 1) aj))))
   (ak (aR 5 nd (aK bj b6 (aK bY cV (qv 3) aj) aj))
   (ak (fg (aO fu jb (aK bj b6 (qv 3) aj) aj)
   (az (aR 5 nd (aK bj b6 (aK bY cV (qv 3) aj) (aK rX xG aj aj))))
   (bI))
   (ak (aR 6 nd (gz cE))
   (ak (f6 [] L0 rfl (gK rfl T.kG (jS (qv 2))) (bP 7 nd)
   (ak (E5 6 (qv 5))
   (az (aR 5 nd (aK aT cC (aK aT cC (qv 5) aj) (aK bj b6 (aK bY cV (qv 4) (aK aT cC (qv 7) aj)) (bX (gz (aD aj (aD aj (aD (aK rX xG aj aj) cE)))) (aK bj b6 (qv 4) aj))))))))
   (az (lu 6)))))))
abbrev s_Lshade:Stmt:=top 21
def sc_Lshade:aW ["_law_script","_law_at","_law_k","_law_j","_law_head","_law_blocks","_law_one","_law_other","_law_number","_law_shades"] ["_law_script","_law_at","_law_k","_law_j"] (aA s_Lshade):=oG
abbrev E_Lshade (K:PySem.W.Frag)(mg:Str->Option Value):=nI K mg "_law_shade" s_Lshade ["_law_script","_law_at","_law_k","_law_j"]
def g_Lshade:SF:=aC (aV 4 (aB G_Lcell (ae (aa 0) (ae (af bq (aa 1) (eC (.int 2))) ao)))) (aC (aV 5 (af bq (eC (.int 1)) (af bB (af bV (aa 4) (eC (.int 4))) (eC (.int 4))))) (aC (aV 6 (af bB (af bV (aB G_Lmix (ae (aa 0) (ae (af bq (aa 1) (eC (.int 4))) (ae (af bq (eC (.int 300)) (aa 2)) ao)))) (eC (.int 3))) (aa 5))) (aC (aV 7 (af bB (af bV (aB G_Lmix (ae (aa 0) (ae (af bq (aa 1) (eC (.int 4))) (ae (af bq (eC (.int 300)) (aa 3)) ao)))) (eC (.int 3))) (aa 5))) (aC (aV 8 (af bV (aB G_Lmix (ae (aa 0) (ae (af bq (aa 1) (eC (.int 4))) (ae (af bq (af bV (af pe (aa 2) (af DO (aa 2) (eC (.int 1)))) (eC (.int 2))) (aa 3)) ao)))) (eC (.int 5)))) (aC (dI (iL (eT (af Js (af bB (aa 4) (eC (.int 4))) (eC (.int 2)))) (eT (af oE (aa 6) (aa 7)))) (aV 8 (af bV (aB G_Lmix (ae (aa 0) (ae (af bq (aa 1) (eC (.int 4))) (ae (af bq (af bq (eC (.int 400)) (af pe (eC (.int 4)) (eA d9 (ae (aa 6) (ae (aa 7) ao))))) (eA e8 (ae (aa 6) (ae (aa 7) ao)))) ao)))) (eC (.int 5)))) aQ) (aC (dI (iL (eT (af gJ (af bB (aa 4) (eC (.int 4))) (eC (.int 1)))) (eT (af gJ (af bq (af bV (af pe (aa 2) (af DO (aa 2) (eC (.int 1)))) (eC (.int 2))) (aa 3)) (af bB (af bV (aa 4) (eC (.int 32))) (eC (.int 36)))))) (aV 8 (af bq (aa 8) (eC (.int 1)))) aQ) (aC (dI (iL (eT (af gJ (af bB (aa 4) (eC (.int 4))) (eC (.int 2)))) (eT (af gJ (af bB (af bV (aa 4) (eC (.int 4))) (eC (.int 2))) (eC (.int 1))))) (bM (af bB (aa 8) (af qx (eC (.int 10)) (eC (.int 8))))) aQ) (aC (aV 9 (eA cA (ae (eC (.int 0)) (ae (af bq (eC (.int 1)) (af bB (aB G_Lcell (ae (aa 0) (ae (af bq (aa 1) (eC (.int 3))) ao))) (af qx (eC (.int 10)) (eC (.int 30))))) (ae (af bB (af bV (aB G_Lcell (ae (aa 0) (ae (af bq (aa 1) (eC (.int 3))) ao))) (eC (.int 9))) (eC (.int 5))) ao))))) (bM (af cz (aa 9) (af bB (aa 8) (af bq (eC (.int 2)) (af bB (af bV (aa 4) (eC (.int 16))) (eC (.int 2)))))))))))))))
def G_Lshade:DF:=cB 4 10 (g_Lshade)
abbrev Q_Lshade (b:Bd):=mJ b.P b.w b.K b.mg b.base 3 "_law_shade" ["_law_script","_law_at","_law_k","_law_j"] (kL b.K (G_Lshade))
def ok_Lshade (T:TX b)(C_Lcell:Q_Lcell b)(C_Lmix:Q_Lmix b)(F:E_Lshade b.K b.mg):Q_Lshade b:=bK (k:=2) (g:=g_Lshade) F sc_Lshade rfl rfl λ f cdv A outer s H hr=>by
 have nd:=sc_Lshade.nd;have hu:=dG hr;exact ak (aR 4 nd (bb C_Lcell hr (jT (qv 0) (aK aT cC (qv 1) aj))))
   (ak (aR 5 nd (aK aT cC aj (aK bj b6 (aK bY cV (qv 4) aj) aj)))
   (ak (aR 6 nd (aK bj b6 (aK bY cV (bb C_Lmix hr (aD (qv 0) (aD (aK aT cC (qv 1) aj) (aD (aK aT cC aj (qv 2)) cE)))) aj) (qv 5)))
   (ak (aR 7 nd (aK bj b6 (aK bY cV (bb C_Lmix hr (aD (qv 0) (aD (aK aT cC (qv 1) aj) (aD (aK aT cC aj (qv 3)) cE)))) aj) (qv 5)))
   (ak (aR 8 nd (aK bY cV (bb C_Lmix hr (aD (qv 0) (aD (aK aT cC (qv 1) aj) (aD (aK aT cC (aK bY cV (aK ja ph (qv 2) (aK vJ A2 (qv 2) aj)) aj) (qv 3)) cE)))) aj))
   (ak (fg (L2.PW.pt (wb (aO ES Io (aK bj b6 (qv 4) aj) aj) (sM (aO uv A4 (qv 6) (qv 7)))))
   (az (aR 8 nd (aK bY cV (bb C_Lmix hr (aD (qv 0) (aD (aK aT cC (qv 1) aj) (aD (aK aT cC (aK aT cC aj (aK ja ph aj (jg (mQ rfl) wd T.Cf (jT (qv 6) (qv 7))))) (jg (qN rfl) A7 T.Fb (jT (qv 6) (qv 7)))) cE)))) aj)))
   (bI))
   (ak (fg (L2.PW.pt (wb (aO fu jb (aK bj b6 (qv 4) aj) aj) (sM (aO fu jb (aK aT cC (aK bY cV (aK ja ph (qv 2) (aK vJ A2 (qv 2) aj)) aj) (qv 3)) (aK bj b6 (aK bY cV (qv 4) aj) aj)))))
   (az (aR 8 nd (aK aT cC (qv 8) aj)))
   (bI))
   (ak (fg (L2.PW.pt (wb (aO fu jb (aK bj b6 (qv 4) aj) aj) (sM (aO fu jb (aK bj b6 (aK bY cV (qv 4) aj) aj) aj))))
   (az (cD (aK bj b6 (qv 8) (aK rX xG aj aj))))
   (bI))
   (ak (aR 9 nd (gz (aD aj (aD (aK aT cC aj (aK bj b6 (bb C_Lcell hr (jT (qv 0) (aK aT cC (qv 1) aj))) (aK rX xG aj aj))) (aD (aK bj b6 (aK bY cV (bb C_Lcell hr (jT (qv 0) (aK aT cC (qv 1) aj))) aj) aj) cE)))))
   (az (cD (bX (qv 9) (aK bj b6 (qv 8) (aK aT cC aj (aK bj b6 (aK bY cV (qv 4) aj) aj))))))))))))))
abbrev s_Lnet:Stmt:=top 22
def sc_Lnet:aW ["_law_script","_law_at","_law_many_here","_law_rows"] ["_law_script","_law_at","_law_many_here"] (aA s_Lnet):=oG
def g_Lnet_e1:SD->Res D:=aB G_Lshade (ae (aa 1) (ae (aa 2) (ae (aa 3) (ae (aa 0) ao))))
def g_Lnet_e2:SD->Res D:=eA cO (ae (bw (bE (ae (aa 0) ao)) (gN 0) bW g_Lnet_e1 1 [("_law_script",1),("_law_at",2),("_law_k",0)]) ao)
abbrev E_Lnet (K:PySem.W.Frag)(mg:Str->Option Value):=nI K mg "_law_net" s_Lnet ["_law_script","_law_at","_law_many_here"]
def g_Lnet:SF:=aC (aV 3 (bw (bE (ae (aa 2) ao)) (gN 0) bW g_Lnet_e2 1 [("_law_script",0),("_law_at",1)])) (bM (eA gD (ae (eA cO (ae (aB G_Lplaces (ae (aa 0) (ae (aa 1) (ae (aa 2) ao)))) ao)) (ae (eA cO (ae (aa 3) ao)) ao))))
def G_Lnet:DF:=cB 3 4 (g_Lnet)
abbrev Q_Lnet (b:Bd):=mJ b.P b.w b.K b.mg b.base 4 "_law_net" ["_law_script","_law_at","_law_many_here"] (kL b.K (G_Lnet))
def ok_Lnet (T:TX b)(C_Lplaces:Q_Lplaces b)(C_Lshade:Q_Lshade b)(F:E_Lnet b.K b.mg):Q_Lnet b:=bK (k:=3) (g:=g_Lnet) F sc_Lnet rfl rfl λ f cdv A outer s H hr=>by
 have nd:=sc_Lnet.nd;have hu:=dG hr;exact ak (jh 3 nd (own:=["_law_k"]) (cap:=[("_law_script",0),("_law_at",1)]) (dD _ rfl _ rfl (by kernel_rfl)) rfl (gK rfl T.kG (jS (qv 2))) ⟨λ _ _ _ _ _=>bP 0 (qA ["_law_k","_law_script","_law_at"]),λ _ _ _ _ _=>ky,λ _ _ _ _ _=>BF iu sR T.tU (jS (mX (own:=["_law_j"]) (cap:=[("_law_script",1),("_law_at",2),("_law_k",0)]) (dD _ rfl _ rfl (by kernel_rfl)) rfl (gK rfl T.kG (jS (qv 0))) ⟨λ _ _ _ _ _=>bP 0 (qA ["_law_j","_law_script","_law_at","_law_k"]),λ _ _ _ _ _=>ky,λ _ _ _ _ _=>bb C_Lshade hr (aD (qv 1) (aD (qv 2) (aD (qv 3) (aD (qv 0) cE))))⟩))⟩)
   (az (cD (uQ (jT (BF iu sR T.tU (jS (bb C_Lplaces hr (aD (qv 0) (aD (qv 1) (aD (qv 2) cE)))))) (BF iu sR T.tU (jS (qv 3)))))))
abbrev s_Lshown:Stmt:=top 23
def sc_Lshown:aW ["_law_net_here","_law_k","_law_j"] ["_law_net_here","_law_k","_law_j"] (aA s_Lshown):=oG
abbrev E_Lshown (K:PySem.W.Frag)(mg:Str->Option Value):=nI K mg "_law_shown" s_Lshown ["_law_net_here","_law_k","_law_j"]
def g_Lshown:SF:=bM (af cz (af cz (af cz (aa 0) (eC (.int 1))) (eA d9 (ae (aa 1) (ae (aa 2) ao)))) (eA e8 (ae (aa 1) (ae (aa 2) ao))))
def G_Lshown:DF:=cB 3 3 (g_Lshown)
abbrev Q_Lshown (b:Bd):=mJ b.P b.w b.K b.mg b.base 1 "_law_shown" ["_law_net_here","_law_k","_law_j"] (kL b.K (G_Lshown))
def ok_Lshown (T:TX b)  (F:E_Lshown b.K b.mg):Q_Lshown b:=bK (k:=0) (g:=g_Lshown) F sc_Lshown rfl rfl λ f cdv A outer s H hr=>by
 have nd:=sc_Lshown.nd;have hu:=dG hr;exact az (cD (bX (bX (bX (qv 0) aj) (jg (mQ rfl) wd T.Cf (jT (qv 1) (qv 2)))) (jg (qN rfl) A7 T.Fb (jT (qv 1) (qv 2)))))
abbrev s_Lteller:Stmt:=top 24
def sc_Lteller:aW ["_law_net_here","_law_inside_here","_law_k","_law_j"] ["_law_net_here","_law_inside_here"] (aA s_Lteller):=oG
def g_Lteller_b1:SF:=dI (eT (af oE (aB G_Lshown (ae (aa 0) (ae (aa 2) (ae (aa 3) ao)))) (aB G_Lshown (ae (aa 0) (ae (aa 2) (ae (af cz (aa 1) (eC (.int 0))) ao)))))) (bM (eA gD (ae (aa 2) (ae (af cz (aa 1) (eC (.int 0))) (ae (aa 3) ao))))) aQ
def g_Lteller_b2:SF:=dI (eT (af (inD true) (aa 2) (aa 1))) (bU [1] (eN (cZ (aa 1) (eP (eC (.int 1))) lj)) (gN 3) g_Lteller_b1) aQ
abbrev E_Lteller (K:PySem.W.Frag)(mg:Str->Option Value):=nI K mg "_law_teller" s_Lteller ["_law_net_here","_law_inside_here"]
def g_Lteller:SF:=aC (bU [] (bE (ae (eA dP (ae (af cz (aa 0) (eC (.int 0))) ao)) ao)) (gN 2) g_Lteller_b2) (bM (eC .bg))
def G_Lteller:DF:=cB 2 4 (g_Lteller)
abbrev Q_Lteller (b:Bd):=mJ b.P b.w b.K b.mg b.base 2 "_law_teller" ["_law_net_here","_law_inside_here"] (kL b.K (G_Lteller))
def ok_Lteller (T:TX b)(C_Lshown:Q_Lshown b)(F:E_Lteller b.K b.mg):Q_Lteller b:=bK (k:=1) (g:=g_Lteller) F sc_Lteller rfl rfl λ f cdv A outer s H hr=>by
 have nd:=sc_Lteller.nd;have hu:=dG hr;exact ak (f6 [] L0 rfl (gK rfl T.kG (jS (jg e7 nG T.nU (jS (bX (qv 0) aj))))) (bP 2 nd)
   (az (fg (aO fB (AL true) (qv 2) (qv 1))
   (az (f6 [1] L0 rfl (eU (jc (qv 1) (gC aj) lQ)) (bP 3 nd)
   (az (fg (aO uv A4 (bb C_Lshown hr (aD (qv 0) (aD (qv 2) (aD (qv 3) cE)))) (bb C_Lshown hr (aD (qv 0) (aD (qv 2) (aD (bX (qv 1) aj) cE)))))
   (az (cD (uQ (aD (qv 2) (aD (bX (qv 1) aj) (aD (qv 3) cE))))))
   (bI)))))
   (bI))))
   (az (cD o9))
abbrev s_Lclosed:Stmt:=top 25
def sc_Lclosed:aW ["_law_net_here","_law_inside_here","_law_found"] ["_law_net_here","_law_inside_here"] (aA s_Lclosed):=oG
def g_Lclosed_w1:SD->Res Bool:=eT (af (gm true) (aa 2) (eC .bg))
def g_Lclosed_b2:SF:=aC (aV 1 (eA aX (ae (af bq (aa 1) (eA cA (ae (af cz (aa 2) (eC (.int 0))) ao))) ao))) (aV 2 (aB G_Lteller (ae (aa 0) (ae (aa 1) ao))))
abbrev E_Lclosed (K:PySem.W.Frag)(mg:Str->Option Value):=nI K mg "_law_closed" s_Lclosed ["_law_net_here","_law_inside_here"]
def g_Lclosed:SF:=aC (aV 2 (aB G_Lteller (ae (aa 0) (ae (aa 1) ao)))) (aC (jR g_Lclosed_w1 g_Lclosed_b2) (du 1))
def G_Lclosed:DF:=cB 2 3 (g_Lclosed)
abbrev Q_Lclosed (b:Bd):=mJ b.P b.w b.K b.mg b.base 3 "_law_closed" ["_law_net_here","_law_inside_here"] (kL b.K (G_Lclosed))
def ok_Lclosed (T:TX b)(C_Lteller:Q_Lteller b)(F:E_Lclosed b.K b.mg):Q_Lclosed b:=bK (k:=2) (g:=g_Lclosed) F sc_Lclosed rfl rfl λ f cdv A outer s H hr=>by
 have nd:=sc_Lclosed.nd;have hu:=dG hr;exact ak (aR 2 nd (bb C_Lteller hr (jT (qv 0) (qv 1))))
   (ak (xM L0 (aO rW wc (qv 2) o9)
   (ak (aR 1 nd (jg eY iQ T.f9 (jS (aK aT cC (qv 1) (gz (jS (bX (qv 2) aj)))))))
   (az (aR 2 nd (bb C_Lteller hr (jT (qv 0) (qv 1)))))))
   (az (lu 1)))
abbrev s_Linside:Stmt:=top 26
def sc_Linside:aW ["_law_net_here","_law_number","_law_many_here","_law_way","_law_rest","_law_pair"] ["_law_net_here","_law_number"] (aA s_Linside):=oG
def g_Linside_c1:SD->Res Bool:=eT (af oE (aa 0) (af cz (aa 1) (eC (.int 0))))
def g_Linside_e2:SD->Res D:=aa 0
def g_Linside_c3:SD->Res Bool:=mK (eT (af oE (aa 0) (af bB (aa 1) (aa 2)))) (eT (af gJ (aa 2) (eC (.int 1))))
def g_Linside_e4:SD->Res D:=aa 0
def g_Linside_c5:SD->Res Bool:=mK (eT (af gJ (af bB (af Gf (aa 1) (af bB (aa 0) (eC (.int 20)))) (eC (.int 2))) (eC (.int 1)))) (eT (af gJ (aa 0) (af bB (aa 1) (aa 2))))
def g_Linside_e6:SD->Res D:=aa 0
abbrev E_Linside (K:PySem.W.Frag)(mg:Str->Option Value):=nI K mg "_law_inside" s_Linside ["_law_net_here","_law_number"]
def g_Linside:SF:=aC (aV 2 (eA dP (ae (af cz (aa 0) (eC (.int 0))) ao))) (aC (aV 3 (af bB (aa 1) (eC (.int 5)))) (aC (aV 4 (af bV (aa 1) (eC (.int 5)))) (aC (dI (eT (af gJ (aa 3) (eC (.int 0)))) (bM (eA cA (ae (af bB (aa 4) (aa 2)) ao))) aQ) (aC (dI (eT (af gJ (aa 3) (eC (.int 1)))) (bM (bw (bE (ae (aa 2) ao)) (gN 0) g_Linside_c5 g_Linside_e6 1 [("_law_rest",4),("_law_many_here",2)])) aQ) (aC (dI (eT (af gJ (aa 3) (eC (.int 2)))) (bM (bw (bE (ae (aa 2) ao)) (gN 0) g_Linside_c3 g_Linside_e4 1 [("_law_rest",4),("_law_many_here",2)])) aQ) (aC (aV 5 (eA aX (ae (eA cA (ae (af bB (aa 4) (aa 2)) (ae (af bB (af bV (aa 4) (eC (.int 31))) (aa 2)) ao))) ao))) (aC (dI (mK (eT (af gJ (aa 3) (eC (.int 3)))) (eT (af gJ (af cz (aa 5) (eC (.int 0))) (af cz (aa 5) (eC (.int 1)))))) (bM (af bq (cZ (aa 5) lj (eP (eC (.int 1)))) (bw (eN (cZ (aa 5) (eP (eC (.int 1))) lj)) (gN 0) g_Linside_c1 g_Linside_e2 1 [("_law_pair",5)]))) aQ) (gn [5] (bM (aB G_Lclosed (ae (aa 0) (ae (aa 5) ao))))))))))))
def G_Linside:DF:=cB 2 6 (g_Linside)
abbrev Q_Linside (b:Bd):=mJ b.P b.w b.K b.mg b.base 4 "_law_inside" ["_law_net_here","_law_number"] (kL b.K (G_Linside))
def ok_Linside (T:TX b)(C_Lclosed:Q_Lclosed b)(F:E_Linside b.K b.mg):Q_Linside b:=bK (k:=3) (g:=g_Linside) F sc_Linside rfl rfl λ f cdv A outer s H hr=>by
 have nd:=sc_Linside.nd;have hu:=dG hr;exact ak (aR 2 nd (jg e7 nG T.nU (jS (bX (qv 0) aj))))
   (ak (aR 3 nd (aK bj b6 (qv 1) aj))
   (ak (aR 4 nd (aK bY cV (qv 1) aj))
   (ak (fg (aO fu jb (qv 3) aj)
   (az (cD (gz (jS (aK bj b6 (qv 4) (qv 2))))))
   (bI))
   (ak (fg (aO fu jb (qv 3) aj)
   (az (cD (mX (own:=["_law_k"]) (cap:=[("_law_rest",4),("_law_many_here",2)]) (dD _ rfl _ rfl (by kernel_rfl)) rfl (gK rfl T.kG (jS (qv 2))) ⟨λ _ _ _ _ _=>bP 0 (qA ["_law_k","_law_rest","_law_many_here"]),λ _ _ _ _ _=>oF (L2.PW.pt (pA (aO fu jb (aK bj b6 (aK FT Im (qv 1) (aK bj b6 (qv 0) aj)) aj) aj) (lq (aO fu jb (qv 0) (aK bj b6 (qv 1) (qv 2)))))),λ _ _ _ _ _=>qv 0⟩)))
   (bI))
   (ak (fg (aO fu jb (qv 3) aj)
   (az (cD (mX (own:=["_law_k"]) (cap:=[("_law_rest",4),("_law_many_here",2)]) (dD _ rfl _ rfl (by kernel_rfl)) rfl (gK rfl T.kG (jS (qv 2))) ⟨λ _ _ _ _ _=>bP 0 (qA ["_law_k","_law_rest","_law_many_here"]),λ _ _ _ _ _=>oF (L2.PW.pt (pA (aO uv A4 (qv 0) (aK bj b6 (qv 1) (qv 2))) (lq (aO fu jb (qv 2) aj)))),λ _ _ _ _ _=>qv 0⟩)))
   (bI))
   (ak (aR 5 nd (jg eY iQ T.f9 (jS (gz (jT (aK bj b6 (qv 4) (qv 2)) (aK bj b6 (aK bY cV (qv 4) aj) (qv 2)))))))
   (ak (fg (L2.PW.pt (pA (aO fu jb (qv 3) aj) (lq (aO fu jb (bX (qv 5) aj) (bX (qv 5) aj)))))
   (az (cD (aK aT cC (jc (qv 5) lQ (gC aj)) (mX (own:=["_law_k"]) (cap:=[("_law_pair",5)]) (dD _ rfl _ rfl (by kernel_rfl)) rfl (eU (jc (qv 5) (gC aj) lQ)) ⟨λ _ _ _ _ _=>bP 0 (qA ["_law_k","_law_pair"]),λ _ _ _ _ _=>oF (aO uv A4 (qv 0) (bX (qv 1) aj)),λ _ _ _ _ _=>qv 0⟩))))
   (bI))
   (az (Bb [5] (cD (bb C_Lclosed hr (jT (qv 0) (qv 5)))))))))))))
abbrev s_Lhanded:Stmt:=top 27
def sc_Lhanded:aW ["_law_net_here","_law_inside_here","_law_number","_law_some"] ["_law_net_here","_law_inside_here","_law_number"] (aA s_Lhanded):=oG
def g_Lhanded_e1:SD->Res D:=af cz (af cz (aa 1) (eC (.int 0))) (aa 0)
abbrev E_Lhanded (K:PySem.W.Frag)(mg:Str->Option Value):=nI K mg "_law_handed" s_Lhanded ["_law_net_here","_law_inside_here","_law_number"]
def g_Lhanded:SF:=aC (aV 3 (bw (eN (aa 1)) (gN 0) bW g_Lhanded_e1 1 [("_law_net_here",0)])) (aC (dI (eT (af gJ (af bB (aa 2) (eC (.int 3))) (eC (.int 1)))) (aV 3 (af bq (aa 3) (cZ (aa 3) lj (eP (af bq (eC (.int 1)) (af bB (af bV (aa 2) (eC (.int 3))) (eC (.int 3)))))))) aQ) (aC (dI (eT (af gJ (af bB (af bV (aa 2) (eC (.int 9))) (eC (.int 2))) (eC (.int 1)))) (iP 3) aQ) (du 3)))
def G_Lhanded:DF:=cB 3 4 (g_Lhanded)
abbrev Q_Lhanded (b:Bd):=mJ b.P b.w b.K b.mg b.base 1 "_law_handed" ["_law_net_here","_law_inside_here","_law_number"] (kL b.K (G_Lhanded))
def ok_Lhanded (T:TX b)  (F:E_Lhanded b.K b.mg):Q_Lhanded b:=bK (k:=0) (g:=g_Lhanded) F sc_Lhanded rfl rfl λ f cdv A outer s H hr=>by
 have nd:=sc_Lhanded.nd;have hu:=dG hr;exact ak (jh 3 nd (own:=["_law_k"]) (cap:=[("_law_net_here",0)]) (dD _ rfl _ rfl (by kernel_rfl)) rfl (eU (qv 1)) ⟨λ _ _ _ _ _=>bP 0 (qA ["_law_k","_law_net_here"]),λ _ _ _ _ _=>ky,λ _ _ _ _ _=>bX (bX (qv 1) aj) (qv 0)⟩)
   (ak (fg (aO fu jb (aK bj b6 (qv 2) aj) aj)
   (az (aR 3 nd (aK aT cC (qv 3) (jc (qv 3) lQ (gC (aK aT cC aj (aK bj b6 (aK bY cV (qv 2) aj) aj)))))))
   (bI))
   (ak (fg (aO fu jb (aK bj b6 (aK bY cV (qv 2) aj) aj) aj)
   (az (ID 3))
   (bI))
   (az (lu 3))))
abbrev s_Lwhole:Stmt:=top 28
def sc_Lwhole:aW ["_law_found"] ["_law_found"] (aA s_Lwhole):=oG
abbrev E_Lwhole (K:PySem.W.Frag)(mg:Str->Option Value):=nI K mg "_law_whole" s_Lwhole ["_law_found"]
def g_Lwhole:SF:=bM (jB (kK (c9 uu) (aa 0)) (jA (kK (c9 ur) (aa 0))))
def G_Lwhole:DF:=cB 1 1 (g_Lwhole)
abbrev Q_Lwhole (b:Bd):=mJ b.P b.w b.K b.mg b.base 1 "_law_whole" ["_law_found"] (kL b.K (G_Lwhole))
def ok_Lwhole (T:TX b)  (F:E_Lwhole b.K b.mg):Q_Lwhole b:=bK (k:=0) (g:=g_Lwhole) F sc_Lwhole rfl rfl λ f cdv A outer s H hr=>by
 have nd:=sc_Lwhole.nd;have hu:=dG hr;exact az (cD (Ip (sX (ty:=.Name "int" ⟨0,0,0,0⟩) Bm rfl T.gG (qv 0) rfl T.Ja (by decide +kernel)) (Ir (Iq (sX (ty:=.Name "bool" ⟨0,0,0,0⟩) zt rfl T.gG (qv 0) rfl T.GV (by decide +kernel))))))
abbrev s_Lparts:Stmt:=top 29
def sc_Lparts:aW ["_law_net_here","_law_found","_law_parts_here","_law_part","_law_place"] ["_law_net_here","_law_found"] (aA s_Lparts):=oG
def g_Lparts_e1:SD->Res D:=D0 (af cz (aa 1) (eC (.int 0))) (aa 0)
def g_Lparts_b2:SF:=dI (mK (gk (eT (aB G_Lwhole (ae (aa 4) ao)))) (eT (af (inD true) (aa 4) (af cz (aa 0) (eC (.int 0)))))) (bM (eA cA ao)) aQ
def g_Lparts_b3:SF:=aC (dI (mK (gk (eT (kK (c9 qg) (aa 3)))) (eT (af gJ (eA dP (ae (aa 3) ao)) (eC (.int 0))))) (bM (eA cA ao)) aQ) (aC (bU [3] (eN (aa 3)) (gN 4) g_Lparts_b2) (aC (gW 2 (bw (eN (aa 3)) (gN 0) bW g_Lparts_e1 1 [("_law_net_here",0)])) (dI (eT (af (wx true) (af cz (aa 2) (kK iM (eC (.int 1)))) (eA aX (ae (af cz (aa 2) (kK iM (eC (.int 1)))) ao)))) (bM (eA cA ao)) aQ)))
abbrev E_Lparts (K:PySem.W.Frag)(mg:Str->Option Value):=nI K mg "_law_parts" s_Lparts ["_law_net_here","_law_found"]
def g_Lparts:SF:=aC (aV 2 (eA cA ao)) (aC (bU [1] (eN (aa 1)) (gN 3) g_Lparts_b3) (du 2))
def G_Lparts:DF:=cB 2 5 (g_Lparts)
abbrev Q_Lparts (b:Bd):=mJ b.P b.w b.K b.mg b.base 2 "_law_parts" ["_law_net_here","_law_found"] (kL b.K (G_Lparts))
def ok_Lparts (T:TX b)(C_Lwhole:Q_Lwhole b)(F:E_Lparts b.K b.mg):Q_Lparts b:=bK (k:=1) (g:=g_Lparts) F sc_Lparts rfl rfl λ f cdv A outer s H hr=>by
 have nd:=sc_Lparts.nd;have hu:=dG hr;exact ak (aR 2 nd (gz cE))
   (ak (f6 [1] L0 rfl (eU (qv 1)) (bP 3 nd)
   (ak (fg (L2.PW.pt (pA (sN (sJ (sX (ty:=.Name "list" ⟨0,0,0,0⟩) q9 rfl T.gG (qv 3) rfl T.pS (by decide +kernel)))) (lq (aO fu jb (jg e7 nG T.nU (jS (qv 3))) aj))))
   (az (cD (gz cE)))
   (bI))
   (ak (f6 [3] L0 rfl (eU (qv 3)) (bP 4 nd)
   (az (fg (L2.PW.pt (pA (sN (sJ (bb C_Lwhole hr (jS (qv 4))))) (lq (aO fB (AL true) (qv 4) (bX (qv 0) aj)))))
   (az (cD (gz cE)))
   (bI))))
   (ak (E5 2 (mX (own:=["_law_place"]) (cap:=[("_law_net_here",0)]) (dD _ rfl _ rfl (by kernel_rfl)) rfl (eU (qv 3)) ⟨λ _ _ _ _ _=>bP 0 (qA ["_law_place","_law_net_here"]),λ _ _ _ _ _=>ky,λ _ _ _ _ _=>IP (bX (qv 1) aj) (qv 0)⟩))
   (az (fg (mW (tF hu) (xW true) (bX (qv 2) (E3 aj)) (jg eY iQ T.f9 (jS (bX (qv 2) (E3 aj)))) (mP _))
   (az (cD (gz cE)))
   (bI)))))))
   (az (lu 2)))
abbrev s_Lright:Stmt:=top 30
def sc_Lright:aW ["_law_net_here","_law_inside_here","_law_found","_law_parts_here","_law_row","_law_part","_law_heads","_law_k","_law_other","_law_both"] ["_law_net_here","_law_inside_here","_law_found"] (aA s_Lright):=oG
def g_Lright_c1:SD->Res Bool:=eT (af (inD true) (aa 0) (aa 1))
def g_Lright_e2:SD->Res D:=aa 0
def g_Lright_b3:SF:=aC (aV 9 (aB G_Lclosed (ae (aa 0) (ae (eA aX (ae (eA cA (ae (af cz (aa 8) (eC (.int 0))) (ae (af cz (aa 5) (eC (.int 0))) ao))) ao)) ao)))) (dI (eT (af gJ (eA dP (ae (bw (eN (aa 9)) (gN 0) g_Lright_c1 g_Lright_e2 1 [("_law_inside_here",1)]) ao)) (eC (.int 0)))) (bM (eC (.bl false))) aQ)
def g_Lright_b4:SF:=aC (dI (eT (af (gm true) (aB G_Lteller (ae (aa 0) (ae (aa 5) ao))) (eC .bg))) (bM (eC (.bl false))) aQ) (bU [3,7] (eN (cZ (aa 3) lj (eP (aa 7)))) (gN 8) g_Lright_b3)
def g_Lright_e5:SD->Res D:=af cz (aa 0) (eC (.int 0))
def g_Lright_b6:SF:=vd 4 (aa 5)
abbrev E_Lright (K:PySem.W.Frag)(mg:Str->Option Value):=nI K mg "_law_right" s_Lright ["_law_net_here","_law_inside_here","_law_found"]
def g_Lright:SF:=aC (dI (gk (eT (kK (c9 qg) (aa 2)))) (bM (eC (.bl false))) aQ) (aC (aV 3 (aB G_Lparts (ae (aa 0) (ae (aa 2) ao)))) (aC (gn [3] (aV 4 (eA cA ao))) (aC (bU [3] (eN (aa 3)) (gN 5) g_Lright_b6) (aC (aV 6 (bw (eN (aa 3)) (gN 0) bW g_Lright_e5 1 [])) (aC (dI (mK (eT (af (wx true) (eA aX (ae (aa 4) ao)) (aa 1))) (eT (af (wx true) (aa 6) (eA aX (ae (aa 6) ao))))) (bM (eC (.bl false))) aQ) (aC (bU [3] (cY (ae (aa 3) ao)) (gT 2 (aM 7 (aM 5 cJ))) g_Lright_b4) (bM (eC (.bl true)))))))))
def G_Lright:DF:=cB 3 10 (g_Lright)
abbrev Q_Lright (b:Bd):=mJ b.P b.w b.K b.mg b.base 4 "_law_right" ["_law_net_here","_law_inside_here","_law_found"] (kL b.K (G_Lright))
def ok_Lright (T:TX b)(C_Lteller:Q_Lteller b)(C_Lclosed:Q_Lclosed b)(C_Lparts:Q_Lparts b)(F:E_Lright b.K b.mg):Q_Lright b:=bK (k:=3) (g:=g_Lright) F sc_Lright rfl rfl λ f cdv A outer s H hr=>by
 have nd:=sc_Lright.nd;have hu:=dG hr;exact ak (fg (sN (sJ (sX (ty:=.Name "list" ⟨0,0,0,0⟩) q9 rfl T.gG (qv 2) rfl T.pS (by decide +kernel))))
   (az (cD uO))
   (bI))
   (ak (aR 3 nd (bb C_Lparts hr (jT (qv 0) (qv 2))))
   (ak (Bb [3] (aR 4 nd (gz cE)))
   (ak (f6 [3] L0 rfl (eU (qv 3)) (bP 5 nd)
   (az (GK 4 (qv 5))))
   (ak (jh 6 nd (own:=["_law_part"]) (cap:=[]) (dD _ rfl _ rfl (by kernel_rfl)) rfl (eU (qv 3)) ⟨λ _ _ _ _ _=>bP 0 (qA ["_law_part"]),λ _ _ _ _ _=>ky,λ _ _ _ _ _=>bX (qv 0) aj⟩)
   (ak (fg (L2.PW.pt (pA (mW (tF hu) (xW true) (jg eY iQ T.f9 (jS (qv 4))) (qv 1) (mP _)) (lq (mW (tF hu) (xW true) (qv 6) (jg eY iQ T.f9 (jS (qv 6))) (mP _)))))
   (az (cD uO))
   (bI))
   (ak (f6 [3] L0 rfl (xK rfl T.nS (jS (qv 3))) (uU rfl (fU (i:=7) nd rfl (by walk_at "l") (fU (i:=5) nd rfl (by walk_at "l") pC)))
   (ak (fg (aO rW wc (bb C_Lteller hr (jT (qv 0) (qv 5))) o9)
   (az (cD uO))
   (bI))
   (az (f6 [3,7] L0 rfl (eU (jc (qv 3) lQ (gC (qv 7)))) (bP 8 nd)
   (ak (aR 9 nd (bb C_Lclosed hr (jT (qv 0) (jg eY iQ T.f9 (jS (gz (jT (bX (qv 8) aj) (bX (qv 5) aj))))))))
   (az (fg (aO fu jb (jg e7 nG T.nU (jS (mX (own:=["_law_j"]) (cap:=[("_law_inside_here",1)]) (dD _ rfl _ rfl (by kernel_rfl)) rfl (eU (qv 9)) ⟨λ _ _ _ _ _=>bP 0 (qA ["_law_j","_law_inside_here"]),λ _ _ _ _ _=>oF (aO fB (AL true) (qv 0) (qv 1)),λ _ _ _ _ _=>qv 0⟩))) aj)
   (az (cD uO))
   (bI))))))))
   (az (cD uO))))))))
abbrev mC:Stmt:=top 31
def Ci:aW ["_law_script","_law_net_here","_law_cells","_law_k","_law_cell_here","_law_number","_law_inside_here","_law_some","_law_handed_here","_law_found","_law_kept","_law_part"] ["_law_script"] (aA mC):=oG
def mD:SD->Res D:=eA d8 (ae (aa 0) ao)
def iV:SF:=aC (aV 5 (af bB (af bq (af pe (aa 4) (eC (.int 48271))) (af pe (aa 3) (eC (.int 16807)))) (eC (.int 2147483647)))) (aC (aV 6 (aB G_Linside (ae (aa 1) (ae (aa 5) ao)))) (aC (aV 7 (aB G_Lhanded (ae (aa 1) (ae (aa 6) (ae (af bV (aa 5) (eC (.int 7))) ao))))) (aC (aV 8 (eA d8 (ae (aa 7) ao))) (aC (aV 9 (aB bL (ae (aa 1) (ae (aa 8) ao)))) (aC (dI (mK (gk (eT (aB G_Lright (ae (aa 1) (ae (aa 6) (ae (aa 9) ao)))))) (eT (af (wx true) (aa 8) (aa 7)))) (bM (eC (.bl false))) aQ) (aC (aV 10 (bw (eN (aa 9)) (gN 0) bW mD 1 [])) (aC (l8 9 11) (dI (eT (af D7 (aB bL (ae (aa 1) (ae (aa 8) ao))) (aa 10))) (bM (eC (.bl false))) aQ))))))))
def Cj:SF:=aC (aV 1 (aB G_Lnet (ae (aa 0) (ae (eC (.int 1)) (ae (aB G_Lmany (ae (aB G_Lcell (ae (aa 0) (ae (eC (.int 0)) ao))) ao)) ao))))) (aC (aV 2 (af bq (eA cA (ae (eC (.int 8)) (ae (eC (.int 41)) ao))) (cZ (aa 0) (eP (eC (.int 2))) (eP (eC (.int 6)))))) (aC (dI (eT (af Hr (eA dP (ae (af cz (aa 1) (eC (.int 0))) ao)) (eC (.int 9)))) (aV 2 (cZ (af bq (aa 0) (eA cA (ae (eC (.int 8)) (ae (eC (.int 41)) (ae (eC (.int 5)) ao))))) (eP (eC (.int 2))) (eP (eC (.int 4))))) aQ) (aC (bU [2] (cY (ae (aa 2) ao)) (gT 2 (aM 3 (aM 4 cJ))) iV) (bM (eC (.bl true))))))
def vh:DF:=cB 1 12 (Cj)
def GU {f:Addr}{fd:FuncData}(T:TX b)(C_greatest_within:ib b)(C_Lcell:Q_Lcell b)(C_Lmany:Q_Lmany b)(C_Lnet:Q_Lnet b)(C_Linside:Q_Linside b)(C_Lhanded:Q_Lhanded b)(C_Lright:Q_Lright b)(F:DE b.K "law" "law" mC f fd):oQ b.P b.w b.K b.mg b.base zd 5 f fd ["_law_script"] (kL b.K (vh)):=Br (k:=4) (n:=1) (m:=12) (g:=Cj) F Ci rfl rfl λ f cdv A outer s H hr=>by
 have nd:=Ci.nd;have hu:=dG hr;exact ak (aR 1 nd (bb C_Lnet hr (aD (qv 0) (aD aj (aD (bb C_Lmany hr (jS (bb C_Lcell hr (jT (qv 0) aj)))) cE)))))
   (ak (aR 2 nd (aK aT cC (gz (jT aj aj)) (jc (qv 0) (gC aj) (gC aj))))
   (ak (fg (aO ET Il (jg e7 nG T.nU (jS (bX (qv 1) aj))) aj)
   (az (aR 2 nd (jc (aK aT cC (qv 0) (gz (aD aj (aD aj (aD aj cE))))) (gC aj) (gC aj))))
   (bI))
   (ak (f6 [2] L0 rfl (xK rfl T.nS (jS (qv 2))) (uU rfl (fU (i:=3) nd rfl (by walk_at "l") (fU (i:=4) nd rfl (by walk_at "l") pC)))
   (ak (aR 5 nd (aK bj b6 (aK aT cC (aK ja ph (qv 4) aj) (aK ja ph (qv 3) aj)) aj))
   (ak (aR 6 nd (bb C_Linside hr (jT (qv 1) (qv 5))))
   (ak (aR 7 nd (bb C_Lhanded hr (aD (qv 1) (aD (qv 6) (aD (aK bY cV (qv 5) aj) cE)))))
   (ak (aR 8 nd (BF lL A5 T.pS (jS (qv 7))))
   (ak (aR 9 nd (bb C_greatest_within hr (jT (qv 1) (qv 8))))
   (ak (fg (L2.PW.pt (pA (sN (sJ (bb C_Lright hr (aD (qv 1) (aD (qv 6) (aD (qv 9) cE)))))) (lq (mW (tF hu) (xW true) (qv 8) (qv 7) (mP _)))))
   (az (cD uO))
   (bI))
   (ak (jh 10 nd (own:=["_law_part"]) (cap:=[]) (dD _ rfl _ rfl (by kernel_rfl)) rfl (eU (qv 9)) ⟨λ _ _ _ _ _=>bP 0 (qA ["_law_part"]),λ _ _ _ _ _=>ky,λ _ _ _ _ _=>BF lL A5 T.pS (jS (qv 0))⟩)
   (zG 9 11 L0 rfl (r6 (i:=11) nd rfl (by walk_at "l")) (xn (gA (lK Mh MU MV gI (dg (i:=11) rfl (by first|exact Or.inl rfl|exact Or.inr (Or.inl rfl)|exact Or.inr (Or.inr rfl))) (cR (ER Aq Az) dJ)))) (gA (lK Mh MU MV gI (dg (i:=9) rfl (by first|exact Or.inl rfl|exact Or.inr (Or.inl rfl)|exact Or.inr (Or.inr rfl))) (cR (sd dJ) dJ))) (az (fg (mW (GJ hu) IU (bb C_greatest_within hr (jT (qv 1) (qv 8))) (qv 10) (mP _))
   (az (cD uO))
   (bI))))))))))))
   (az (cD uO)))))
end
end KL
namespace M
def cell (ns:List Int)(k:Int):Int:=ns.getD k.toNat 0
def wV (i j:Int):Int:=if j>i then j else i
def mix (ns:List Int)(at_ k:Int):Int:=(cell ns (at_+k%wV 1 ((ns.length:Int)-at_))*48271+k*16807+11)%2147483647
def Cm (ns:List Int)(a k:Int):0<=mix ns a k:=MB _ (by decide)
def Ky (big:Int)(ns:List Int)(a:Int):Int:=if cell ns a%2=1 then cell ns a/2%big else cell ns a/2%4
def gap (ns:List Int)(a:Int):Int:=([1,3,100000000000000000000000000000]:List Int).getD (cell ns (a+1)%3).toNat 0
def place (big:Int)(ns:List Int)(a:Int):Nat->Int
 |0=>Ky big ns a
 |k+1=>place big ns a k+1+cell ns (a+1)/((k:Int)+1)%gap ns a
def wW (big:Int)(ns:List Int)(a:Int):place big ns a 0=if cell ns a%2=1 then cell ns a/2%big else cell ns a/2%4:=rfl
def places (big:Int)(ns:List Int)(a:Int)(n:Nat):List Int:=(List.range n).map (place big ns a)
def yi (ns:List Int)(a:Int):0<gap ns a:=by
 unfold gap;have h1:0<=cell ns (a+1)%3:=MB _ (by decide);have h2:cell ns (a+1)%3<3:=OU _ (by decide);have h:cell ns (a+1)%3=0\/cell ns (a+1)%3=1\/cell ns (a+1)%3=2:=by omega
 rcases h with h|h|h<;>rw[h]<;>decide
def place_lt {big:Int}(ns:List Int)(a:Int)(k:Nat):place big ns a k<place big ns a (k+1):=by
 show place big ns a k<place big ns a k+1+cell ns (a+1)/((k:Int)+1)%gap ns a;have h:0<=cell ns (a+1)/((k:Int)+1)%gap ns a:=MB _ (by have:=yi ns a;omega);omega
def pU {big:Int}(ns:List Int)(a:Int):∀ {j k:Nat},j<k->place big ns a j<place big ns a k
 | j,k+1,h=>by
  have h2:=place_lt (big:=big) ns a k;by_cases e:j=k
  ·subst e;exact h2
  ·exact Int.lt_trans (pU ns a (by omega)) h2
def places_len (big:Int)(ns:List Int)(a:Int)(n:Nat):(places big ns a n).length=n:=by simp[places]
end M
namespace N2
def keyOf (o t:Int):Int×Int:=if o>t then (o,t) else (t,o)
abbrev Ck:=Int×Int×Int
def tV (t:Ck):Int×Int:=keyOf t.1 t.2.1
structure Dr where
 pl:Nat->Int
 sh:Nat->Nat->Int
 dr:Nat->Nat->Int
 mono:∀ {j k:Nat},j<k->pl j<pl k
 nn:∀ k j:Nat,0<=sh k j
def places (d:Dr)(n:Nat):List Int:=(List.range n).map d.pl
def rows (d:Dr)(n:Nat):List (List Int):=(List.range n).map λ k=>(List.range k).map λ j=>d.sh k j
def places_len (d:Dr)(n:Nat):(places d n).length=n:=by simp[places]
def qF (d:Dr)(n:Nat):(places d n).Pairwise (· < ·):=by
 unfold places;rw[MA];exact List.pairwise_lt_range.imp λ h=>d.mono h
end N2
namespace KL
open DL
variable {d x:D}{a b i:Int}{ds xs:List D}{ps:List Int}{j n:Nat}{f:Nat->Nat->Int}{τ τ':SD}{c:SD->Res Bool}{g:SD->Res D}{body:SF}{tg:uq}
def mul_r {j:Int}(h : -(2^64)<j/\j<2^64):jn i j:=.inl (.inr h)
def Fd {j:Int}(h : -(2^64)<i/\i<2^64):jn i j:=.inl (.inl h)
def big:Int:=10^30
def yl:0<big:=by decide
def Jd:qx (.int 10) (.int 30)=.ok (.int big):=by rfl
def Jc (τ:SD):af qx (eC (.int 10)) (eC (.int 30)) τ=.ok (.int big):=by
 simp only[af,eC,Res.aH,Jd]
def wX (ps:List Int)(rows:List (List Int)):D:=.tup [.tup (ps.map .int),.tup (rows.map λ r=>.tup (r.map .int))]
def rH (rows:List (List Int)):aJ (rows.map λ r=>D.tup (r.map .int))=true:=bH λ d m=>by obtain⟨r,_,rfl⟩:=Lq.mp m;exact ah r
def vn (ps:List Int)(rows:List (List Int)):(wX ps rows).pure=true:=by
 simp[wX,D.pure,aJ,ah,rH]
def fR {f:SD->Res D}(h:f τ=.ok (.int a))(hb:0<b):af bB f (eC (.int b)) τ=.ok (.int (a%b)):=by
 rw[bc h (show eC (.int b) τ=.ok (.int b) from rfl)];simp[oh,hb]
def gH {f:SD->Res D}(h:f τ=.ok (.int a))(hb:0<b/\b<1073741824):af bV f (eC (.int b)) τ=.ok (.int (a/b)):=by
 rw[bc h (show eC (.int b) τ=.ok (.int b) from rfl)];simp[oh,L2.ir,hb]
def gu {f:SD->Res D}(h:f τ=.ok (.int a))(h2:g τ=.ok (.int b)):eT (af gJ f g) τ=.ok (decide (a=b)):=by
 unfold eT;rw[bc h h2];show Res.ok (xor false (decide (a=b)))=_;rw[Bool.false_xor]
def tZ {f:SD->Res D}(h:f τ=.ok (.int a))(h2:g τ=.ok (.int b)):eT (af oE f g) τ=.ok (!decide (a=b)):=by
 unfold eT;rw[bc h h2];show Res.ok (xor true (decide (a=b)))=_;rw[Bool.true_xor]
def GX {f:SD->Res D}(h:f τ=.ok (.int a))(h2:g τ=.ok (.int b)):eT (af Hr f g) τ=.ok (decide (b<a)):=by
 unfold eT;rw[bc h h2];rfl
def GY {f:SD->Res D}(h:f τ=.ok (.int a))(h2:g τ=.ok (.int b)):eT (af Js f g) τ=.ok (decide (a<b)):=by
 unfold eT;rw[bc h h2];rfl
def pW {f g:SD->Res Bool}{a b:Bool}(h:f τ=.ok a)(h2:g τ=.ok b):mK f g τ=.ok (a||b):=by
 unfold mK;rw[h];cases a
 ·exact h2
 ·rfl
def cP {N:Nat}{g:SF}(hl:ds.length=n)(ht:ds.map some++List.replicate (N-n) none=τ)(h:g τ=.rt d):cB n N g ds=.ok d:=by
 unfold cB;rw[Lr hl,ht,h];rfl
def ig {f:SD->Res D}{y:D}{r:Res D}(h1:f τ=.ok x)(h2:g τ=.ok y)(h3:cz x y=r):af cz f g τ=r:=(bc h1 h2).trans h3
def i9(hi:i=j)(h:xs[j]?=some d):cz (.tup xs) (.int i)=.ok d:=by
 simp[cz,Bs hi h]
def pX {t:Tg}(hi:i=j)(h:xs[j]?=some d):cz (.lst t xs) (.int i)=.ok d:=by
 simp[cz,Bs hi h]
def Cn {i:Nat}{f:SD->Res D}(h1:τ[i]?=some (some (.lst .own xs)))(h2:f τ=.ok d)(hp:d.aw=false)(hl:xs.length<16777216):gW i f τ=.nx (τ.set i (some (.lst .own (xs++[d])))):=by
 unfold gW;have e:c5 τ i=some xs:=by unfold c5;rw[h1]
 rw[e];simp[h2,hp,hl]
def tW {f:SD->Res D}{t:Tg}(h:f τ=.ok (.lst t xs)):eA dP (ae f ao) τ=.ok (.int xs.length):=by
 rw[fE (cL h)];rfl
def GW {N:Nat}{g:SF}{t:SD}(hl:ds.length=n)(ht:ds.map some++List.replicate (N-n) none=τ)(h:g τ=.nx t):cB n N g ds=.ok .bg:=by
 unfold cB;rw[Lr hl,ht,h];rfl
def k9 {f:SD->Res D}{b:Bool}(h:f τ=.ok (.bl b)):eT f τ=.ok b:=by
 unfold eT;rw[h];rfl
def kN{a b:SF}(h:c τ=.ok false):dI c a b τ=b τ:=by rw[E7 h];rfl
def pV{a b:SF}(h:c τ=.ok true):dI c a b τ=a τ:=by rw[E7 h];rfl
def Ei {f:SD->Res D}(h:f τ=.ok d):e9 f τ=.nx τ:=by
 unfold e9;rw[h];rfl
def tX {f:SD->Res Bool}{b:Bool}(h:f τ=.ok b):gk f τ=.ok (!b):=by unfold gk;rw[h];rfl
def rF{a b s:SF}(h:c τ=.ok true)(h2:a τ=.rt d):aC (dI c a b) s τ=.rt d:=by
 unfold aC;rw[pV h,h2];rfl
def jz{a s:SF}(h:c τ=.ok false):aC (dI c a aQ) s τ=s τ:=by
 refine aF ?_;rw[kN h];rfl
def wY {a b:SF}(h:a τ=.rt d):aC a b τ=.rt d:=by
 unfold aC;rw[h];rfl
def j5 {f:SD->Res D}(h:f τ=.ok (.int a))(h2:g τ=.ok (.int b)):af bq f g τ=.ok (.int (a+b)):=by rw[bc h h2];rfl
def yj (xs:List Int)(a b:Option Int):DL.cut (xs.map D.int) a b=(DL.cut xs a b).map D.int:=by
 unfold DL.cut;simp[List.map_drop,O8]
def tY {j:Int}(h:0<j):bB (.int i) (.int j)=.ok (.int (i%j)):=by
 show(if (0:Int)<j then _ else _)=_;exact Lr h
def yk (i:Int):bB (.int i) (.int big)=.ok (.int (i%big)):=tY yl
def Eh (o t:Int):tR [.int o,.int t]=.ok (.tup [.int (N2.keyOf o t).1,.int (N2.keyOf o t).2]):=by
 unfold N2.keyOf;refine cP rfl rfl (fD ?_ rfl);unfold sO;rw[GX (a:=o) (b:=t) rfl rfl];by_cases h:o>t
 ·rw[LO h,Lr h];rfl
 ·rw[LD h,Lw h];rfl
abbrev S (ns:List Int):D:=.lst .aq (ns.map D.int)
def cell_out {ns:List Int}{k:Int}(h1:¬ k<ns.length):M.cell ns k=0:=by
 unfold M.cell;rw[LC,Mc (by omega)];rfl
def ym {ns:List Int}{i:Nat}(h:i<ns.length):(ns.map D.int)[i]?=some (.int (ns.getD i 0)):=by
 rw[LG,Lg h,LC,Lg h];rfl
def mF (ns:List Int){k:Int}(h:0<=k):G_Lcell [S ns,.int k]=.ok (.int (M.cell ns k)):=by
 refine cP (τ:=[some (S ns),some (.int k)]) rfl rfl ?_;have v0:aa 0 [some (S ns),some (.int k)]=.ok (S ns):=bO rfl (ah ns);have l0:=tW v0;rw[Lc]at l0;have t:=GY (f:=aa 1) (a:=k) rfl l0;unfold g_Lcell;by_cases h1:k<ns.length
 ·rw[LO h1]at t;exact rF t (fD (ig v0 (y:=.int k) rfl (pX (j:=k.toNat) (by omega) (ym (by omega)))) rfl)
 ·rw[LD h1]at t;rw[jz t,cell_out h1];rfl
def nX (c:Int):Int:=if c/9%16=1 then 1+c/144%16 else 1+c%9
def rG (c:Int):1<=nX c/\nX c<=24:=by
 unfold nX;split<;>omega
def Eg (c:Int):G_Lmany [.int c]=.ok (.int (nX c)):=by
 refine cP (τ:=[some (.int c)]) rfl rfl ?_;have t:=gu (τ:=[some (.int c)]) (fR (gH (f:=aa 0) (a:=c) rfl (by decide:(0:Int)<9/\(9:Int)<1073741824)) (by decide:(0:Int)<16)) (g:=eC (.int 1)) (b:=1) rfl;unfold g_Lmany nX;by_cases h1:c/9%16=1
 ·rw[LO h1]at t;rw[Lr h1];exact rF t (fD (j5 (f:=eC (.int 1)) (a:=1) rfl (fR (gH (f:=aa 0) (a:=c) rfl (by decide:(0:Int)<144/\(144:Int)<1073741824)) (by decide:(0:Int)<16))) rfl)
 ·rw[LD h1]at t;rw[jz t,Lw h1];exact fD (j5 (f:=eC (.int 1)) (a:=1) rfl (fR (f:=aa 0) (a:=c) rfl (by decide:(0:Int)<9))) rfl
def Co (ns:List Int)(a:Int)(n i:Nat):SD:=[some (S ns),some (.int a),some (.int n),some (.int (M.cell ns a)),some (.int (M.cell ns (a+1))),some (.int (M.place big ns a i)),some (.lst .own ((M.places big ns a i).map D.int)),if i=0 then none else some (.int ((i:Int)-1))]
def vo (ns:List Int)(a:Int)(i:Nat):M.places big ns a (i+1)=M.places big ns a i++[M.place big ns a i]:=by
 unfold M.places;rw[Pp,Lz];rfl
def GZ (ns:List Int)(a:Int):cz (.lst .own [.int 1,.int 3,.int (10^29)]) (.int (M.cell ns (a+1)%3))=.ok (.int (M.gap ns a)):=by
 unfold M.gap;have h:M.cell ns (a+1)%3=0\/M.cell ns (a+1)%3=1\/M.cell ns (a+1)%3=2:=by omega
 rcases h with h|h|h<;>rw[h]<;>rfl
def vm (ns:List Int){i:Nat}(hi:i<64)(o:Option D):g_Lplaces_b1 [some (S ns),some (.int a),some (.int n),some (.int (M.cell ns a)),some (.int (M.cell ns (a+1))),some (.int (M.place big ns a i)),some (.lst .own ((M.places big ns a i).map D.int)),some (.int (i:Int))]=.nx (Co ns a n (i+1)):=by
 unfold g_Lplaces_b1;rw[aF (Cn (i:=6) (xs:=(M.places big ns a i).map D.int) (d:=.int (M.place big ns a i)) rfl rfl rfl (by rw[Lc,M.places_len];omega))];show aV 5 _ [some (S ns),some (.int a),some (.int n),some (.int (M.cell ns a)),some (.int (M.cell ns (a+1))),some (.int (M.place big ns a i)),some (.lst .own ((M.places big ns a i).map D.int++[.int (M.place big ns a i)])),some (.int (i:Int))]=_;generalize hτ:[some (S ns),some (.int a),some (.int n),some (.int (M.cell ns a)),some (.int (M.cell ns (a+1))),some (.int (M.place big ns a i)),some (.lst .own ((M.places big ns a i).map D.int++[.int (M.place big ns a i)])),some (.int (i:Int))]=τ;have v4:aa 4 τ=.ok (.int (M.cell ns (a+1))):=by rw[<-hτ];rfl
 have v5:aa 5 τ=.ok (.int (M.place big ns a i)):=by rw[<-hτ];rfl
 have v7:aa 7 τ=.ok (.int (i:Int)):=by rw[<-hτ];rfl
 have q1:af bV (aa 4) (af bq (aa 7) (eC (.int 1))) τ=.ok (.int (M.cell ns (a+1)/((i:Int)+1))):=by
  rw[bc v4 (j5 v7 (g:=eC (.int 1)) (b:=1) rfl)];show(if (0:Int)<(i:Int)+1/\(i:Int)+1<1073741824 then _ else _)=_;exact Lr (by omega)
 have q2:af cz (eA cA (ae (eC (.int 1)) (ae (eC (.int 3)) (ae (af qx (eC (.int 10)) (eC (.int 29))) ao)))) (af bB (aa 4) (eC (.int 3))) τ=.ok (.int (M.gap ns a)):=
  ig (x:=.lst .own [.int 1,.int 3,.int (10^29)]) rfl (fR v4 (by decide:(0:Int)<3)) (GZ ns a)
 rw[a6 (j5 (j5 v5 (g:=eC (.int 1)) (b:=1) rfl) ((bc q1 q2).trans (tY (M.yi ns a)))) rfl,<-hτ];unfold Co;rw[vo,Lz,Lw (Nat.succ_ne_zero i)];have e:(((i+1:Nat):Int)-1)=i:=by omega
 rw[e];rfl
def vj (ns:List Int)(hn:n<=64):bF (gN 7) g_Lplaces_b1 ((List.range n).map λ k:Nat=>D.int (k:Int)) (Co ns a n 0)=.nx (Co ns a n n):=by
 have key:=xP (tg:=gN 7) (body:=g_Lplaces_b1) (Co ns a n) (ds:=(List.range n).map λ k:Nat=>D.int (k:Int)) 0 λ j d hd=>by
  have hj:j<n:=by
   have:=(Lh.mp hd).1;simpa using this
  have ed:d=.int (j:Int):=by
   rw[LG,Ml hj]at hd;exact(L5 hd).symm
  subst ed;rw[MW];exact⟨_,rfl,vm ns (by omega) none⟩
 rw[Lc,LU,MW]at key;exact key
def zW (ns:List Int):(dI (eT (af gJ (af bB (aa 3) (eC (.int 2))) (eC (.int 1)))) (aV 5 (af bB (af bV (aa 3) (eC (.int 2))) (af qx (eC (.int 10)) (eC (.int 30))))) aQ) [some (S ns),some (.int a),some (.int n),some (.int (M.cell ns a)),some (.int (M.cell ns (a+1))),some (.int (M.cell ns a/2%4)),none,none]=.nx [some (S ns),some (.int a),some (.int n),some (.int (M.cell ns a)),some (.int (M.cell ns (a+1))),some (.int (M.place big ns a 0)),none,none]:=by
 have e3:=M.wW big ns a;rw[e3];have t:=gu (τ:=[some (S ns),some (.int a),some (.int n),some (.int (M.cell ns a)),some (.int (M.cell ns (a+1))),some (.int (M.cell ns a/2%4)),none,none]) (fR (f:=aa 3) (a:=M.cell ns a) rfl (by decide:(0:Int)<2)) (g:=eC (.int 1)) (b:=1) rfl;by_cases h1:M.cell ns a%2=1
 ·rw[LO h1]at t;rw[Lr h1,pV t];exact a6 ((bc (gH (f:=aa 3) (a:=M.cell ns a) rfl (by decide:(0:Int)<2/\(2:Int)<1073741824)) (Jc _)).trans (yk _)) rfl
 ·rw[LD h1]at t;rw[Lw h1,kN t];rfl
def zV (ns:List Int)(hn:n<=64):bU [] (bE (ae (aa 2) ao)) (gN 7) g_Lplaces_b1 (Co ns a n 0)=.nx (Co ns a n n):=by
 have hi:bE (ae (aa 2) ao) (Co ns a n 0)=.ok (false,(List.range n).map λ k:Nat=>D.int (k:Int)):=by
  unfold bE;rw[cL (d:=.int n) rfl,Res.aH,gO (by omega)]
 unfold bU;rw[show ck [] (Co ns a n 0)=Co ns a n 0 from rfl,hi];have:aE ((List.range n).map λ k:Nat=>D.int (k:Int))=(List.range n).map λ k:Nat=>D.int (k:Int):=a8 _ _;simp only[this];exact vj ns (a:=a) hn
def places_eq (ns:List Int)(ha:0<=a)(hn:n<=64):G_Lplaces [S ns,.int a,.int n]=.ok (.lst .own ((M.places big ns a n).map D.int)):=by
 refine cP (τ:=[some (S ns),some (.int a),some (.int n),none,none,none,none,none]) rfl rfl ?_;have cc:∀ {τ:SD}{f:SD->Res D}{k:Int},τ[0]?=some (some (S ns))->f τ=.ok (.int k)->0<=k->aB G_Lcell (ae (aa 0) (ae f ao)) τ=.ok (.int (M.cell ns k)):=λ h hf hk=>
  cQ (ds:=[S ns,.int _]) (aN (bO h (ah ns)) (cL hf)) (by simpa[aE,D.aq] using mF ns hk) (by simp[av,D.aw])
 unfold g_Lplaces;rw[aF (a6 (cc (f:=aa 1) rfl rfl ha) rfl)];rw[aF (a6 (cc rfl (j5 (f:=aa 1) (a:=a) rfl (g:=eC (.int 1)) (b:=1) rfl) (by omega)) rfl)];rw[aF (a6 (fR (gH (f:=aa 3) (a:=M.cell ns a) rfl (by decide:(0:Int)<2/\(2:Int)<1073741824)) (by decide:(0:Int)<4)) rfl)];show aC _ _ [some (S ns),some (.int a),some (.int n),some (.int (M.cell ns a)),some (.int (M.cell ns (a+1))),some (.int (M.cell ns a/2%4)),none,none]=_;rw[aF (zW ns)];rw[aF (a6 (d:=.lst .own []) rfl rfl)];show aC _ _ (Co ns a n 0)=_;exact(aF (zV ns (a:=a) hn)).trans rfl
def Cp (x:Int):0<M.wV 1 x:=by
 unfold M.wV;split<;>omega
def t6 (ns:List Int){k:Int}(ha:0<=a)(hk:0<=k):G_Lmix [S ns,.int a,.int k]=.ok (.int (M.mix ns a k)):=by
 have h1:=Cp ((ns.length:Int)-a);have h2:0<=a+k%M.wV 1 ((ns.length:Int)-a):=Int.add_nonneg ha (MB _ (by omega));have c1:jn (M.cell ns (a+k%M.wV 1 ((ns.length:Int)-a))) 48271:=mul_r (by decide);have c2:jn k 16807:=mul_r (by decide);have e:=mF ns h2;unfold M.wV at *;simp[G_Lmix,g_Lmix,cB,aC,dI,aV,bM,du,aQ,e9,gW,iP,gn,eE,bU,dh,eT,af,aa,eC,eA,kK,jB,jA,sO,cZ,eP,lj,eN,bE,cY,aB,dQ,dY,bw,ae,ao,gk,iL,mK,bW,dP,d9,e8,d8,cO,gD,cA,br,cI,qy,oh,L2.ir,L2.iF,bq,gJ,oE,uo,cW,gm,qu,iM,D.view,bR,Tg.view,D.aq,aE,D.aw,av,D.cu,bC,D.aP,bA,Tg.aP,iO,D.aS,bT,Tg.aS,D.pure,aJ,c5,cT,gN,gT,aM,cJ,c9,D.isExc,ur,uu,qg,ck,dR,cF,aX,cutD,c6,eu,jC,dw,KT.kind,cz,a8,h1,e,c1,c2,M.mix,M.wV]
def Cq {x y z:Int}(h0:0<=i)(h1:i<3)(hx:0<=x)(hy:0<=y)(hz:0<=z):∃ v,0<=v/\L2.qq [D.int x,D.int y,D.int z] i=some (.int v):=by
 have h:i=0\/i=1\/i=2:=by omega
 rcases h with h|h|h
 ·exact⟨x,hx,by rw[h];rfl⟩
 ·exact⟨y,hy,by rw[h];rfl⟩
 ·exact⟨z,hz,by rw[h];rfl⟩
def KY (d:D):Prop:=∃ v:Int,0<=v/\d=.int v
def qG (r:Fl):Prop:=∃ v:Int,0<=v/\r=.rt (.int v)
def pY (ns:List Int){k j:Int}(ha:0<=a)(hk:0<=k)(hk2:k<=24)(hj:0<=j)(hj2:j<=24):∃ v,0<=v/\G_Lshade [S ns,.int a,.int k,.int j]=.ok (.int v):=by
 have e2:=mF ns (show 0<=a+2 by omega);have e3:=mF ns (show 0<=a+3 by omega);have ha4:0<=a+4:=by omega
 have m1:=t6 ns ha4 (show 0<=300+k by omega);have m2:=t6 ns ha4 (show 0<=300+j by omega);have hkk:0<=k*(k-1)/2:=by
  have:0<=k*(k-1):=by
   by_cases h:k=0
   ·rw[h];decide
   ·exact Int.mul_nonneg hk (by omega)
  omega
 have m3:=t6 ns ha4 (show 0<=k*(k-1)/2+j by omega);have n3:=M.Cm ns (a+4) (k*(k-1)/2+j);have c1:jn k (k-1):=Fd (by omega);have m4:=λ {x:Int} (h:0<=x)=>t6 ns ha4 h;have n4:=M.Cm ns (a+4);generalize hcell:M.cell ns (a+2)=hd at *;generalize M.cell ns (a+3)=c3 at *;generalize M.mix ns (a+4) (300+k)=x1 at *;generalize M.mix ns (a+4) (300+j)=x2 at *;generalize M.mix ns (a+4) (k*(k-1)/2+j)=x3 at *;have hb:0<1+hd/4%4:=by omega
 have ho0:0<=x1/3%(1+hd/4%4):=MB _ (by omega);have ht0:0<=x2/3%(1+hd/4%4):=MB _ (by omega)
 suffices h:qG (g_Lshade [some (S ns),some (.int a),some (.int k),some (.int j),none,none,none,none,none,none]) by
  obtain⟨v,hv,e⟩:=h;refine⟨v,hv,?_⟩;simp[G_Lshade,cB,List.replicate,e]
 unfold g_Lshade;refine kD qG (.int hd) (by simp[cB,aC,dI,aV,bM,du,aQ,e9,gW,iP,gn,eE,bU,dh,eT,af,aa,eC,eA,kK,jB,jA,sO,cZ,eP,lj,eN,bE,cY,aB,dQ,dY,bw,ae,ao,gk,iL,mK,bW,dP,d9,e8,d8,cO,gD,cA,br,cI,qy,oh,L2.ir,L2.iF,bq,gJ,oE,uo,cW,gm,qu,iM,D.view,bR,Tg.view,D.aq,aE,D.aw,av,D.cu,bC,D.aP,bA,Tg.aP,iO,D.aS,bT,Tg.aS,D.pure,aJ,c5,cT,gN,gT,aM,cJ,c9,D.isExc,ur,uu,qg,ck,dR,cF,aX,cutD,c6,eu,jC,dw,KT.kind,cz,a8,e2]) rfl ?_;refine kD qG (.int (1+hd/4%4)) (by simp[cB,aC,dI,aV,bM,du,aQ,e9,gW,iP,gn,eE,bU,dh,eT,af,aa,eC,eA,kK,jB,jA,sO,cZ,eP,lj,eN,bE,cY,aB,dQ,dY,bw,ae,ao,gk,iL,mK,bW,dP,d9,e8,d8,cO,gD,cA,br,cI,qy,oh,L2.ir,L2.iF,bq,gJ,oE,uo,cW,gm,qu,iM,D.view,bR,Tg.view,D.aq,aE,D.aw,av,D.cu,bC,D.aP,bA,Tg.aP,iO,D.aS,bT,Tg.aS,D.pure,aJ,c5,cT,gN,gT,aM,cJ,c9,D.isExc,ur,uu,qg,ck,dR,cF,aX,cutD,c6,eu,jC,dw,KT.kind,cz,a8]) rfl ?_;refine kD qG (.int (x1/3%(1+hd/4%4))) (by simp[cB,aC,dI,aV,bM,du,aQ,e9,gW,iP,gn,eE,bU,dh,eT,af,aa,eC,eA,kK,jB,jA,sO,cZ,eP,lj,eN,bE,cY,aB,dQ,dY,bw,ae,ao,gk,iL,mK,bW,dP,d9,e8,d8,cO,gD,cA,br,cI,qy,oh,L2.ir,L2.iF,bq,gJ,oE,uo,cW,gm,qu,iM,D.view,bR,Tg.view,D.aq,aE,D.aw,av,D.cu,bC,D.aP,bA,Tg.aP,iO,D.aS,bT,Tg.aS,D.pure,aJ,c5,cT,gN,gT,aM,cJ,c9,D.isExc,ur,uu,qg,ck,dR,cF,aX,cutD,c6,eu,jC,dw,KT.kind,cz,a8,m1,hb]) rfl ?_;refine kD qG (.int (x2/3%(1+hd/4%4))) (by simp[cB,aC,dI,aV,bM,du,aQ,e9,gW,iP,gn,eE,bU,dh,eT,af,aa,eC,eA,kK,jB,jA,sO,cZ,eP,lj,eN,bE,cY,aB,dQ,dY,bw,ae,ao,gk,iL,mK,bW,dP,d9,e8,d8,cO,gD,cA,br,cI,qy,oh,L2.ir,L2.iF,bq,gJ,oE,uo,cW,gm,qu,iM,D.view,bR,Tg.view,D.aq,aE,D.aw,av,D.cu,bC,D.aP,bA,Tg.aP,iO,D.aS,bT,Tg.aS,D.pure,aJ,c5,cT,gN,gT,aM,cJ,c9,D.isExc,ur,uu,qg,ck,dR,cF,aX,cutD,c6,eu,jC,dw,KT.kind,cz,a8,m2,hb]) rfl ?_;generalize x1/3%(1+hd/4%4)=one at *;generalize x2/3%(1+hd/4%4)=other at *;refine kD qG (.int (x3/5)) (by simp[cB,aC,dI,aV,bM,du,aQ,e9,gW,iP,gn,eE,bU,dh,eT,af,aa,eC,eA,kK,jB,jA,sO,cZ,eP,lj,eN,bE,cY,aB,dQ,dY,bw,ae,ao,gk,iL,mK,bW,dP,d9,e8,d8,cO,gD,cA,br,cI,qy,oh,L2.ir,L2.iF,bq,gJ,oE,uo,cW,gm,qu,iM,D.view,bR,Tg.view,D.aq,aE,D.aw,av,D.cu,bC,D.aP,bA,Tg.aP,iO,D.aS,bT,Tg.aS,D.pure,aJ,c5,cT,gN,gT,aM,cJ,c9,D.isExc,ur,uu,qg,ck,dR,cF,aX,cutD,c6,eu,jC,dw,KT.kind,cz,a8,m3,c1]) rfl ?_;refine rh qG KY ⟨decide (hd%4<2) && !decide (one=other),by by_cases q:hd%4<2<;>simp[cB,aC,dI,aV,bM,du,aQ,e9,gW,iP,gn,eE,bU,dh,eT,af,aa,eC,eA,kK,jB,jA,sO,cZ,eP,lj,eN,bE,cY,aB,dQ,dY,bw,ae,ao,gk,iL,mK,bW,dP,d9,e8,d8,cO,gD,cA,br,cI,qy,oh,L2.ir,L2.iF,bq,gJ,oE,uo,cW,gm,qu,iM,D.view,bR,Tg.view,D.aq,aE,D.aw,av,D.cu,bC,D.aP,bA,Tg.aP,iO,D.aS,bT,Tg.aS,D.pure,aJ,c5,cT,gN,gT,aM,cJ,c9,D.isExc,ur,uu,qg,ck,dR,cF,aX,cutD,c6,eu,jC,dw,KT.kind,cz,a8,q],λ _=>?_⟩ ⟨.int (x3/5),rfl,_,by omega,rfl⟩ ?_
 ·have hx:0<=400+4*(if other>one then other else one)+(if other<one then other else one):=by split<;>split<;>omega
  have c2:jn 4 (if other>one then other else one):=Fd (by decide);refine⟨.int (M.mix ns (a+4) (400+4*(if other>one then other else one)+(if other<one then other else one))/5),by simp[cB,aC,dI,aV,bM,du,aQ,e9,gW,iP,gn,eE,bU,dh,eT,af,aa,eC,eA,kK,jB,jA,sO,cZ,eP,lj,eN,bE,cY,aB,dQ,dY,bw,ae,ao,gk,iL,mK,bW,dP,d9,e8,d8,cO,gD,cA,br,cI,qy,oh,L2.ir,L2.iF,bq,gJ,oE,uo,cW,gm,qu,iM,D.view,bR,Tg.view,D.aq,aE,D.aw,av,D.cu,bC,D.aP,bA,Tg.aP,iO,D.aS,bT,Tg.aS,D.pure,aJ,c5,cT,gN,gT,aM,cJ,c9,D.isExc,ur,uu,qg,ck,dR,cF,aX,cutD,c6,eu,jC,dw,KT.kind,cz,a8,m4 hx,c2],rfl,_,?_,rfl⟩;have:=n4 (400+4*(if other>one then other else one)+(if other<one then other else one));omega
 ·rintro _ ⟨v1,hv1,rfl⟩;refine rh qG KY ⟨decide (hd%4=1)&&decide (k*(k-1)/2+j=hd/32%36),by by_cases q:hd%4=1<;>simp[cB,aC,dI,aV,bM,du,aQ,e9,gW,iP,gn,eE,bU,dh,eT,af,aa,eC,eA,kK,jB,jA,sO,cZ,eP,lj,eN,bE,cY,aB,dQ,dY,bw,ae,ao,gk,iL,mK,bW,dP,d9,e8,d8,cO,gD,cA,br,cI,qy,oh,L2.ir,L2.iF,bq,gJ,oE,uo,cW,gm,qu,iM,D.view,bR,Tg.view,D.aq,aE,D.aw,av,D.cu,bC,D.aP,bA,Tg.aP,iO,D.aS,bT,Tg.aS,D.pure,aJ,c5,cT,gN,gT,aM,cJ,c9,D.isExc,ur,uu,qg,ck,dR,cF,aX,cutD,c6,eu,jC,dw,KT.kind,cz,a8,q,c1],λ _=>⟨.int (v1+1),by simp[cB,aC,dI,aV,bM,du,aQ,e9,gW,iP,gn,eE,bU,dh,eT,af,aa,eC,eA,kK,jB,jA,sO,cZ,eP,lj,eN,bE,cY,aB,dQ,dY,bw,ae,ao,gk,iL,mK,bW,dP,d9,e8,d8,cO,gD,cA,br,cI,qy,oh,L2.ir,L2.iF,bq,gJ,oE,uo,cW,gm,qu,iM,D.view,bR,Tg.view,D.aq,aE,D.aw,av,D.cu,bC,D.aP,bA,Tg.aP,iO,D.aS,bT,Tg.aS,D.pure,aJ,c5,cT,gN,gT,aM,cJ,c9,D.isExc,ur,uu,qg,ck,dR,cF,aX,cutD,c6,eu,jC,dw,KT.kind,cz,a8],rfl,_,by omega,rfl⟩⟩ ⟨.int v1,rfl,_,hv1,rfl⟩ ?_;rintro _ ⟨v2,hv2,rfl⟩;refine zv qG ⟨decide (hd%4=2)&&decide (hd/4%2=1),by by_cases q:hd%4=2<;>simp[cB,aC,dI,aV,bM,du,aQ,e9,gW,iP,gn,eE,bU,dh,eT,af,aa,eC,eA,kK,jB,jA,sO,cZ,eP,lj,eN,bE,cY,aB,dQ,dY,bw,ae,ao,gk,iL,mK,bW,dP,d9,e8,d8,cO,gD,cA,br,cI,qy,oh,L2.ir,L2.iF,bq,gJ,oE,uo,cW,gm,qu,iM,D.view,bR,Tg.view,D.aq,aE,D.aw,av,D.cu,bC,D.aP,bA,Tg.aP,iO,D.aS,bT,Tg.aS,D.pure,aJ,c5,cT,gN,gT,aM,cJ,c9,D.isExc,ur,uu,qg,ck,dR,cF,aX,cutD,c6,eu,jC,dw,KT.kind,cz,a8,q],λ _=>⟨.int (v2%100000000),by simp[cB,aC,dI,aV,bM,du,aQ,e9,gW,iP,gn,eE,bU,dh,eT,af,aa,eC,eA,kK,jB,jA,sO,cZ,eP,lj,eN,bE,cY,aB,dQ,dY,bw,ae,ao,gk,iL,mK,bW,dP,d9,e8,d8,cO,gD,cA,br,cI,qy,oh,L2.ir,L2.iF,bq,gJ,oE,uo,cW,gm,qu,iM,D.view,bR,Tg.view,D.aq,aE,D.aw,av,D.cu,bC,D.aP,bA,Tg.aP,iO,D.aS,bT,Tg.aS,D.pure,aJ,c5,cT,gN,gT,aM,cJ,c9,D.isExc,ur,uu,qg,ck,dR,cF,aX,cutD,c6,eu,jC,dw,KT.kind,cz,a8],_,MB _ (by decide),rfl⟩,λ _=>?_⟩;have big0:0<=c3%big:=MB _ (by have:=yl;omega);refine kD qG (.lst .own [.int 0,.int (1+c3%big),.int (c3/9%5)]) ?_ rfl ?_
  ·have q1:af bq (eC (.int 1)) (af bB (aB G_Lcell (ae (aa 0) (ae (af bq (aa 1) (eC (.int 3))) ao))) (af qx (eC (.int 10)) (eC (.int 30)))) [some (S ns),some (.int a),some (.int k),some (.int j),some (.int hd),some (.int (1+hd/4%4)),some (.int one),some (.int other),some (.int v2),none]=.ok (.int (1+c3%big)):=
    bc (x:=.int 1) rfl ((bc (x:=.int c3) (by simp[cB,aC,dI,aV,bM,du,aQ,e9,gW,iP,gn,eE,bU,dh,eT,af,aa,eC,eA,kK,jB,jA,sO,cZ,eP,lj,eN,bE,cY,aB,dQ,dY,bw,ae,ao,gk,iL,mK,bW,dP,d9,e8,d8,cO,gD,cA,br,cI,qy,oh,L2.ir,L2.iF,bq,gJ,oE,uo,cW,gm,qu,iM,D.view,bR,Tg.view,D.aq,aE,D.aw,av,D.cu,bC,D.aP,bA,Tg.aP,iO,D.aS,bT,Tg.aS,D.pure,aJ,c5,cT,gN,gT,aM,cJ,c9,D.isExc,ur,uu,qg,ck,dR,cF,aX,cutD,c6,eu,jC,dw,KT.kind,cz,a8,e3]) (Jc _)).trans (yk _))
   simp only[eA,ae,List.set_cons_succ,List.set_cons_zero];rw[q1];simp[cB,aC,dI,aV,bM,du,aQ,e9,gW,iP,gn,eE,bU,dh,eT,af,aa,eC,eA,kK,jB,jA,sO,cZ,eP,lj,eN,bE,cY,aB,dQ,dY,bw,ae,ao,gk,iL,mK,bW,dP,d9,e8,d8,cO,gD,cA,br,cI,qy,oh,L2.ir,L2.iF,bq,gJ,oE,uo,cW,gm,qu,iM,D.view,bR,Tg.view,D.aq,aE,D.aw,av,D.cu,bC,D.aP,bA,Tg.aP,iO,D.aS,bT,Tg.aS,D.pure,aJ,c5,cT,gN,gT,aM,cJ,c9,D.isExc,ur,uu,qg,ck,dR,cF,aX,cutD,c6,eu,jC,dw,KT.kind,cz,a8,e3]
  ·have hm:0<2+hd/16%2:=by omega
   obtain⟨v,hv,e⟩:=Cq (x:=0) (y:=1+c3%big) (z:=c3/9%5) (i:=v2%(2+hd/16%2)) (MB _ (by omega)) (by have:=OU v2 hm;omega) (by decide) (by omega) (by omega);exact⟨v,hv,by simp[cB,aC,dI,aV,bM,du,aQ,e9,gW,iP,gn,eE,bU,dh,eT,af,aa,eC,eA,kK,jB,jA,sO,cZ,eP,lj,eN,bE,cY,aB,dQ,dY,bw,ae,ao,gk,iL,mK,bW,dP,d9,e8,d8,cO,gD,cA,br,cI,qy,oh,L2.ir,L2.iF,bq,gJ,oE,uo,cW,gm,qu,iM,D.view,bR,Tg.view,D.aq,aE,D.aw,av,D.cu,bC,D.aP,bA,Tg.aP,iO,D.aS,bT,Tg.aS,D.pure,aJ,c5,cT,gN,gT,aM,cJ,c9,D.isExc,ur,uu,qg,ck,dR,cF,aX,cutD,c6,eu,jC,dw,KT.kind,cz,a8,hm,e]⟩
def sh (ns:List Int)(k j:Nat):Int:=by
 classical
 exact if h:k<=24/\j<=24 then (pY ns (a:=1) (k:=k) (j:=j) (by decide) (by omega) (by omega) (by omega) (by omega)).choose else 0
def Je (ns:List Int)(k j:Nat):0<=sh ns k j:=by
 unfold sh;split
 ·rename_i h;exact(pY ns (a:=1) (k:=k) (j:=j) (by decide) (by omega) (by omega) (by omega) (by omega)).choose_spec.1
 ·exact Int.le_refl 0
def Jf (ns:List Int){k:Nat}(hk:k<=24)(hj:j<=24):G_Lshade [S ns,.int 1,.int k,.int j]=.ok (.int (sh ns k j)):=by
 unfold sh;rw[dif_pos ⟨hk,hj⟩];exact(pY ns (a:=1) (k:=k) (j:=j) (by decide) (by omega) (by omega) (by omega) (by omega)).choose_spec.2
def dN (ns:List Int):N2.Dr where
 pl:=M.place big ns 1
 sh:=sh ns
 dr:=λ k j=>M.mix ns 1 ((k:Int)*24+(j:Int))
 mono:=λ h=>M.pU ns 1 h
 nn:=Je ns
def vp(h:d∈(List.range n).map λ k:Nat=>D.int (k:Int)):∃ k:Nat,k<n/\d=.int k:=by
 obtain⟨k,hk,rfl⟩:=Lq.mp h;exact⟨k,LN.mp hk,rfl⟩
def natOf:D->Nat|.int i=>i.toNat|_=>0
def Ej (ns:List Int){k:Nat}(hk:k<24):g_Lnet_e2 [some (.int k),some (S ns),some (.int 1)]=.ok (.tup (((List.range k).map λ j=>(dN ns).sh k j).map D.int)):=by
 have hr:=gO (n:=k) (by omega);have hc:=rq (it:=bE (ae (aa 0) ao)) (elt:=g_Lnet_e1) (cap:=[("_law_script",1),("_law_at",2),("_law_k",0)]) (τ:=[some (.int k),some (S ns),some (.int 1)]) (fl:=false) (ds:=(List.range k).map λ k:Nat=>D.int (k:Int)) (λ d=>.int ((dN ns).sh k (natOf d)))
  (by simp [bE,ae,ao,aa,D.view,hr]) (λ d hd=>by
   rw[a8]at hd;obtain⟨j,hj,rfl⟩:=vp hd;refine⟨?_,rfl⟩;have e:=Jf ns (k:=k) (j:=j) (by omega) (by omega);simp[g_Lnet_e1,cB,aC,dI,aV,bM,du,aQ,e9,gW,iP,gn,eE,bU,dh,eT,af,aa,eC,eA,kK,jB,jA,sO,cZ,eP,lj,eN,bE,cY,aB,dQ,dY,bw,ae,ao,gk,iL,mK,bW,dP,d9,e8,d8,cO,gD,cA,br,cI,qy,oh,L2.ir,L2.iF,bq,gJ,oE,uo,cW,gm,qu,iM,D.view,bR,Tg.view,D.aq,aE,D.aw,av,D.cu,bC,D.aP,bA,Tg.aP,iO,D.aS,bT,Tg.aS,D.pure,aJ,c5,cT,gN,gT,aM,cJ,c9,D.isExc,ur,uu,qg,ck,dR,cF,aX,cutD,c6,eu,jC,dw,KT.kind,cz,a8,e,natOf,dN]) (by simp;omega)
 unfold g_Lnet_e2;simp only[eA,ae,ao,hc,Res.aH,cO,a8];simp[natOf]
def G1 (ns:List Int)(hn:n<=24):G_Lnet [S ns,.int 1,.int n]=.ok (wX (N2.places (dN ns) n) (N2.rows (dN ns) n)):=by
 have hr:=gO (n:=n) (by omega);have hp:=places_eq ns (a:=1) (n:=n) (by decide) (by omega);have hc:=rq (it:=bE (ae (aa 2) ao)) (elt:=g_Lnet_e2) (cap:=[("_law_script",0),("_law_at",1)]) (τ:=[some (S ns),some (.int 1),some (.int n),none]) (fl:=false) (ds:=(List.range n).map λ k:Nat=>D.int (k:Int)) (λ d=>.tup (((List.range (natOf d)).map λ j=>(dN ns).sh (natOf d) j).map D.int))
  (by simp [bE,ae,ao,aa,D.view,hr]) (λ d hd=>by
   rw[a8]at hd;obtain⟨k,hk,rfl⟩:=vp hd;refine⟨?_,ah _⟩;have e:=Ej ns (k:=k) (by omega);simpa[dR,D.aq,natOf] using e) (by simp;omega)
 rw[a8]at hc;have hpu:aJ (((List.range n).map λ k:Nat=>D.int (k:Int)).map λ d=>D.tup (((List.range (natOf d)).map λ j=>(dN ns).sh (natOf d) j).map D.int))=true:=bH λ d m=>by
  obtain⟨x,_,rfl⟩:=Lq.mp m;exact ah _
 suffices h:g_Lnet [some (S ns),some (.int 1),some (.int n),none]=.rt (wX (N2.places (dN ns) n) (N2.rows (dN ns) n)) by
  simp[G_Lnet,cB,List.replicate,h]
 unfold g_Lnet;have z:wX (N2.places (dN ns) n) (N2.rows (dN ns) n)=.tup [.tup ((M.places big ns 1 n).map D.int),.tup (((List.range n).map λ k:Nat=>D.int (k:Int)).map λ d=>D.tup (((List.range (natOf d)).map λ j=>(dN ns).sh (natOf d) j).map D.int))]:=by
  unfold wX N2.rows;simp[LQ,natOf,Function.comp_def];rfl
 have hnp:=vn (N2.places (dN ns) n) (N2.rows (dN ns) n);rw[z]at hnp ⊢;generalize (((List.range n).map λ k:Nat=>D.int (k:Int)).map λ d=>D.tup (((List.range (natOf d)).map λ j=>(dN ns).sh (natOf d) j).map D.int))=R at *;rw[aF (a6 hc (cN hpu))];have q1:aB G_Lplaces (ae (aa 0) (ae (aa 1) (ae (aa 2) ao))) [some (S ns),some (.int 1),some (.int n),some (.lst .own R)]=.ok (.lst .own ((M.places big ns 1 n).map D.int)):=cQ (ds:=[S ns,.int 1,.int n]) (by simp[ae,ao,aa,D.view,Tg.view]) (by simpa[aE,D.aq] using hp) (by simp[av,D.aw]);have q2:aa 3 [some (S ns),some (.int 1),some (.int n),some (.lst .own R)]=.ok (.lst .bor R):=fF rfl hpu;exact fD ((fE (aN ((fE (cL q1)).trans rfl) (cL ((fE (cL q2)).trans rfl)))).trans (by simp[gD])) (bx _ hnp)
def kt (k:Int×Int):KT:=.inr [.inl k.1,.inl k.2]
def G4 {a b:Int×Int}:kt a=kt b↔a=b:=by
 constructor
 ·intro h;cases a;cases b;simp only[kt,Sum.inr.injEq,List.cons.injEq,Sum.inl.injEq,and_true]at h;obtain⟨h1,h2⟩:=h;subst h1 h2;rfl
 ·intro h;rw[h]
def p5 (ts:List N2.Ck):List KT:=ts.map λ t=>kt (N2.tV t)
def pZ (ts:List N2.Ck):List D:=ts.map λ t=>D.int t.2.2
def yn (ts:List N2.Ck):aJ (pZ ts)=true:=bH λ d m=>by obtain⟨t,_,rfl⟩:=Lq.mp m;rfl
def has_none {ts:List N2.Ck}{k:Int×Int}(h:k∉ts.map N2.tV):oj (p5 ts) (kt k)=false:=by
 unfold oj p5;rw[N4];intro x hx z;obtain⟨t,ht,rfl⟩:=Lq.mp hx;exact h (Lq.mpr ⟨t,ht,G4.mp (by simpa using z)⟩)
def Hw (a b:Int):eu (.tup [.int a,.int b])=some (kt (a,b)):=rfl
def Cr {i:Nat}{fk fv:SD->Res D}{k:Bool}{ks:List KT}{dk:D}{q:KT}(hv:fv τ=.ok d)(ho:τ[i]?=some (some (.dct .own k ks xs)))(hk:fk τ=.ok dk)(hq:eu dk=some q)(hc:q.kind=k/\d.aw=false/\ks.length<16777216)(hn:oj ks q=false) :
  eE i fk fv τ=.nx (τ.set i (some (.dct .own k (ks++[q]) (xs++[d])))):=by
 unfold eE;have e:cT τ i=some (.own,k,ks,xs):=by unfold cT;rw[ho];rfl
 rw[hv,fV,e];show(fk τ).je τ _=_;rw[hk,fV,hq];show(if q.kind=k/\d.aw=false/\ks.length<16777216/\(oj ks q=true->d.pure=true) then _ else _)=_;rw[Lr ⟨hc.1,hc.2.1,hc.2.2,λ z=>absurd (hn.symm.trans z) Li⟩];unfold jr jq;rw[hn];rfl
def fJ{r:List D}{t:SD}(h1:tg x τ=some τ')(h2:body τ'=.nx t):bF tg body (x::r) τ=bF tg body r t:=by
 show(match tg x τ with|none=>Fl.bad|some τ'=>match body τ' with|.nx t=>bF tg body r t|.ct t=>bF tg body r t|.bk t=>.nx t|o=>o)=_;rw[h1];show(match body τ' with|.nx t=>bF tg body r t|.ct t=>bF tg body r t|.bk t=>Fl.nx t|o=>o)=_;rw[h2]
def oJ{r:List D}(h1:tg x τ=some τ')(h2:body τ'=.rt d):bF tg body (x::r) τ=.rt d:=by
 show(match tg x τ with|none=>Fl.bad|some τ'=>match body τ' with|.nx t=>bF tg body r t|.ct t=>bF tg body r t|.bk t=>.nx t|o=>o)=_;rw[h1];show(match body τ' with|.nx t=>bF tg body r t|.ct t=>bF tg body r t|.bk t=>Fl.nx t|o=>o)=_;rw[h2]
def G3 (b:Bool)(x:Int)(t:Tg)(qs:List Int):inD b (.int x) (.lst t (qs.map .int))=.ok (.bl (if b then !decide (x∈qs) else decide (x∈qs))):=by
 have h1:(qs.map D.int).all D.flat=true:=NQ.mpr λ d m=>by
  obtain⟨q,_,rfl⟩:=Lq.mp m;rfl
 have h2:ko (.int x) (qs.map D.int)=decide (x∈qs):=by
  unfold ko;rw[Nl,NB,MK];constructor
  ·rintro⟨y,hy,e⟩;obtain⟨z,hz,rfl⟩:=Lq.mp hy;have e:z=x:=by first|exact of_decide_eq_true e|exact eq_of_beq e|simpa[Gg] using e
   rw[<-e];exact hz
  ·intro h;exact⟨.int x,Lq.mpr ⟨x,h,rfl⟩,by first|exact LO rfl|exact Pe x|simp[Gg]⟩
 show(if (D.int x).flat=true/\(qs.map D.int).all D.flat=true then Res.ok (D.bl (if b then !ko (.int x) (qs.map .int) else ko (.int x) (qs.map .int))) else .bad)=_;rw[Lr ⟨rfl,h1⟩,h2]
def nj {f:SD->Res D}{x:Int}{t:Tg}{qs:List Int}(h1:f τ=.ok (.int x))(h2:g τ=.ok (.lst t (qs.map .int))):eT (af (inD true) f g) τ=.ok (!decide (x∈qs)):=k9 ((bc h1 h2).trans (G3 true x t qs))
def iA (f:Nat->Nat->Int)(k:Nat):List Int:=(List.range k).map λ j=>f k j
def rJ (f:Nat->Nat->Int)(n:Nat):List (List Int):=(List.range n).map (iA f)
def nF (ps:List Int)(f:Nat->Nat->Int):D:=wX ps (rJ f ps.length)
def aZ (ps:List Int)(f:Nat->Nat->Int):(nF ps f).pure=true:=vn _ _
abbrev aL (ps:List Int)(k:Nat):Int:=ps.getD k 0
def nq (ps:List Int)(f:Nat->Nat->Int)(k m:Nat):List N2.Ck:=(List.range m).map λ j=>(aL ps k,aL ps j,f k j)
def df (ps:List Int)(f:Nat->Nat->Int):Nat->List N2.Ck
 |0=>[]
 |n+1=>df ps f n++nq ps f n n
def zX (ps:List Int)(f:Nat->Nat->Int)(k m:Nat):nq ps f k (m+1)=nq ps f k m++[(aL ps k,aL ps m,f k m)]:=by
 unfold nq;rw[Pp,Lz];rfl
def vq (ps:List Int)(f:Nat->Nat->Int)(k m:Nat):(nq ps f k m).length=m:=by unfold nq;rw[Lc,LU]
def rL (ps:List Int)(f:Nat->Nat->Int):∀ n,(df ps f n).length<=n*n
 |0=>Ll _
 | n+1=>by
  have:=rL ps f n;show(df ps f n++nq ps f n n).length<=_;rw[Lo,vq,Nat.add_mul,Nat.mul_add];omega
def gx(hs:ps.Pairwise (· < ·)){k:Nat}(h:j<k)(hk:k<ps.length):aL ps j<aL ps k:=by
 have:=Mt.mp hs j k (by omega) hk h;unfold aL;rw[LC,LC,Lg hk,Lg (by omega)];exact this
def t8(h:b<a):N2.keyOf a b=(a,b):=by unfold N2.keyOf;rw[Lr h]
def rK {ps:List Int}{f:Nat->Nat->Int}{t:N2.Ck}:∀ {n:Nat},t∈df ps f n↔∃ k j,j<k/\k<n/\t=(aL ps k,aL ps j,f k j)
 | 0=>by
  constructor
  ·intro h;cases h
  ·rintro⟨k,j,_,h,_⟩;omega
 | n+1=>by
  show t∈df ps f n++nq ps f n n↔_;rw[Ls,rK];constructor
  ·rintro (⟨k,j,h1,h2,e⟩|h)
   ·exact⟨k,j,h1,by omega,e⟩
   ·obtain⟨j,hj,e⟩:=Lq.mp h;exact⟨n,j,LN.mp hj,by omega,e.symm⟩
  ·rintro⟨k,j,h1,h2,e⟩;by_cases h:k=n
   ·subst h;exact .inr (Lq.mpr ⟨j,LN.mpr h1,e.symm⟩)
   ·exact .inl ⟨k,j,h1,by omega,e⟩
def En(hs:ps.Pairwise (· < ·))(f:Nat->Nat->Int){k:Nat}(hj:j<k)(hk:k<ps.length):N2.keyOf (aL ps k) (aL ps j)∉(df ps f k++nq ps f k j).map N2.tV:=by
 rw[t8 (gx hs hj hk)];intro h;obtain⟨t,ht,e⟩:=Lq.mp h;rcases Ls.mp ht with ht|ht
 ·obtain⟨k',j',h1,h2,rfl⟩:=rK.mp ht;unfold N2.tV at e;simp only at e;rw[t8 (gx hs h1 (by omega))]at e;have e1:aL ps k'=aL ps k:=MG Prod.fst e;have:=gx hs h2 hk;omega
 ·obtain⟨j',hj',rfl⟩:=Lq.mp ht;have hj':=LN.mp hj';unfold N2.tV at e;simp only at e;rw[t8 (gx hs (Pj hj' hj) hk)]at e;have e1:aL ps j'=aL ps j:=MG Prod.snd e;have:=gx hs hj' (Pj hj hk);omega
def qH{e:SD->Res D}(h:e τ=.ok (nF ps f)):af cz e (eC (.int 0)) τ=.ok (.tup (ps.map .int)):=ig h (y:=.int 0) rfl (i9 (j:=0) rfl rfl)
def Jg{e:SD->Res D}(h:e τ=.ok (nF ps f)):af cz e (eC (.int 1)) τ=.ok (.tup ((rJ f ps.length).map λ r=>.tup (r.map .int))):=ig h (y:=.int 1) rfl (i9 (j:=1) rfl rfl)
def t7(h:j<ps.length):(ps.map D.int)[j]?=some (.int (aL ps j)):=ym h
def Cv{k:Nat}(h:k<n):((rJ f n).map λ r=>D.tup (r.map .int))[k]?=some (.tup ((iA f k).map .int)):=by
 unfold rJ;rw[LG,LG,Ml h];rfl
def Ct{k:Nat}(h:j<k):((iA f k).map D.int)[j]?=some (.int (f k j)):=by
 unfold iA;rw[LG,LG,Ml h];rfl
def jD (ps:List Int)(f:Nat->Nat->Int)(ts:List N2.Ck)(a b c d:Option D):SD:=[some (nF ps f),some (.dct .own true (p5 ts) (pZ ts)),a,b,c,d]
def Em{ts:List N2.Ck}{x y z:Int}{b:Option D}(hk:N2.keyOf x y∉ts.map N2.tV)(hl:ts.length<=1000) :
  eO (jD ps f ts (some (.int x)) b (some (.int y)) (some (.int z)))=.nx (jD ps f (ts++[(x,y,z)]) (some (.int x)) b (some (.int y)) (some (.int z))):=by
 unfold eO;have c2:aB tR (ae (aa 2) (ae (aa 4) ao)) (jD ps f ts (some (.int x)) b (some (.int y)) (some (.int z)))=.ok (.tup [.int (N2.keyOf x y).1,.int (N2.keyOf x y).2]):=cQ (ds:=[.int x,.int y]) (aN rfl (cL rfl)) (Eh x y) rfl;rw[Cr (d:=.int z) (q:=kt (N2.keyOf x y)) (k:=true) (ks:=p5 ts) (xs:=pZ ts) rfl rfl c2 rfl ⟨rfl,rfl,by unfold p5;rw[Lc];omega⟩ (has_none hk)];unfold jD p5 pZ;rw[Lz,Lz];rfl
def El{k:Nat}(hk:k<=ps.length):kM (ps.map D.int) ((iA f k).map D.int)=(List.range k).map λ j=>D.tup [.int (aL ps j),.int (f k j)]:=by
 refine Mr λ i=>?_;by_cases h:i<k
 ·rw[LG,Ml h];unfold kM;rw[Ob,t7 (by omega),Ct h];rfl
 ·rw[Mc (by rw[tu,Lc,Lc];unfold iA;rw[Lc,LU];omega),Mc (by rw[Lc,LU];omega)]
def zip_rows:kM (ps.map D.int) ((rJ f ps.length).map λ r=>.tup (r.map .int))=(List.range ps.length).map λ k=>D.tup [.int (aL ps k),.tup ((iA f k).map .int)]:=by
 refine Mr λ i=>?_;by_cases h:i<ps.length
 ·rw[LG,Ml h];unfold kM;rw[Ob,t7 h,Cv h];rfl
 ·rw[Mc (by rw[tu,Lc,Lc];omega),Mc (by rw[Lc,LU];omega)]
def Ek(k:Nat):aJ ((List.range k).map λ j=>D.tup [.int (aL ps j),.int (f k j)])=true:=bH λ d m=>by
 obtain⟨j,_,rfl⟩:=Lq.mp m;rfl
def Cu(n:Nat):aJ ((List.range n).map λ k=>D.tup [.int (aL ps k),.tup ((iA f k).map .int)])=true:=bH λ d m=>by
 obtain⟨k,_,rfl⟩:=Lq.mp m;show(true&&((aJ ((iA f k).map .int))&&true))=true;rw[ah];rfl
def Cs {f:SD->Res D}{ys:List D}{y:D}(h1:f τ=.ok x)(h2:g τ=.ok y)(hx:br x=.ok (false,xs))(hy:br y=.ok (false,ys)):tw (ae f (ae g ao)) τ=.ok (false,kM xs ys):=by
 unfold tw;rw[aN h1 (cL h2),Res.aH];show((br x).bind λ p=>(br y).bind λ q=>Res.ok (p.1||q.1,kM p.2 q.2))=_;rw[hx,Res.aH,hy,Res.aH];rfl
def mG(h:aJ xs=true):br (.tup xs)=.ok (false,xs):=by
 show Res.ok (av xs,xs)=_;rw[bZ _ h]
def yo {t:Tg}(ht:t=.aq\/t=.own)(h:aJ xs=true):br (.lst t xs)=.ok (false,xs):=by
 show Res.ok ((D.lst t xs).aw,xs)=_;rcases ht with rfl|rfl
 ·show Res.ok ((false||av xs),xs)=_;rw[bZ _ h];rfl
 ·rw[cN h]
def gU {zs:List Nat}{it:SD->Res (Bool×List D)}(h1:ck zs τ=τ')(h2:it τ'=.ok (false,ds))(h3:aJ ds=true):bU zs it tg body τ=bF tg body ds τ':=by
 unfold bU;rw[h1,h2];show bF tg body (aE ds) τ'=_;rw[dE _ h3]
def G5(hs:ps.Pairwise (· < ·))(hl:ps.length<=24){k:Nat}(hk:k<ps.length)(c d:Option D) :
  ∃ c' d',dB (jD ps f (df ps f k) (some (.int (aL ps k))) (some (.tup ((iA f k).map .int))) c d)=.nx (jD ps f (df ps f (k+1)) (some (.int (aL ps k))) (some (.tup ((iA f k).map .int))) c' d'):=by
 have tl:=rL ps f k;have kk:k*k<=576:=Nat.mul_le_mul (show k<=24 by omega) (show k<=24 by omega);have v0:aa 0 (jD ps f (df ps f k) (some (.int (aL ps k))) (some (.tup ((iA f k).map .int))) c d)=.ok (nF ps f):=eF rfl (aZ _ _);have v3:aa 3 (jD ps f (df ps f k) (some (.int (aL ps k))) (some (.tup ((iA f k).map .int))) c d)=.ok (.tup ((iA f k).map .int)):=eF rfl (ah _);obtain⟨t,h1,c',d',h2⟩:=iS (tg:=gT 2 (aM 4 (aM 5 cJ))) (body:=eO) (λ i t=>∃ c' d',t=jD ps f (df ps f k++nq ps f k i) (some (.int (aL ps k))) (some (.tup ((iA f k).map .int))) c' d') (ds:=(List.range k).map λ j=>D.tup [.int (aL ps j),.int (f k j)]) 0 (jD ps f (df ps f k) (some (.int (aL ps k))) (some (.tup ((iA f k).map .int))) c d) ⟨c,d,by rw[show nq ps f k 0=[] from rfl,LZ]⟩ (λ j x t hx hp=>by
  obtain⟨c1,d1,rfl⟩:=hp;rw[MW];have hj:j<k:=by
   have:=(Lh.mp hx).1;simpa using this
  rw[LG,Ml hj]at hx;cases hx;refine⟨_,_,rfl,.inl (Em (ts:=df ps f k++nq ps f k j) (En hs f hj hk) (by rw[Lo,vq];omega)),some (.int (aL ps j)),some (.int (f k j)),?_⟩;rw[zX,LM])
 rw[Lc,LU,MW]at h2;refine⟨c',d',?_⟩;unfold dB;rw[gU (τ':=jD ps f (df ps f k) (some (.int (aL ps k))) (some (.tup ((iA f k).map .int))) c d) (ds:=(List.range k).map λ j=>D.tup [.int (aL ps j),.int (f k j)]) ?_ ?_ (Ek k),h1,h2]
 ·rfl
 ·show [some (nF ps f).aq,_,_,some (D.tup ((iA f k).map .int)).aq,c,d]=_;rw[bG _ (aZ _ _),bG _ (show(D.tup ((iA f k).map .int)).pure=true from ah _)];rfl
 ·rw[Cs (qH v0) v3 (mG (ah _)) (mG (ah _)),El (by omega)]
def wZ(hs:ps.Pairwise (· < ·))(hl:ps.length<=24):dj [nF ps f]=.ok (.dct .own true (p5 (df ps f ps.length)) (pZ (df ps f ps.length))):=by
 have v0:aa 0 (jD ps f [] none none none none)=.ok (nF ps f):=eF rfl (aZ _ _);obtain⟨t,h1,a,b,c',d',h2⟩:=iS (tg:=gT 2 (aM 2 (aM 3 cJ))) (body:=dB) (λ i t=>∃ a b c d,t=jD ps f (df ps f i) a b c d) (ds:=(List.range ps.length).map λ k=>D.tup [.int (aL ps k),.tup ((iA f k).map .int)]) 0 (jD ps f [] none none none none) ⟨none,none,none,none,rfl⟩ (λ k x t hx hp=>by
  obtain⟨a,b,c1,d1,rfl⟩:=hp;rw[MW];have hk:k<ps.length:=by
   have:=(Lh.mp hx).1;simpa using this
  rw[LG,Ml hk]at hx;cases hx;obtain⟨c',d',e⟩:=G5 (f:=f) hs hl hk c1 d1;exact⟨_,_,rfl,.inl e,_,_,c',d',rfl⟩)
 rw[Lc,LU,MW]at h2;have hf:bU [0] (tw (ae (af cz (aa 0) (eC (.int 0))) (ae (af cz (aa 0) (eC (.int 1))) ao))) (gT 2 (aM 2 (aM 3 cJ))) dB (jD ps f [] none none none none)=.nx (jD ps f (df ps f ps.length) a b c' d'):=by
  rw[gU (τ':=jD ps f [] none none none none) (ds:=(List.range ps.length).map λ k=>D.tup [.int (aL ps k),.tup ((iA f k).map .int)]) ?_ ?_ (Cu _),h1,h2]
  ·show [some (nF ps f).aq,_,_,_,_,_]=_;rw[bG _ (aZ _ _)];rfl
  ·rw[Cs (qH v0) (Jg v0) (mG (ah _)) (mG (rH _)),zip_rows]
 refine cP (τ:=[some (nF ps f),none,none,none,none,none]) rfl rfl ?_;unfold jk;rw[aF (a6 (d:=.dct .own true [] []) rfl rfl)];show aC _ _ (jD ps f [] none none none none)=_;rw[aF hf];rfl
end KL
namespace PG
variable (c:Nat->Nat->Int)
def dZ (n:Nat)(T:List Nat):Prop:=∀ k,k<n->k∉T->∀ i∈T,∀ j∈T,c k i=c k j
variable {c}
def rM:∀ {l m:List Nat},l.Nodup->(∀ x∈l,x∈m)->l.length<=m.length
 |[],m,_,_=>Mk _
 | x::r,m,nd,h=>by
  have nd':=Lv.mp nd;have hx:=h x Le;have ih:=rM (l:=r) (m:=m.erase x) nd'.2 λ y hy=>by
   have hne:y≠x:=λ e=>nd'.1 (e▸hy);exact(List.mem_erase_of_ne hne).mpr (h y (Ld _ hy))
  rw[List.length_erase_of_mem hx]at ih;have:0<m.length:=List.length_pos_of_mem hx;simp only[Ly];omega
def ik {l:List Nat}{n:Nat}(nd:l.Nodup)(h:∀ x∈l,x<n):l.length<=n:=by
 have:=rM nd (m:=List.range n) λ x hx=>LN.mpr (h x hx);simpa using this
end PG
namespace KL
open DL
variable {d:D}{N x:Int}{xs:List D}{ps qs:List Int}{l lr:List Nat}{i j l0 n:Nat}{f:Nat->Nat->Int}{a b:Option D}{τ:SD}{g:SD->Res D}{α:Type}
def kI (p:Int):KT:=.inl (.inl p)
def nu {a b:Int}:kI a=kI b↔a=b:=by
 constructor
 ·intro h;exact NC (NC h)
 ·intro h;rw[h]
def iW {α:Type}(P:α->Int)(g:α->D)(k:α):∀ (l:List α),k∈l->(∀ a∈l,P a=P k->a=k)->eB (l.map λ a=>kI (P a)) (l.map g) (kI (P k))=some (g k)
 | a::l,h,inj=>by
  rw[LA,LA,eB];by_cases e:P a=P k
  ·rw[Lr (nu.mpr e),inj a Le e]
  ·rw[Lw λ z=>e (nu.mp z)];rcases Ln.mp h with z|z
   ·exact absurd (z▸rfl) e
   ·exact iW P g k l z λ b hb=>inj b (Ld _ hb)
def nv {α:Type}[DecidableEq α](P:α->Int)(g:α->D)(k:α)(x:D):∀ (l:List α),l.Nodup->(∀ a∈l,P a=P k->a=k)->iT (l.map λ a=>kI (P a)) (l.map g) (kI (P k)) x=l.map λ a=>if a=k then x else g a
 |[],_,_=>rfl
 | a::l,nd,inj=>by
  have nd':=Lv.mp nd;rw[LA,LA,iT,LA];by_cases e:P a=P k
  ·have ea:=inj a Le e;rw[Lr (nu.mpr e),Lr ea]
   congr 1
   refine LJ λ b hb=>?_;rw[Lw λ z=>nd'.1 (by rw[ea,<-z];exact hb)]
  ·rw[Lw λ z=>e (nu.mp z),Lw λ z=>e (by rw[z]),nv P g k x l nd'.2 λ b hb=>inj b (Ld _ hb)]
def t9(P:α->Int)(l:List α)(q:Int)(h:∀ a∈l,P a≠q):oj (l.map λ a=>kI (P a)) (kI q)=false:=by
 unfold oj;rw[N4];intro k hk;obtain⟨a,ha,rfl⟩:=Lq.mp hk;simp only[MK];exact λ z=>h a ha (nu.mp z)
def ent (f:Nat->Nat->Int)(i:Nat)(pr:List (Nat×Nat)):List (Nat×Int):=pr.flatMap λ t=>if i=t.1 then [(t.2,f t.1 t.2)] else if i=t.2 then [(t.1,f t.1 t.2)] else []
def CA (f:Nat->Nat->Int)(i:Nat)(pr:List (Nat×Nat))(k j:Nat):ent f i (pr++[(k,j)])=ent f i pr++(if i=k then [(j,f k j)] else if i=j then [(k,f k j)] else []):=by
 unfold ent;rw[List.flatMap_append];simp
def oK{pr:List (Nat×Nat)}{x:Nat×Int}(h:x∈ent f i pr):∃ t∈pr,(i=t.1/\x=(t.2,f t.1 t.2))\/(i=t.2/\x=(t.1,f t.1 t.2)):=by
 unfold ent at h;obtain⟨t,ht,hx⟩:=Pg.mp h;refine⟨t,ht,?_⟩;split at hx
 ·rename_i e;exact .inl ⟨e,by simpa using hx⟩
 ·split at hx
  ·rename_i e;exact .inr ⟨e,by simpa using hx⟩
  ·cases hx
def mL:Nat->List (Nat×Nat)
 |0=>[]
 |n+1=>mL n++(List.range n).map λ j=>(n,j)
def il {t:Nat×Nat}:∀ {n:Nat},t∈mL n↔t.2<t.1/\t.1<n
 | 0=>by
  constructor
  ·intro h;cases h
  ·intro h;omega
 | n+1=>by
  show t∈mL n++_↔_;rw[Ls,il,Lq];constructor
  ·rintro (h|⟨j,hj,rfl⟩)
   ·exact⟨h.1,by omega⟩
   ·exact⟨LN.mp hj,Og _⟩
  ·rintro⟨h1,h2⟩;by_cases e:t.1=n
   ·refine .inr ⟨t.2,LN.mpr (by omega),?_⟩;rw[<-e]
   ·exact .inl ⟨h1,by omega⟩
def rN:∀ n:Nat,(mL n).Nodup
 |0=>Mu
 | n+1=>by
  show(mL n++_).Nodup;refine Lp.mpr ⟨rN n,?_,λ a ha b hb e=>?_⟩
  ·refine List.Pairwise.map _ (λ a b h z=>h (MG Prod.snd z)) Oh
  ·have h1:=il.mp ha;obtain⟨j,_,rfl⟩:=Lq.mp hb;rw[e]at h1;exact absurd h1.2 (Mj _)
def vy (ps:List Int)(f:Nat->Nat->Int):∀ n:Nat,df ps f n=(mL n).map λ t=>(aL ps t.1,aL ps t.2,f t.1 t.2)
 |0=>rfl
 | n+1=>by
  show df ps f n++nq ps f n n=(mL n++_).map _;rw[Lz,vy ps f n,LQ];rfl
def cc (f:Nat->Nat->Int)(i j:Nat):Int:=f (max i j) (min i j)
def Fe{k:Nat}(h:j<k):cc f k j=f k j:=by
 unfold cc;rw[Po (by omega),Pa (by omega)]
def Ff{k:Nat}(h:j<k):cc f j k=f k j:=by
 unfold cc;rw[Nat.max_eq_right (by omega),Ox (by omega)]
def Cz{x:Nat×Int}(h:x∈ent f i (mL n)):x.2=cc f i x.1/\x.1<n/\x.1≠i:=by
 obtain⟨t,ht,⟨rfl,rfl⟩|⟨rfl,rfl⟩⟩:=oK h
 ·have:=il.mp ht;exact⟨(Fe this.1).symm,by omega,by omega⟩
 ·have:=il.mp ht;exact⟨(Ff this.1).symm,by omega,by omega⟩
def Es(hi:i<n)(hj:j<n)(hn:i≠j):(j,cc f i j)∈ent f i (mL n):=by
 unfold ent;by_cases h:j<i
 ·refine Pg.mpr ⟨(i,j),il.mpr ⟨h,hi⟩,?_⟩;rw[Lr rfl,Fe h];exact L4.mpr rfl
 ·have h':i<j:=by omega
  refine Pg.mpr ⟨(j,i),il.mpr ⟨h',hj⟩,?_⟩;rw[Lw hn,Lr rfl,Ff h'];exact L4.mpr rfl
def fK (t:Tg)(ps:List Int)(e:List (Nat×Int)):D:=.dct t false (e.map λ x=>kI (aL ps x.1)) (e.map λ x=>.int x.2)
def ua (t:Tg)(ps:List Int)(m:Nat)(g:Nat->List (Nat×Int)):D:=.dct t false ((List.range m).map λ i=>kI (aL ps i)) ((List.range m).map λ i=>fK t ps (g i))
def ip(hs:ps.Pairwise (· < ·)){k:Nat}(hj:j<ps.length)(hk:k<ps.length)(h:aL ps j=aL ps k):j=k:=by
 rcases M1 j k with z|z|z
 ·have:=gx hs z hk;omega
 ·exact z
 ·have:=gx hs z hj;omega
def iB (ps:List Int)(f:Nat->Nat->Int)(m:Nat)(g:Nat->List (Nat×Int))(a b c:Option D):SD:=[some (nF ps f),some (ua .own ps m g),a,b,c]
section
def CB{f1 fk fv:SD->Res D}{t:Tg}{ks ks2:List KT}{ys:List D}{d1 dk:D}{q1 q:L2.Key}(hv:fv τ=.ok d)(ho:cT τ i=some (t,false,ks,xs))(h1:f1 τ=.ok d1)(hq1:eu d1=some (.inl q1))(hl:eB ks xs (.inl q1)=some (.dct .own false ks2 ys))(hk:fk τ=.ok dk)(hq:eu dk=some (.inl q))(hc:d.pure=true/\ks2.length<16777216) :
  m9 i f1 fk fv τ=.nx (τ.set i (some (.dct t false ks (iT ks xs (.inl q1) (.dct .own false (jr ks2 (.inl q)) (jq ks2 ys (.inl q) d)))))):=by
 unfold m9;rw[hv,fV,ho];simp only[h1,fV,hq1,hl,hk,hq];rw[Lr hc]
def put2 {g:Nat->List (Nat×Int)}{c:Option D}{k:Nat}{v:Int}{f1 fk fv:SD->Res D}(hs:ps.Pairwise (· < ·))(hk:k<ps.length)(h:∀ x∈g k,aL ps x.1≠aL ps j)(hl:(g k).length<=1000)
  (h1:f1 (iB ps f ps.length g a b c)=.ok (.int (aL ps k))) (h2:fk (iB ps f ps.length g a b c)=.ok (.int (aL ps j))) (h3:fv (iB ps f ps.length g a b c)=.ok (.int v)) :
  m9 1 f1 fk fv (iB ps f ps.length g a b c)=.nx (iB ps f ps.length (λ i=>if i=k then g k++[(j,v)] else g i) a b c):=by
 have inj:∀ i∈List.range ps.length,aL ps i=aL ps k->i=k:=λ i hi e=>ip hs (LN.mp hi) hk e;have lk:=iW (aL ps) (λ i=>fK .own ps (g i)) k (List.range ps.length) (LN.mpr hk) inj;have rp:=nv (aL ps) (λ i=>fK .own ps (g i)) k (fK .own ps (g k++[(j,v)])) (List.range ps.length) Oh inj;have hk1:jr ((g k).map λ x=>kI (aL ps x.1)) (kI (aL ps j))=(g k++[(j,v)]).map λ x=>kI (aL ps x.1):=by
  unfold jr;rw[t9 (λ x:Nat×Int=>aL ps x.1) (g k) (aL ps j) h,Lw Li,Lz];rfl
 have hk2:jq ((g k).map λ x=>kI (aL ps x.1)) ((g k).map λ x=>D.int x.2) (kI (aL ps j)) (.int v)=(g k++[(j,v)]).map λ x=>D.int x.2:=by
  unfold jq;rw[t9 (λ x:Nat×Int=>aL ps x.1) (g k) (aL ps j) h,Lw Li,Lz];rfl
 rw[CB (t:=.own) (ks:=(List.range ps.length).map λ i=>kI (aL ps i)) (xs:=(List.range ps.length).map λ i=>fK .own ps (g i)) (d:=.int v) (d1:=.int (aL ps k)) (dk:=.int (aL ps j)) (q1:=.inl (aL ps k)) (q:=.inl (aL ps j)) (ks2:=(g k).map λ x:Nat×Int=>kI (aL ps x.1)) (ys:=(g k).map λ x:Nat×Int=>D.int x.2) h3 rfl h1 rfl lk h2 rfl ⟨rfl,by rw[Lc];omega⟩];rw[show(Sum.inl (Sum.inl (aL ps j)):KT)=kI (aL ps j) from rfl,show(Sum.inl (Sum.inl (aL ps k)):KT)=kI (aL ps k) from rfl,hk1,hk2];show Fl.nx [_,some (.dct .own false _ (iT _ _ _ (fK .own ps (g k++[(j,v)])))),_,_,_]=_;rw[rp];have em:((List.range ps.length).map λ a=>if a=k then fK .own ps (g k++[(j,v)]) else fK .own ps (g a))=(List.range ps.length).map λ i=>fK .own ps (if i=k then g k++[(j,v)] else g i):=LJ λ i _=>by split<;>rfl
 rw[em];rfl
abbrev Ks (ps:List Int)(f:Nat->Nat->Int)(t:Nat×Nat):D:=.tup [.tup [.int (aL ps t.1),.int (aL ps t.2)],.int (f t.1 t.2)]
def Er {pr:List (Nat×Nat)}{k:Nat}(hs:ps.Pairwise (· < ·))(hj:j<k)(hk:k<ps.length)(hb:∀ t∈pr,t.2<t.1/\t.1<ps.length)(hn:(k,j)∉pr)(hl:∀ i,(ent f i pr).length<=999) :
  dS (iB ps f ps.length (λ i=>ent f i pr) a (some (.tup [.int (aL ps k),.int (aL ps j)])) (some (.int (f k j))))=.nx (iB ps f ps.length (λ i=>ent f i (pr++[(k,j)])) a (some (.tup [.int (aL ps k),.int (aL ps j)])) (some (.int (f k j)))):=by
 have bnd:∀ i,∀ x∈ent f i pr,x.1<ps.length:=λ i x hx=>by
  obtain⟨t,ht,⟨_,rfl⟩|⟨_,rfl⟩⟩:=oK hx
  ·have:=hb t ht;show t.2<_;omega
  ·exact(hb t ht).2
 have n1:∀ x∈ent f k pr,aL ps x.1≠aL ps j:=λ x hx z=>by
  have e:=ip hs (bnd k x hx) (by omega) z;obtain⟨t,ht,⟨e1,rfl⟩|⟨e1,rfl⟩⟩:=oK hx
  ·have:t=(k,j):=Prod.ext e1.symm e;exact hn (this▸ht)
  ·have:=(hb t ht).1;have e:t.1=j:=e;omega
 have n2:∀ x∈ent f j pr,aL ps x.1≠aL ps k:=λ x hx z=>by
  have e:=ip hs (bnd j x hx) hk z;obtain⟨t,ht,⟨e1,rfl⟩|⟨e1,rfl⟩⟩:=oK hx
  ·have:=(hb t ht).1;have e:t.2=k:=e;omega
  ·have:t=(k,j):=Prod.ext e e1.symm;exact hn (this▸ht)
 unfold dS;rw[aF (put2 (g:=λ i=>ent f i pr) (k:=k) (j:=j) (v:=f k j) hs hk n1 (by have:=hl k;omega) rfl rfl rfl)];have hjk:j≠k:=by omega
 rw[put2 (g:=λ i=>if i=k then ent f k pr++[(j,f k j)] else ent f i pr) (k:=j) (j:=k) (v:=f k j) hs (by omega) (by simp only[Lw hjk];exact n2) (by simp only[Lw hjk];have:=hl j;omega) rfl rfl rfl]
 congr 2
 funext i;rw[CA];by_cases h1:i=j
 ·subst h1;rw[Lr rfl,Lw hjk,Lw hjk,Lr rfl]
 ·rw[Lw h1];by_cases h2:i=k
  ·subst h2;rw[Lr rfl,Lr rfl]
  ·rw[Lw h2,Lw h2,Lw h1,LZ]
def yr (f:Nat->Nat->Int)(i:Nat):∀ pr:List (Nat×Nat),(ent f i pr).length<=pr.length
 |[]=>Ll _
 | t::r=>by
  have:=yr f i r;unfold ent at this ⊢;rw[List.flatMap_cons,Lo,Ly];split
  ·simp only[Ly,Mn];omega
  ·split
   ·simp only[Ly,Mn];omega
   ·simp only[Mn];omega
def yt:∀ n:Nat,(mL n).length<=n*n
 |0=>Ll _
 | n+1=>by
  have:=yt n;show(mL n++_).length<=_;rw[Lo,Lc,LU,Nat.add_mul,Nat.mul_add];omega
def yp (hs:ps.Pairwise (· < ·))(hl:ps.length<=24)(a:Option D):∀ (r pr:List (Nat×Nat)) (b c:Option D),pr++r=mL ps.length->∃ b' c',bF (gT 2 (aM 3 (aM 4 cJ))) dS (r.map (Ks ps f)) (iB ps f ps.length (λ i=>ent f i pr) a b c)=.nx (iB ps f ps.length (λ i=>ent f i (mL ps.length)) a b' c')
 | [],pr,b,c,e=>by
  rw[LZ]at e;subst e;exact⟨b,c,rfl⟩
 | t::r,pr,b,c,e=>by
  have nd:=rN ps.length;have hm:∀ x∈pr++t::r,x.2<x.1/\x.1<ps.length:=λ x hx=>il.mp (e▸hx);have hn:t∉pr:=λ z=>by
   rw[<-e,Lp]at nd;exact nd.2.2 t z t Le rfl
  have ht:=hm t (by simp);have hlen:∀ i,(ent f i pr).length<=999:=λ i=>by
   have h1:=yr f i pr;have h2:=yt ps.length;rw[<-e,Lo]at h2;have h3:ps.length*ps.length<=576:=Nat.mul_le_mul (show ps.length<=24 by omega) (show ps.length<=24 by omega);omega
  have st:=Er (f:=f) (pr:=pr) (a:=a) (k:=t.1) (j:=t.2) hs ht.1 ht.2 (λ x hx=>hm x (Lu _ hx)) hn hlen;obtain⟨b',c',ih⟩:=yp hs hl a r (pr++[t]) (some (.tup [.int (aL ps t.1),.int (aL ps t.2)])) (some (.int (f t.1 t.2))) (by rw[LM];exact e);refine⟨b',c',?_⟩;rw[LA,fJ (τ':=iB ps f ps.length (λ i=>ent f i pr) a (some (.tup [.int (aL ps t.1),.int (aL ps t.2)])) (some (.int (f t.1 t.2)))) rfl st];exact ih
def p6:∀ ts:List N2.Ck,gq (p5 ts) (pZ ts)=ts.map λ t=>.tup [.tup [.int (N2.tV t).1,.int (N2.tV t).2],.int t.2.2]
 |[]=>rfl
 | t::r=>by
  show D.tup [yd (kt (N2.tV t)),.int t.2.2]::gq (p5 r) (pZ r)=_;rw[p6 r];rfl
def Cw(hs:ps.Pairwise (· < ·))(hl:ps.length<=24)(h0:τ[0]?=some (some (nF ps f))):jV (aB dj (ae (aa 0) ao)) τ=.ok (false,(mL ps.length).map (Ks ps f)):=by
 have hc:aB dj (ae (aa 0) ao) τ=.ok (.dct .own true (p5 (df ps f ps.length)) (pZ (df ps f ps.length))):=
  cQ (ds:=[nF ps f]) (cL (eF h0 (aZ _ _))) (by show dj [(nF ps f).aq]=_;rw[bG _ (aZ _ _)];exact wZ hs hl) (by show((nF ps f).aw||false)=false;rw[bx _ (aZ _ _)];rfl)
 unfold jV;rw[hc,Res.aH];show(if aJ (pZ (df ps f ps.length))=true then Res.ok ((false||av (pZ (df ps f ps.length))),gq (p5 (df ps f ps.length)) (pZ (df ps f ps.length))) else .bad)=_;rw[Lr (yn _),bZ _ (yn _),p6,vy,LQ]
 congr 2
 refine LJ λ t ht=>?_;have h:=il.mp ht;show D.tup [.tup [.int (N2.keyOf (aL ps t.1) (aL ps t.2)).1,.int (N2.keyOf (aL ps t.1) (aL ps t.2)).2],.int (f t.1 t.2)]=_;rw[t8 (gx hs h.1 h.2)]
def vt (ps:List Int):ps.map D.int=(List.range ps.length).map λ i=>D.int (aL ps i):=by
 refine Mr λ i=>?_;by_cases h:i<ps.length
 ·rw[t7 h,LG,Ml h];rfl
 ·rw[Mc (by rw[Lc];omega),Mc (by rw[Lc,LU];omega)]
def Cy (l:List (Nat×Nat)):aJ (l.map (Ks ps f))=true:=bH λ d m=>by
 obtain⟨t,_,rfl⟩:=Lq.mp m;rfl
def zY (hs:ps.Pairwise (· < ·))(hl:ps.length<=24):f7 [nF ps f]=.ok (ua .own ps ps.length λ i=>ent f i (mL ps.length)):=by
 refine cP (τ:=[some (nF ps f),none,none,none,none]) rfl rfl ?_;unfold j4;rw[aF (a6 (d:=.dct .own false [] []) rfl rfl)];show aC _ _ (iB ps f 0 (λ _=>[]) none none none)=_;have v0:∀ m o,aa 0 (iB ps f m (λ _=>[]) o none none)=.ok (nF ps f):=λ m o=>eF rfl (aZ _ _);have l1:∃ o,bU [0] (eN (af cz (aa 0) (eC (.int 0)))) (gN 2) gQ (iB ps f 0 (λ _=>[]) none none none)=.nx (iB ps f ps.length (λ _=>[]) o none none):=by
  obtain⟨t,h1,o,h2⟩:=iS (tg:=gN 2) (body:=gQ) (λ i t=>∃ o,t=iB ps f i (λ _=>[]) o none none) (ds:=(List.range ps.length).map λ i=>D.int (aL ps i)) 0 (iB ps f 0 (λ _=>[]) none none none) ⟨none,rfl⟩ (λ j d τ hx hp=>by
   obtain⟨o,rfl⟩:=hp;rw[MW];have hj:j<ps.length:=by
    have:=(Lh.mp hx).1;simpa using this
   rw[LG,Ml hj]at hx;cases hx;refine⟨_,_,rfl,.inl (Cr (k:=false) (ks:=(List.range j).map λ i=>kI (aL ps i)) (xs:=(List.range j).map λ i=>fK .own ps []) (d:=.dct .own false [] []) (dk:=.int (aL ps j)) (q:=kI (aL ps j)) rfl rfl rfl rfl ⟨rfl,rfl,by rw[Lc,LU];omega⟩ (t9 (aL ps) _ _ λ i hi z=>?_)),some (.int (aL ps j)),?_⟩
   ·have:=ip hs (by have:=LN.mp hi;omega) hj z;have:=LN.mp hi;omega
   ·show [_,some (D.dct .own false (((List.range j).map λ i=>kI (aL ps i))++[kI (aL ps j)]) (((List.range j).map λ i=>fK .own ps [])++[fK .own ps []])),_,_,_]=_;unfold iB ua;rw[Pp,Lz,Lz];rfl)
  rw[Lc,LU,MW]at h2;refine⟨o,?_⟩;rw[gU (τ':=iB ps f 0 (λ _=>[]) none none none) (ds:=(List.range ps.length).map λ i=>D.int (aL ps i)) ?_ ?_ ?_,h1,h2]
  ·show [some (nF ps f).aq,_,_,_,_]=_;rw[bG _ (aZ _ _)];rfl
  ·unfold eN;rw[qH (v0 0 none),Res.aH,mG (ah _),vt]
  ·rw[<-vt];exact ah _
 obtain⟨o,l1⟩:=l1;rw[aF l1];obtain⟨b',c',l2⟩:=yp (f:=f) hs hl o (mL ps.length) [] none none rfl;have l3:bU [0] (jV (aB dj (ae (aa 0) ao))) (gT 2 (aM 3 (aM 4 cJ))) dS (iB ps f ps.length (λ _=>[]) o none none)=.nx (iB ps f ps.length (λ i=>ent f i (mL ps.length)) o b' c'):=by
  rw[gU (τ':=iB ps f ps.length (λ _=>[]) o none none) ?_ (Cw hs hl rfl) (Cy _)]
  ·exact l2
  ·show [some (nF ps f).aq,_,_,_,_]=_;rw[bG _ (aZ _ _)];rfl
 rw[aF l3];rfl
end
def Ep (ps:List Int)(e:List (Nat×Int)):(fK .own ps e).aq=fK .aq ps e:=by
 show D.dct .aq false _ (aE (e.map λ x=>D.int x.2))=_;rw[dE _ (bH λ d m=>by obtain⟨x,_,rfl⟩:=Lq.mp m;rfl)];rfl
def vv (ps:List Int)(e:List (Nat×Int)):(fK .aq ps e).view=fK .aq ps e:=by
 show D.dct .aq false _ (bR (e.map λ x=>D.int x.2))=_;rw[dO _ (bH λ d m=>by obtain⟨x,_,rfl⟩:=Lq.mp m;rfl)];rfl
def p7 (ps:List Int)(e:List (Nat×Int)):(fK .aq ps e).aq=fK .aq ps e:=by
 show D.dct .aq false _ (aE (e.map λ x=>D.int x.2))=_;rw[dE _ (bH λ d m=>by obtain⟨x,_,rfl⟩:=Lq.mp m;rfl)];rfl
def G6 (ps:List Int)(m:Nat)(g:Nat->List (Nat×Int)):(ua .own ps m g).aq=ua .aq ps m g:=by
 show D.dct .aq false _ (aE ((List.range m).map λ i=>fK .own ps (g i)))=_;rw[kj,LQ];unfold ua
 congr 1
 exact LJ λ i _=>Ep ps (g i)
def Eo (ps:List Int)(m:Nat)(g:Nat->List (Nat×Int)):(ua .aq ps m g).view=ua .aq ps m g:=by
 show D.dct .aq false _ (bR ((List.range m).map λ i=>fK .aq ps (g i)))=_;rw[jM,LQ];unfold ua
 congr 1
 exact LJ λ i _=>vv ps (g i)
def yq (ps:List Int)(m:Nat)(g:Nat->List (Nat×Int)):(ua .aq ps m g).aq=ua .aq ps m g:=by
 show D.dct .aq false _ (aE ((List.range m).map λ i=>fK .aq ps (g i)))=_;rw[kj,LQ];unfold ua
 congr 1
 exact LJ λ i _=>p7 ps (g i)
abbrev zZ (ps:List Int)(f:Nat->Nat->Int):D:=ua .aq ps ps.length λ i=>ent f i (mL ps.length)
section
end
def nz {α:Type}{tt:SD->Res Bool}{elt:SD->Res D}{caps:SD}(h:α->D)(p:α->Bool)(f:α->D):∀ {l:List α} (o:Option D),(∀ a∈l,tt (some (h a)::caps)=.ok (p a))->(∀ a∈l,p a=true->elt (some (h a)::caps)=.ok (f a)/\(f a).aw=false)->fM (gN 0) tt elt (l.map h) (o::caps)=.ok ((l.filter p).map f)
 |[],o,_,_=>rfl
 | a::l,o,h1,h2=>by
  have ih:=nz h p f (l:=l) (some (h a)) (λ b hb=>h1 b (Ld _ hb)) λ b hb=>h2 b (Ld _ hb);rw[LA,fM];show((tt (some (h a)::caps)).bind λ b=>if b=true then (elt (some (h a)::caps)).bind λ x=>if x.aw=true then Res.bad else (fM (gN 0) tt elt (l.map h) (some (h a)::caps)).bind λ xs=>.ok (x::xs) else fM (gN 0) tt elt (l.map h) (some (h a)::caps))=_;rw[h1 a Le,Res.aH];cases hp:p a with
  | false =>
   rw[Lw Li,ih,Ol,hp];rfl
  | true =>
   obtain⟨e1,e2⟩:=h2 a Le hp;rw[Lr rfl,e1,Res.aH,Lw (by rw[e2];exact Li),ih,Ol,hp];rfl
def iX{it:SD->Res (Bool×List D)}{tt:SD->Res Bool}{elt:SD->Res D}{cap:List (PySem.Str×Nat)}{fl:Bool}{l:List α}(h:α->D)(p:α->Bool)(f:α->D)(hit:it τ=.ok (fl,l.map h))(hh:∀ a∈l,(h a).pure=true)
  (ht:∀ a∈l,tt (some (h a)::dR τ cap)=.ok (p a)) (he:∀ a∈l,p a=true->elt (some (h a)::dR τ cap)=.ok (f a)/\(f a).pure=true) (hl:l.length<=1000):bw it (gN 0) tt elt 1 cap τ=.ok (.lst .own ((l.filter p).map f)):=by
 have hp:aJ ((l.filter p).map f)=true:=bH λ d m=>by
  obtain⟨x,hx,rfl⟩:=Lq.mp m;obtain⟨h1,h2⟩:=M3.mp hx;exact(he x h1 h2).2
 have hl':((l.filter p).map f).length<=16777216:=by
  rw[Lc];have:=Od p l;omega
 have hc:fM (gN 0) tt elt (aE (l.map h)) (List.replicate 1 none++dR τ cap)=.ok ((l.filter p).map f):=by
  rw[dE _ (bH λ d m=>by obtain⟨x,hx,rfl⟩:=Lq.mp m;exact hh x hx)];exact nz h p f none ht λ a m q=>⟨(he a m q).1,bx _ (he a m q).2⟩
 unfold bw;rw[hit,Res.aH];simp only[hc,Lr hl',eZ _ hp,ite_self]
def rO{it:SD->Res (Bool×List D)}{elt:SD->Res D}{cap:List (PySem.Str×Nat)}{fl:Bool}{l:List α}(h:α->D)(f:α->D)(hit:it τ=.ok (fl,l.map h))(hh:∀ a∈l,(h a).pure=true)
  (he:∀ a∈l,elt (some (h a)::dR τ cap)=.ok (f a)/\(f a).pure=true) (hl:l.length<=1000):bw it (gN 0) bW elt 1 cap τ=.ok (.lst .own (l.map f)):=by
 have:=iX (tt:=bW) (elt:=elt) h (λ _=>true) f hit hh (λ _ _=>rfl) (λ a m _=>he a m) hl;rw[this,OE.mpr λ _ _=>rfl]
def pp (ps:List Int)(l:List Nat):List Int:=l.map (aL ps)
def w4 (ps:List Int)(l:List Nat):(pp ps l).map D.int=l.map λ i=>D.int (aL ps i):=by
 unfold pp;rw[LQ];rfl
def Aa (ps:List Int)(l m:List Nat):pp ps (l++m)=pp ps l++pp ps m:=Lz
def G7(hs:ps.Pairwise (· < ·))(hi:i<ps.length)(hl:∀ x∈l,x<ps.length):aL ps i∈pp ps l↔i∈l:=by
 unfold pp;constructor
 ·intro h;obtain⟨j,hj,e⟩:=Lq.mp h;rw[ip hs hi (hl j hj) e.symm];exact hj
 ·intro h;exact Lq.mpr ⟨i,h,rfl⟩
def G8(h:τ[i]?=some (some (.lst .own xs)))(hp:aJ xs=true):eN (aa i) τ=.ok (true,xs):=by
 unfold eN;rw[fF h hp,Res.aH];show Res.ok ((decide (Tg.bor=Tg.bor)||av xs),xs)=_;rw[LO rfl,Bool.true_or]
def lF(h:τ[i]?=some (some (.lst .aq xs)))(hp:aJ xs=true):eN (aa i) τ=.ok (false,xs):=by
 unfold eN;rw[bO h hp,Res.aH];exact yo (.inl rfl) hp
def p8:∀ ns:List Int,lB (ns.map D.int)=true
 |[]=>rfl
 | n::r=>by
  show((D.int n).plain&&lB (r.map D.int))=true;rw[p8 r];rfl
section
variable{ms O W:List Nat}{fi:Nat}{Pl:List (Nat×Nat)}
end
def Hc (b:Bool)(x:Int)(qs:List Int):inD b (.int x) (.tup (qs.map .int))=.ok (.bl (if b then !decide (x∈qs) else decide (x∈qs))):=by
 have h1:(qs.map D.int).all D.flat=true:=by simp[D.flat]
 have h2:ko (.int x) (qs.map D.int)=decide (x∈qs):=by
  unfold ko;rw[Nl,NB,MK];constructor
  ·rintro⟨y,hy,e⟩;obtain⟨z,hz,rfl⟩:=Lq.mp hy;have e:z=x:=by simpa[Gg] using e
   rw[<-e];exact hz
  ·intro h;exact⟨.int x,Lq.mpr ⟨x,h,rfl⟩,by simp[Gg]⟩
 show(if (D.int x).flat=true/\(qs.map D.int).all D.flat=true then Res.ok (D.bl (if b then !ko (.int x) (qs.map .int) else ko (.int x) (qs.map .int))) else .bad)=_;rw[Lr ⟨rfl,h1⟩,h2]
def yu(h:τ[i]?=some (some (.tup (qs.map .int)))):aa i τ=.ok (.tup (qs.map .int)):=eF h (ah qs)
def vz {f:SD->Res D}(h1:f τ=.ok (.int x))(h2:g τ=.ok (.tup (qs.map .int))):eT (af (inD true) f g) τ=.ok (!decide (x∈qs)):=k9 ((bc h1 h2).trans (Hc true x qs))
def Ha (ns:List Int)(k:Int):k∈L2.dd ns↔k∈ns:=by
 have h:=PyProof.Rows.firstMet_any (λ i=>ns.getD i 0) ns.length k;have e:(List.range ns.length).map (λ i=>ns.getD i 0)=ns:=by
  refine Nd (by simp) λ i h1 h2=>?_;simp;rw[Lg h2];rfl
 rw[e]at h;have m:∀ l:List Int,(l.any λ x=>x == k)=true↔k∈l:=λ l=>by
  rw[NB];constructor
  ·rintro⟨x,hx,e⟩;have:x=k:=by simpa using e
   exact this▸hx
  ·intro hk;exact⟨k,hk,by simp⟩
 unfold L2.dd;rw[<-m,h,m]
def p9:∀ (ns acc:List Int),acc.Nodup->(ns.foldl PyProof.Rows.step_dedup acc).Nodup
 |[],_,h=>h
 | x::r,acc,h=>by
  rw[Pn];refine p9 r _ ?_;unfold PyProof.Rows.step_dedup;split
  ·exact h
  ·rename_i hx;rw[Lp];refine⟨h,Lv.mpr ⟨Mv,Mu⟩,λ a ha b hb z=>?_⟩;have hb:b=x:=by simpa using hb
   subst hb z;exact hx (NB.mpr ⟨a,ha,by simp⟩)
def CC (ns:List Int):(L2.dd ns).Nodup:=p9 _ [] Mu
def CD(h:x∈qs):dC [.tup (qs.map .int),.int x]=.ok .bg:=by
 refine GW (t:=[some (.tup (qs.map .int)),some (.int x)]) rfl rfl ?_;show eQ [some (.tup (qs.map .int)),some (.int x)]=.nx _;unfold eQ;have t:=vz (τ:=[some (.tup (qs.map .int)),some (.int x)]) (f:=aa 1) (g:=aa 0) (x:=x) (qs:=qs) rfl (yu rfl);rw[LO h]at t;rw[kN t];rfl
def vA (ps qs:List Int)(o:Option D):SD:=[some (.tup (ps.map .int)),some (.lst .aq (qs.map .int)),o]
section
def Et {q:Int}(h:q∈ps):aB dC (ae (aa 0) (ae (aa 2) ao)) (vA ps qs (some (.int q)))=.ok .bg:=
 cQ (ds:=[.tup (ps.map .int),.int q]) (aN (yu rfl) (cL rfl)) (by show dC [.tup (aE (ps.map .int)),.int q]=_;rw[bf];exact CD h) (by show((av (ps.map .int))||_)=false;rw[bZ _ (ah _)];rfl)
def yv:∀ (R:List Int) (o:Option D),(∀ q∈R,q∈ps)->∃ o',bF (gN 2) c7 (R.map .int) (vA ps qs o)=.nx (vA ps qs o')
 |[],o,_=>⟨o,rfl⟩
 | q::R,o,h=>by
  obtain⟨o',i1⟩:=yv R (some (.int q)) λ x hx=>h x (Ld _ hx);refine⟨o',?_⟩;rw[LA,fJ (body:=c7) (τ':=vA ps qs (some (.int q))) rfl (Ei (Et (h q Le)))];exact i1
def G9:bU [1] (eN (aa 1)) (gN 2) c7 (vA ps qs none)=bF (gN 2) c7 (qs.map .int) (vA ps qs none):=by
 refine gU ?_ (lF rfl (ah qs)) (ah qs);show [some (D.tup (ps.map .int)),some (.lst .aq (aE (qs.map .int))),none]=_;rw[bf];rfl
def w6 (h1:∀ q∈qs,q∈ps)(h2:qs≠[])(hl:qs.length<64):eK [.tup (ps.map .int),.lst .aq (qs.map .int)]=.ok (.lst .own ((sortI (L2.dd qs)).map .int)):=by
 obtain⟨o,e⟩:=yv (ps:=ps) (qs:=qs) qs none h1;refine cP (τ:=vA ps qs none) rfl rfl ?_;unfold iz;rw[aF (G9.trans e)];have v1:aa 1 (vA ps qs o)=.ok (.lst .aq (qs.map .int)):=bO rfl (ah qs);have t:=gu (tW v1) (g:=eC (.int 0)) (b:=0) rfl;rw[LD (by rw[Lc];cases qs with|nil=>exact absurd rfl h2|cons _ _=>simp only[Ly];omega)]at t;rw[jz t];refine fD ?_ (cN (ah _));unfold kK;rw[v1,Res.aH];show(match intsOf (qs.map D.int) with|some ns=>if ns.length<64 then Res.ok (D.lst .own ((sortI (L2.dd ns)).map D.int)) else .bad|none=>.bad)=_;rw[di];show(if qs.length<64 then Res.ok (D.lst .own ((sortI (L2.dd qs)).map D.int)) else .bad)=_;rw[Lr hl]
end
def jl {G:DF}{fs:SD->Res (List D)}{ds:List D}(ha:fs τ=.ok ds)(h:G (aE ds)=.ok d)(ht:d.aP=d):aB G fs τ=.ok d:=by
 unfold aB;rw[ha,Res.aH];unfold dQ;rw[h];show(if av ds=true then Res.ok d.aP else Res.ok d)=_;rw[ht,ite_self]
def kH(h:aJ xs=true):(D.lst .own xs).aP=.lst .own xs:=by
 show D.lst .own (bA xs)=_;rw[eZ _ h]
def Hb (ps:List Int)(e:List (Nat×Int)):(fK .aq ps e).aw=false:=by
 show(false||av (e.map λ x=>D.int x.2))=false;rw[bZ _ (bH λ d m=>by obtain⟨x,_,rfl⟩:=Lq.mp m;rfl)];rfl
def Jh (ps:List Int)(m:Nat)(g:Nat->List (Nat×Int)):(ua .aq ps m g).aw=false:=by
 show(false||av ((List.range m).map λ i=>fK .aq ps (g i)))=false;rw[o7,Bool.false_or,N4];intro d hd;obtain⟨i,_,rfl⟩:=Lq.mp hd;rw[Hb];exact Li
section
end
def ni (l:List Nat):List Int:=l.map λ i:Nat=>(i:Int)
def j7 (l:List Nat):(ni l).map D.int=l.map λ i:Nat=>D.int (i:Int):=by
 unfold ni;rw[LQ];rfl
def nB (l m:List Nat):ni (l++m)=ni l++ni m:=Lz
def CH:(i:Int)∈ni l↔i∈l:=by
 unfold ni;constructor
 ·intro h;obtain⟨j,hj,e⟩:=Lq.mp h;have:j=i:=by omega
  exact this▸hj
 ·intro h;exact Lq.mpr ⟨i,h,rfl⟩
def j6 (l:List Nat):(ni l).length=l.length:=Lc _
section
def Hd {k:Nat}{e i:SD->Res D}(h:e τ=.ok (nF ps f))(hg:g τ=.ok (.int k))(hi:i τ=.ok (.int j))(hj:j<k)(hk:k<ps.length):af cz (af cz (af cz e (eC (.int 1))) g) i τ=.ok (.int (f k j)):=
 ig (ig (Jg h) hg (i9 rfl (Cv hk))) hi (i9 rfl (Ct hj))
def j8(h:τ[0]?=some (some (nF ps f))):aa 0 τ=.ok (nF ps f):=eF h (aZ _ _)
def CG {k:Nat}(hk:k<ps.length)(hj:j<ps.length)(hn:k≠j):G_Lshown [nF ps f,.int k,.int j]=.ok (.int (cc f k j)):=by
 refine cP (τ:=[some (nF ps f),some (.int k),some (.int j)]) rfl rfl ?_;unfold g_Lshown;refine fD ?_ rfl;unfold cc;refine Hd (j8 rfl) ?_ ?_ (by omega) (by omega)
 ·show Res.ok (D.int (if (j:Int)>k then (j:Int) else k))=_;by_cases h:j<k
  ·rw[Lw (by omega),Po (by omega)]
  ·rw[Lr (by omega),Nat.max_eq_right (by omega)]
 ·show Res.ok (D.int (if (j:Int)<k then (j:Int) else k))=_;by_cases h:j<k
  ·rw[Lr (by omega),Pa (by omega)]
  ·rw[Lw (by omega),Ox (by omega)]
def qa{h:SD->Res D}{k:Nat}(h0:τ[0]?=some (some (nF ps f)))(h1:g τ=.ok (.int k))(h2:h τ=.ok (.int j))(hk:k<ps.length)(hj:j<ps.length)(hn:k≠j):aB G_Lshown (ae (aa 0) (ae g (ae h ao))) τ=.ok (.int (cc f k j)):=
 eV (ds:=[nF ps f,.int k,.int j]) (aN (j8 h0) (aN h1 (cL h2))) (by show G_Lshown [(nF ps f).aq,.int k,.int j]=_;rw[bG _ (aZ _ _)];exact CG hk hj hn) rfl
def eL (ps:List Int)(f:Nat->Nat->Int)(l:List Nat)(a b:Option D):SD:=[some (nF ps f),some (.lst .aq ((ni l).map .int)),a,b]
def CI:aa 1 (eL ps f l a b)=.ok (.lst .aq ((ni l).map .int)):=bO rfl (ah _)
def Fg:af cz (aa 1) (eC (.int 0)) (eL ps f (l0::lr) a b)=.ok (.int l0):=ig CI (y:=.int 0) rfl (pX (j:=0) rfl rfl)
def Fi {l0 k:Nat}{lr:List Nat}(hl:∀ x∈l0::lr,x<ps.length)(hk:k<ps.length)(hn:k∉l0::lr):∀ (r:List Nat) (b:Option D),(∀ x∈r,x∈lr) ->
  (∃ b',bF (gN 3) g_Lteller_b1 ((ni r).map .int) (eL ps f (l0::lr) (some (.int k)) b)=.nx (eL ps f (l0::lr) (some (.int k)) b')/\∀ j∈r,cc f k j=cc f k l0) ∨
  ∃ j:Nat,(j∈lr/\cc f k j≠cc f k l0)/\bF (gN 3) g_Lteller_b1 ((ni r).map .int) (eL ps f (l0::lr) (some (.int k)) b)=.rt (.tup [.int k,.int l0,.int j])
 |[],b,_=>.inl ⟨b,rfl,λ j hj=>by cases hj⟩
 | j::r,b,h=>by
  have hj:=h j Le;have hjn:k≠j:=λ z=>hn (Ld _ (z▸hj));have h0n:k≠l0:=λ z=>hn (z▸Le);have c1:=qa (f:=f) (τ:=eL ps f (l0::lr) (some (.int k)) (some (.int j))) (g:=aa 2) (h:=aa 3) (k:=k) (j:=j) rfl rfl rfl hk (hl j (Ld _ hj)) hjn;have c2:=qa (f:=f) (τ:=eL ps f (l0::lr) (some (.int k)) (some (.int j))) (g:=aa 2) (h:=af cz (aa 1) (eC (.int 0))) (k:=k) (j:=l0) rfl rfl Fg hk (hl l0 Le) h0n;have t:=tZ c1 c2;by_cases e:cc f k j=cc f k l0
  ·rw[LO e]at t;have st:g_Lteller_b1 (eL ps f (l0::lr) (some (.int k)) (some (.int j)))=.nx (eL ps f (l0::lr) (some (.int k)) (some (.int j))):=by
    unfold g_Lteller_b1;rw[kN t];rfl
   have go:bF (gN 3) g_Lteller_b1 ((ni (j::r)).map .int) (eL ps f (l0::lr) (some (.int k)) b)=bF (gN 3) g_Lteller_b1 ((ni r).map .int) (eL ps f (l0::lr) (some (.int k)) (some (.int j))):=fJ (τ':=eL ps f (l0::lr) (some (.int k)) (some (.int j))) rfl st;rw[go];rcases Fi hl hk hn r (some (.int j)) (λ x hx=>h x (Ld _ hx)) with ⟨b',e1,e2⟩|q
   ·refine .inl ⟨b',e1,λ x hx=>?_⟩;rcases Ln.mp hx with rfl|hx
    ·exact e
    ·exact e2 x hx
   ·exact .inr q
  ·rw[LD e]at t;refine .inr ⟨j,⟨hj,e⟩,oJ (τ':=eL ps f (l0::lr) (some (.int k)) (some (.int j))) rfl ?_⟩;unfold g_Lteller_b1;rw[pV t];refine fD ?_ rfl;rw[fE (aN (d:=.int k) rfl (aN Fg (cL (d:=.int j) rfl)))];rfl
def Hf:eN (cZ (aa 1) (eP (eC (.int 1))) lj) (eL ps f (l0::lr) a b)=.ok (false,(ni lr).map .int):=by
 unfold eN cZ;rw[CI,Res.aH];show(Res.ok (D.lst .own (DL.cut ((ni (l0::lr)).map D.int) (some ((1:Nat):Int)) none))).bind br=_;rw[Bu,Res.aH];exact yo (.inr rfl) (ah _)
def Ew {k:Nat}(hl:∀ x∈l0::lr,x<ps.length)(hk:k<ps.length)(b:Option D) :
  (∃ b',g_Lteller_b2 (eL ps f (l0::lr) (some (.int k)) b)=.nx (eL ps f (l0::lr) (some (.int k)) b')/\(k∉l0::lr->∀ j∈lr,cc f k j=cc f k l0)) ∨
  (k∉l0::lr/\∃ j:Nat,(j∈lr/\cc f k j≠cc f k l0)/\g_Lteller_b2 (eL ps f (l0::lr) (some (.int k)) b)=.rt (.tup [.int k,.int l0,.int j])):=by
 have t:=nj (f:=aa 2) (g:=aa 1) (τ:=eL ps f (l0::lr) (some (.int k)) b) (x:=(k:Int)) (qs:=ni (l0::lr)) rfl CI;rw[Nf.mpr CH]at t;unfold g_Lteller_b2;by_cases hn:k∈l0::lr
 ·rw[LO hn]at t;rw[kN t];exact .inl ⟨b,rfl,λ z=>absurd hn z⟩
 ·rw[LD hn]at t;rw[pV t,gU (τ':=eL ps f (l0::lr) (some (.int k)) b) (by
   show [some (nF ps f),some (D.lst .aq (aE ((ni (l0::lr)).map .int))),_,_]=_;rw[bf];rfl) Hf (ah _)]
  rcases Fi (f:=f) hl hk hn lr b (λ _ h=>h) with ⟨b',e1,e2⟩|⟨j,hj,e⟩
  ·exact .inl ⟨b',e1,λ _=>e2⟩
  ·exact .inr ⟨hn,j,hj,e⟩
def yw {l0:Nat}{lr:List Nat}(hl:∀ x∈l0::lr,x<ps.length):∀ (r:List Nat) (a b:Option D),(∀ x∈r,x<ps.length) ->
  (∃ a' b',bF (gN 2) g_Lteller_b2 (r.map λ i:Nat=>D.int (i:Int)) (eL ps f (l0::lr) a b)=.nx (eL ps f (l0::lr) a' b')/\∀ k∈r,k∉l0::lr->∀ j∈lr,cc f k j=cc f k l0) ∨
  ∃ k j:Nat,k<ps.length/\k∉l0::lr/\(j∈lr/\cc f k j≠cc f k l0)/\bF (gN 2) g_Lteller_b2 (r.map λ i:Nat=>D.int (i:Int)) (eL ps f (l0::lr) a b)=.rt (.tup [.int k,.int l0,.int j])
 |[],a,b,_=>.inl ⟨a,b,rfl,λ k hk=>by cases hk⟩
 | k::r,a,b,h=>by
  have hk:=h k Le;rcases Ew (f:=f) hl hk b with ⟨b',e,q⟩|⟨hn,j,hj,e⟩
  ·have go:bF (gN 2) g_Lteller_b2 ((k::r).map λ i:Nat=>D.int (i:Int)) (eL ps f (l0::lr) a b)=bF (gN 2) g_Lteller_b2 (r.map λ i:Nat=>D.int (i:Int)) (eL ps f (l0::lr) (some (.int k)) b'):=fJ (τ':=eL ps f (l0::lr) (some (.int k)) b) rfl e;rw[go];rcases yw hl r (some (.int k)) b' (λ x hx=>h x (Ld _ hx)) with ⟨a',b'',e1,e2⟩|q'
   ·refine .inl ⟨a',b'',e1,λ x hx=>?_⟩;rcases Ln.mp hx with rfl|hx
    ·exact q
    ·exact e2 x hx
   ·exact .inr q'
  ·exact .inr ⟨k,j,hk,hn,hj,oJ (τ':=eL ps f (l0::lr) (some (.int k)) b) rfl e⟩
def nC (hp:ps.length<=24)(hl:∀ x∈l0::lr,x<ps.length) :
  (G_Lteller [nF ps f,.lst .aq ((ni (l0::lr)).map .int)]=.ok .bg/\∀ k,k<ps.length->k∉l0::lr->∀ j∈lr,cc f k j=cc f k l0) ∨
  ∃ k j:Nat,k<ps.length/\k∉l0::lr/\(j∈lr/\cc f k j≠cc f k l0)/\G_Lteller [nF ps f,.lst .aq ((ni (l0::lr)).map .int)]=.ok (.tup [.int k,.int l0,.int j]):=by
 have hr:bE (ae (eA dP (ae (af cz (aa 0) (eC (.int 0))) ao)) ao) (eL ps f (l0::lr) none none)=.ok (false,(List.range ps.length).map λ i:Nat=>D.int (i:Int)):=by
  unfold bE;have e:eA dP (ae (af cz (aa 0) (eC (.int 0))) ao) (eL ps f (l0::lr) none none)=.ok (.int ps.length):=by
   rw[fE (cL (qH (j8 rfl)))];show Res.ok (D.int ((ps.map D.int).length:Nat))=_;rw[Lc]
  rw[cL e,Res.aH,gO (by omega)]
 have hf:bU [] (bE (ae (eA dP (ae (af cz (aa 0) (eC (.int 0))) ao)) ao)) (gN 2) g_Lteller_b2 (eL ps f (l0::lr) none none)=bF (gN 2) g_Lteller_b2 ((List.range ps.length).map λ i:Nat=>D.int (i:Int)) (eL ps f (l0::lr) none none):=
  gU rfl hr (bH λ d m=>by obtain⟨x,_,rfl⟩:=Lq.mp m;rfl)
 rcases yw (f:=f) hl (List.range ps.length) none none (λ x hx=>LN.mp hx) with ⟨a',b',e1,e2⟩|⟨k,j,h1,h2,h3,e⟩
 ·refine .inl ⟨?_,λ k hk=>e2 k (LN.mpr hk)⟩;refine cP (τ:=eL ps f (l0::lr) none none) rfl rfl ?_;unfold g_Lteller;rw[aF (hf.trans e1)];rfl
 ·refine .inr ⟨k,j,h1,h2,h3,?_⟩;refine cP (τ:=eL ps f (l0::lr) none none) rfl rfl ?_;unfold g_Lteller;exact wY (hf.trans e)
def vB (hp:ps.length<=24)(hl:∀ x∈l0::lr,x<ps.length)(hc:PG.dZ (cc f) ps.length (l0::lr)):G_Lteller [nF ps f,.lst .aq ((ni (l0::lr)).map .int)]=.ok .bg:=by
 rcases nC (f:=f) hp hl with ⟨e,_⟩|⟨k,j,h1,h2,⟨h3,h4⟩,_⟩
 ·exact e
 ·exact absurd (hc k h1 h2 j (Ld _ h3) l0 Le) h4
def iY (ps:List Int)(f:Nat->Nat->Int)(t:Tg)(l:List Nat)(a:Option D):SD:=[some (nF ps f),some (.lst t ((ni l).map .int)),a]
def uc{t:Tg}{ns:List Int}(ht:t=.aq\/t=.own)(h:τ[i]?=some (some (.lst t (ns.map .int)))):∃ t',aa i τ=.ok (.lst t' (ns.map .int)):=by
 rcases ht with rfl|rfl
 ·exact⟨_,bO h (ah _)⟩
 ·exact⟨_,fF h (ah _)⟩
def nY(h:l≠[]):∃ l0 lr,l=l0::lr:=by
 cases l with
 |nil=>exact absurd rfl h|cons a r=>exact⟨a,r,rfl⟩
def Eu(nd:l.Nodup):∃ m:List Nat,m.Perm l/\m.Pairwise (· < ·)/\sortI (ni l)=ni m:=by
 refine⟨(sortI (ni l)).map Int.toNat,?_,?_,?_⟩
 ·have h:=(sortI_perm (ni l)).map Int.toNat;have e:(ni l).map Int.toNat=l:=by
   unfold ni;rw[LQ];show l.map (λ i=>i)=l;exact List.map_id' l
  rw[e]at h;exact h
 ·have h1:=cS (ni l);have h2:(sortI (ni l)).Nodup:=(sortI_perm (ni l)).nodup_iff.mpr (List.Pairwise.map (λ i:Nat=>(i:Int)) (λ a b (h:a≠b) (z:(a:Int)=(b:Int))=>h (by omega)) nd);have h3:∀ x∈sortI (ni l),0<=x:=λ x hx=>by
   obtain⟨i,_,rfl⟩:=Lq.mp ((sortI_perm (ni l)).mem_iff.mp hx);omega
  rw[MA];refine(h1.and h2).imp_of_mem λ {a b} ha hb h=>?_;have:=h3 a ha;have:=h3 b hb;have:=h.1;have:=h.2;omega
 ·unfold ni;rw[LQ];refine(List.map_id' _).symm.trans (LJ λ x hx=>?_);obtain⟨i,_,rfl⟩:=Lq.mp ((sortI_perm _).mem_iff.mp hx);show(i:Int)=((i:Int).toNat:Int);omega
structure Gs (n:Nat)(l:List Nat):Prop where
 ne:l≠[]
 up:l.Pairwise (· < ·)
 lt:∀ x∈l,x<n
def Gs.nd(g:Gs n l):l.Nodup:=g.up.imp λ h=>LH h
def Gs.len(g:Gs n l):l.length<=n:=PG.ik g.nd g.lt
def ud{t:Tg}(ht:t=.aq\/t=.own)(h0:τ[0]?=some (some (nF ps f)))(hi:τ[i]?=some (some (.lst t ((ni l).map .int))))(hG:G_Lteller [nF ps f,.lst .aq ((ni l).map .int)]=.ok d)(hd:d.pure=true):aB G_Lteller (ae (aa 0) (ae (aa i) ao)) τ=.ok d:=by
 obtain⟨t',e⟩:=uc ht hi;refine eV (ds:=[nF ps f,.lst t' ((ni l).map .int)]) (aN (j8 h0) (cL e)) ?_ hd;show G_Lteller [(nF ps f).aq,.lst .aq (aE ((ni l).map .int))]=_;rw[bG _ (aZ _ _),bf];exact hG
def nA(h:∀ k,k<n->k∉l0::lr->∀ j∈lr,cc f k j=cc f k l0):PG.dZ (cc f) n (l0::lr):=by
 have one:∀ k,k<n->k∉l0::lr->∀ i∈l0::lr,cc f k i=cc f k l0:=λ k hk hn i hi=>by
  rcases Ln.mp hi with e|m
  ·rw[e]
  ·exact h k hk hn i m
 exact λ k hk hn i hi j hj=>(one k hk hn i hi).trans (one k hk hn j hj).symm
def CF (hp:ps.length<=24):∀ (m:Nat) (t:Tg) (l:List Nat) (d:D),t=.aq\/t=.own->Gs ps.length l->ps.length-l.length<=m->G_Lteller [nF ps f,.lst .aq ((ni l).map .int)]=.ok d->((d=.bg/\PG.dZ (cc f) ps.length l)\/∃ (k:Nat) (x y:D),k<ps.length/\k∉l/\d=.tup [.int k,x,y]) ->
  ∃ t' l',(t'=.aq\/t'=.own)/\Gs ps.length l'/\(∀ x∈l,x∈l')/\PG.dZ (cc f) ps.length l'/\bJ g_Lclosed_w1 g_Lclosed_b2 (m+1) (iY ps f t l (some d))=.nx (iY ps f t' l' (some .bg)):=by
 intro m
 induction m with
 | zero =>
  intro t l d ht g hm hG hd;rcases hd with ⟨rfl,hcl⟩|⟨k,x,y,hk,hn,rfl⟩
  ·exact⟨t,l,ht,g,λ _ h=>h,hcl,rfl⟩
  ·have:=PG.ik (l:=k::l) (n:=ps.length) (Lv.mpr ⟨hn,g.nd⟩) λ z hz=>(Ln.mp hz).elim (λ e=>e▸hk) (g.lt z);rw[Ly]at this;omega
 | succ m ih =>
  intro t l d ht g hm hG hd;rcases hd with ⟨rfl,hcl⟩|⟨k,x,y,hk,hn,rfl⟩
  ·exact⟨t,l,ht,g,λ _ h=>h,hcl,rfl⟩
  ·have nd:(l++[k]).Nodup:=Lp.mpr ⟨g.nd,by simp,λ a ha b hb e=>by
    have:b=k:=by simpa using hb
    exact hn (this▸e▸ha)⟩
   obtain⟨l',pl,pu,es⟩:=Eu nd;have g':Gs ps.length l':=⟨λ z=>by
    have:=pl.length_eq;rw[z,Lo]at this;simp at this,pu,λ z hz=>by
    rcases Ls.mp (pl.mem_iff.mp hz) with q|q
    ·exact g.lt z q
    ·have:z=k:=by simpa using q
     exact this▸hk⟩
   obtain⟨l0,lr,rfl⟩:=nY g'.ne;have len':=pl.length_eq;rw[Lo,L6]at len';have hGl:=g.len;have b1:aV 1 (eA aX (ae (af bq (aa 1) (eA cA (ae (af cz (aa 2) (eC (.int 0))) ao))) ao)) (iY ps f t l (some (.tup [.int k,x,y])))=.nx (iY ps f .own (l0::lr) (some (.tup [.int k,x,y]))):=by
    obtain⟨t',e⟩:=uc (τ:=iY ps f t l (some (.tup [.int k,x,y]))) (i:=1) ht rfl;have v2:af cz (aa 2) (eC (.int 0)) (iY ps f t l (some (.tup [.int k,x,y])))=.ok (.int k):=by
     refine ig (x:=(D.tup [.int k,x,y]).view) rfl rfl ?_;exact i9 (j:=0) rfl rfl
    have a1:af bq (aa 1) (eA cA (ae (af cz (aa 2) (eC (.int 0))) ao)) (iY ps f t l (some (.tup [.int k,x,y])))=.ok (.lst .own ((ni (l++[k])).map .int)):=by
     rw[bc e (fE (cL v2))];show(if ((ni l).map D.int).length+1<=16777216 then Res.ok (D.lst .own ((ni l).map D.int++[.int k])) else .bad)=_;rw[Lr (by rw[Lc,j6];omega),nB,Lz];rfl
    have a2:eA aX (ae (af bq (aa 1) (eA cA (ae (af cz (aa 2) (eC (.int 0))) ao))) ao) (iY ps f t l (some (.tup [.int k,x,y])))=.ok (.lst .own ((ni (l0::lr)).map .int)):=by
     rw[fE (cL a1)];show(match intsOf ((ni (l++[k])).map D.int) with|some ns=>if ns.length<64 then Res.ok (D.lst .own ((sortI ns).map D.int)) else .bad|none=>.bad)=_;rw[di];show(if (ni (l++[k])).length<64 then Res.ok (D.lst .own ((sortI (ni (l++[k]))).map D.int)) else .bad)=_;rw[Lr (by rw[j6,Lo,L6];omega),es]
    rw[a6 a2 (cN (ah _))];rfl
   have c:g_Lclosed_w1 (iY ps f t l (some (.tup [.int k,x,y])))=.ok true:=rfl;have step:∀ d',G_Lteller [nF ps f,.lst .aq ((ni (l0::lr)).map .int)]=.ok d'->d'.pure=true->g_Lclosed_b2 (iY ps f t l (some (.tup [.int k,x,y])))=.nx (iY ps f .own (l0::lr) (some d')):=λ d' h1 h2=>by
    unfold g_Lclosed_b2;rw[aF b1,a6 (ud (τ:=iY ps f .own (l0::lr) (some (.tup [.int k,x,y]))) (i:=1) (.inr rfl) rfl rfl h1 h2) (bx _ h2)];rfl
   have fin:∀ d',G_Lteller [nF ps f,.lst .aq ((ni (l0::lr)).map .int)]=.ok d'->d'.pure=true->((d'=.bg/\PG.dZ (cc f) ps.length (l0::lr))\/∃ (k:Nat) (x y:D),k<ps.length/\k∉l0::lr/\d'=.tup [.int k,x,y])->∃ t' l',(t'=Tg.aq\/t'=.own)/\Gs ps.length l'/\(∀ x∈l,x∈l')/\PG.dZ (cc f) ps.length l'/\bJ g_Lclosed_w1 g_Lclosed_b2 (m+1+1) (iY ps f t l (some (.tup [.int k,x,y])))=.nx (iY ps f t' l' (some .bg)):=λ d' h1 h2 h3=>by
    obtain⟨t2,l2,e1,e2,e4,e5,e3⟩:=ih .own (l0::lr) d' (.inr rfl) g' (by omega) h1 h3;refine⟨t2,l2,e1,e2,λ x hx=>e4 x (pl.mem_iff.mpr (Lu _ hx)),e5,?_⟩;rw[bJ,c];show(match g_Lclosed_b2 (iY ps f t l (some (.tup [.int k,x,y]))) with|.nx t=>bJ g_Lclosed_w1 g_Lclosed_b2 (m+1) t|.ct t=>bJ g_Lclosed_w1 g_Lclosed_b2 (m+1) t|.bk t=>Fl.nx t|o=>o)=_;rw[step d' h1 h2];exact e3
   rcases nC (f:=f) hp g'.lt with ⟨e,q⟩|⟨k',j',h1,h2,_,e⟩
   ·exact fin _ e rfl (.inl ⟨rfl,nA q⟩)
   ·exact fin _ e rfl (.inr ⟨k',_,_,h1,h2,rfl⟩)
def qb (hp:ps.length<=24)(g:Gs ps.length l):∃ t l',(t=.aq\/t=.own)/\Gs ps.length l'/\(∀ x∈l,x∈l')/\PG.dZ (cc f) ps.length l'/\G_Lclosed [nF ps f,.lst .aq ((ni l).map .int)]=.ok (.lst t ((ni l').map .int)):=by
 obtain⟨l0,lr,rfl⟩:=nY g.ne;have fin:∀ d,G_Lteller [nF ps f,.lst .aq ((ni (l0::lr)).map .int)]=.ok d->d.pure=true->((d=.bg/\PG.dZ (cc f) ps.length (l0::lr))\/∃ (k:Nat) (x y:D),k<ps.length/\k∉l0::lr/\d=.tup [.int k,x,y])->∃ t l',(t=Tg.aq\/t=.own)/\Gs ps.length l'/\(∀ x∈l0::lr,x∈l')/\PG.dZ (cc f) ps.length l'/\G_Lclosed [nF ps f,.lst .aq ((ni (l0::lr)).map .int)]=.ok (.lst t ((ni l').map .int)):=λ d h1 h2 h3=>by
  obtain⟨t2,l2,e1,e2,e4,e5,e3⟩:=CF (f:=f) hp 24 .aq (l0::lr) d (.inl rfl) g (by omega) h1 h3;refine⟨t2,l2,e1,e2,e4,e5,?_⟩;refine cP (τ:=iY ps f .aq (l0::lr) none) rfl rfl ?_;unfold g_Lclosed;rw[aF (a6 (ud (τ:=iY ps f .aq (l0::lr) none) (i:=1) (.inl rfl) rfl rfl h1 h2) (bx _ h2))];have w:jR g_Lclosed_w1 g_Lclosed_b2 (iY ps f .aq (l0::lr) (some d))=.nx (iY ps f t2 l2 (some .bg)):=by
   rw[qX (n:=25) (by rw[e3];exact Fl.noConfusion),e3]
  show aC _ _ (iY ps f .aq (l0::lr) (some d))=_;rw[aF w];rfl
 rcases nC (f:=f) hp g.lt with ⟨e,q⟩|⟨k',j',h1,h2,_,e⟩
 ·exact fin _ e rfl (.inl ⟨rfl,nA q⟩)
 ·exact fin _ e rfl (.inr ⟨k',_,_,h1,h2,rfl⟩)
def Ab (hp:ps.length<=24)(g:Gs ps.length l):∃ t l',(t=.aq\/t=.own)/\Gs ps.length l'/\G_Lclosed [nF ps f,.lst .aq ((ni l).map .int)]=.ok (.lst t ((ni l').map .int)):=by
 obtain⟨t,l',h1,h2,_,_,h3⟩:=qb (f:=f) hp g;exact⟨t,l',h1,h2,h3⟩
end
section
def Ex(h:τ[0]?=some (some (nF ps f))):eA dP (ae (af cz (aa 0) (eC (.int 0))) ao) τ=.ok (.int ps.length):=by
 rw[fE (cL (qH (j8 h)))];show Res.ok (D.int ((ps.map D.int).length:Nat))=_;rw[Lc]
def oM {a b:SD->Res D}{y:Int}(h1:a τ=.ok (.int x))(h2:b τ=.ok (.int y))(hy:0<y):af bB a b τ=.ok (.int (x%y)):=by rw[bc h1 h2,tY hy]
def nD (ps:List Int)(f:Nat->Nat->Int)(N:Int)(p:Option D):SD:=[some (nF ps f),some (.int N),some (.int ps.length),some (.int (N%5)),some (.int (N/5)),p]
def Hg(hn:0<n):∃ r:Nat,r<n/\x%(n:Int)=r:=by
 have h1:=MB x (by omega:(n:Int)≠0);have h2:=OU x (by omega:(0:Int)<n);exact⟨(x%(n:Int)).toNat,by omega,by omega⟩
def rP{p:Nat->Bool}{r:Nat}(hr:r<n)(h:p r=true):Gs n ((List.range n).filter p):=⟨(λ z=>by
  have:r∈(List.range n).filter p:=M3.mpr ⟨LN.mpr hr,h⟩;rw[z]at this;cases this),List.pairwise_lt_range.sublist List.filter_sublist,λ x hx=>LN.mp (M3.mp hx).1⟩
def CJ{p:Option D}(hp:ps.length<=24):bE (ae (aa 2) ao) (nD ps f N p)=.ok (false,(List.range ps.length).map λ i:Nat=>D.int (i:Int)):=by
 unfold bE;rw[cL (d:=.int ps.length) rfl,Res.aH,gO (by omega)]
def CK{x y:Nat}(hx:x<n)(hy:y<n):∃ a b:Nat,a<=b/\b<n/\sortI [(x:Int),(y:Int)]=[(a:Int),(b:Int)]:=by
 by_cases h:x<=y
 ·refine⟨x,y,h,hy,dF (sortI_perm _) (cS _) ?_⟩;simp;omega
 ·refine⟨y,x,by omega,hx,dF ((sortI_perm _).trans (List.Perm.swap _ _ _)) (cS _) ?_⟩;simp;omega
def Ac (hp:ps.length<=24)(h1:1<=ps.length)(hN:0<=N):∃ t l,(t=.aq\/t=.own)/\Gs ps.length l/\G_Linside [nF ps f,.int N]=.ok (.lst t ((ni l).map .int)):=by
 have go:∀ {t:Tg}{l:List Nat},(t=.aq\/t=.own)->Gs ps.length l->g_Linside [some (nF ps f),some (.int N),none,none,none,none]=.rt (.lst t ((ni l).map .int))->∃ t l,(t=Tg.aq\/t=.own)/\Gs ps.length l/\G_Linside [nF ps f,.int N]=.ok (.lst t ((ni l).map .int)):=λ ht g e=>⟨_,_,ht,g,cP rfl rfl e⟩;obtain⟨r,hr,er⟩:=Hg (x:=N/5) (n:=ps.length) h1;obtain⟨r2,hr2,er2⟩:=Hg (x:=N/5/31) (n:=ps.length) h1;have mr:∀ p,af bB (aa 4) (aa 2) (nD ps f N p)=.ok (.int r):=λ p=>by rw[oM (x:=N/5) (y:=ps.length) rfl rfl (by omega),er]
 have mr2:∀ p,af bB (af bV (aa 4) (eC (.int 31))) (aa 2) (nD ps f N p)=.ok (.int r2):=λ p=>by rw[oM (x:=N/5/31) (y:=ps.length) (gH (a:=N/5) rfl ⟨by decide,by decide⟩) rfl (by omega),er2]
 have way:∀ (w:Int) p,eT (af gJ (aa 3) (eC (.int w))) (nD ps f N p)=.ok (decide (N%5=w)):=λ w p=>gu rfl rfl;have head:g_Linside [some (nF ps f),some (.int N),none,none,none,none]=(aC (dI (eT (af gJ (aa 3) (eC (.int 0)))) (bM (eA cA (ae (af bB (aa 4) (aa 2)) ao))) aQ) (aC (dI (eT (af gJ (aa 3) (eC (.int 1)))) (bM (bw (bE (ae (aa 2) ao)) (gN 0) g_Linside_c5 g_Linside_e6 1 [("_law_rest",4),("_law_many_here",2)])) aQ) (aC (dI (eT (af gJ (aa 3) (eC (.int 2)))) (bM (bw (bE (ae (aa 2) ao)) (gN 0) g_Linside_c3 g_Linside_e4 1 [("_law_rest",4),("_law_many_here",2)])) aQ) (aC (aV 5 (eA aX (ae (eA cA (ae (af bB (aa 4) (aa 2)) (ae (af bB (af bV (aa 4) (eC (.int 31))) (aa 2)) ao))) ao))) (aC (dI (mK (eT (af gJ (aa 3) (eC (.int 3)))) (eT (af gJ (af cz (aa 5) (eC (.int 0))) (af cz (aa 5) (eC (.int 1)))))) (bM (af bq (cZ (aa 5) lj (eP (eC (.int 1)))) (bw (eN (cZ (aa 5) (eP (eC (.int 1))) lj)) (gN 0) g_Linside_c1 g_Linside_e2 1 [("_law_pair",5)]))) aQ) (gn [5] (bM (aB G_Lclosed (ae (aa 0) (ae (aa 5) ao)))))))))) (nD ps f N none):=by
  unfold g_Linside;rw[aF (a6 (Ex rfl) rfl),aF (a6 (d:=.int (N%5)) (fR rfl (by decide)) rfl),aF (a6 (d:=.int (N/5)) (gH rfl ⟨by decide,by decide⟩) rfl)];rfl
 have nb:∀ l:List Nat,(D.lst .own ((ni l).map .int)).aw=false:=λ l=>cN (ah _);have pr:∀ l:List Nat,aJ (l.map λ i:Nat=>D.int (i:Int))=true:=λ l=>by rw[<-j7];exact ah _
 by_cases w0:N%5=0
 ·refine go (t:=.own) (l:=[r]) (.inr rfl) ⟨by simp,by simp,λ x hx=>(L4.mp hx)▸hr⟩ ?_;rw[head];have t:=way 0 none;rw[LO w0]at t;exact rF t (fD (by rw[fE (cL (mr none))];rfl) rfl)
 have t0:=way 0 none;rw[LD w0]at t0;rw[jz t0]at head;by_cases w1:N%5=1
 ·refine go (t:=.own) (l:=(List.range ps.length).filter λ k=>decide (N/5/2^(k%20)%2=1)||decide (k=r)) (.inr rfl) (rP hr (by simp)) ?_;rw[head];have t:=way 1 none;rw[LO w1]at t;refine rF t (fD ?_ (nb _));rw[iX (tt:=g_Linside_c5) (elt:=g_Linside_e6) (λ i:Nat=>D.int (i:Int)) (λ k=>decide (N/5/2^(k%20)%2=1)||decide (k=r)) (λ i:Nat=>D.int (i:Int)) (CJ hp) (λ _ _=>rfl) (λ k _=>?_) (λ _ _ _=>⟨rfl,rfl⟩) (by rw[LU];omega),j7];show g_Linside_c5 [some (.int k),some (.int (N/5)),some (.int ps.length)]=_;unfold g_Linside_c5;have sh:af Gf (aa 1) (af bB (aa 0) (eC (.int 20))) [some (.int k),some (.int (N/5)),some (.int ps.length)]=.ok (.int (N/5/2^(k%20))):=by
   rw[bc (x:=.int (N/5)) rfl (fR (a:=(k:Int)) rfl (by decide))];show(if (0:Int)<=(k:Int)%20 then Res.ok (D.int (N/5/2^((k:Int)%20).toNat)) else .bad)=_;have e:((k:Int)%20).toNat=k%20:=by omega
   rw[Lr (by omega),e]
  have q2:af bB (aa 1) (aa 2) [some (.int k),some (.int (N/5)),some (.int ps.length)]=.ok (.int r):=by rw[oM (x:=N/5) (y:=ps.length) rfl rfl (by omega),er]
  rw[pW (gu (fR sh (by decide)) (g:=eC (.int 1)) (b:=1) rfl) (gu (f:=aa 0) (a:=(k:Int)) rfl q2)]
  congr 2
  rw[Nf];omega
 have t1:=way 1 none;rw[LD w1]at t1;rw[jz t1]at head;by_cases w2:N%5=2
 ·have hex:∃ k,k<ps.length/\(!decide (k=r)||decide (ps.length=1))=true:=by
   by_cases h:ps.length=1
   ·exact⟨0,by omega,by simp[h]⟩
   ·by_cases hr0:r=0
    ·exact⟨1,by omega,by simp;omega⟩
    ·exact⟨0,by omega,by simp;omega⟩
  obtain⟨k0,hk0,hk1⟩:=hex;refine go (t:=.own) (l:=(List.range ps.length).filter λ k=>!decide (k=r)||decide (ps.length=1)) (.inr rfl) (rP hk0 hk1) ?_;rw[head];have t:=way 2 none;rw[LO w2]at t;refine rF t (fD ?_ (nb _));rw[iX (tt:=g_Linside_c3) (elt:=g_Linside_e4) (λ i:Nat=>D.int (i:Int)) (λ k=>!decide (k=r)||decide (ps.length=1)) (λ i:Nat=>D.int (i:Int)) (CJ hp) (λ _ _=>rfl) (λ k _=>?_) (λ _ _ _=>⟨rfl,rfl⟩) (by rw[LU];omega),j7];show g_Linside_c3 [some (.int k),some (.int (N/5)),some (.int ps.length)]=_;unfold g_Linside_c3;have q2:af bB (aa 1) (aa 2) [some (.int k),some (.int (N/5)),some (.int ps.length)]=.ok (.int r):=by rw[oM (x:=N/5) (y:=ps.length) rfl rfl (by omega),er]
  rw[pW (tZ (f:=aa 0) (a:=(k:Int)) rfl q2) (gu (f:=aa 2) (a:=(ps.length:Int)) rfl (g:=eC (.int 1)) (b:=1) rfl)];have e1:decide ((k:Int)=(r:Int))=decide (k=r):=by rw[Nf];omega
  have e2:decide ((ps.length:Int)=1)=decide (ps.length=1):=by rw[Nf];omega
  rw[e1,e2]
 have t2:=way 2 none;rw[LD w2]at t2;rw[jz t2]at head;obtain⟨a,b,hab,hb,es⟩:=CK hr hr2;have s5:aV 5 (eA aX (ae (eA cA (ae (af bB (aa 4) (aa 2)) (ae (af bB (af bV (aa 4) (eC (.int 31))) (aa 2)) ao))) ao)) (nD ps f N none)=.nx (nD ps f N (some (.lst .own [.int a,.int b]))):=by
  have e:eA aX (ae (eA cA (ae (af bB (aa 4) (aa 2)) (ae (af bB (af bV (aa 4) (eC (.int 31))) (aa 2)) ao))) ao) (nD ps f N none)=.ok (.lst .own [.int a,.int b]):=by
   rw[fE (cL (d:=.lst .own [.int r,.int r2]) (by rw[fE (aN (mr none) (cL (mr2 none)))];rfl))];show Res.ok (D.lst .own ((sortI [(r:Int),(r2:Int)]).map D.int))=_;rw[es];rfl
  rw[a6 e rfl];rfl
 rw[aF s5]at head;have x0:af cz (aa 5) (eC (.int 0)) (nD ps f N (some (.lst .own [.int a,.int b])))=.ok (.int a):=rfl;have x1:af cz (aa 5) (eC (.int 1)) (nD ps f N (some (.lst .own [.int a,.int b])))=.ok (.int b):=rfl;have t3:=pW (way 3 (some (.lst .own [.int a,.int b]))) (gu x0 x1);by_cases w3:(decide (N%5=3)||decide ((a:Int)=(b:Int)))=true
 ·have gl:Gs ps.length ([a]++[b].filter λ k=>!decide (k=a)):=by
   by_cases h:b=a
   ·subst h;simp only[decide_true,NJ,Ol,LP,Nx,List.filter_nil,LZ];exact⟨by simp,by simp,λ x hx=>by
     have:x=b:=by simpa using hx
     exact this▸hb⟩
   ·simp only[Ol,LD h,Bool.not_false,Nh,List.filter_nil,List.singleton_append];refine⟨by simp,by simp;omega,λ x hx=>?_⟩;have:x=a\/x=b:=by simpa using hx
    rcases this with rfl|rfl<;>omega
  refine go (t:=.own) (.inr rfl) gl ?_;rw[head];rw[w3]at t3;refine rF t3 (fD ?_ (nb _));have c1:cZ (aa 5) lj (eP (eC (.int 1))) (nD ps f N (some (.lst .own [.int a,.int b])))=.ok (.lst .own [.int a]):=rfl;have c2:eN (cZ (aa 5) (eP (eC (.int 1))) lj) (nD ps f N (some (.lst .own [.int a,.int b])))=.ok (false,[b].map λ i:Nat=>D.int (i:Int)):=rfl;have c3:=iX (τ:=nD ps f N (some (.lst .own [.int a,.int b]))) (cap:=[("_law_pair",5)]) (tt:=g_Linside_c1) (elt:=g_Linside_e2) (λ i:Nat=>D.int (i:Int)) (λ k=>!decide (k=a)) (λ i:Nat=>D.int (i:Int)) c2 (λ _ _=>rfl) (λ k _=>by
   show g_Linside_c1 [some (.int k),some (.lst .aq [.int a,.int b])]=_;unfold g_Linside_c1;have y0:af cz (aa 1) (eC (.int 0)) [some (.int k),some (.lst .aq [.int a,.int b])]=.ok (.int a):=rfl;have e1:decide ((k:Int)=(a:Int))=decide (k=a):=by rw[Nf];omega
   rw[tZ (f:=aa 0) (a:=(k:Int)) rfl y0,e1]) (λ _ _ _=>⟨rfl,rfl⟩) (by simp)
  rw[bc c1 c3];show(if 1+(([b].filter λ k=>!decide (k=a)).map λ i:Nat=>D.int (i:Int)).length<=16777216 then Res.ok (D.lst .own ([.int a]++([b].filter λ k=>!decide (k=a)).map λ i:Nat=>D.int (i:Int))) else .bad)=_;rw[Lr (by
   rw[Lc];have:=Od (λ k=>!decide (k=a)) [b];simp only[Ly,Mn]at this;omega),nB,Lz,j7,j7]
  rfl
 ·have w3':(decide (N%5=3)||decide ((a:Int)=(b:Int)))=false:=by simpa using w3
  rw[w3']at t3;rw[jz t3]at head;have hne:a≠b:=λ z=>by
   rw[MX]at w3';have:=of_decide_eq_false w3'.2;omega
  have g0:Gs ps.length [a,b]:=⟨by simp,by simp;omega,λ x hx=>by
   have:x=a\/x=b:=by simpa using hx
   rcases this with rfl|rfl<;>omega⟩
  obtain⟨t,l,ht,g,e⟩:=Ab (f:=f) hp g0;refine go ht g ?_;rw[head];show bM (aB G_Lclosed (ae (aa 0) (ae (aa 5) ao))) [some (nF ps f),some (.int N),some (.int ps.length),some (.int (N%5)),some (.int (N/5)),some (.lst .aq [.int a,.int b])]=_;refine fD (cQ (ds:=[nF ps f,.lst .aq ((ni [a,b]).map .int)]) (aN (j8 rfl) (cL rfl)) ?_ ?_) ?_
  ·show G_Lclosed [(nF ps f).aq,.lst .aq (aE ((ni [a,b]).map .int))]=_;rw[bG _ (aZ _ _),bf];exact e
  ·show((nF ps f).aw||_)=false;rw[bx _ (aZ _ _)];rfl
  ·rcases ht with rfl|rfl
   ·show(false||av ((ni l).map .int))=false;rw[iR];rfl
   ·exact nb _
def oz (ps:List Int)(f:Nat->Nat->Int)(l:List Nat)(N:Int)(qs:List Int):SD:=[some (nF ps f),some (.lst .aq ((ni l).map .int)),some (.int N),some (.lst .own (qs.map .int))]
def Ad (hp:ps.length<=24)(g:Gs ps.length l)(hN:0<=N):∃ qs:List Int,(∀ q,q∈qs↔q∈pp ps l)/\qs.length<=l.length+3/\G_Lhanded [nF ps f,.lst .aq ((ni l).map .int),.int N]=.ok (.lst .own (qs.map .int)):=by
 have hlen:=g.len;have ppl:(pp ps l).length=l.length:=Lc _;have s1:aV 3 (bw (eN (aa 1)) (gN 0) bW g_Lhanded_e1 1 [("_law_net_here",0)]) [some (nF ps f),some (.lst .aq ((ni l).map .int)),some (.int N),none]=.nx (oz ps f l N (pp ps l)):=by
  have hi:eN (aa 1) [some (nF ps f),some (.lst .aq ((ni l).map .int)),some (.int N),none]=.ok (false,l.map λ i:Nat=>D.int (i:Int)):=by rw[<-j7];exact lF rfl (ah _)
  have c:=rO (τ:=[some (nF ps f),some (.lst .aq ((ni l).map .int)),some (.int N),none]) (cap:=[("_law_net_here",0)]) (elt:=g_Lhanded_e1) (λ i:Nat=>D.int (i:Int)) (λ i=>D.int (aL ps i)) hi (λ _ _=>rfl) (λ i hi=>⟨by
   show g_Lhanded_e1 [some (.int i),some (nF ps f).aq]=_;rw[bG _ (aZ _ _)];exact ig (qH (eF rfl (aZ _ _))) rfl (i9 rfl (t7 (g.lt i hi))),rfl⟩) (by omega)
  rw[<-w4]at c;rw[a6 c (cN (ah _))];rfl
 have s2:∃ qs:List Int,(∀ q,q∈qs↔q∈pp ps l)/\qs.length<=l.length+3/\dI (eT (af gJ (af bB (aa 2) (eC (.int 3))) (eC (.int 1)))) (aV 3 (af bq (aa 3) (cZ (aa 3) lj (eP (af bq (eC (.int 1)) (af bB (af bV (aa 2) (eC (.int 3))) (eC (.int 3)))))))) aQ (oz ps f l N (pp ps l))=.nx (oz ps f l N qs):=by
  have t:=gu (fR (f:=aa 2) (τ:=oz ps f l N (pp ps l)) (a:=N) (b:=3) rfl (by decide)) (g:=eC (.int 1)) (b:=1) rfl;by_cases h:N%3=1
  ·rw[LO h]at t;obtain⟨m,hm,em⟩:=Hg (x:=N/3) (n:=3) (by decide);have c1:cZ (aa 3) lj (eP (af bq (eC (.int 1)) (af bB (af bV (aa 2) (eC (.int 3))) (eC (.int 3))))) (oz ps f l N (pp ps l))=.ok (.lst .own (((pp ps l).take (1+m)).map .int)):=by
    unfold cZ;rw[fF (xs:=(pp ps l).map .int) rfl (ah _),Res.aH];have e:af bq (eC (.int 1)) (af bB (af bV (aa 2) (eC (.int 3))) (eC (.int 3))) (oz ps f l N (pp ps l))=.ok (.int ((1+m:Nat):Int)):=by
     rw[j5 (a:=1) rfl (fR (gH (f:=aa 2) (a:=N) rfl ⟨by decide,by decide⟩) (by decide))];have em:N/3%3=(m:Int):=em;rw[em]
     congr 2
    have e2:eP (af bq (eC (.int 1)) (af bB (af bV (aa 2) (eC (.int 3))) (eC (.int 3)))) (oz ps f l N (pp ps l))=.ok (some ((1+m:Nat):Int)):=by
     unfold eP;rw[e];rfl
    show(Res.ok none).bind _=_;rw[Res.aH,e2,Res.aH];show Res.ok (D.lst .own (DL.cut ((pp ps l).map D.int) none (some ((1+m:Nat):Int))))=_;rw[Bt,O8]
   refine⟨pp ps l++(pp ps l).take (1+m),λ q=>?_,?_,?_⟩
   ·rw[Ls];exact⟨λ z=>z.elim id (List.mem_of_mem_take),.inl⟩
   ·rw[Lo,MQ,ppl];omega
   ·rw[pV t];have a1:af bq (aa 3) (cZ (aa 3) lj (eP (af bq (eC (.int 1)) (af bB (af bV (aa 2) (eC (.int 3))) (eC (.int 3)))))) (oz ps f l N (pp ps l))=.ok (.lst .own ((pp ps l++(pp ps l).take (1+m)).map .int)):=by
     rw[bc (fF (xs:=(pp ps l).map .int) rfl (ah _)) c1];show(if ((pp ps l).map D.int).length+(((pp ps l).take (1+m)).map D.int).length<=16777216 then Res.ok (D.lst .own ((pp ps l).map D.int++((pp ps l).take (1+m)).map D.int)) else .bad)=_;rw[Lr (by rw[Lc,Lc,MQ,ppl];omega),<-Lz]
    rw[a6 a1 (cN (ah _))];rfl
  ·rw[LD h]at t;refine⟨pp ps l,λ q=>Iff.rfl,by omega,?_⟩;rw[kN t];rfl
 obtain⟨qs,m1,m2,e2⟩:=s2;have s3:∃ qs':List Int,(∀ q,q∈qs'↔q∈pp ps l)/\qs'.length<=l.length+3/\dI (eT (af gJ (af bB (af bV (aa 2) (eC (.int 9))) (eC (.int 2))) (eC (.int 1)))) (iP 3) aQ (oz ps f l N qs)=.nx (oz ps f l N qs'):=by
  have t:=gu (fR (gH (f:=aa 2) (τ:=oz ps f l N qs) (a:=N) (b:=9) rfl ⟨by decide,by decide⟩) (b:=2) (by decide)) (g:=eC (.int 1)) (b:=1) rfl;by_cases h:N/9%2=1
  ·rw[LO h]at t;refine⟨qs.reverse,λ q=>by rw[List.mem_reverse];exact m1 q,by rw[List.length_reverse];exact m2,?_⟩;rw[pV t];show Fl.nx ((oz ps f l N qs).set 3 (some (.lst .own (qs.map D.int).reverse)))=_;rw[<-List.map_reverse];rfl
  ·rw[LD h]at t;refine⟨qs,m1,m2,?_⟩;rw[kN t];rfl
 obtain⟨qs',n1,n2,e3⟩:=s3;refine⟨qs',n1,n2,?_⟩;refine cP (τ:=[some (nF ps f),some (.lst .aq ((ni l).map .int)),some (.int N),none]) rfl rfl ?_;unfold g_Lhanded;rw[aF s1,aF e2,aF e3];rfl
end
def CL (i:Int):G_Lwhole [.int i]=.ok (.bl true):=rfl
section
def Hh (hs:ps.Pairwise (· < ·))(hi:i<ps.length):wm ps (aL ps i)=some i:=by
 unfold wm;rw[Ni];have at_:∀ j (h:j<ps.length),ps[j]=aL ps j:=λ j h=>by
  unfold aL;rw[LC,Lg h];rfl
 refine⟨hi,by simp[at_ i hi],λ j hj=>?_⟩;have:=gx hs hj hi;intro z;rw[MK,at_ j (by omega)]at z;omega
def Hi (hs:ps.Pairwise (· < ·)){a b:SD->Res D}(hi:i<ps.length)(h1:a τ=.ok (nF ps f))(h2:b τ=.ok (.int (aL ps i))):D0 (af cz a (eC (.int 0))) b τ=.ok (.int i):=by
 unfold D0;rw[qH h1,Res.aH,Lr (show isTup (D.tup (ps.map D.int))=true from rfl),h2,Res.aH];show(match intsOf (ps.map D.int) with|some ns=>(match wm ns (aL ps i) with|some j=>Res.ok (D.int j)|none=>.bad)|none=>.bad)=_;rw[di];show(match wm ps (aL ps i) with|some j=>Res.ok (D.int j)|none=>.bad)=_;rw[Hh hs hi]
def yx(hi:i<ps.length):aL ps i∈ps:=by
 unfold aL;rw[LC,Lg hi];exact Oj hi
end
section
def Fj (hs:ps.Pairwise (· < ·))(g:Gs ps.length l):(pp ps l).Pairwise (· < ·):=by
 unfold pp;rw[MA];refine g.up.imp_of_mem λ {a b} ha hb h=>gx hs h (g.lt b hb)
def Af (hs:ps.Pairwise (· < ·))(g:Gs ps.length l)(h:qs.Perm (pp ps l)):sortI qs=pp ps l:=
 dF ((sortI_perm qs).trans h) (cS qs) ((Fj hs g).imp λ h=>by omega)
def Ji (hs:ps.Pairwise (· < ·))(g:Gs ps.length l):(pp ps l).Nodup:=(Fj hs g).imp λ h=>by omega
def Ae (hs:ps.Pairwise (· < ·))(g:Gs ps.length l)(h:∀ q,q∈qs↔q∈pp ps l):sortI (L2.dd qs)=pp ps l:=
 Af hs g ((List.perm_ext_iff_of_nodup (CC qs) (Ji hs g)).mpr λ a=>(Ha qs a).trans (h a))
end
end KL
namespace PG
variable {acc:List (Int×List Nat)}{T W:List (List Nat)}{l:List Nat}{n:Nat}{c:Nat->Nat->Int}
def iq (c:Nat->Int)(acc:List (Int×List Nat))(m:Nat):List (Int×List Nat):=
 if c m∈acc.map (·.1) then acc.map λ e=>if e.1=c m then (e.1,e.2++[m]) else e else acc++[(c m,[m])]
structure Sh (c:Nat->Int)(l:List Nat)(acc:List (Int×List Nat)):Prop where
 nd:(acc.map (·.1)).Nodup
 eq:∀ e∈acc,e.2=l.filter λ m=>decide (c m=e.1)
 all:∀ m∈l,c m∈acc.map (·.1)
 ne:∀ e∈acc,e.2≠[]
def Sh.nil (c:Nat->Int):Sh c [] []:=⟨by simp,λ _ h=>absurd h Mv,λ _ h=>absurd h Mv,λ _ h=>absurd h Mv⟩
def Sh.step {c:Nat->Int}(h:Sh c l acc)(m:Nat):Sh c (l++[m]) (iq c acc m):=by
 unfold iq;split
 ·rename_i hm;have e1:(acc.map λ e=>if e.1=c m then (e.1,e.2++[m]) else e).map (·.1)=acc.map (·.1):=by
   rw[LQ];refine LJ λ e _=>?_;show(if e.1=c m then (e.1,e.2++[m]) else e).1=e.1;split<;>rfl
  refine⟨by rw[e1];exact h.nd,λ e he=>?_,λ x hx=>?_,λ e he=>?_⟩
  ·obtain⟨a,ha,rfl⟩:=Lq.mp he;rw[List.filter_append];have q:=h.eq a ha;by_cases z:a.1=c m
   ·simp only[z,Nh];rw[q,z];simp
   ·simp only[z,Nx];rw[q];have z':¬ c m=a.1:=λ y=>z y.symm;simp[z']
  ·rw[e1];rcases Ls.mp hx with x'|x'
   ·exact h.all x x'
   ·rw[L4.mp x'];exact hm
  ·obtain⟨a,ha,rfl⟩:=Lq.mp he;by_cases z:a.1=c m
   ·simp only[z,Nh];simp
   ·simp only[z,Nx];exact h.ne a ha
 ·rename_i hm;refine⟨?_,λ e he=>?_,λ x hx=>?_,λ e he=>?_⟩
  ·rw[Lz,Lp];exact⟨h.nd,by simp,λ a ha b hb z=>hm (by
    have e:b=c m:=by simpa using hb
    rw[<-e,<-z];exact ha)⟩
  ·rw[List.filter_append];rcases Ls.mp he with x|x
   ·have z:¬ c m=e.1:=λ y=>hm (y▸Lq.mpr ⟨e,x,rfl⟩);rw[h.eq e x];simp[z]
   ·rw[L4.mp x];have:l.filter (λ y=>decide (c y=c m))=[]:=List.filter_eq_nil_iff.mpr λ y hy z=>hm (by
     have z:c y=c m:=by simpa using z
     rw[<-z];exact h.all y hy)
    show [m]=l.filter (λ y=>decide (c y=c m))++[m].filter (λ y=>decide (c y=c m));rw[this];simp
  ·rw[Lz];rcases Ls.mp hx with x'|x'
   ·exact Lu _ (h.all x x')
   ·rw[L4.mp x'];simp
  ·rcases Ls.mp he with x|x
   ·exact h.ne e x
   ·rw[L4.mp x];simp
def iC (c:Nat->Int)(l:List Nat):List (Int×List Nat):=l.foldl (iq c) []
def vC (c:Nat->Int):∀ (r l:List Nat) (acc:List (Int×List Nat)),Sh c l acc->Sh c (l++r) (r.foldl (iq c) acc)
 |[],l,acc,h=>by simpa using h
 | m::r,l,acc,h=>by
  have:=vC c r (l++[m]) _ (h.step m);simpa using this
def rR (c:Nat->Int)(l:List Nat):Sh c l (iC c l):=by
 have:=vC c l [] [] (Sh.nil c);simpa[iC] using this
def mH (c:Nat->Int):∀ (K:List Int) (l:List Nat),K.Nodup->(∀ m∈l,c m∈K)->((K.map λ k=>l.filter λ m=>decide (c m=k)).flatten).Perm l
 | [],l,_,h=>by
  cases l with
  |nil=>exact Mp _|cons a r=>cases h a Le
 | k::K,l,hn,h=>by
  have hn':=Lv.mp hn;have ih:=mH c K (l.filter λ m=>!decide (c m=k)) hn'.2 λ m hm=>by
   have q:=M3.mp hm;have z:c m≠k:=by simpa using q.2
   exact(Ln.mp (h m q.1)).resolve_left z
  have e:(K.map λ j=>(l.filter λ m=>!decide (c m=k)).filter λ m=>decide (c m=j))=K.map λ j=>l.filter λ m=>decide (c m=j):=by
   refine LJ λ j hj=>?_;rw[List.filter_filter];refine List.filter_congr λ m _=>?_;by_cases z:c m=j
   ·have:¬ j=k:=λ y=>hn'.1 (y▸hj);simp[z,this]
   ·simp[z]
  rw[e]at ih;rw[LA,MM];exact(Om (Mp _) ih).trans (List.filter_append_perm (λ m=>decide (c m=k)) l)
def Sh.perm {c:Nat->Int}(h:Sh c l acc):((acc.map (·.2)).flatten).Perm l:=by
 have e:acc.map (·.2)=(acc.map (·.1)).map λ k=>l.filter λ m=>decide (c m=k):=by
  rw[LQ];exact LJ λ e he=>h.eq e he
 rw[e];exact mH c _ l h.nd h.all
def Sh.two {c:Nat->Int}(h:Sh c l acc){i j:Nat}(hi:i∈l)(hj:j∈l)(hn:c i≠c j):2<=acc.length:=by
 match acc,h.all i hi,h.all j hj with
 |[],a,_=>cases a
 | [e],a,b =>
  have a:c i=e.1:=by simpa using a
  have b:c j=e.1:=by simpa using b
  exact absurd (a.trans b.symm) hn
 |_::_::_,_,_=>simp
structure Gw (c:Nat->Nat->Int)(n:Nat)(S:List Nat)(W T:List (List Nat)):Prop where
 ne:∀ l∈W++T,l≠[]
 up:∀ l∈W++T,l.Pairwise (· < ·)
 perm:((W++T).flatten).Perm S
 cl:∀ l∈T,dZ c n l
 Jz:∀ C:List Nat,C≠[]->dZ c n C->(∀ x∈C,x∈S)->∃ l∈W++T,∀ x∈C,x∈l
def Gw.init{S:List Nat}(h:S≠[])(hu:S.Pairwise (· < ·)):Gw c n S [S] []:=
 ⟨λ l m=>by rw[L4.mp m];exact h,λ l m=>by rw[L4.mp m];exact hu,by simp,λ l m=>absurd m Mv,λ C _ _ hC=>⟨S,by simp,hC⟩⟩
def CM:((W++[l])++T).Perm (W++(T++[l])):=by
 rw[LM];exact Om (Mp _) List.perm_append_comm
def Gw.told{S:List Nat}(h:Gw c n S (W++[l]) T)(hc:dZ c n l):Gw c n S W (T++[l]):=by
 have p:=CM (W:=W) (T:=T) (l:=l);refine⟨λ x m=>h.ne x (p.mem_iff.mpr m),λ x m=>h.up x (p.mem_iff.mpr m),(p.flatten).symm.trans h.perm,λ x m=>?_,λ C h1 h2 h3=>?_⟩
 ·rcases Ls.mp m with m|m
  ·exact h.cl x m
  ·rw[L4.mp m];exact hc
 ·obtain⟨x,m,q⟩:=h.Jz C h1 h2 h3;exact⟨x,p.mem_iff.mp m,q⟩
def Gw.part{S:List Nat}(h:Gw c n S (W++[l]) T){k:Nat}(hk:k<n)(hn:k∉l):Gw c n S (W++(iC (c k) l).map (·.2)) T:=by
 have sh:=rR (c k) l;have mem:∀ x,x∈W++(iC (c k) l).map (·.2)++T->x∈(W++[l])++T\/∃ e∈iC (c k) l,x=e.2:=λ x m=>by
  rcases Ls.mp m with m|m
  ·rcases Ls.mp m with m|m
   ·exact .inl (Lu _ (Lu _ m))
   ·obtain⟨e,he,rfl⟩:=Lq.mp m;exact .inr ⟨e,he,rfl⟩
  ·exact .inl (Lx _ m)
 refine⟨λ x m=>?_,λ x m=>?_,?_,h.cl,λ C h1 h2 h3=>?_⟩
 ·rcases mem x m with m|⟨e,he,rfl⟩
  ·exact h.ne x m
  ·exact sh.ne e he
 ·rcases mem x m with m|⟨e,he,rfl⟩
  ·exact h.up x m
  ·rw[sh.eq e he];exact(h.up l (by simp)).filter _
 ·refine List.Perm.trans ?_ h.perm;rw[Mx,Mx,Mx,Mx];refine Om (Om (Mp _) ?_) (Mp _);simpa using sh.perm
 ·obtain⟨x,m,q⟩:=h.Jz C h1 h2 h3;have old:x∈W\/x=l\/x∈T:=by
   rcases Ls.mp m with m|m
   ·rcases Ls.mp m with m|m
    ·exact .inl m
    ·exact .inr (.inl (L4.mp m))
   ·exact .inr (.inr m)
  rcases old with m|rfl|m
  ·exact⟨x,by simp[m],q⟩
  ·obtain⟨y,r,rfl⟩:∃ y r,C=y::r:=by
    cases C with
    |nil=>exact absurd rfl h1|cons y r=>exact⟨y,r,rfl⟩
   have nk:k∉y::r:=λ z=>hn (q k z);obtain⟨e,he,ee⟩:=Lq.mp (sh.all y (q y Le));refine⟨e.2,Lu _ (Lx _ (Lq.mpr ⟨e,he,rfl⟩)),λ z hz=>?_⟩;rw[sh.eq e he];refine M3.mpr ⟨q z hz,?_⟩;have:=h2 k hk nk z hz y Le;simp[this,ee]
  ·exact⟨x,by simp[m],q⟩
def todo (W:List (List Nat)):Nat:=2*W.flatten.length-W.length
def kJ:∀ {W:List (List Nat)},(∀ l∈W,l≠[])->W.length<=W.flatten.length
 |[],_=>Ll _
 | l::W,h=>by
  have:=kJ (W:=W) λ x m=>h x (Ld _ m);have q:=OF.mpr (h l Le);rw[MM,Lo,Ly];omega
def rQ(h:∀ x∈W++[l],x≠[]):todo W<todo (W++[l]):=by
 unfold todo;have a:=kJ (W:=W) λ x m=>h x (Lu _ m);have q:=OF.mpr (h l (by simp));rw[Mx,Lo,Lo];simp only[MM,Ph,LZ,L6];omega
def Ag{P:List (List Nat)}(h:∀ x∈W++[l],x≠[])(hp:P.flatten.Perm l)(h2:2<=P.length)(hP:∀ x∈P,x≠[]):todo (W++P)<todo (W++[l]):=by
 unfold todo;have a:=kJ (W:=W) λ x m=>h x (Lu _ m);have b:=kJ hP;have e:=hp.length_eq;rw[Mx,Lo,Lo,Mx,Lo,Lo];simp only[MM,Ph,LZ,L6];omega
def Gw.Hj{S:List Nat}(h:Gw c n S [] T)(hS:S.Nodup){C:List Nat}(hc:dZ c n C){i j:Nat}(hij:i≠j)(hi:i<T.length)(hj:j<T.length){x y:Nat}(hx:x∈T[i])(hy:y∈T[j])(xC:x∈C)(yC:y∈C):∃ z∈C,z∉S:=by
 refine OX λ q=>?_;have q:∀ z∈C,z∈S:=λ z m=>OX λ z'=>q ⟨z,m,z'⟩;obtain⟨l,hl,s⟩:=h.Jz C (λ e=>by rw[e]at xC;cases xC) hc q;have hl:l∈T:=by simpa using hl
 obtain⟨k,hk,rfl⟩:=M6 hl;have nd:T.flatten.Nodup:=by
  have:=h.perm.nodup_iff.mpr hS;simpa using this
 have dis:=(List.pairwise_flatten.mp nd).2;rw[Mt]at dis;have one:∀ a (ha:a<T.length) u,u∈T[a]->u∈C->a=k:=λ a ha u hu hc'=>by
  have hs:=s u hc';rcases M1 a k with z|z|z
  ·exact absurd hs (λ w=>dis a k ha hk z u hu u w rfl)
  ·exact z
  ·exact absurd hu (λ w=>dis k a hk ha z u hs u w rfl)
 exact hij ((one i hi x hx xC).trans (one j hj y hy yC).symm)
end PG
namespace KL
open DL
variable {d:D}{T W:List (List Nat)}{xs:List D}{ns ps qs:List Int}{l lr:List Nat}{i j l0 n:Nat}{f:Nat->Nat->Int}{τ:SD}{F a:SD->Res D}
abbrev ko (ps:List Int)(f:Nat->Nat->Int)(k:Nat):D:=fK .aq ps (ent f k (mL ps.length))
section
def Kz {H:SD->Res D}{p q:Nat}(hs:ps.Pairwise (· < ·))(hp:p<ps.length)(hq:q<ps.length)(hn:p≠q)(h1:F τ=.ok (ko ps f p))(h3:H τ=.ok (.int (aL ps q))):af c6 F H τ=.ok (.int (cc f p q)):=by
 have lk2:=iW (λ x:Nat×Int=>aL ps x.1) (λ x=>D.int x.2) (q,cc f p q) (ent f p (mL ps.length)) (Es hp hq hn) λ x hx e=>by
  have e1:=ip hs (Cz hx).2.1 hq e;have e2:=(Cz hx).1;rw[e1]at e2;exact Prod.ext e1 e2
 rw[bc h1 h3];show(if (kI (aL ps q)).kind=false then (match eB ((ent f p (mL ps.length)).map λ x=>kI (aL ps x.1)) ((ent f p (mL ps.length)).map λ x=>D.int x.2) (kI (aL ps q)) with|some d=>Res.ok d|none=>.bad) else .bad)=_;rw[Lr (show(kI (aL ps q)).kind=false from rfl),lk2]
def CP {G:SD->Res D}{p:Nat}(hs:ps.Pairwise (· < ·))(hp:p<ps.length)(h1:F τ=.ok (zZ ps f))(h2:G τ=.ok (.int (aL ps p))):af c6 F G τ=.ok (ko ps f p):=by
 have lk:=iW (aL ps) (λ i=>fK .aq ps (ent f i (mL ps.length))) p (List.range ps.length) (LN.mpr hp) λ i hi e=>ip hs (LN.mp hi) hp e;rw[bc h1 h2];show(if (kI (aL ps p)).kind=false then (match eB ((List.range ps.length).map λ i=>kI (aL ps i)) ((List.range ps.length).map λ i=>fK .aq ps (ent f i (mL ps.length))) (kI (aL ps p)) with|some d=>Res.ok d|none=>.bad) else .bad)=_;rw[Lr (show(kI (aL ps p)).kind=false from rfl),lk]
def xf {k:Nat}(h:τ[i]?=some (some (ko ps f k))):aa i τ=.ok (ko ps f k):=by
 unfold aa;rw[h];show Res.ok (ko ps f k).view=_;rw[vv]
def ue(h:τ[i]?=some (some (zZ ps f))):aa i τ=.ok (zZ ps f):=by
 unfold aa;rw[h];show Res.ok (zZ ps f).view=_;rw[Eo]
def j9 (ps:List Int)(f:Nat->Nat->Int)(k:Nat)(l:List Nat)(o:Option D):SD:=[some (ko ps f k),some (.lst .aq ((pp ps l).map .int)),o]
def Jj {k:Nat}{o:Option D}:af cz (aa 1) (eC (.int 0)) (j9 ps f k (l0::lr) o)=.ok (.int (aL ps l0)):=ig (bO rfl (ah _)) (y:=.int 0) rfl (pX (j:=0) rfl rfl)
def yy (hs:ps.Pairwise (· < ·)){k l0:Nat}{lr:List Nat}(hk:k<ps.length)(hl:∀ x∈l0::lr,x<ps.length)(hn:k∉l0::lr):∀ (r:List Nat) (o:Option D),(∀ x∈r,x∈l0::lr) ->
  (∃ o',bF (gN 2) ba ((pp ps r).map .int) (j9 ps f k (l0::lr) o)=.nx (j9 ps f k (l0::lr) o')/\∀ j∈r,cc f k j=cc f k l0) ∨
  ∃ j:Nat,(j∈l0::lr/\cc f k j≠cc f k l0)/\bF (gN 2) ba ((pp ps r).map .int) (j9 ps f k (l0::lr) o)=.rt (.int (aL ps j))
 |[],o,_=>.inl ⟨o,rfl,λ j hj=>absurd hj Mv⟩
 | j::r,o,h=>by
  have hj:=h j Le;have hjn:k≠j:=λ z=>hn (z▸hj);have h0n:k≠l0:=λ z=>hn (z▸Le);have c1:=Kz (f:=f) (τ:=j9 ps f k (l0::lr) (some (.int (aL ps j)))) (F:=aa 0) (H:=aa 2) hs hk (hl j hj) hjn (xf rfl) rfl;have c2:=Kz (f:=f) (τ:=j9 ps f k (l0::lr) (some (.int (aL ps j)))) (F:=aa 0) (H:=af cz (aa 1) (eC (.int 0))) hs hk (hl l0 Le) h0n (xf rfl) Jj;have t:=tZ c1 c2;by_cases e:cc f k j=cc f k l0
  ·rw[LO e]at t;have st:ba (j9 ps f k (l0::lr) (some (.int (aL ps j))))=.nx (j9 ps f k (l0::lr) (some (.int (aL ps j)))):=by
    unfold ba;rw[kN t];rfl
   have go:bF (gN 2) ba ((pp ps (j::r)).map .int) (j9 ps f k (l0::lr) o)=bF (gN 2) ba ((pp ps r).map .int) (j9 ps f k (l0::lr) (some (.int (aL ps j)))):=fJ (τ':=j9 ps f k (l0::lr) (some (.int (aL ps j)))) rfl st;rw[go];rcases yy hs hk hl hn r (some (.int (aL ps j))) (λ x hx=>h x (Ld _ hx)) with ⟨b',e1,e2⟩|q
   ·refine .inl ⟨b',e1,λ x hx=>?_⟩;rcases Ln.mp hx with rfl|hx
    ·exact e
    ·exact e2 x hx
   ·exact .inr q
  ·rw[LD e]at t;refine .inr ⟨j,⟨hj,e⟩,oJ (τ':=j9 ps f k (l0::lr) (some (.int (aL ps j)))) rfl ?_⟩;unfold ba;rw[pV t];rfl
def CO (hs:ps.Pairwise (· < ·)){k:Nat}(hk:k<ps.length)(hl:∀ x∈l0::lr,x<ps.length)(hn:k∉l0::lr) :
  (cX [ko ps f k,.lst .aq ((pp ps (l0::lr)).map .int)]=.ok .bg/\∀ j∈l0::lr,cc f k j=cc f k l0) ∨
  ∃ j:Nat,(j∈l0::lr/\cc f k j≠cc f k l0)/\cX [ko ps f k,.lst .aq ((pp ps (l0::lr)).map .int)]=.ok (.int (aL ps j)):=by
 have hf:bU [1] (eN (aa 1)) (gN 2) ba (j9 ps f k (l0::lr) none)=bF (gN 2) ba ((pp ps (l0::lr)).map .int) (j9 ps f k (l0::lr) none):=
  gU (τ':=j9 ps f k (l0::lr) none) (by
   show [some (ko ps f k),some (D.lst .aq (aE ((pp ps (l0::lr)).map .int))),none]=_;rw[bf];rfl) (lF rfl (ah _)) (ah _)
 rcases yy (f:=f) hs hk hl hn (l0::lr) none (λ _ h=>h) with ⟨o',e1,e2⟩|⟨j,hj,e⟩
 ·refine .inl ⟨?_,e2⟩;refine cP (τ:=j9 ps f k (l0::lr) none) rfl rfl ?_;unfold fX;rw[aF (hf.trans e1)];rfl
 ·refine .inr ⟨j,hj,?_⟩;refine cP (τ:=j9 ps f k (l0::lr) none) rfl rfl ?_;unfold fX;exact wY (hf.trans e)
def gX (ps:List Int)(f:Nat->Nat->Int)(l:List Nat)(a b:Option D):SD:=[some (zZ ps f),some (.lst .aq ((pp ps l).map .int)),a,b]
def Ey (hs:ps.Pairwise (· < ·)){k:Nat}(hl:∀ x∈l0::lr,x<ps.length)(hk:k<ps.length)(b:Option D) :
  (∃ b',aY (gX ps f (l0::lr) (some (.int (aL ps k))) b)=.nx (gX ps f (l0::lr) (some (.int (aL ps k))) b')/\(k∉l0::lr->∀ j∈l0::lr,cc f k j=cc f k l0)) ∨
  (k∉l0::lr/\∃ j:Nat,(j∈l0::lr/\cc f k j≠cc f k l0)/\aY (gX ps f (l0::lr) (some (.int (aL ps k))) b)=.rt (.tup [.int (aL ps k),.int (aL ps l0),.int (aL ps j)])):=by
 have v1:∀ b,aa 1 (gX ps f (l0::lr) (some (.int (aL ps k))) b)=.ok (.lst .aq ((pp ps (l0::lr)).map .int)):=λ b=>bO rfl (ah _);have t:=nj (f:=aa 2) (g:=aa 1) (τ:=gX ps f (l0::lr) (some (.int (aL ps k))) b) (x:=aL ps k) (qs:=pp ps (l0::lr)) rfl (v1 b);rw[Nf.mpr (G7 hs hk hl)]at t;unfold aY;by_cases hn:k∈l0::lr
 ·rw[LO hn]at t;rw[kN t];exact .inl ⟨b,rfl,λ z=>absurd hn z⟩
 ·rw[LD hn]at t;rw[pV t];have call:∀ d,cX [ko ps f k,.lst .aq ((pp ps (l0::lr)).map .int)]=.ok d->d.pure=true->aB cX (ae (af c6 (aa 0) (aa 2)) (ae (aa 1) ao)) (gX ps f (l0::lr) (some (.int (aL ps k))) b)=.ok d:=λ d hG hd=>by
   refine eV (ds:=[ko ps f k,.lst .aq ((pp ps (l0::lr)).map .int)]) (aN (CP hs hk (ue rfl) rfl) (cL (v1 b))) ?_ hd;show cX [(ko ps f k).aq,.lst .aq (aE ((pp ps (l0::lr)).map .int))]=_;rw[p7,bf];exact hG
  rcases CO (f:=f) hs hk hl hn with ⟨e,q⟩|⟨j,hj,e⟩
  ·refine .inl ⟨some .bg,?_,λ _=>q⟩;rw[aF (a6 (call _ e rfl) rfl)];show dI _ _ _ (gX ps f (l0::lr) (some (.int (aL ps k))) (some .bg))=_;rw[kN rfl];rfl
  ·refine .inr ⟨hn,j,hj,?_⟩;rw[aF (a6 (call _ e rfl) rfl)];show dI _ _ _ (gX ps f (l0::lr) (some (.int (aL ps k))) (some (.int (aL ps j))))=_;rw[pV rfl];refine fD ?_ rfl;have x0:af cz (aa 1) (eC (.int 0)) (gX ps f (l0::lr) (some (.int (aL ps k))) (some (.int (aL ps j))))=.ok (.int (aL ps l0)):=ig (v1 _) (y:=.int 0) rfl (pX (j:=0) rfl rfl);rw[fE (aN (d:=.int (aL ps k)) rfl (aN x0 (cL (d:=.int (aL ps j)) rfl)))];rfl
def yz (hs:ps.Pairwise (· < ·)){l0:Nat}{lr:List Nat}(hl:∀ x∈l0::lr,x<ps.length):∀ (r:List Nat) (a b:Option D),(∀ x∈r,x<ps.length) ->
  (∃ a' b',bF (gN 2) aY ((pp ps r).map .int) (gX ps f (l0::lr) a b)=.nx (gX ps f (l0::lr) a' b')/\∀ k∈r,k∉l0::lr->∀ j∈l0::lr,cc f k j=cc f k l0) ∨
  ∃ k j:Nat,k<ps.length/\k∉l0::lr/\(j∈l0::lr/\cc f k j≠cc f k l0)/\bF (gN 2) aY ((pp ps r).map .int) (gX ps f (l0::lr) a b)=.rt (.tup [.int (aL ps k),.int (aL ps l0),.int (aL ps j)])
 |[],a,b,_=>.inl ⟨a,b,rfl,λ k hk=>absurd hk Mv⟩
 | k::r,a,b,h=>by
  have hk:=h k Le;rcases Ey (f:=f) hs hl hk b with ⟨b',e,q⟩|⟨hn,j,hj,e⟩
  ·have go:bF (gN 2) aY ((pp ps (k::r)).map .int) (gX ps f (l0::lr) a b)=bF (gN 2) aY ((pp ps r).map .int) (gX ps f (l0::lr) (some (.int (aL ps k))) b'):=fJ (τ':=gX ps f (l0::lr) (some (.int (aL ps k))) b) rfl e;rw[go];rcases yz hs hl r (some (.int (aL ps k))) b' (λ x hx=>h x (Ld _ hx)) with ⟨a',b'',e1,e2⟩|q'
   ·refine .inl ⟨a',b'',e1,λ x hx=>?_⟩;rcases Ln.mp hx with rfl|hx
    ·exact q
    ·exact e2 x hx
   ·exact .inr q'
  ·exact .inr ⟨k,j,hk,hn,hj,oJ (τ':=gX ps f (l0::lr) (some (.int (aL ps k))) b) rfl e⟩
def CN (hs:ps.Pairwise (· < ·))(hl:∀ x∈l0::lr,x<ps.length) :
  (cM [zZ ps f,.lst .aq ((pp ps (l0::lr)).map .int)]=.ok .bg/\PG.dZ (cc f) ps.length (l0::lr)) ∨
  ∃ k j:Nat,k<ps.length/\k∉l0::lr/\(j∈l0::lr/\cc f k j≠cc f k l0)/\cM [zZ ps f,.lst .aq ((pp ps (l0::lr)).map .int)]=.ok (.tup [.int (aL ps k),.int (aL ps l0),.int (aL ps j)]):=by
 have hi:nM (aa 0) (gX ps f (l0::lr) none none)=.ok (false,(pp ps (List.range ps.length)).map .int):=by
  unfold nM;rw[ue rfl];show Res.ok ((zZ ps f).aw,((List.range ps.length).map λ i=>kI (aL ps i)).map yb)=_;rw[Jh,LQ,w4];rfl
 have hf:bU [0] (nM (aa 0)) (gN 2) aY (gX ps f (l0::lr) none none)=bF (gN 2) aY ((pp ps (List.range ps.length)).map .int) (gX ps f (l0::lr) none none):=
  gU (τ':=gX ps f (l0::lr) none none) (by
   show [some (zZ ps f).aq,some (D.lst .aq ((pp ps (l0::lr)).map .int)),none,none]=_;rw[yq];rfl) hi (ah _)
 rcases yz (f:=f) hs hl (List.range ps.length) none none (λ x hx=>LN.mp hx) with ⟨a',b',e1,e2⟩|⟨k,j,h1,h2,h3,e⟩
 ·refine .inl ⟨?_,nA λ k hk hn j hj=>e2 k (LN.mpr hk) hn j (Ld _ hj)⟩;refine cP (τ:=gX ps f (l0::lr) none none) rfl rfl ?_;unfold fH;rw[aF (hf.trans e1)];rfl
 ·refine .inr ⟨k,j,h1,h2,h3,?_⟩;refine cP (τ:=gX ps f (l0::lr) none none) rfl rfl ?_;unfold fH;exact wY (hf.trans e)
end
def vD {α:Type}(P:α->Int)(g:α->D)(q:Int):∀ (l:List α),(∀ a∈l,P a≠q)->eB (l.map λ a=>kI (P a)) (l.map g) (kI q)=none
 |[],_=>rfl
 | a::l,h=>by
  rw[LA,LA,eB,Lw λ z=>h a Le (nu.mp z)];exact vD P g q l λ b hb=>h b (Ld _ hb)
def xg{fk:SD->Res D}{t:Tg}{ks:List KT}{ys:List D}{q:Int}(ho:cT τ i=some (t,false,ks,xs))(hj:τ[j]?=some (some d))(hk:fk τ=.ok (.int q))(hl:eB ks xs (kI q)=some (.lst .own ys))(hp:d.pure=true)(h1:ks.length<16777216)(h2:ys.length<16777216) :
  ji i fk j τ=.nx (τ.set i (some (.dct t false ks (iT ks xs (kI q) (.lst .own (ys++[d])))))):=by
 unfold kI at hl;unfold ji kI;rw[ho,hj];simp only;rw[hk,fV];simp only[eu];rw[hl];simp only;rw[Lr ⟨hp,h1,h2⟩]
def xh{fk:SD->Res D}{t:Tg}{ks:List KT}{q:Int}(ho:cT τ i=some (t,false,ks,xs))(hj:τ[j]?=some (some d))(hk:fk τ=.ok (.int q))(hl:eB ks xs (kI q)=none)(hp:d.pure=true)(h1:ks.length<16777216) :
  ji i fk j τ=.nx (τ.set i (some (.dct t false (ks++[kI q]) (xs++[.lst .own [d]])))):=by
 unfold kI at hl;unfold ji kI;rw[ho,hj];simp only;rw[hk,fV];simp only[eu];rw[hl];simp only;rw[Lr ⟨hp,h1⟩]
abbrev aU (ps:List Int)(l:List Nat):D:=.lst .own ((pp ps l).map .int)
def JB (ps:List Int)(acc:List (Int×List Nat)):D:=.dct .own false (acc.map λ e=>kI e.1) (acc.map λ e=>aU ps e.2)
section
def lG (ps:List Int)(f:Nat->Nat->Int)(k:Nat)(l:List Nat)(acc:List (Int×List Nat))(o:Option D):SD:=[some (ko ps f k),some (.lst .aq ((pp ps l).map .int)),some (JB ps acc),o]
def Ez (hs:ps.Pairwise (· < ·)){k m:Nat}{done:List Nat}{acc:List (Int×List Nat)}(hk:k<ps.length)(hm:m<ps.length)(hn:k≠m)(h:PG.Sh (cc f k) done acc)(hd:done.length<=100)(ha:acc.length<=100) :
  cy (lG ps f k l acc (some (.int (aL ps m))))=.nx (lG ps f k l (PG.iq (cc f k) acc m) (some (.int (aL ps m)))):=by
 have c1:=Kz (f:=f) (τ:=lG ps f k l acc (some (.int (aL ps m)))) (F:=aa 0) (H:=aa 3) hs hk hm hn (xf rfl) rfl;have e2:cT (lG ps f k l acc (some (.int (aL ps m)))) 2=some (.own,false,acc.map (λ e=>kI e.1),acc.map λ e=>aU ps e.2):=rfl;unfold cy;by_cases q:cc f k m∈acc.map (·.1)
 ·obtain⟨e,he,ee⟩:=Lq.mp q;have inj:∀ a∈acc,a.1=e.1->a=e:=λ a ma z=>by
   obtain⟨i,hi,rfl⟩:=M6 ma;obtain⟨j,hj,rfl⟩:=M6 he;have pw:acc.Pairwise (λ a b=>a.1≠b.1):=MA.mp h.nd;rw[Mt]at pw;rcases M1 i j with w|w|w
   ·exact absurd z (pw i j hi hj w)
   ·subst w;rfl
   ·exact absurd z.symm (pw j i hj hi w)
  have ndA:acc.Nodup:=(List.Pairwise.of_map (·.1) (λ a b (h:a.1≠b.1) z=>h (by rw[z])) h.nd);have len:e.2.length<=100:=by
   rw[h.eq e he];exact MC (Od _ _) hd
  have lk:=iW (λ a:Int×List Nat=>a.1) (λ a=>aU ps a.2) e acc he inj;rw[xg e2 rfl c1 (by rw[<-ee];exact lk) rfl (by rw[Lc];omega) (by unfold pp;rw[Lc,Lc];omega),<-ee,nv (λ a:Int×List Nat=>a.1) (λ a=>aU ps a.2) e _ acc ndA inj];have e3:PG.iq (cc f k) acc m=acc.map λ a=>if a.1=cc f k m then (a.1,a.2++[m]) else a:=by unfold PG.iq;rw[Lr q]
  show Fl.nx [some (ko ps f k),some (.lst .aq ((pp ps l).map .int)),some (.dct .own false (acc.map λ e=>kI e.1) (acc.map λ a=>if a=e then .lst .own ((pp ps e.2).map .int++[.int (aL ps m)]) else aU ps a.2)),some (.int (aL ps m))]=_;unfold lG JB;rw[e3,LQ,LQ];have k1:(acc.map λ a=>kI a.1)=acc.map ((λ e=>kI e.1)∘λ a=>if a.1=cc f k m then (a.1,a.2++[m]) else a):=LJ λ a _=>by
   show kI a.1=kI (if a.1=cc f k m then (a.1,a.2++[m]) else a).1;split<;>rfl
  have k2:(acc.map λ a=>if a=e then D.lst .own ((pp ps e.2).map .int++[.int (aL ps m)]) else aU ps a.2)=acc.map ((λ e=>aU ps e.2)∘λ a=>if a.1=cc f k m then (a.1,a.2++[m]) else a):=LJ λ a ma=>by
   show _=aU ps (if a.1=cc f k m then (a.1,a.2++[m]) else a).2;by_cases z:a=e
   ·subst z;rw[Lr rfl,Lr ee];show _=D.lst .own ((pp ps (a.2++[m])).map .int);rw[Aa,Lz];rfl
   ·rw[Lw z,Lw λ y=>z (inj a ma (y.trans ee.symm))]
  rw[<-k1,<-k2]
 ·rw[xh e2 rfl c1 (vD (λ a:Int×List Nat=>a.1) (λ a=>aU ps a.2) (cc f k m) acc λ a ma z=>q (Lq.mpr ⟨a,ma,z⟩)) rfl (by rw[Lc];omega)];have e3:PG.iq (cc f k) acc m=acc++[(cc f k m,[m])]:=by unfold PG.iq;rw[Lw q]
  unfold lG JB;rw[e3,Lz,Lz];rfl
def Ai (c:Nat->Int)(acc:List (Int×List Nat))(m:Nat):(PG.iq c acc m).length<=acc.length+1:=by
 unfold PG.iq;split
 ·rw[Lc];omega
 ·rw[Lo];simp
def yD (hs:ps.Pairwise (· < ·)){k:Nat}{l:List Nat}(hk:k<ps.length):∀ (r done:List Nat) (acc:List (Int×List Nat)) (o:Option D),PG.Sh (cc f k) done acc->(∀ x∈r,x<ps.length/\k≠x)->done.length+r.length<=100->acc.length<=done.length ->
  ∃ o',bF (gN 3) cy ((pp ps r).map .int) (lG ps f k l acc o)=.nx (lG ps f k l (r.foldl (PG.iq (cc f k)) acc) o')
 |[],done,acc,o,_,_,_,_=>⟨o,rfl⟩
 | m::r,done,acc,o,h,hr,hd,ha=>by
  rw[Ly]at hd;have q:=hr m Le;have st:=Ez (f:=f) (l:=l) hs hk q.1 q.2 h (by omega) (by omega);have go:bF (gN 3) cy ((pp ps (m::r)).map .int) (lG ps f k l acc o)=bF (gN 3) cy ((pp ps r).map .int) (lG ps f k l (PG.iq (cc f k) acc m) (some (.int (aL ps m)))):=fJ (τ':=lG ps f k l acc (some (.int (aL ps m)))) rfl st;rw[go];have:=Ai (cc f k) acc m;exact yD hs hk r (done++[m]) _ _ (h.step m) (λ x hx=>hr x (Ld _ hx)) (by rw[Lo,L6];omega) (by rw[Lo,L6];omega)
def Ah (hs:ps.Pairwise (· < ·)){k:Nat}(hk:k<ps.length)(hl:∀ x∈l,x<ps.length)(hn:k∉l)(h24:l.length<=24):gf [ko ps f k,.lst .aq ((pp ps l).map .int)]=.ok (.lst .own (((PG.iC (cc f k) l).map (·.2)).map (aU ps))):=by
 refine cP (τ:=[some (ko ps f k),some (.lst .aq ((pp ps l).map .int)),none,none]) rfl rfl ?_;unfold j0;rw[aF (a6 (d:=.dct .own false [] []) rfl rfl)];show aC _ _ (lG ps f k l [] none)=_;have hf:bU [1] (eN (aa 1)) (gN 3) cy (lG ps f k l [] none)=bF (gN 3) cy ((pp ps l).map .int) (lG ps f k l [] none):=
  gU (τ':=lG ps f k l [] none) (by
   show [some (ko ps f k),some (D.lst .aq (aE ((pp ps l).map .int))),some (JB ps []),none]=_;rw[bf];rfl) (lF rfl (ah _)) (ah _)
 obtain⟨o',e⟩:=yD (f:=f) (l:=l) hs hk l [] [] none (PG.Sh.nil _) (λ x hx=>⟨hl x hx,λ z=>hn (z▸hx)⟩) (by simp;omega) (Ll _);rw[aF (hf.trans e)];show Fl.rt (D.lst .own ((l.foldl (PG.iq (cc f k)) []).map λ e=>aU ps e.2))=_;rw[LQ];rfl
end
def EC(h:τ[i]?=some (some (.lst .own (xs++[d]))))(hij:i≠j):rz j i τ=.nx ((τ.set i (some (.lst .own xs))).set j (some d)):=by
 have e:c5 τ i=some (xs++[d]):=by unfold c5;rw[h]
 unfold rz;rw[e];simp only;have e2:(xs++[d])[(xs++[d]).length-1]?=some d:=by
  rw[Lo,L6,Nat.add_sub_cancel,MJ (Ll _),Nat.sub_self];rfl
 rw[e2];simp only;rw[Lr hij,List.dropLast_concat]
def EA(h:τ[i]?=some (some (.lst .own xs)))(hj:τ[j]?=some (some d))(hij:i≠j)(hl:xs.length<16777216):u7 i j τ=.nx ((τ.set j none).set i (some (.lst .own (xs++[d])))):=by
 have e:c5 τ i=some xs:=by unfold c5;rw[h]
 unfold u7;rw[e,hj];simp only;rw[Lr ⟨hij,hl⟩]
def ED{g:SD->Res D}{ys:List D}(h:τ[i]?=some (some (.lst .own xs)))(hf:g τ=.ok (.lst .own ys))(hb:av ys=false)(hl:xs.length+ys.length<=16777216):BD i g τ=.nx (τ.set i (some (.lst .own (xs++ys)))):=by
 have e:c5 τ i=some xs:=by unfold c5;rw[h]
 unfold BD;rw[e];simp only;rw[hf,fV];unfold GB;simp only;rw[hb,Lw Li,Lr hl]
def uf (ps:List Int):∀ P:List (List Nat),av (P.map (aU ps))=false
 |[]=>rfl
 | l::P=>by
  show((aU ps l).aw||av (P.map (aU ps)))=false;rw[cN (ah _),uf ps P];rfl
def CS (ps:List Int)(P:List (List Nat)):(D.lst .own (P.map (aU ps))).aP=.lst .own (P.map (aU ps)):=by
 show D.lst .own (bA (P.map (aU ps)))=_;rw[mU,LQ]
 congr 1
 exact LJ λ l _=>kH (ah _)
def lex_trans:∀ (a b c:List Int),SR.lexLt a b=true->SR.lexLt b c=true->SR.lexLt a c=true
 |[],[],_,h,_=>by cases h
 |[],_::_,[],_,h=>by cases h
 |[],_::_,_::_,_,_=>rfl|_::_,[],_,h,_=>by cases h
 |_::_,_::_,[],_,h=>by cases h
 | x::r,y::q,z::s,h1,h2=>by
  unfold SR.lexLt at h1 h2 ⊢;by_cases e1:x=y
  ·subst e1;rw[Lr rfl]at h1;by_cases e2:x=z
   ·rw[Lr e2]at h2 ⊢;exact lex_trans r q s h1 h2
   ·rw[Lw e2]at h2 ⊢;exact h2
  ·rw[Lw e1]at h1;have h1:x<y:=by simpa using h1
   by_cases e2:y=z
   ·subst e2;rw[Lw e1];simpa using h1
   ·rw[Lw e2]at h2;have h2:y<z:=by simpa using h2
    rw[Lw (by omega)];simp;omega
section
def iD (ps:List Int)(f:Nat->Nat->Int)(qs:List Int)(W T:List (List Nat))(a b:Option D):SD:=[some (nF ps f),some (.lst .aq (qs.map .int)),some (.lst .own (W.map (aU ps))),some (zZ ps f),some (.lst .own (T.map (aU ps))),a,b]
def vE {S:List Nat}(G:PG.Gw (cc f) ps.length S W T)(hS:∀ x∈S,x<ps.length)(hl:l∈W++T):∀ x∈l,x<ps.length:=λ x hx=>hS x (G.perm.mem_iff.mp (List.mem_flatten.mpr ⟨l,hl,hx⟩))
def EB (hs:ps.Pairwise (· < ·))(hp:ps.length<=24){S:List Nat}(G:PG.Gw (cc f) ps.length S (W++[l]) T)(hS:∀ x∈S,x<ps.length)(hc:W.length<=100)(hT:T.length<=100)(a b:Option D) :
  ∃ W' T' a' b',PG.Gw (cc f) ps.length S W' T'/\PG.todo W' < PG.todo (W++[l])/\a7 (iD ps f qs (W++[l]) T a b)=.nx (iD ps f qs W' T' a' b'):=by
 have hll:=vE G hS (l:=l) (by simp);have hne:=G.ne l (by simp);have hup:=G.up l (by simp);have hnd:l.Nodup:=hup.imp λ h=>LH h;have hlen:=PG.ik hnd hll;have ne1:∀ x∈W++[l],x≠[]:=λ x m=>G.ne x (Lu _ m);obtain⟨l0,lr,el⟩:=nY hne;have e1:rz 5 2 (iD ps f qs (W++[l]) T a b)=.nx (iD ps f qs W T (some (aU ps l)) b):=by
  rw[EC (xs:=W.map (aU ps)) (d:=aU ps l) (show(iD ps f qs (W++[l]) T a b)[2]?=_ by show some (some (D.lst .own ((W++[l]).map (aU ps))))=_;rw[Lz];rfl) (by decide)];rfl
 have v5:∀ b,aa 5 (iD ps f qs W T (some (aU ps l)) b)=.ok (.lst .bor ((pp ps l).map .int)):=λ b=>fF rfl (ah _);have call:∀ d,cM [zZ ps f,.lst .aq ((pp ps l).map .int)]=.ok d->d.pure=true->aB cM (ae (aa 3) (ae (aa 5) ao)) (iD ps f qs W T (some (aU ps l)) b)=.ok d:=λ d hG hd=>by
  refine eV (ds:=[zZ ps f,.lst .bor ((pp ps l).map .int)]) (aN (ue rfl) (cL (v5 b))) ?_ hd;show cM [(zZ ps f).aq,.lst .aq (aE ((pp ps l).map .int))]=_;rw[yq,bf];exact hG
 have am:=CN (f:=f) hs (l0:=l0) (lr:=lr) (by rw[<-el];exact hll);rw[<-el]at am;unfold a7;rw[aF e1];rcases am with ⟨e,cl⟩|⟨k,j,h1,h2,⟨h3,h4⟩,e⟩
 ·refine⟨W,T++[l],none,some .bg,G.told cl,PG.rQ ne1,?_⟩;rw[aF (a6 (call _ e rfl) rfl)];show dI _ _ _ (iD ps f qs W T (some (aU ps l)) (some .bg))=_;rw[pV rfl,EA (xs:=T.map (aU ps)) (d:=aU ps l) rfl rfl (by decide) (by rw[Lc];omega)];unfold iD;rw[Lz];rfl
 ·have sh:=PG.rR (cc f k) l;have two:=sh.two h3 (show l0∈l by rw[el];exact Le) h4;refine⟨W++(PG.iC (cc f k) l).map (·.2),T,some (aU ps l),some (.tup [.int (aL ps k),.int (aL ps l0),.int (aL ps j)]),G.part h1 h2,PG.Ag ne1 sh.perm (by rw[Lc];exact two) (λ x m=>by obtain⟨z,hz,rfl⟩:=Lq.mp m;exact sh.ne z hz),?_⟩;rw[aF (a6 (call _ e rfl) rfl)];show dI _ _ _ (iD ps f qs W T (some (aU ps l)) (some (.tup [.int (aL ps k),.int (aL ps l0),.int (aL ps j)])))=_;rw[kN rfl];have x0:af cz (aa 6) (eC (.int 0)) (iD ps f qs W T (some (aU ps l)) (some (.tup [.int (aL ps k),.int (aL ps l0),.int (aL ps j)])))=.ok (.int (aL ps k)):=ig (x:=.tup [.int (aL ps k),.int (aL ps l0),.int (aL ps j)]) rfl rfl (i9 (j:=0) rfl rfl);have cs:aB gf (ae (af c6 (aa 3) (af cz (aa 6) (eC (.int 0)))) (ae (aa 5) ao)) (iD ps f qs W T (some (aU ps l)) (some (.tup [.int (aL ps k),.int (aL ps l0),.int (aL ps j)])))=.ok (.lst .own (((PG.iC (cc f k) l).map (·.2)).map (aU ps))):=by
   refine jl (ds:=[ko ps f k,.lst .bor ((pp ps l).map .int)]) (aN (CP hs h1 (ue rfl) x0) (cL (v5 _))) ?_ (CS ps _);show gf [(ko ps f k).aq,.lst .aq (aE ((pp ps l).map .int))]=_;rw[p7,bf];exact Ah hs h1 hll h2 (by omega)
  have sl:((PG.iC (cc f k) l).map (·.2)).length<=24:=by
   have:=PG.kJ (W:=(PG.iC (cc f k) l).map (·.2)) (λ x m=>by obtain⟨z,hz,rfl⟩:=Lq.mp m;exact sh.ne z hz);rw[sh.perm.length_eq]at this;omega
  rw[ED (xs:=W.map (aU ps)) rfl cs (uf ps _) (by rw[Lc,Lc];omega)];unfold iD;rw[Lz];rfl
def ug {S:List Nat}(G:PG.Gw (cc f) ps.length S W T):W.length+T.length<=S.length:=by
 have:=PG.kJ (W:=W++T) G.ne;rw[G.perm.length_eq,Lo]at this;exact this
def CQ (hs:ps.Pairwise (· < ·))(hp:ps.length<=24){S:List Nat}(hS:∀ x∈S,x<ps.length)(hSl:S.length<=24):∀ (m:Nat) (W T:List (List Nat)) (a b:Option D),PG.Gw (cc f) ps.length S W T->PG.todo W<=m ->
  ∃ T' a' b',PG.Gw (cc f) ps.length S [] T'/\bJ bu a7 (m+1) (iD ps f qs W T a b)=.nx (iD ps f qs [] T' a' b'):=by
 intro m
 induction m with
 | zero =>
  intro W T a b G h;rcases List.eq_nil_or_concat W with rfl|⟨W',l,rfl⟩
  ·exact⟨T,a,b,G,rfl⟩
  ·rw[List.concat_eq_append]at G h;have:=PG.rQ (W:=W') (l:=l) λ x m=>G.ne x (Lu _ m);omega
 | succ m ih =>
  intro W T a b G h;rcases List.eq_nil_or_concat W with rfl|⟨W',l,rfl⟩
  ·exact⟨T,a,b,G,rfl⟩
  ·rw[List.concat_eq_append]at G h ⊢;have hl:=ug G;rw[Lo,L6]at hl;obtain⟨W2,T2,a2,b2,G2,t2,e2⟩:=EB (qs:=qs) hs hp G hS (by omega) (by omega) a b;obtain⟨T',a',b',G',e'⟩:=ih W2 T2 a2 b2 G2 (by omega);refine⟨T',a',b',G',?_⟩;have c:bu (iD ps f qs (W'++[l]) T a b)=.ok true:=by
    unfold bu Jy aa;show(Res.ok (D.lst .bor (bR ((W'++[l]).map (aU ps))))).bind _=_;rw[Res.aH,jM,Lz,Lz];show Res.ok (!(((W'.map (aU ps)).map D.view++_).isEmpty))=_;cases (W'.map (aU ps)).map D.view<;>rfl
   rw[bJ,c];show(match a7 (iD ps f qs (W'++[l]) T a b) with|.nx t=>bJ bu a7 (m+1) t|.ct t=>bJ bu a7 (m+1) t|.bk t=>Fl.nx t|o=>o)=_;rw[e2];exact e'
end
def EF {c:Nat->Nat->Int}{S:List Nat}{T':List (List Nat)}(h:PG.Gw c n S [] T)(p:T'.Perm T):PG.Gw c n S [] T':=
 ⟨λ l m=>h.ne l (p.mem_iff.mp m),λ l m=>h.up l (p.mem_iff.mp m),(p.flatten).trans h.perm,λ l m=>h.cl l (p.mem_iff.mp m),λ C h1 h2 h3=>by
  obtain⟨l,m,q⟩:=h.Jz C h1 h2 h3;exact⟨l,p.mem_iff.mpr m,q⟩⟩
def CT {c:Nat->Nat->Int}{S:List Nat}(h:PG.Gw c n S [] T)(hS:S.Nodup)(hi:i<T.length)(hj:j<T.length)(hij:i≠j):∃ a r b q,T[i]=a::r/\T[j]=b::q/\a≠b:=by
 obtain⟨a,r,ea⟩:=nY (h.ne T[i] (by simp));obtain⟨b,q,eb⟩:=nY (h.ne T[j] (by simp));refine⟨a,r,b,q,ea,eb,λ z=>?_⟩;have nd:T.flatten.Nodup:=by
  have:=h.perm.nodup_iff.mpr hS;simpa using this
 have dis:=(List.pairwise_flatten.mp nd).2;rw[Mt]at dis;rcases M1 i j with w|w|w
 ·exact dis i j hi hj w a (by rw[ea];simp) b (by rw[eb];simp) z
 ·exact hij w
 ·exact dis j i hj hi w b (by rw[eb];simp) a (by rw[ea];simp) z.symm
def Hk (ps:List Int)(m:Nat)(g:Nat->List (Nat×Int)):(ua .own ps m g).aw=false:=by
 show(false||av ((List.range m).map λ i=>fK .own ps (g i)))=false;rw[Bool.false_or];generalize List.range m=L
 induction L with
 |nil=>rfl
 | cons i r ih =>
  show((fK .own ps (g i)).aw||av (r.map λ i=>fK .own ps (g i)))=false;rw[ih];show((false||av ((g i).map λ x=>D.int x.2))||false)=false;rw[bZ _ (bH λ d m=>by obtain⟨x,_,rfl⟩:=Lq.mp m;rfl)];rfl
section
def EE (hs:ps.Pairwise (· < ·)){S:List Nat}(G:PG.Gw (cc f) ps.length S [] T)(hS:∀ x∈S,x<ps.length)(hSn:S.Nodup)(hT:T.length<64)(h:τ[4]?=some (some (.lst .own (T.map (aU ps))))) :
  ∃ T',PG.Gw (cc f) ps.length S [] T'/\T'.Pairwise (λ a b=>a.headD 0<b.headD 0)/\jU 4 τ=.rt (.lst .own (T'.map (aU ps))):=by
 have hlt:∀ i (hi:i<T.length) x,x∈T[i]->x<ps.length:=λ i hi x hx=>vE G hS (l:=T[i]) (by simp) x hx;have gd:∀ i,i<T.length->(T.map (pp ps)).getD i []=pp ps (T.getD i []):=λ i hi=>by
  rw[LC,LC,LG,Lg hi];rfl
 have ge:∀ i (hi:i<T.length),T.getD i []=T[i]:=λ i hi=>by rw[LC,Lg hi];rfl
 have lt_of:∀ i j (hi:i<T.length) (hj:j<T.length),i≠j->∃ a b,(T.getD i []).headD 0=a/\(T.getD j []).headD 0=b/\a≠b/\(SR.u9 (T.map (pp ps)) i j=true↔a<b):=λ i j hi hj hij=>by
  obtain⟨a,r,b,q,ea,eb,ne⟩:=CT G hSn hi hj hij;refine⟨a,b,by rw[ge i hi,ea];rfl,by rw[ge j hj,eb];rfl,ne,?_⟩;show SR.lexLt ((T.map (pp ps)).getD i []) ((T.map (pp ps)).getD j [])=true↔_;rw[gd i hi,gd j hj,ge i hi,ge j hj,ea,eb];have ha:=hlt i hi a (by rw[ea];simp);have hb:=hlt j hj b (by rw[eb];simp);have np:aL ps a≠aL ps b:=λ z=>ne (ip hs ha hb z);show SR.lexLt (aL ps a::pp ps r) (aL ps b::pp ps q)=true↔_;unfold SR.lexLt;rw[Lw np,decide_eq_true_iff];refine⟨λ z=>?_,λ z=>gx hs z hb⟩;rcases M1 a b with y|y|y
  ·exact y
  ·exact absurd y ne
  ·have:=gx hs y ha;omega
 have o:SR.Ord (T.map (aU ps)).length (SR.u9 (T.map (pp ps))):=⟨λ i j k h1 h2=>lex_trans _ _ _ h1 h2,λ i j hi hj hij=>by
  rw[Lc]at hi hj;obtain⟨a,b,_,_,ne,w⟩:=lt_of i j hi hj hij;obtain⟨b',a',e1,e2,ne',w'⟩:=lt_of j i hj hi (My hij);obtain⟨a3,b3,e3,e4,_,_⟩:=lt_of i j hi hj hij;rcases M1 a b with z|z|z
  ·exact .inl (w.mpr z)
  ·exact absurd z ne
  ·refine .inr (w'.mpr ?_);subst e1 e2;rename_i h1 h2;omega⟩
 obtain⟨q,qp,qe,qw⟩:=wC D.bg o;rw[Lc]at qp;have qlt:∀ i∈q,i<T.length:=λ i m=>LN.mp (qp.mem_iff.mp m);refine⟨q.map λ i=>T.getD i [],EF G ?_,?_,?_⟩
 ·refine(qp.map _).trans ?_;have e3:(List.range T.length).map (λ i=>T.getD i [])=T:=by
   refine Nd (by simp) λ i h1 h2=>?_;simp;rw[Lg h2];rfl
  rw[e3]
 ·rw[MA];have nd:q.Nodup:=qp.nodup_iff.mpr Oh;refine(qw.and nd).imp_of_mem λ {i j} mi mj h=>?_;obtain⟨a,b,e1,e2,_,w⟩:=lt_of i j (qlt i mi) (qlt j mj) h.2;rw[e1,e2];exact w.mp h.1
 ·unfold jU;rw[h];simp only;have e:l7 (T.map (aU ps))=some (T.map (pp ps)):=by
   have:=kE (T.map (pp ps)) λ _=>.own;rw[LQ]at this;exact this
  rw[e];simp only;rw[Lr (by rw[Lc];exact hT),qe,LQ]
  congr 2
  refine LJ λ i m=>?_;show(T.map (aU ps)).getD i .bg=aU ps (T.getD i []);rw[LC,LG,Lg (qlt i m),ge i (qlt i m)];rfl
def vF (hs:ps.Pairwise (· < ·))(hp:ps.length<=24)(g:Gs ps.length l)(hq:∀ q,q∈qs↔q∈pp ps l)(hql:qs.length<64) :
  ∃ T,PG.Gw (cc f) ps.length l [] T/\T.Pairwise (λ a b=>a.headD 0<b.headD 0)/\bL [nF ps f,.lst .aq (qs.map .int)]=.ok (.lst .own (T.map (aU ps))):=by
 have hll:=g.len;have h1:∀ q∈qs,q∈ps:=λ q m=>by
  obtain⟨i,hi,rfl⟩:=Lq.mp ((hq q).mp m);exact yx (g.lt i hi)
 have h2:qs≠[]:=λ e=>by
  obtain⟨l0,lr,el⟩:=nY g.ne;have:=(hq (aL ps l0)).mpr (by rw[el];exact Le);rw[e]at this;cases this
 have hd:=Ae hs g hq;have G0:PG.Gw (cc f) ps.length l [l] []:=PG.Gw.init g.ne g.up;have ht:PG.todo [l]<=60:=by
  unfold PG.todo;simp only[MM,Ph,LZ,L6];omega
 obtain⟨T,a,b,G,e⟩:=CQ (f:=f) (qs:=qs) hs hp g.lt (by omega) 60 [l] [] none none G0 ht;have gl:=ug G;obtain⟨T',G',pw,er⟩:=EE (f:=f) hs G g.lt g.nd (by simp at gl;omega) (τ:=iD ps f qs [] T a b) rfl;refine⟨T',G',pw,?_⟩;refine cP (τ:=[some (nF ps f),some (.lst .aq (qs.map .int)),none,none,none,none,none]) rfl rfl ?_;unfold fG;have s1:aB eK (ae (af cz (aa 0) (eC (.int 0))) (ae (aa 1) ao)) [some (nF ps f),some (.lst .aq (qs.map .int)),none,none,none,none,none]=.ok (aU ps l):=
  jl (ds:=[.tup (ps.map .int),.lst .aq (qs.map .int)]) (aN (qH (j8 rfl)) (cL (bO rfl (ah _)))) (by
   show eK [.tup (aE (ps.map .int)),.lst .aq (aE (qs.map .int))]=_;rw[bf,bf,w6 h1 h2 hql,hd]) (kH (ah _))
 rw[aF (a6 (d:=.lst .own [aU ps l]) ((fE (cL s1)).trans rfl) (by
  show(false||av ([l].map (aU ps)))=false;rw[uf];rfl))]
 have sg:aB f7 (ae (aa 0) ao) [some (nF ps f),some (.lst .aq (qs.map .int)),some (.lst .own [aU ps l]),none,none,none,none]=.ok (ua .own ps ps.length λ i=>ent f i (mL ps.length)):=
  cQ (ds:=[nF ps f]) (cL (j8 rfl)) (by show f7 [(nF ps f).aq]=_;rw[bG _ (aZ _ _)];exact zY hs hp) (by show((nF ps f).aw||false)=false;rw[bx _ (aZ _ _)];rfl)
 show aC _ _ [some (nF ps f),some (.lst .aq (qs.map .int)),some (.lst .own [aU ps l]),none,none,none,none]=_;rw[aF (a6 sg (Hk _ _ _))];have fz:gn [3] (aV 4 (eA cA ao)) [some (nF ps f),some (.lst .aq (qs.map .int)),some (.lst .own [aU ps l]),some (ua .own ps ps.length λ i=>ent f i (mL ps.length)),none,none,none]=.nx (iD ps f qs [l] [] none none):=by
  unfold gn;show aV 4 (eA cA ao) [some (nF ps f),some (.lst .aq (qs.map .int)),some (.lst .own [aU ps l]),some (ua .own ps ps.length λ i=>ent f i (mL ps.length)).aq,none,none,none]=_;rw[G6];rfl
 show aC _ _ [some (nF ps f),some (.lst .aq (qs.map .int)),some (.lst .own [aU ps l]),some (ua .own ps ps.length λ i=>ent f i (mL ps.length)),none,none,none]=_;rw[aF fz];have w:jR bu a7 (iD ps f qs [l] [] none none)=.nx (iD ps f qs [] T a b):=by
  rw[qX (n:=61) (by rw[e];exact Fl.noConfusion),e]
 rw[aF w];exact er
end
abbrev LL (t:Tg)(Z:List (List Int)):List D:=Z.map λ ns=>.lst t (ns.map .int)
def iE (t:Tg)(Z:List (List Int)):aE (LL t Z)=LL .aq Z:=by
 rw[kj,LQ];refine LJ λ ns _=>?_;show D.lst .aq (aE (ns.map .int))=_;rw[bf]
def EH (Z:List (List Int)):bR (LL .aq Z)=LL .aq Z:=by
 rw[jM,LQ];refine LJ λ ns _=>?_;show D.lst .aq (bR (ns.map .int))=_;rw[dO _ (ah ns)]
def vG (Z:List (List Int)):bR (LL .own Z)=LL .bor Z:=by
 rw[jM,LQ];refine LJ λ ns _=>?_;show D.lst .bor (bR (ns.map .int))=_;rw[dO _ (ah ns)]
def rS (t:Tg)(ht:t=.aq\/t=.own):∀ Z:List (List Int),av (LL t Z)=false
 |[]=>rfl
 | ns::Z=>by
  show((D.lst t (ns.map .int)).aw||av (LL t Z))=false;rw[rS t ht Z];rcases ht with rfl|rfl
  ·show((false||av (ns.map D.int))||false)=false;rw[iR];rfl
  ·rw[cN (ah _)];rfl
def CW (ps:List Int)(T:List (List Nat)):T.map (aU ps)=LL .own (T.map (pp ps)):=by
 unfold LL;rw[LQ];rfl
def qd{Z:List (List Int)}(h:τ[i]?=some (some (.lst .aq (LL .aq Z)))):aa i τ=.ok (.lst .aq (LL .aq Z)):=by
 unfold aa;rw[h];show Res.ok (D.lst .aq (bR (LL .aq Z)))=_;rw[EH]
def CU{Z:List (List Int)}(h:τ[i]?=some (some (.lst .aq (LL .aq Z)))):eN (aa i) τ=.ok (false,LL .aq Z):=by
 unfold eN;rw[qd h,Res.aH];show Res.ok ((false||av (LL .aq Z)),LL .aq Z)=_;rw[rS _ (.inl rfl)];rfl
def qf {js:List Nat}{it:SD->Res (Bool×List D)}{tg:uq}{body:SF}{τ':SD}{ds:List D}(hf:ck js τ=τ')(h:it τ'=.ok (false,ds)):bU js it tg body τ=bF tg body (aE ds) τ':=by
 unfold bU;rw[hf,h]
def rT {α:Type}{it:SD->Res (Bool×List D)}{elt:SD->Res D}{cap:List (PySem.Str×Nat)}{fl:Bool}{l:List α}(h h' f:α->D)(hit:it τ=.ok (fl,l.map h))(hz:∀ a∈l,(h a).aq=h' a)
  (he:∀ a∈l,elt (some (h' a)::dR τ cap)=.ok (f a)/\(f a).aw=false/\(f a).aP=f a) (hl:l.length<=1000):bw it (gN 0) bW elt 1 cap τ=.ok (.lst .own (l.map f)):=by
 have hc:fM (gN 0) bW elt (aE (l.map h)) (List.replicate 1 none++dR τ cap)=.ok (l.map f):=by
  have ez:l.map (D.aq∘h)=l.map h':=LJ λ a m=>hz a m;rw[kj,LQ,ez];have:=nz (tt:=bW) (elt:=elt) (caps:=dR τ cap) h' (λ _=>true) f (l:=l) none (λ _ _=>rfl) λ a m _=>⟨(he a m).1,(he a m).2.1⟩;rw[OE.mpr λ _ _=>rfl]at this;exact this
 have hb:bA (l.map f)=l.map f:=by
  rw[mU,LQ];exact LJ λ a m=>(he a m).2.2
 unfold bw;rw[hit,Res.aH];simp only[hc,Lr (show(l.map f).length<=16777216 by rw[Lc];omega),hb,ite_self]
def Hl {t:Tg}{x:D}:cz (.lst t (xs++[x])) (.int (-1))=.ok x:=by
 have e:L2.qq (xs++[x]) (-1)=some x:=by
  have hl:(xs++[x]).length=xs.length+1:=by simp
  have hn:L2.Dw (xs.length+1) (-1)=some xs.length:=by
   unfold L2.Dw;simp;omega
  unfold L2.qq;rw[hl,hn];simp
 show(match L2.qq (xs++[x]) (-1) with|some d=>Res.ok d|none=>.bad)=_;rw[e]
def uh {b:SD->Res D}{t t':Tg}{ms:List Int}(h1:a τ=.ok (.lst t (ns.map .int)))(h2:b τ=.ok (.lst t' (ms.map .int))):eT (af (wx true) a b) τ=.ok (!decide (ns=ms)):=by
 refine k9 ?_;rw[bc h1 h2];show(match intsOf (ns.map D.int),intsOf (ms.map D.int) with|some ns,some ms=>Res.ok (D.bl (xor true (decide (ns=ms))))|_,_=>.bad)=_;rw[di,di];show Res.ok (D.bl (xor true (decide (ns=ms))))=_;rw[Bool.true_xor]
def oN{t:Tg}(h:a τ=.ok (.lst t (ns.map .int)))(hl:ns.length<64):eA aX (ae a ao) τ=.ok (.lst .own ((sortI ns).map .int)):=by
 rw[fE (cL h)];show(match intsOf (ns.map D.int) with|some ns=>if ns.length<64 then Res.ok (D.lst .own ((sortI ns).map D.int)) else .bad|none=>.bad)=_;rw[di];show(if ns.length<64 then Res.ok (D.lst .own ((sortI ns).map D.int)) else .bad)=_;rw[Lr hl]
def l5(h:ns.Pairwise (· < ·)):sortI ns=ns:=by
 have p:=sortI_perm ns;have s:=cS ns;exact List.Perm.eq_of_pairwise (λ a b _ _ h1 h2=>by omega) s (h.imp λ h=>by omega) p
section
def fm (ps:List Int)(f:Nat->Nat->Int)(T acc:List (List Nat))(a b:Option D):SD:=[some (nF ps f),some (.lst .aq (LL .aq (T.map (pp ps)))),some (.lst .own (LL .own (acc.map ni))),a,b]
def Fo {T acc:List (List Nat)}{a:Option D}:∀ (r:List Nat) (b:Option D),(∀ x∈r,x<ps.length)->∃ b',bF (gN 4) g_Lparts_b2 ((pp ps r).map .int) (fm ps f T acc a b)=.nx (fm ps f T acc a b')
 |[],b,_=>⟨b,rfl⟩
 | x::r,b,h=>by
  have w:eT (aB G_Lwhole (ae (aa 4) ao)) (fm ps f T acc a (some (.int (aL ps x))))=.ok true:=k9 (eV (ds:=[.int (aL ps x)]) (cL rfl) (CL _) rfl);have n:=vz (f:=aa 4) (g:=af cz (aa 0) (eC (.int 0))) (τ:=fm ps f T acc a (some (.int (aL ps x)))) (x:=aL ps x) (qs:=ps) rfl (qH (j8 rfl));rw[LO (yx (h x Le))]at n;have st:g_Lparts_b2 (fm ps f T acc a (some (.int (aL ps x))))=.nx (fm ps f T acc a (some (.int (aL ps x)))):=by
   unfold g_Lparts_b2;rw[kN ((pW (tX w) n).trans rfl)];rfl
  obtain⟨b',e⟩:=Fo (T:=T) (acc:=acc) (a:=a) r (some (.int (aL ps x))) λ y hy=>h y (Ld _ hy);exact⟨b',(fJ (τ':=fm ps f T acc a (some (.int (aL ps x)))) rfl st).trans e⟩
def EG (hs:ps.Pairwise (· < ·))(hp:ps.length<=24){acc:List (List Nat)}(g:Gs ps.length l)(ha:acc.length<=1000)(b:Option D) :
  ∃ b',g_Lparts_b3 (fm ps f T acc (some (.lst .aq ((pp ps l).map .int))) b)=.nx (fm ps f T (acc++[l]) (some (.lst .aq ((pp ps l).map .int))) b'):=by
 have v3:∀ acc b,aa 3 (fm ps f T acc (some (.lst .aq ((pp ps l).map .int))) b)=.ok (.lst .aq ((pp ps l).map .int)):=λ _ _=>bO rfl (ah _);have gl:=g.len;unfold g_Lparts_b3;have c1:mK (gk (eT (kK (c9 qg) (aa 3)))) (eT (af gJ (eA dP (ae (aa 3) ao)) (eC (.int 0)))) (fm ps f T acc (some (.lst .aq ((pp ps l).map .int))) b)=.ok false:=by
  have i1:eT (kK (c9 qg) (aa 3)) (fm ps f T acc (some (.lst .aq ((pp ps l).map .int))) b)=.ok true:=by
   refine k9 ?_;unfold kK;rw[v3];rfl
  have i2:=gu (tW (v3 acc b)) (g:=eC (.int 0)) (b:=0) rfl;rw[LD (by
   unfold pp;rw[Lc,Lc];intro z;exact g.ne (MZ.mp (by omega)))]at i2
  exact(pW (tX i1) i2).trans rfl
 rw[jz c1];obtain⟨b',e⟩:=Fo (ps:=ps) (f:=f) (T:=T) (acc:=acc) (a:=some (.lst .aq ((pp ps l).map .int))) l b g.lt;have hf:bU [3] (eN (aa 3)) (gN 4) g_Lparts_b2 (fm ps f T acc (some (.lst .aq ((pp ps l).map .int))) b)=.nx (fm ps f T acc (some (.lst .aq ((pp ps l).map .int))) b'):=by
  rw[gU (τ':=fm ps f T acc (some (.lst .aq ((pp ps l).map .int))) b) (by
   show [some (nF ps f),some (D.lst .aq (LL .aq (T.map (pp ps)))),some (D.lst .own (LL .own (acc.map ni))),some (D.lst .aq (aE ((pp ps l).map .int))),b]=_;rw[bf];rfl) (lF rfl (ah _)) (ah _)]
  exact e
 rw[aF hf];refine⟨b',?_⟩;have cp:dR (fm ps f T acc (some (.lst .aq ((pp ps l).map .int))) b') [("_law_net_here",0)]=[some (nF ps f)]:=by
  show [some (nF ps f).aq]=_;rw[bG _ (aZ _ _)]
 have s1:bw (eN (aa 3)) (gN 0) bW g_Lparts_e1 1 [("_law_net_here",0)] (fm ps f T acc (some (.lst .aq ((pp ps l).map .int))) b')=.ok (.lst .own ((ni l).map .int)):=by
  rw[rO (elt:=g_Lparts_e1) (cap:=[("_law_net_here",0)]) (l:=l) (λ i=>D.int (aL ps i)) (λ i:Nat=>D.int (i:Int)) (by rw[lF rfl (ah _),w4]) (λ _ _=>rfl) (λ i hi=>⟨by
   rw[cp];exact Hi hs (g.lt i hi) (eF rfl (aZ _ _)) rfl,rfl⟩) (by omega),j7]
 rw[aF (Cn (xs:=LL .own (acc.map ni)) rfl s1 (cN (ah _)) (by rw[Lc,Lc];omega))];have e2:(fm ps f T acc (some (.lst .aq ((pp ps l).map .int))) b').set 2 (some (.lst .own (LL .own (acc.map ni)++[.lst .own ((ni l).map .int)])))=fm ps f T (acc++[l]) (some (.lst .aq ((pp ps l).map .int))) b':=by
  unfold fm LL;rw[Lz,Lz];rfl
 rw[e2];have x1:af cz (aa 2) (kK iM (eC (.int 1))) (fm ps f T (acc++[l]) (some (.lst .aq ((pp ps l).map .int))) b')=.ok (.lst .bor ((ni l).map .int)):=by
  refine ig (x:=.lst .bor (LL .bor ((acc++[l]).map ni))) (y:=.int (-1)) ?_ rfl ?_
  ·show Res.ok (D.lst .bor (bR (LL .own ((acc++[l]).map ni))))=_;rw[vG]
  ·unfold LL;rw[Lz,Lz];exact Hl
 have t:=uh x1 (oN x1 (by rw[j6];omega));rw[l5 (ns:=ni l) (MA.mpr (g.up.imp λ h=>by omega)),LO rfl]at t;rw[kN t];rfl
def yE (hs:ps.Pairwise (· < ·))(hp:ps.length<=24){T:List (List Nat)}:∀ (r acc:List (List Nat)) (a b:Option D),(∀ l∈r,Gs ps.length l)->acc.length+r.length<=1000->∃ a' b',bF (gN 3) g_Lparts_b3 (LL .aq (r.map (pp ps))) (fm ps f T acc a b)=.nx (fm ps f T (acc++r) a' b')
 |[],acc,a,b,_,_=>⟨a,b,by rw[LZ];rfl⟩
 | l::r,acc,a,b,h,hl=>by
  rw[Ly]at hl;obtain⟨b',e⟩:=EG (f:=f) (T:=T) (acc:=acc) hs hp (h l Le) (by omega) b;obtain⟨a2,b2,e2⟩:=yE hs hp (T:=T) r (acc++[l]) (some (.lst .aq ((pp ps l).map .int))) b' (λ x m=>h x (Ld _ m)) (by rw[Lo,L6];omega);refine⟨a2,b2,?_⟩;have go:bF (gN 3) g_Lparts_b3 (LL .aq ((l::r).map (pp ps))) (fm ps f T acc a b)=bF (gN 3) g_Lparts_b3 (LL .aq (r.map (pp ps))) (fm ps f T (acc++[l]) (some (.lst .aq ((pp ps l).map .int))) b'):=fJ (τ':=fm ps f T acc (some (.lst .aq ((pp ps l).map .int))) b) rfl e;rw[go,e2,LM];rfl
def CV (hs:ps.Pairwise (· < ·))(hp:ps.length<=24)(hT:∀ l∈T,Gs ps.length l)(hl:T.length<=1000):G_Lparts [nF ps f,.lst .aq (LL .aq (T.map (pp ps)))]=.ok (.lst .own (LL .own (T.map ni))):=by
 refine cP (τ:=[some (nF ps f),some (.lst .aq (LL .aq (T.map (pp ps)))),none,none,none]) rfl rfl ?_;unfold g_Lparts;rw[aF (a6 (d:=.lst .own []) rfl rfl)];show aC _ _ (fm ps f T [] none none)=_;obtain⟨a,b,e⟩:=yE (f:=f) hs hp (T:=T) T [] none none hT (by simpa using hl);have hf:bU [1] (eN (aa 1)) (gN 3) g_Lparts_b3 (fm ps f T [] none none)=.nx (fm ps f T ([]++T) a b):=by
  rw[qf (τ':=fm ps f T [] none none) (by
   show [some (nF ps f),some (D.lst .aq (aE (LL .aq (T.map (pp ps))))),some (D.lst .own []),none,none]=_;rw[iE];rfl) (CU rfl),iE]
  exact e
 rw[aF hf];rfl
end
def EJ {ms:List Int}(p:ns.Perm ms)(h:ms.Pairwise (· < ·)):sortI ns=ms:=
 List.Perm.eq_of_pairwise (λ a b _ _ h1 h2=>by omega) (cS ns) (h.imp λ h=>by omega) ((sortI_perm ns).trans p)
def yG {t:Tg}(ht:t=.aq\/t=.own):(D.lst t ((ni l).map .int)).aw=false:=by
 rcases ht with rfl|rfl
 ·show(false||av ((ni l).map D.int))=false;rw[iR];rfl
 ·exact cN (ah _)
def EK{g:SD->Res D}{t:Tg}{ys:List Int}(h:τ[i]?=some (some (.lst .own xs)))(hf:g τ=.ok (.lst t (ys.map .int)))(hl:xs.length+ys.length<=16777216):vd i g τ=.nx (τ.set i (some (.lst .own (xs++ys.map .int)))):=by
 have e:c5 τ i=some xs:=by unfold c5;rw[h]
 unfold vd;rw[e];simp only;rw[hf,fV];unfold BN;simp only;rw[Lr ⟨p8 ys,by rw[Lc];exact hl⟩]
section
def cU (ps:List Int)(f:Nat->Nat->Int)(l:List Nat)(T:List (List Nat))(a b c d e g h:Option D):SD:=[some (nF ps f),some (.lst .aq ((ni l).map .int)),some (.lst .aq (LL .aq (T.map (pp ps)))),a,b,c,d,e,g,h]
abbrev qh (T:List (List Nat)):D:=.lst .aq (LL .aq (T.map ni))
abbrev kc (l:List Nat):D:=.lst .own ((ni l).map .int)
def yF {l:List Nat}{T:List (List Nat)}{a d e g h:Option D}:∀ (r done:List (List Nat)) (c:Option D),(done++r).flatten.length<=1000 ->
  ∃ c',bF (gN 5) g_Lright_b6 (LL .aq (r.map ni)) (cU ps f l T a (some (kc done.flatten)) c d e g h)=.nx (cU ps f l T a (some (kc (done++r).flatten)) c' d e g h)
 |[],done,c,_=>⟨c,by rw[LZ];rfl⟩
 | m::r,done,c,hl=>by
  have hl':done.flatten.length+m.length<=1000:=by
   rw[Mx,Lo,MM,Lo]at hl;omega
  have st:g_Lright_b6 (cU ps f l T a (some (kc done.flatten)) (some (.lst .aq ((ni m).map .int))) d e g h)=.nx (cU ps f l T a (some (kc (done++[m]).flatten)) (some (.lst .aq ((ni m).map .int))) d e g h):=by
   unfold g_Lright_b6;rw[EK (xs:=(ni done.flatten).map .int) (ys:=ni m) rfl (bO rfl (ah _)) (by rw[Lc,j6,j6];omega),<-Lz,<-nB,show done.flatten++m=(done++[m]).flatten by rw[Mx];simp];rfl
  obtain⟨c',q⟩:=yF (l:=l) (T:=T) (a:=a) (d:=d) (e:=e) (g:=g) (h:=h) r (done++[m]) (some (.lst .aq ((ni m).map .int))) (by rw[LM];exact hl);refine⟨c',?_⟩;have go:bF (gN 5) g_Lright_b6 (LL .aq ((m::r).map ni)) (cU ps f l T a (some (kc done.flatten)) c d e g h)=bF (gN 5) g_Lright_b6 (LL .aq (r.map ni)) (cU ps f l T a (some (kc (done++[m]).flatten)) (some (.lst .aq ((ni m).map .int))) d e g h):=fJ (τ':=cU ps f l T a (some (kc done.flatten)) (some (.lst .aq ((ni m).map .int))) d e g h) rfl st;rw[go,q,LM];rfl
def um(h:l≠[]):∃ r,l=l.headD 0::r:=by
 obtain⟨a,r,rfl⟩:=nY h;exact⟨r,rfl⟩
def CY{t:Tg}(hl:l≠[])(h:F τ=.ok (.lst t ((ni l).map .int))):af cz F (eC (.int 0)) τ=.ok (.int (l.headD 0:Nat)):=by
 obtain⟨r,e⟩:=um hl;refine ig h (y:=.int 0) rfl (pX (j:=0) rfl ?_);rw[e];rfl
def Jk (hp:ps.length<=24){m o:List Nat}(g:Gs ps.length l)(hm:m≠[])(ho:o≠[])(lt:o.headD 0<m.headD 0)(hb:m.headD 0<ps.length)(lv:∀ C,PG.dZ (cc f) ps.length C->o.headD 0∈C->m.headD 0∈C->∃ z∈C,z∉l){a b d e:Option D}(h9:Option D) :
  ∃ h',g_Lright_b3 (cU ps f l T a b (some (.lst .aq ((ni m).map .int))) d e (some (.lst .aq ((ni o).map .int))) h9)=.nx (cU ps f l T a b (some (.lst .aq ((ni m).map .int))) d e (some (.lst .aq ((ni o).map .int))) h'):=by
 have x8:af cz (aa 8) (eC (.int 0)) (cU ps f l T a b (some (.lst .aq ((ni m).map .int))) d e (some (.lst .aq ((ni o).map .int))) h9)=.ok (.int (o.headD 0:Nat)):=CY ho (bO rfl (ah _));have x5:af cz (aa 5) (eC (.int 0)) (cU ps f l T a b (some (.lst .aq ((ni m).map .int))) d e (some (.lst .aq ((ni o).map .int))) h9)=.ok (.int (m.headD 0:Nat)):=CY hm (bO rfl (ah _));have g2:Gs ps.length [o.headD 0,m.headD 0]:=⟨by simp,by simpa using lt,λ x hx=>by
  rcases Ln.mp hx with z|z
  ·omega
  ·rw[L4.mp z];exact hb⟩
 have sp:eA aX (ae (eA cA (ae (af cz (aa 8) (eC (.int 0))) (ae (af cz (aa 5) (eC (.int 0))) ao))) ao) (cU ps f l T a b (some (.lst .aq ((ni m).map .int))) d e (some (.lst .aq ((ni o).map .int))) h9)=.ok (kc [o.headD 0,m.headD 0]):=by
  rw[oN (t:=.own) (ns:=ni [o.headD 0,m.headD 0]) (by rw[fE (aN x8 (cL x5))];rfl) (by rw[j6];simp),l5 (ns:=ni [o.headD 0,m.headD 0]) (MA.mpr (g2.up.imp λ h=>by omega))]
 obtain⟨t,l',ht,gl',sub,cl,eCl⟩:=qb (f:=f) hp g2;have call:aB G_Lclosed (ae (aa 0) (ae (eA aX (ae (eA cA (ae (af cz (aa 8) (eC (.int 0))) (ae (af cz (aa 5) (eC (.int 0))) ao))) ao)) ao)) (cU ps f l T a b (some (.lst .aq ((ni m).map .int))) d e (some (.lst .aq ((ni o).map .int))) h9)=.ok (.lst t ((ni l').map .int)):=by
  refine cQ (ds:=[nF ps f,kc [o.headD 0,m.headD 0]]) (aN (j8 rfl) (cL sp)) ?_ ?_
  ·show G_Lclosed [(nF ps f).aq,.lst .aq (aE ((ni [o.headD 0,m.headD 0]).map .int))]=_;rw[bG _ (aZ _ _),bf];exact eCl
  ·show((nF ps f).aw||((kc [o.headD 0,m.headD 0]).aw||false))=false;rw[bx _ (aZ _ _),cN (ah _)];rfl
 unfold g_Lright_b3;rw[aF (a6 call (yG ht))];refine⟨some (.lst t ((ni l').map .int)),?_⟩;show dI _ _ _ (cU ps f l T a b (some (.lst .aq ((ni m).map .int))) d e (some (.lst .aq ((ni o).map .int))) (some (.lst t ((ni l').map .int))))=_;obtain⟨fl,hi⟩:∃ fl,eN (aa 9) (cU ps f l T a b (some (.lst .aq ((ni m).map .int))) d e (some (.lst .aq ((ni o).map .int))) (some (.lst t ((ni l').map .int))))=.ok (fl,(ni l').map .int):=by
  rcases ht with rfl|rfl
  ·exact⟨_,lF rfl (ah _)⟩
  ·exact⟨_,G8 rfl (ah _)⟩
 have hcap:dR (cU ps f l T a b (some (.lst .aq ((ni m).map .int))) d e (some (.lst .aq ((ni o).map .int))) (some (.lst t ((ni l').map .int)))) [("_law_inside_here",1)]=[some (.lst .aq ((ni l).map .int))]:=by
  show [some (D.lst .aq (aE ((ni l).map .int)))]=_;rw[bf]
 have hc:=iX (tt:=g_Lright_c1) (elt:=g_Lright_e2) (cap:=[("_law_inside_here",1)]) (l:=l') (λ i:Nat=>D.int (i:Int)) (λ p=>!decide (p∈l)) (λ i:Nat=>D.int (i:Int)) (hi.trans (by rw[j7])) (λ _ _=>rfl)
  (λ p hp=>by
   rw[hcap];refine(nj (x:=(p:Int)) (qs:=ni l) rfl (bO rfl (ah _))).trans ?_;rw[Nf.mpr CH]) (λ _ _ _=>⟨rfl,rfl⟩) (by have:=gl'.len;omega)
 have c:=gu (tW hc) (g:=eC (.int 0)) (b:=0) rfl;obtain⟨z,zC,zn⟩:=lv l' cl (sub _ (by simp)) (sub _ (by simp));have pos:0<((l'.filter λ p=>!decide (p∈l)).map λ i:Nat=>D.int (i:Int)).length:=by
  rw[Lc];exact List.length_pos_of_mem (M3.mpr ⟨zC,by simpa using zn⟩)
 rw[LD (by omega)]at c;rw[kN c];rfl
def CZ (hp:ps.length<=24){l m:List Nat}{T:List (List Nat)}(g:Gs ps.length l)(hm:m≠[])(hb:m.headD 0<ps.length){a b d e:Option D}:∀ (r:List (List Nat)) (g8 h9:Option D),(∀ o∈r,o≠[]/\o.headD 0<m.headD 0/\∀ C,PG.dZ (cc f) ps.length C->o.headD 0∈C->m.headD 0∈C->∃ z∈C,z∉l) ->
  ∃ g' h',bF (gN 8) g_Lright_b3 (LL .aq (r.map ni)) (cU ps f l T a b (some (.lst .aq ((ni m).map .int))) d e g8 h9)=.nx (cU ps f l T a b (some (.lst .aq ((ni m).map .int))) d e g' h')
 |[],g8,h9,_=>⟨g8,h9,rfl⟩
 | o::r,g8,h9,h=>by
  obtain⟨q1,q2,q3⟩:=h o Le;obtain⟨h',st⟩:=Jk (T:=T) (a:=a) (b:=b) (d:=d) (e:=e) hp g hm q1 q2 hb q3 h9;obtain⟨g2,h2,e2⟩:=CZ (T:=T) (a:=a) (b:=b) (d:=d) (e:=e) hp g hm hb r (some (.lst .aq ((ni o).map .int))) h' λ x mx=>h x (Ld _ mx);exact⟨g2,h2,(fJ (τ':=cU ps f l T a b (some (.lst .aq ((ni m).map .int))) d e (some (.lst .aq ((ni o).map .int))) h9) rfl st).trans e2⟩
def EI (hp:ps.length<=24)(g:Gs ps.length l)(G:PG.Gw (cc f) ps.length l [] T)(pw:T.Pairwise λ a b=>a.headD 0<b.headD 0)(hj:j<T.length){b d:Option D}(g8 h9:Option D) :
  ∃ g' h',g_Lright_b4 (cU ps f l T (some (qh T)) b (some (.lst .aq ((ni T[j]).map .int))) d (some (.int j)) g8 h9)=.nx (cU ps f l T (some (qh T)) b (some (.lst .aq ((ni T[j]).map .int))) d (some (.int j)) g' h'):=by
 have hm:=G.ne T[j] (by simp);have lt:∀ x∈T[j],x<ps.length:=vE G g.lt (by simp);obtain⟨l0,lr,e0⟩:=nY hm;have tn:=vB (f:=f) hp (l0:=l0) (lr:=lr) (by rw[<-e0];exact lt) (by rw[<-e0];exact G.cl _ (by simp));rw[<-e0]at tn;have ct:eT (af (gm true) (aB G_Lteller (ae (aa 0) (ae (aa 5) ao))) (eC .bg)) (cU ps f l T (some (qh T)) b (some (.lst .aq ((ni T[j]).map .int))) d (some (.int j)) g8 h9)=.ok false:=by
  refine k9 ?_;rw[bc (ud (i:=5) (t:=.aq) (.inl rfl) rfl rfl tn rfl) (y:=.bg) rfl];rfl
 unfold g_Lright_b4;rw[jz ct];have hb:T[j].headD 0<ps.length:=by
  obtain⟨r,e⟩:=um hm;exact lt _ (by rw[e];exact Le)
 have hd:∀ i (hi:i<T.length),T[i].headD 0∈T[i]:=λ i hi=>by
  obtain⟨r,e⟩:=um (G.ne T[i] (by simp));exact e▸Le
 obtain⟨g',h',e⟩:=CZ (f:=f) (T:=T) (a:=some (qh T)) (b:=b) (d:=d) (e:=some (.int j)) hp g hm hb (T.take j) g8 h9 λ o mo=>by
  obtain⟨i,hi,rfl⟩:=M6 mo;rw[MQ]at hi;rw[List.getElem_take];refine⟨G.ne _ (by simp),Mt.mp pw i j (by omega) hj (by omega),λ C hC h1 h2=>?_⟩;exact G.Hj g.nd hC (by omega:i≠j) (by omega) hj (hd i (by omega)) (hd j hj) h1 h2
 refine⟨g',h',?_⟩;have hc:eN (cZ (aa 3) lj (eP (aa 7))) (cU ps f l T (some (qh T)) b (some (.lst .aq ((ni T[j]).map .int))) d (some (.int j)) g8 h9)=.ok (false,LL .aq ((T.take j).map ni)):=by
  unfold eN cZ;rw[qd rfl,Res.aH];show(Res.ok (D.lst .own (DL.cut (LL .aq (T.map ni)) none (some ((j:Nat):Int))))).bind br=_;rw[Bt,Res.aH];show Res.ok ((false||av ((LL .aq (T.map ni)).take j)),(LL .aq (T.map ni)).take j)=_;have e3:(LL .aq (T.map ni)).take j=LL .aq ((T.take j).map ni):=by
   unfold LL;rw[O8,O8]
  rw[e3,rS _ (.inl rfl)];rfl
 rw[qf (τ':=cU ps f l T (some (qh T)) b (some (.lst .aq ((ni T[j]).map .int))) d (some (.int j)) g8 h9) (by
  show [some (nF ps f),some (D.lst .aq ((ni l).map .int)),some (D.lst .aq (LL .aq (T.map (pp ps)))),some (D.lst .aq (aE (LL .aq (T.map ni)))),b,some (.lst .aq ((ni T[j]).map .int)),d,some (.int j),g8,h9]=_;rw[iE];rfl) hc,iE]
 exact e
def C1 (hs:ps.Pairwise (· < ·))(hp:ps.length<=24)(g:Gs ps.length l)(G:PG.Gw (cc f) ps.length l [] T)(pw:T.Pairwise λ a b=>a.headD 0<b.headD 0) :
  G_Lright [nF ps f,.lst .aq ((ni l).map .int),.lst .aq (LL .aq (T.map (pp ps)))]=.ok (.bl true):=by
 have gl:=g.len;have tl:=ug G;simp only[Mn,MW]at tl;have gTs:∀ m∈T,Gs ps.length m:=λ m hm=>⟨G.ne m (by simpa using hm),G.up m (by simpa using hm),vE G g.lt (by simpa using hm)⟩;have fp:T.flatten.Perm l:=by simpa using G.perm
 refine cP (τ:=cU ps f l T none none none none none none none) rfl rfl ?_;unfold g_Lright;have c1:gk (eT (kK (c9 qg) (aa 2))) (cU ps f l T none none none none none none none)=.ok false:=by
  refine(tX (b:=true) (k9 ?_)).trans rfl;unfold kK;rw[qd rfl];rfl
 rw[jz c1];have s3:aB G_Lparts (ae (aa 0) (ae (aa 2) ao)) (cU ps f l T none none none none none none none)=.ok (.lst .own (LL .own (T.map ni))):=by
  refine cQ (ds:=[nF ps f,.lst .aq (LL .aq (T.map (pp ps)))]) (aN (j8 rfl) (cL (qd rfl))) ?_ ?_
  ·show G_Lparts [(nF ps f).aq,.lst .aq (aE (LL .aq (T.map (pp ps))))]=_;rw[bG _ (aZ _ _),iE];exact CV hs hp gTs (by omega)
  ·show((nF ps f).aw||((false||av (LL .aq (T.map (pp ps))))||false))=false;rw[bx _ (aZ _ _),rS _ (.inl rfl)];rfl
 rw[aF (a6 s3 (by
  show(false||av (LL .own (T.map ni)))=false;rw[rS _ (.inr rfl)];rfl))]
 have fz:gn [3] (aV 4 (eA cA ao)) (cU ps f l T (some (.lst .own (LL .own (T.map ni)))) none none none none none none)=.nx (cU ps f l T (some (qh T)) (some (kc [])) none none none none none):=by
  unfold gn;show aV 4 (eA cA ao) [some (nF ps f),some (D.lst .aq ((ni l).map .int)),some (D.lst .aq (LL .aq (T.map (pp ps)))),some (D.lst .aq (aE (LL .own (T.map ni)))),none,none,none,none,none,none]=_;rw[iE];rfl
 show aC _ _ (cU ps f l T (some (.lst .own (LL .own (T.map ni)))) none none none none none none)=_;rw[aF fz];have fr3:∀ b c d e g h,ck [3] (cU ps f l T (some (qh T)) b c d e g h)=cU ps f l T (some (qh T)) b c d e g h:=λ b c d e g h=>by
  show [some (nF ps f),some (D.lst .aq ((ni l).map .int)),some (D.lst .aq (LL .aq (T.map (pp ps)))),some (D.lst .aq (aE (LL .aq (T.map ni)))),b,c,d,e,g,h]=_;rw[iE];rfl
 obtain⟨c',er⟩:=yF (ps:=ps) (f:=f) (l:=l) (T:=T) (a:=some (qh T)) (d:=none) (e:=none) (g:=none) (h:=none) T [] none (by rw[List.nil_append,fp.length_eq];omega);have f1:bU [3] (eN (aa 3)) (gN 5) g_Lright_b6 (cU ps f l T (some (qh T)) (some (kc [])) none none none none none)=.nx (cU ps f l T (some (qh T)) (some (kc T.flatten)) c' none none none none):=by
  rw[qf (fr3 _ _ _ _ _ _) (CU rfl),iE];exact er
 rw[aF f1];have s6:bw (eN (aa 3)) (gN 0) bW g_Lright_e5 1 [] (cU ps f l T (some (qh T)) (some (kc T.flatten)) c' none none none none)=.ok (kc (T.map λ m=>m.headD 0)):=by
  have e:=rT (elt:=g_Lright_e5) (cap:=[]) (l:=T) (τ:=cU ps f l T (some (qh T)) (some (kc T.flatten)) c' none none none none) (it:=eN (aa 3)) (fl:=false) (λ m=>D.lst .aq ((ni m).map .int)) (λ m=>D.lst .aq ((ni m).map .int)) (λ m=>D.int (m.headD 0:Nat)) (by
   rw[CU rfl];unfold LL;rw[LQ];rfl) (λ m _=>by
   show D.lst .aq (aE ((ni m).map .int))=_;rw[bf]) (λ m hm=>⟨CY (gTs m hm).ne (bO rfl (ah _)),rfl,rfl⟩) (by omega)
  rw[e];unfold kc ni;rw[LQ,LQ];rfl
 rw[aF (a6 s6 (cN (ah _)))];show aC _ _ (cU ps f l T (some (qh T)) (some (kc T.flatten)) c' (some (kc (T.map λ m=>m.headD 0))) none none none)=_;have v4:aa 4 (cU ps f l T (some (qh T)) (some (kc T.flatten)) c' (some (kc (T.map λ m=>m.headD 0))) none none none)=.ok (.lst .bor ((ni T.flatten).map .int)):=fF rfl (ah _);have v6:aa 6 (cU ps f l T (some (qh T)) (some (kc T.flatten)) c' (some (kc (T.map λ m=>m.headD 0))) none none none)=.ok (.lst .bor ((ni (T.map λ m=>m.headD 0)).map .int)):=fF rfl (ah _);have v1:aa 1 (cU ps f l T (some (qh T)) (some (kc T.flatten)) c' (some (kc (T.map λ m=>m.headD 0))) none none none)=.ok (.lst .aq ((ni l).map .int)):=bO rfl (ah _);have q1:=uh (oN v4 (by rw[j6,fp.length_eq];omega)) v1;rw[EJ (ns:=ni T.flatten) (ms:=ni l) (fp.map _) (MA.mpr (g.up.imp λ h=>by omega)),LO rfl]at q1;have q2:=uh v6 (oN v6 (by rw[j6,Lc];omega));rw[l5 (ns:=ni (T.map λ m=>m.headD 0)) (MA.mpr (MA.mpr (pw.imp λ h=>by omega))),LO rfl]at q2;rw[jz ((pW q1 q2).trans rfl)];obtain⟨t,et,b5,b7,b8,b9,ht⟩:=iS (tg:=gT 2 (aM 7 (aM 5 cJ))) (body:=g_Lright_b4) (λ i t=>∃ b5 b7 b8 b9,t=cU ps f l T (some (qh T)) (some (kc T.flatten)) b5 (some (kc (T.map λ m=>m.headD 0))) b7 b8 b9) (ds:=cI (LL .aq (T.map ni))) 0 (cU ps f l T (some (qh T)) (some (kc T.flatten)) c' (some (kc (T.map λ m=>m.headD 0))) none none none) ⟨c',none,none,none,rfl⟩ (λ j d τ hd hP=>by
  obtain⟨b5,b7,b8,b9,rfl⟩:=hP;have hj:j<T.length:=by
   have:=(Lh.mp hd).1;simpa[cI] using this
  have ex:d=.tup [.int j,.lst .aq ((ni T[j]).map .int)]:=by
   simp[cI,hj]at hd;exact hd.symm
  subst ex;obtain⟨g',h',e⟩:=EI (f:=f) (b:=some (kc T.flatten)) (d:=some (kc (T.map λ m=>m.headD 0))) hp g G pw hj b8 b9;exact⟨_,_,rfl,.inl e,_,_,_,_,rfl⟩)
 have ze:cY (ae (aa 3) ao) (cU ps f l T (some (qh T)) (some (kc T.flatten)) c' (some (kc (T.map λ m=>m.headD 0))) none none none)=.ok (false,cI (LL .aq (T.map ni))):=by
  unfold cY;rw[cL (qd rfl),Res.aH];show(Res.ok ((false||av (LL .aq (T.map ni))),LL .aq (T.map ni))).map _=_;rw[rS _ (.inl rfl)];rfl
 have f2:bU [3] (cY (ae (aa 3) ao)) (gT 2 (aM 7 (aM 5 cJ))) g_Lright_b4 (cU ps f l T (some (qh T)) (some (kc T.flatten)) c' (some (kc (T.map λ m=>m.headD 0))) none none none)=.nx t:=by
  rw[qf (fr3 _ _ _ _ _ _) ze,ku,iE];exact et
 rw[aF f2];rfl
end
def C2 {b:SD->Res D}{x y:Int}(h1:a τ=.ok (.int x))(h2:b τ=.ok (.int y))(h:jn x y):af pe a b τ=.ok (.int (x*y)):=by
 rw[bc h1 h2];show(if jn x y then Res.ok (D.int (x*y)) else .bad)=_;rw[Lr h]
section
def vI(h:τ[1]?=some (some (nF ps f))):aa 1 τ=.ok (nF ps f):=eF h (aZ _ _)
def vH (ps:List Int):∀ T:List (List Nat),(∀ l∈T,l.length<1000)->rA (T.map (aU ps))=true
 |[],_=>rfl
 | l::T,h=>by
  have h1:=h l Le;show((intsOf ((pp ps l).map D.int)).isSome&&(decide (((pp ps l).map D.int).length<16777000)&&rA (T.map (aU ps))))=true;rw[di,vH ps T λ x m=>h x (Ld _ m),LO (by unfold pp;rw[Lc,Lc];omega)];rfl
def kO (ns cs ps:List Int)(f:Nat->Nat->Int)(a b c d e g h i:Option D):SD:=[some (S ns),some (nF ps f),some (.lst .aq (cs.map .int)),a,b,c,d,e,g,h,i,none]
def EL (hs:ps.Pairwise (· < ·))(hp:ps.length<=24)(h1:1<=ps.length)(ns cs:List Int)(x:Int)(k:Nat)(hk:k<=100)(a b c d e i:Option D) :
  ∃ a' b' c' d' i',iV (kO ns cs ps f (some (.int k)) (some (.int x)) a b c d e i)=.nx (kO ns cs ps f (some (.int k)) (some (.int x)) a' b' c' d' none i'):=by
 obtain⟨N,hN⟩:∃ N:Int,N=(x*48271+k*16807)%2147483647:=⟨_,rfl⟩;have N0:0<=N:=by
  rw[hN];exact MB _ (by decide)
 have s5:af bB (af bq (af pe (aa 4) (eC (.int 48271))) (af pe (aa 3) (eC (.int 16807)))) (eC (.int 2147483647)) (kO ns cs ps f (some (.int k)) (some (.int x)) a b c d e i)=.ok (.int N):=by
  rw[fR (j5 (C2 (x:=x) (y:=48271) rfl rfl (mul_r (by decide))) (C2 (x:=(k:Int)) (y:=16807) rfl rfl (mul_r (by decide)))) (by decide),hN]
 obtain⟨t,l,ht,g,eI⟩:=Ac (f:=f) hp h1 N0;have s6:aB G_Linside (ae (aa 1) (ae (aa 5) ao)) (kO ns cs ps f (some (.int k)) (some (.int x)) (some (.int N)) b c d e i)=.ok (.lst t ((ni l).map .int)):=
  cQ (ds:=[nF ps f,.int N]) (aN (vI rfl) (cL rfl)) (by show G_Linside [(nF ps f).aq,.int N]=_;rw[bG _ (aZ _ _)];exact eI) (by show((nF ps f).aw||_)=false;rw[bx _ (aZ _ _)];rfl)
 obtain⟨qs,q1,q2,eH⟩:=Ad (f:=f) hp g (N:=N/7) (Int.ediv_nonneg N0 (by decide));have glen:=g.len;have s7:aB G_Lhanded (ae (aa 1) (ae (aa 6) (ae (af bV (aa 5) (eC (.int 7))) ao))) (kO ns cs ps f (some (.int k)) (some (.int x)) (some (.int N)) (some (.lst t ((ni l).map .int))) c d e i)=.ok (.lst .own (qs.map .int)):=by
  obtain⟨t',e'⟩:=uc (i:=6) (τ:=kO ns cs ps f (some (.int k)) (some (.int x)) (some (.int N)) (some (.lst t ((ni l).map .int))) c d e i) ht rfl;refine jl (ds:=[nF ps f,.lst t' ((ni l).map .int),.int (N/7)]) (aN (vI rfl) (aN e' (cL (gH rfl ⟨by decide,by decide⟩)))) ?_ (kH (ah _));show G_Lhanded [(nF ps f).aq,.lst .aq (aE ((ni l).map .int)),.int (N/7)]=_;rw[bG _ (aZ _ _),bf];exact eH
 obtain⟨T,G,pw,eG⟩:=vF (f:=f) hs hp g q1 (by omega);have tl:=ug G;simp only[Mn,MW]at tl;have eR:=C1 (f:=f) hs hp g G pw;have Tl:∀ m∈T,m.length<1000:=λ m hm=>by
  have:=PG.ik ((G.up m (by simpa using hm)).imp λ h=>LH h) (vE G g.lt (l:=m) (by simpa using hm));omega
 refine⟨some (.int N),some (.lst t ((ni l).map .int)),some (.lst .own (qs.map .int)),some (.lst .own (qs.map .int)),some (.lst .own (T.map (aU ps))),?_⟩;unfold iV;rw[aF (a6 s5 rfl)];show aC _ _ (kO ns cs ps f (some (.int k)) (some (.int x)) (some (.int N)) b c d e i)=_;rw[aF (a6 s6 (yG ht))];show aC _ _ (kO ns cs ps f (some (.int k)) (some (.int x)) (some (.int N)) (some (.lst t ((ni l).map .int))) c d e i)=_;rw[aF (a6 s7 (cN (ah _)))];show aC _ _ (kO ns cs ps f (some (.int k)) (some (.int x)) (some (.int N)) (some (.lst t ((ni l).map .int))) (some (.lst .own (qs.map .int))) d e i)=_;have s8:eA d8 (ae (aa 7) ao) (kO ns cs ps f (some (.int k)) (some (.int x)) (some (.int N)) (some (.lst t ((ni l).map .int))) (some (.lst .own (qs.map .int))) d e i)=.ok (.lst .own (qs.map .int)):=by
  rw[fE (cL (fF (xs:=qs.map .int) rfl (ah _)))];rfl
 rw[aF (a6 s8 (cN (ah _)))];obtain⟨τ,eτ⟩:∃ τ:Option D->Option D->SD,τ=λ h i=>kO ns cs ps f (some (.int k)) (some (.int x)) (some (.int N)) (some (.lst t ((ni l).map .int))) (some (.lst .own (qs.map .int))) (some (.lst .own (qs.map .int))) h i:=⟨_,rfl⟩;have w0:(kO ns cs ps f (some (.int k)) (some (.int x)) (some (.int N)) (some (.lst t ((ni l).map .int))) (some (.lst .own (qs.map .int))) d e i).set 8 (some (.lst .own (qs.map .int)))=τ e i:=by rw[eτ];rfl
 rw[w0];have v8:∀ h i,aa 8 (τ h i)=.ok (.lst .bor (qs.map .int)):=λ h i=>fF (by rw[eτ];rfl) (ah _);have v7:∀ h i,aa 7 (τ h i)=.ok (.lst .bor (qs.map .int)):=λ h i=>fF (by rw[eτ];rfl) (ah _);have g1:∀ h i,(τ h i)[1]?=some (some (nF ps f)):=λ h i=>by rw[eτ];rfl
 have g6:∀ h i,(τ h i)[6]?=some (some (.lst t ((ni l).map .int))):=λ h i=>by rw[eτ];rfl
 have g9:∀ h i,(τ h i)[9]?=some h:=λ h i=>by rw[eτ];rfl
 have g10:∀ h i,(τ h i)[10]?=some i:=λ h i=>by rw[eτ];rfl
 have g11:∀ h i,(τ h i)[11]?=some none:=λ h i=>by rw[eτ];rfl
 have w9:∀ h h' i,(τ h i).set 9 h'=τ h' i:=λ h h' i=>by rw[eτ];rfl
 have w10:∀ h i i',(τ h i).set 10 i'=τ h i':=λ h i i'=>by rw[eτ];rfl
 have cg:∀ h i,aB bL (ae (aa 1) (ae (aa 8) ao)) (τ h i)=.ok (.lst .own (T.map (aU ps))):=λ h i=>by
  refine jl (ds:=[nF ps f,.lst .bor (qs.map .int)]) (aN (vI (g1 h i)) (cL (v8 h i))) ?_ (CS ps T);show bL [(nF ps f).aq,.lst .aq (aE (qs.map .int))]=_;rw[bG _ (aZ _ _),bf];exact eG
 have nbT:(D.lst .own (T.map (aU ps))).aw=false:=by
  show(false||av (T.map (aU ps)))=false;rw[uf];rfl
 rw[aF (a6 (cg e i) nbT),w9];have vw:∀ {j:Nat}{τ':SD},τ'[j]?=some (some (.lst .own (T.map (aU ps))))->aa j τ'=.ok (.lst .bor (LL .bor (T.map (pp ps)))):=λ {j τ'} hj=>by
  unfold aa;rw[hj];show Res.ok (D.lst .bor (bR (T.map (aU ps))))=_;rw[CW,vG]
 have cr:eT (aB G_Lright (ae (aa 1) (ae (aa 6) (ae (aa 9) ao)))) (τ (some (.lst .own (T.map (aU ps)))) i)=.ok true:=by
  obtain⟨t',e'⟩:=uc ht (g6 (some (.lst .own (T.map (aU ps)))) i);refine k9 (eV (ds:=[nF ps f,.lst t' ((ni l).map .int),.lst .bor (LL .bor (T.map (pp ps)))]) (aN (vI (g1 _ _)) (aN e' (cL (vw (g9 _ _))))) ?_ rfl);show G_Lright [(nF ps f).aq,.lst .aq (aE ((ni l).map .int)),.lst .aq (aE (LL .bor (T.map (pp ps))))]=_;rw[bG _ (aZ _ _),bf,iE];exact eR
 have ce:=uh (v8 (some (.lst .own (T.map (aU ps)))) i) (v7 _ _);rw[LO rfl]at ce;rw[jz ((pW (tX cr) ce).trans rfl)];have s10:bw (eN (aa 9)) (gN 0) bW mD 1 [] (τ (some (.lst .own (T.map (aU ps)))) i)=.ok (.lst .own (T.map (aU ps))):=by
  have hi:eN (aa 9) (τ (some (.lst .own (T.map (aU ps)))) i)=.ok (true,T.map λ m=>D.lst .bor ((pp ps m).map .int)):=by
   unfold eN;rw[vw (g9 _ _),Res.aH];show Res.ok ((D.lst .bor (LL .bor (T.map (pp ps)))).aw,LL .bor (T.map (pp ps)))=_;unfold LL;rw[LQ];rfl
  exact rT (elt:=mD) (cap:=[]) (λ m=>D.lst .bor ((pp ps m).map .int)) (λ m=>D.lst .aq ((pp ps m).map .int)) (aU ps) hi (λ m _=>by
   show D.lst .aq (aE ((pp ps m).map .int))=_;rw[bf]) (λ m hm=>⟨by
   unfold mD;rw[fE (cL (bO (xs:=(pp ps m).map .int) rfl (ah _)))];rfl,cN (ah _),kH (ah _)⟩) (by omega)
 rw[aF (a6 s10 nbT),w10];have sw:l8 9 11 (τ (some (.lst .own (T.map (aU ps)))) (some (.lst .own (T.map (aU ps)))))=.nx (τ none (some (.lst .own (T.map (aU ps))))):=by
  have eo:c5 (τ (some (.lst .own (T.map (aU ps)))) (some (.lst .own (T.map (aU ps))))) 9=some (T.map (aU ps)):=by
   unfold c5;rw[g9]
  unfold l8;rw[g11,eo];simp only;rw[Lr ⟨by decide,by rw[Lc];omega,vH ps T Tl⟩,w9]
 rw[aF sw];have cf:eT (af D7 (aB bL (ae (aa 1) (ae (aa 8) ao))) (aa 10)) (τ none (some (.lst .own (T.map (aU ps)))))=.ok false:=by
  refine k9 ?_;rw[bc (cg _ _) (vw (g10 _ _))];have l1:=kE (T.map (pp ps)) λ _=>.own;have l2:=kE (T.map (pp ps)) λ _=>.bor;show(match l7 (T.map (aU ps)),l7 (LL .bor (T.map (pp ps))) with|some a,some b=>if a=b then Res.ok (D.bl false) else .bad|_,_=>.bad)=_;rw[CW,show l7 (LL .own (T.map (pp ps)))=_ from l1,show l7 (LL .bor (T.map (pp ps)))=_ from l2];simp only;rw[Lr trivial]
 rw[kN cf,eτ];rfl
end
section
def EN (hs:ps.Pairwise (· < ·))(hp:ps.length<=24)(h1:1<=ps.length)(ns cs:List Int)(hx:cs.length<=90):∃ t,bF (gT 2 (aM 3 (aM 4 cJ))) iV (cI (cs.map D.int)) (kO ns cs ps f none none none none none none none none)=.nx t:=by
 obtain⟨t,e,_⟩:=iS (tg:=gT 2 (aM 3 (aM 4 cJ))) (body:=iV) (ds:=cI (cs.map D.int)) (λ _ t=>∃ a b c d e g h i,t=kO ns cs ps f a b c d e g h i) 0 _ ⟨none,none,none,none,none,none,none,none,rfl⟩ (λ j d τ hd hp'=>by
  obtain⟨a,b,c,e,g,h,i,o,rfl⟩:=hp';have hj:j<cs.length:=by
   have:=(Lh.mp hd).1;simpa[cI] using this
  have ex:d=.tup [.int j,.int cs[j]]:=by
   simp[cI,hj]at hd;exact hd.symm
  subst ex;obtain⟨a',b',c',d',i',ht⟩:=EL (f:=f) hs hp h1 ns cs cs[j] j (by omega) c e g h i o;exact⟨_,_,rfl,.inl ht,_,_,a',b',c',d',none,i',rfl⟩)
 exact⟨t,e⟩
def yH {α:Type}(xs:List α)(a b:Option Int):(DL.cut xs a b).length<=xs.length:=by
 unfold DL.cut;rw[MQ,NP];omega
def EM (ns:List Int)(hl:ns.length<=63)(hs:ps.Pairwise (· < ·))(hp:ps.length<=24)(h1:1<=ps.length)(hm:(n:Int)=nX (M.cell ns 0))(hnet:G_Lnet [S ns,.int 1,.int n]=.ok (nF ps f)):vh [S ns]=.ok (.bl true):=by
 refine cP (τ:=[some (S ns),none,none,none,none,none,none,none,none,none,none,none]) rfl rfl ?_;unfold Cj;have fS:aE (ns.map D.int)=ns.map D.int:=bf ns;have bS:av (ns.map D.int)=false:=iR ns;have z0:aB G_Lcell (ae (aa 0) (ae (eC (.int 0)) ao)) [some (S ns),none,none,none,none,none,none,none,none,none,none,none]=.ok (.int (M.cell ns 0)):=
  cQ (ds:=[S ns,.int 0]) (aN (bO rfl (ah ns)) (cL rfl)) (by show G_Lcell [.lst .aq (aE (ns.map D.int)),.int 0]=_;rw[fS];exact mF ns (Int.le_refl 0)) (by show((false||av (ns.map D.int))||_)=false;rw[bS];rfl)
 have z1:aB G_Lnet (ae (aa 0) (ae (eC (.int 1)) (ae (aB G_Lmany (ae (aB G_Lcell (ae (aa 0) (ae (eC (.int 0)) ao))) ao)) ao))) [some (S ns),none,none,none,none,none,none,none,none,none,none,none]=.ok (nF ps f):=by
  refine cQ (ds:=[S ns,.int 1,.int n]) (aN (bO rfl (ah ns)) (aN rfl (cL ?_))) (by show G_Lnet [.lst .aq (aE (ns.map D.int)),.int 1,.int n]=_;rw[fS];exact hnet) (by show((false||av (ns.map D.int))||_)=false;rw[bS];rfl);rw[hm];exact eV (ds:=[.int (M.cell ns 0)]) (cL z0) (Eg _) rfl
 rw[aF (a6 z1 (bx _ (aZ _ _)))];show aC _ _ [some (S ns),some (nF ps f),none,none,none,none,none,none,none,none,none,none]=_;have zc:cZ (aa 0) (eP (eC (.int 2))) (eP (eC (.int 6))) [some (S ns),some (nF ps f),none,none,none,none,none,none,none,none,none,none]=.ok (.lst .own ((DL.cut ns (some 2) (some 6)).map D.int)):=by
  unfold cZ;rw[bO (xs:=ns.map .int) rfl (ah ns)];show Res.ok (D.lst .own (DL.cut (ns.map .int) (some 2) (some 6)))=_;rw[yj]
 have hc1:=yH ns (some 2) (some 6);have za:af bq (eA cA (ae (eC (.int 8)) (ae (eC (.int 41)) ao))) (cZ (aa 0) (eP (eC (.int 2))) (eP (eC (.int 6)))) [some (S ns),some (nF ps f),none,none,none,none,none,none,none,none,none,none]=.ok (.lst .own ((8::41::DL.cut ns (some 2) (some 6)).map D.int)):=by
  rw[bc (x:=.lst .own [.int 8,.int 41]) rfl zc];show(if 2+((DL.cut ns (some 2) (some 6)).map D.int).length<=16777216 then Res.ok (D.lst .own ([.int 8,.int 41]++(DL.cut ns (some 2) (some 6)).map D.int)) else .bad)=_;rw[Lr (by rw[Lc];omega)];rfl
 rw[aF (a6 za (cN (ah _)))];obtain⟨cs,hcl,ec⟩:∃ cs:List Int,cs.length<=90/\dI (eT (af Hr (eA dP (ae (af cz (aa 1) (eC (.int 0))) ao)) (eC (.int 9)))) (aV 2 (cZ (af bq (aa 0) (eA cA (ae (eC (.int 8)) (ae (eC (.int 41)) (ae (eC (.int 5)) ao))))) (eP (eC (.int 2))) (eP (eC (.int 4))))) aQ [some (S ns),some (nF ps f),some (.lst .own ((8::41::DL.cut ns (some 2) (some 6)).map D.int)),none,none,none,none,none,none,none,none,none]=.nx [some (S ns),some (nF ps f),some (.lst .own (cs.map D.int)),none,none,none,none,none,none,none,none,none]:=by
  obtain⟨b,eb⟩:∃ b,eT (af Hr (eA dP (ae (af cz (aa 1) (eC (.int 0))) ao)) (eC (.int 9))) [some (S ns),some (nF ps f),some (.lst .own ((8::41::DL.cut ns (some 2) (some 6)).map D.int)),none,none,none,none,none,none,none,none,none]=.ok b:=by
   have e:eA dP (ae (af cz (aa 1) (eC (.int 0))) ao) [some (S ns),some (nF ps f),some (.lst .own ((8::41::DL.cut ns (some 2) (some 6)).map D.int)),none,none,none,none,none,none,none,none,none]=.ok (.int ps.length):=by
    rw[fE (cL (qH (vI rfl)))];show Res.ok (D.int ((ps.map D.int).length:Nat))=_;rw[Lc]
   refine⟨decide ((9:Int)<ps.length),k9 ?_⟩;rw[bc e (y:=.int 9) rfl];rfl
  cases b with
  |false=>exact⟨_,by simp only[Ly];omega,(kN eb).trans rfl⟩
  | true =>
   have za2:af bq (aa 0) (eA cA (ae (eC (.int 8)) (ae (eC (.int 41)) (ae (eC (.int 5)) ao)))) [some (S ns),some (nF ps f),some (.lst .own ((8::41::DL.cut ns (some 2) (some 6)).map D.int)),none,none,none,none,none,none,none,none,none]=.ok (.lst .own ((ns++[8,41,5]).map D.int)):=by
    rw[bc (bO (xs:=ns.map .int) rfl (ah ns)) (y:=.lst .own [.int 8,.int 41,.int 5]) rfl];show(if (ns.map D.int).length+3<=16777216 then Res.ok (D.lst .own (ns.map D.int++[.int 8,.int 41,.int 5])) else .bad)=_;rw[Lr (by rw[Lc];omega),Lz];rfl
   have zc2:cZ (af bq (aa 0) (eA cA (ae (eC (.int 8)) (ae (eC (.int 41)) (ae (eC (.int 5)) ao))))) (eP (eC (.int 2))) (eP (eC (.int 4))) [some (S ns),some (nF ps f),some (.lst .own ((8::41::DL.cut ns (some 2) (some 6)).map D.int)),none,none,none,none,none,none,none,none,none]=.ok (.lst .own ((DL.cut (ns++[8,41,5]) (some 2) (some 4)).map D.int)):=by
    unfold cZ;rw[za2];show Res.ok (D.lst .own (DL.cut ((ns++[8,41,5]).map .int) (some 2) (some 4)))=_;rw[yj]
   have hc2:=yH (ns++[8,41,5]) (some 2) (some 4);rw[Lo]at hc2;simp only[Ly,Mn]at hc2;exact⟨_,by omega,(pV eb).trans ((a6 zc2 (cN (ah _))).trans rfl)⟩
 show aC _ _ [some (S ns),some (nF ps f),some (.lst .own ((8::41::DL.cut ns (some 2) (some 6)).map D.int)),none,none,none,none,none,none,none,none,none]=_;rw[aF ec];obtain⟨t,ht⟩:=EN (f:=f) hs hp h1 ns cs hcl;have zi:cY (ae (aa 2) ao) (kO ns cs ps f none none none none none none none none)=.ok (false,cI (cs.map D.int)):=by
  unfold cY;rw[cL (bO (xs:=cs.map .int) rfl (ah _)),Res.aH];show(Res.ok ((false||av (cs.map D.int)),cs.map D.int)).map _=_;rw[iR];rfl
 have zf:bU [2] (cY (ae (aa 2) ao)) (gT 2 (aM 3 (aM 4 cJ))) iV [some (S ns),some (nF ps f),some (.lst .own (cs.map D.int)),none,none,none,none,none,none,none,none,none]=.nx t:=by
  rw[qf (τ':=kO ns cs ps f none none none none none none none none) (by
   show [some (S ns),some (nF ps f),some (D.lst .aq (aE (cs.map .int))),none,none,none,none,none,none,none,none,none]=_;rw[bf];rfl) zi,ku,bf]
  exact ht
 rw[aF zf];rfl
end
def C3 (ns:List Int)(hl:ns.length<=63):vh [.lst .aq (ns.map D.int)]=.ok (.bl true):=by
 obtain⟨n,hn⟩:∃ n:Nat,(n:Int)=nX (M.cell ns 0):=⟨(nX (M.cell ns 0)).toNat,by have:=rG (M.cell ns 0);omega⟩;have hb:=rG (M.cell ns 0);rw[<-hn]at hb;have hl':=N2.places_len (dN ns) n;have e:=G1 ns (n:=n) (by omega);have er:N2.rows (dN ns) n=rJ (dN ns).sh (N2.places (dN ns) n).length:=by
  rw[hl'];rfl
 rw[er]at e;exact EM (ps:=N2.places (dN ns) n) (f:=(dN ns).sh) ns hl (N2.qF (dN ns) n) (by omega) (by omega) hn e
end KL
namespace KL
open PySem PySem.Spec PyProof.Rows L2 DL
abbrev ZN (K:PySem.W.Frag)(x:Str):Prop:=PySem.W.nsIn K mainGlobals x=some none
abbrev ZV (K:PySem.W.Frag)(x:Str)(v:Value):Prop:=PySem.W.nsIn K mainGlobals x=some (some v)
def Hm {l:PySem.W.OpenLaw}{w:World}{K:PySem.W.Frag}{h:Heap}{mg:Str->Option Value}{fa:Addr}(X:K.In h)(G:h.Ns mainGlobals mg)(hfa:mg "law" = some (.ref fa))
 (z0:ZN K "bool") (z1:ZN K "enumerate") (z2:ZN K "int") (z3:ZN K "isinstance") (z4:ZN K "len") (z5:ZN K "list") (z6:ZN K "max") (z7:ZN K "min") (z8:ZN K "range") (z9:ZN K "set") (z10:ZN K "sorted") (z11:ZN K "tuple") (z12:ZN K "zip")
 (D_require_place:jw K mg) (D_checked_set:kX K mg) (D_pair:Cc K mg) (D_colours_of:mz K mg) (D_sights_of:nT K mg) (D_first_apart:kY K mg) (D_teller_among:jX K mg) (D_shares_by:nQ K mg) (D_greatest_within:ic K mg) (D_Lcell:E_Lcell K mg) (D_Lmany:E_Lmany K mg) (D_Lmix:E_Lmix K mg) (D_Lplaces:E_Lplaces K mg) (D_Lshade:E_Lshade K mg) (D_Lnet:E_Lnet K mg) (D_Lshown:E_Lshown K mg) (D_Lteller:E_Lteller K mg) (D_Lclosed:E_Lclosed K mg) (D_Linside:E_Linside K mg) (D_Lhanded:E_Lhanded K mg) (D_Lwhole:E_Lwhole K mg) (D_Lparts:E_Lparts K mg) (D_Lright:E_Lright K mg)
 {f:Addr}{oc:Value}{od an:Option Addr}{osl:Array (Option Value)}{kV doc pm cdv ct:Value} (a:ZV K "law" (.ref f)) (lk:K.lookup f=some ⟨oc,od,.func (PySem.W.fnOf "law" "law" (gY mC) (dW mC) (aA mC) .none kV doc pm an cdv ct),osl⟩) (c:PySem.W.codeIn K cdv "law" = true) (k:PySem.W.keepIn K (.ref f)=true) :
 ∃ fd:FuncData,(∀ (s:Shared) (v:Value),BindsTo s fd ⟨[v],[]⟩ [("_law_script",v)])/\∀ base:Heap,K.In base->base.Ns mainGlobals mg->oQ l.prog w K mg base zd 5 fa fd ["_law_script"] (kL K vh):=by
 have T:Txt mg:=⟨Me X G z0,Me X G z1,Me X G z2,Me X G z3,Me X G z4,Me X G z5,Me X G z6,Me X G z7,Me X G z8,Me X G z9,Me X G z10,Me X G z11,Me X G z12⟩;have e:=hfa.symm.trans (PySem.W.mg_of X G a);cases e;refine⟨PySem.W.fnOf "law" "law" (gY mC) (dW mC) (aA mC) .none kV doc pm an cdv ct,λ s v=>.of_eq rfl,λ base _ _=>?_⟩
 let b:Bd:=⟨l.prog,w,K,mg,base⟩
 have C_require_place:=nh (b:=b) T  D_require_place;have C_checked_set:=pR (b:=b) T C_require_place D_checked_set;have C_pair:=Ef (b:=b) T  D_pair;have C_colours_of:=qE (b:=b) T C_pair D_colours_of;have C_sights_of:=tT (b:=b) T C_colours_of D_sights_of;have C_first_apart:=pT (b:=b) T  D_first_apart;have C_teller_among:=ow (b:=b) T C_first_apart D_teller_among;have C_shares_by:=tS (b:=b) T  D_shares_by;have C_greatest_within:=lE (b:=b) T C_checked_set C_sights_of C_teller_among C_shares_by D_greatest_within;have C_Lcell:=ok_Lcell (b:=b) T  D_Lcell;have C_Lmany:=ok_Lmany (b:=b) T  D_Lmany;have C_Lmix:=ok_Lmix (b:=b) T C_Lcell D_Lmix;have C_Lplaces:=ok_Lplaces (b:=b) T C_Lcell D_Lplaces;have C_Lshade:=ok_Lshade (b:=b) T C_Lcell C_Lmix D_Lshade;have C_Lnet:=ok_Lnet (b:=b) T C_Lplaces C_Lshade D_Lnet;have C_Lshown:=ok_Lshown (b:=b) T  D_Lshown;have C_Lteller:=ok_Lteller (b:=b) T C_Lshown D_Lteller;have C_Lclosed:=ok_Lclosed (b:=b) T C_Lteller D_Lclosed;have C_Linside:=ok_Linside (b:=b) T C_Lclosed D_Linside;have C_Lhanded:=ok_Lhanded (b:=b) T  D_Lhanded;have C_Lwhole:=ok_Lwhole (b:=b) T  D_Lwhole;have C_Lparts:=ok_Lparts (b:=b) T C_Lwhole D_Lparts;have C_Lright:=ok_Lright (b:=b) T C_Lteller C_Lclosed C_Lparts D_Lright;exact GU (b:=b) T C_greatest_within C_Lcell C_Lmany C_Lnet C_Linside C_Lhanded C_Lright (vW (st:=mC) lk c k)
end KL
namespace PySem.W.Fast
theorem tw10342568643936746010:True:=⟨⟩
theorem tw2145126657811271720:True:=⟨⟩
theorem tw7900833879756580698:True:=⟨⟩
theorem tw1218200619974397203:True:=⟨⟩
theorem tw3103459107831272587:True:=⟨⟩
theorem tw4550316025403134255:True:=⟨⟩
theorem tw2610407006278291534:True:=⟨⟩
theorem tw4628290054619053280:True:=⟨⟩
theorem tw11621627361227517678:True:=⟨⟩
theorem tw17782335639104372821:True:=⟨⟩
theorem tw18277731620949705678:True:=⟨⟩
theorem tw17180792566060438243:True:=⟨⟩
theorem tw3484056686240977805:True:=⟨⟩
theorem tw226917873539008413:True:=⟨⟩
theorem tw1334490679008196875:True:=⟨⟩
theorem tw4729697568035640211:True:=⟨⟩
theorem tw2877928784552425948:True:=⟨⟩
theorem tw8670698989329960376:True:=⟨⟩
theorem tw16109833918344230666:True:=⟨⟩
theorem tw7808962514087926969:True:=⟨⟩
theorem tw8959190039937249861:True:=⟨⟩
theorem tw16170039577300886737:True:=⟨⟩
theorem tw9339719163275755026:True:=⟨⟩
theorem tw4950926165926272476:True:=⟨⟩
theorem tw17096508312014893460:True:=⟨⟩
theorem tw17707431371454773237:True:=⟨⟩
theorem tw5196054983798509642:True:=⟨⟩
theorem tw17194982035438163929:True:=⟨⟩
theorem tw9320253661257962592:True:=⟨⟩
theorem tw3389780347476962938:True:=⟨⟩
theorem tw9949727321103782901:True:=⟨⟩
theorem tw1864134662429110708:True:=⟨⟩
theorem tw2403274628417034468:True:=⟨⟩
theorem tw14933984383334226199:True:=⟨⟩
theorem tw7690025181153750026:True:=⟨⟩
theorem tw3650734595105138117:True:=⟨⟩
theorem tw14680087877184096068:True:=⟨⟩
theorem tw12083344596113199269:True:=⟨⟩
theorem tw15219215151196184202:True:=⟨⟩
theorem tw14922518624112814489:True:=⟨⟩
theorem tw11563818047360048041:True:=⟨⟩
theorem tw7510990115658057692:True:=⟨⟩
theorem tw6911231127675033278:True:=⟨⟩
theorem tw12649782736621739091:True:=⟨⟩
theorem tw12644817635185490429:True:=⟨⟩
theorem tw16574134989434692480:True:=⟨⟩
theorem tw10485782761038907895:True:=⟨⟩
theorem tw1291186544290898809:True:=⟨⟩
theorem tw12334725537213980328:True:=⟨⟩
theorem tw17869936812231544248:True:=⟨⟩
theorem tw5592361222512312312:True:=⟨⟩
theorem tw15275979636394675026:True:=⟨⟩
theorem tw7679303837952572238:True:=⟨⟩
theorem tw9978913641677387705:True:=⟨⟩
theorem tw3596821536546242707:True:=⟨⟩
theorem tw5295148556452482114:True:=⟨⟩
theorem tw16679271784829632528:True:=⟨⟩
theorem tw15726798746219459212:True:=⟨⟩
theorem tw16846624587630968118:True:=⟨⟩
theorem tw2297133564985646865:True:=⟨⟩
theorem tw1305847711219700347:True:=⟨⟩
theorem tw560327815173590957:True:=⟨⟩
theorem tw3875633080384929310:True:=⟨⟩
theorem tw1182761172323535230:True:=⟨⟩
theorem tw16227436262398038675:True:=⟨⟩
theorem tw13223727058432649155:True:=⟨⟩
theorem tw11279847260785887043:True:=⟨⟩
theorem tw15592862653708030371:True:=⟨⟩
theorem tw14119797919329770277:True:=⟨⟩
theorem tw17386947980864803278:True:=⟨⟩
theorem tw15021206920327274402:True:=⟨⟩
theorem tw6041483226302607371:True:=⟨⟩
theorem tw2458416267367335822:True:=⟨⟩
theorem tw2745013594424839439:True:=⟨⟩
theorem tw479546954999852014:True:=⟨⟩
theorem tw3014477393165966215:True:=⟨⟩
theorem tw6837425275615555916:True:=⟨⟩
theorem tw1899217077744506534:True:=⟨⟩
theorem tw4560397379510899182:True:=⟨⟩
theorem tw15223778818177662188:True:=⟨⟩
theorem tw4531818922814376982:True:=⟨⟩
theorem tw16949009390770796740:True:=⟨⟩
theorem tw13700378234572988397:True:=⟨⟩
end PySem.W.Fast
open PySem PySem.W PyProof.Rows
set_option maxRecDepth 100000 in
set_option maxHeartbeats 0 in
theorem PySem.Challenge.cw_modulewood_k08_greatest_within_holds : PySem.Challenge.rw_modulewood_k08_greatest_within.Holds := by
 w_on;o_law;k_head;(case hw=>w_witness2)
 k_fill
 refine L2.DG (l:=PySem.Challenge.rw_modulewood_k08_greatest_within) (n:=63) (k:=5) (x:="_law_script") (CX:=λ _=>L2.zd) (sp:=λ w=>DL.kL _ KL.vh) rfl (by decide) rfl ⟨rfl,by decide,by decide⟩ (λ w h Y=>PySem.W.kIn_of Y) ?F (λ w H a ns hl _ hS=>DL.Gn hS (KL.C3 ns hl)) λ _ _ _ _ _ z=>z
 case F=>
  intro w mg fa h KX G hmg
  refine' KL.Hm KX G hmg ?_ ?_ ?_ ?_ ?_ ?_ ?_ ?_ ?_ ?_ ?_ ?_ ?_ ?_ ?_ ?_ ?_ ?_ ?_ ?_ ?_ ?_ ?_ ?_ ?_ ?_ ?_ ?_ ?_ ?_ ?_ ?_ ?_ ?_ ?_ ?_ ?a1 ?l1 ?c1 ?k1
  iterate 13 ((try (dsimp only [KL.ZN,KL.ZV]));k_is)
  iterate 23 (refine' DL.Gp KX G ?a ?l ?c ?k ?u;(case a=>k_is);(case l=>k_is);(case c=>k_is);(case k=>k_is);(case u=>first|(exact λ _ _ _ _ _ _ us hl=>match us,hl with|[_],_=>rfl)|(exact λ _ _ _ _ _ _ us hl=>match us,hl with|[_,_],_=>rfl)|(exact λ _ _ _ _ _ _ us hl=>match us,hl with|[_,_,_],_=>rfl)|(exact λ _ _ _ _ _ _ us hl=>match us,hl with|[_,_,_,_],_=>rfl)))
  (case a1=>dsimp only[KL.ZV];k_is);(case l1=>k_is);(case c1=>k_is);(case k1=>k_is)
