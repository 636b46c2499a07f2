import PyProof.Rows.All
import Wide.All
import OpenK.AllK
import Wide.FinOn
import PySem.Challenge.RW_modulewood_k11_quotients
import Lean
import PyProof.EqAt
import PyProof.EqKinds
import PyProof.TupleCall
import PyProof.StationsW
import PyProof.RangeIter
import PyProof.FactsTree
import PyProof.ExcClass2
import PyProof.ExcArgsOwn
import KE.KIsAll
import PyProof.SetScanFacts
import PyProof.Rows.SetFrom
import PyProof.FactsAll.set
import PyProof.Comp
import PyProof.Walks
import PyProof.TupleIter
import PyProof.CollectWalk
import PyProof.Rows.SortWalk
import PyProof.Rows.SortShell
import PyProof.NeKinds
import PyProof.WalkInts
import PyProof.Rows.CallKwBuiltin
import KE.KSortTup
import PyProof.IsRules
import PyProof.Walk
import PyProof.WalkLemmas
import PyProof.DictList
import PyProof.MeetsDict
import KE.KDictList
import PyProof.DictIter
import PyProof.DictWalks
import PyProof.DictItems
import PyProof.EnumIter
noncomputable section
set_option Elab.async false
set_option linter.all false
set_option maxRecDepth 100000
set_option maxHeartbeats 0
local macro_rules|`(tactic|walk_at "l")=>`(tactic|first|exact Or.inl rfl|exact Or.inr rfl)
set_option hygiene false
set_option hygiene true
def My:=@PySem.wpAny_bind
def Mz:=@PySem.Heap.get?_push_of_some
def MA:=@List.getElem?_eq_getElem
def MB:=@PySem.wpAny_pure
def MC:=@List.length_map
def MD:=@List.mem_cons_self
def ME:=@List.mem_cons_of_mem
def MF:=@List.getElem?_eq_some_iff
def MG:=@List.getD_eq_getElem?_getD
def MH:=@Bool.false_ne_true
def MI:=@PySem.Heap.get?_push_size
def MJ:=@PySem.Heap.lt_size
def MK:=@List.mem_cons
def ML:=@Nat.le_refl
def MM:=@List.mem_map
def MN:=@List.size_toArray
def MO:=@if_pos
def MP:=@if_neg
def MQ:=@List.length_cons
def MR:=@List.getElem?_map
def MS:=@List.nodup_append
def MT:=@List.mem_append_right
def MU:=@List.map_cons
def MV:=@Array.getElem?_eq_getElem
def MW:=@List.mem_append_left
def MX:=@List.length_range
def MY:=@List.length_append
def MZ:=@List.nodup_cons
def M0:=@Nat.ne_of_lt
def M1:=@List.map_map
def M3:=@List.mem_range
def M4:=@List.mem_append
def M5:=@List.map_congr_left
def M6:=@decide_eq_false
def M7:=@List.map_append
def M8:=@Array.length_toList
def M9:=@Bool.false_eq_true
def Na:=@PySem.wpAny_setField_rec
def Nb:=@List.sublist_append_right
def Nc:=@decide_eq_true
def Nd:=@PySem.wpAny_call_entry
def Nf:=@PySem.wpAny_callSpecial?_slot
def Ng:=@Nat.lt_of_lt_of_le
def Nh:=@List.append_nil
def Ni:=@List.append_assoc
def Nj:=@Int.toNat_natCast
def Nk:=@Bool.and_eq_true
def Nl:=@List.mem_singleton
def Nm:=@PySem.wpAny_newObj_type
def Nn:=@PySem.PassesOwn.never
def Np:=@List.sublist_append_left
def Nq:=@Option.some.inj
def Nr:=@Array.getElem?_toList
def Nt:=@Array.getD_eq_getD_getElem?
def Nu:=@List.getElem_mem
def Nv:=@PySem.W.mg_none_of
def Nx:=@PySem.wpAny_field
def Ny:=@PySem.Heap.size_push
def Nz:=@List.Perm.refl
def NB:=@List.getElem?_eq_none
def NC:=@List.getElem?_range
def ND:=@List.Sublist.refl
def NF:=@List.flatten_cons
def NG:=@Nat.lt_irrefl
def NH:=@PySem.sizeLine_eq
def NI:=@PySem.W.kia_one
def NJ:=@List.nodup_nil
def NK:=@PySem.wpAny_typeNameOfWhole_itemiter
def NL:=@bne_self_eq_false
def NN:=@List.getElem?_set_ne
def NO:=@PySem.Around.under_plainId
def NP:=@List.getElem?_set_self
def NQ:=@List.not_mem_nil
def NR:=@decide_eq_true_eq
def NS:=@List.ext_getElem?
def NT:=@Nat.zero_add
def NU:=@Ne.symm
def NV:=@Nat.zero_le
def NW:=@List.length_nil
def NX:=@Nat.le_trans
def NY:=@List.ext_getElem
def NZ:=@PySem.wpAny_isOneOf_itemiter
def N1:=@congrArg
def N3:=@List.pairwise_iff_getElem
def N4:=@List.length_pos_iff
def N5:=@List.length_singleton
def N6:=@PySem.wpAny_seqItems
def N7:=@List.mem_filter
def N8:=@PySem.codeAny_builtin
def N9:=@Int.emod_nonneg
def Oa:=@List.lookup_cons
def Ob:=@PySem.F.plainAttrs_list
def Oc:=@PyProof.Rows.callWith_type1
def Od:=@PySem.wpAny_holding
def Oe:=@List.getElem?_append_right
def Of:=@PySem.Heap.get?_update_other
def Og:=@Array.perm_iff_toList_perm
def Oh:=@Option.some_ne_none
def Oi:=@List.flatten_append
def Oj:=@PyProof.Rows.slot_tuple_getitem
def Ol:=@PySem.Heap.get?_update_self
def Om:=@PySem.wpAny_mono
def Oo:=@PySem.wpAny_Call_Name_kw
def Oq:=@PySem.wpAny_attempt
def Ot:=@PySem.F.slot_dict_itemiterator_next
def Ou:=@PySem.wpAny_setState_of
def Ov:=@PySem.Heap.SameBut.update
def Ow:=@Nat.le_of_lt
def Ox:=@Nat.ne_of_gt
def Oz:=@PySem.Calls.callWith_builtin
def OA:=@Array.getElem?_eq_none
def OB:=@PySem.Paired.length
def OC:=@List.any_cons
def OD:=@List.length_take
def OE:=@PySem.F.slot_tuple_iterator_next
def OF:=@List.pairwise_cons
def OG:=@if_true
def OH:=@List.findIdx?_eq_some_iff_getElem
def OI:=@List.drop_eq_getElem_cons
def OJ:=@PySem.wpAny_passesOwn
def OL:=@Bool.eq_iff_iff
def OM:=@Nat.not_lt_zero
def ON:=@if_false
def OO:=@Nat.lt_succ_of_lt
def OP:=@Nat.le_succ
def OQ:=@Bool.or_eq_false_iff
def OR:=@Nat.lt_trichotomy
def OS:=@List.pairwise_map
def OT:=@Option.isSome_iff_exists
def OU:=@beq_iff_eq
def OV:=@Bool.not_true
def OW:=@beq_eq_false_iff_ne
def OX:=@PySem.mem_of_lookup
def OY:=@PySem.Heap.SameBut.extBut
def OZ:=@PySem.wpAny_setEntries_of
def O0:=@List.mem_map_of_mem
def O1:=@PySem.wpAny_isInstance
def O2:=@List.nodup_range
def O3:=@List.any_eq_true
def O4:=@PySem.W.cellsFrom_some
def O5:=@PySem.wpAny_typeOf
def O6:=@PySem.wpAny_rule
def O7:=@List.find?_cons
def O8:=@PySem.wpAny_updateSeq
def O9:=@PySem.plainId_quiet
def Pa:=@PySem.F.slot_enumerate_next
def Pc:=@Nat.le_of_succ_le
def Pe:=@Sum.inl.inj
def Pg:=@List.perm_ext_iff_of_nodup
def Ph:=@List.length_drop
def Pj:=@List.all_eq_true
def Pk:=@Nat.min_eq_right
def Pn:=@beq_self_eq_true
def Po:=@List.isEmpty_nil
def Pp:=@List.filter_cons
def Pq:=@PySem.Calls.call_function_entry
def Pr:=@List.filter_sublist
def Pu:=@PySem.AutoSeq1.wpAny_loadPart'
def Pw:=@Option.map_some
def Px:=@List.forIn_cons
def Py:=@Nat.min_eq_left
def Pz:=@Nat.max_eq_left
def PB:=@PySem.wpAny_ite_split
def PC:=@List.range_succ
def PD:=@PySem.Calls.spliced_cons
def PF:=@PySem.wpAny_pyIter_tuple
def PH:=@Array.append_empty
def PJ:=@List.length_mapIdx
def PK:=@List.pairwise_singleton
def PL:=@PyProof.Rows.F.plain_set_update_loop
def PM:=@List.length_eq_zero_iff
def PN:=@PySem.wpAny_truthy_bool
def PQ:=@List.any_eq_false
def PR:=@List.reverse_cons
def PU:=@of_decide_eq_true
def PV:=@List.sublist_cons_self
def PX:=@PySem.wpAny_pyIter_slot
def PY:=@List.pairwise_lt_range
def PZ:=@Option.some.injEq
def P0:=@PySem.F.plain_list_iadd
def P5:=@PySem.F.args_dict_itemiterator_next_1
def P6:=@PySem.F.slot_dict_get
def P7:=@List.getElem?_zipWith
def P8:=@PySem.builtinLookup_eq_fast
def P9:=@List.length_filter_le
def Qa:=@List.eq_nil_or_concat
def Qc:=@List.concat_eq_append
def Qd:=@PyProof.Rows.callWith_builtin1
def Qe:=@Nat.lt_succ_self
def Qf:=@Nat.max_eq_right
def Qg:=@List.Perm.append
def Qh:=@decide_eq_decide
def Qi:=@List.map_reverse
def Qj:=@List.mem_of_getElem?
def Qk:=@PySem.Calls.evalArgs_plain
def Ql:=@Array.toArray_toList
def Qm:=@PySem.wpAny_updateSeq_pair
def Qn:=@PySem.wpAny_execs_nil
def Qo:=@PySem.pushCells_keeps
def Qp:=@PySem.F.slot_zip_next
def Qq:=@List.filterMap_cons
def Qs:=@List.Sublist.append
def Qt:=@List.filter_eq_self
def Qu:=@PySem.codeAny_mono
def Qv:=@PySem.call_meets
def Qw:=@PySem.tupleKind_room_in1
def Qx:=@List.forIn_nil
def Qy:=@PySem.wpAny_setField
def Qz:=@PySem.wpAny_newTuple
def QA:=@Option.ne_none_iff_exists'
def QB:=@PySem.isSubtype_type
def QC:=@List.length_eraseIdx_of_lt
def QD:=@PySem.wpAny_fieldsOf
def QE:=@Int.emod_lt_of_pos
def QF:=@List.getElem?_append_left
def QG:=@PySem.Value.isInt_shape
def QH:=@PySem.W.kitx_list
def QI:=@PySem.Calls.spliced_nil
def QJ:=@PySem.wpAny_letGo
def QK:=@PySem.wpAny_pyIter_enum
def QL:=@PySem.wpAny_pyIter_list
def QM:=@PySem.fits_of_scanBound
def QN:=@List.all_cons
def QO:=@PySem.wpAny_handled
def QP:=@PySem.wpAny_onRaise
def QQ:=@PySem.wpAny_newList
def QR:=@Option.getD_none
def QS:=@Nat.le_add_right
def QT:=@List.mem_flatMap
def QU:=@List.flatten_nil
def QV:=@Nat.lt_trans
def QW:=@List.of_mem_zip
def QX:=@List.foldl_cons
def QY:=@Bool.false_and
def QZ:=@Int.le_refl
namespace L2
variable {C a b dx f:Addr}{A:Around}{op:CmpOp}{c e tg:Expr}{fd:FuncData}{h h':Heap}{pins:List (Addr×Obj)}{ch fp:List Addr}{es:List Expr}{body:List Stmt}{N ps:List Str}{us:List Value}{M:Model}{i t':Nat}{p pos:Pos}{P:Program}{s s':Shared}{x:Str}{mA:Str->Option Value}{u:Value}{E Q:Value->Shared->Prop}{w:World}
def ex5 {α β:Sort _}{p q r:α->β->Prop}{C:Prop}(h:∃ a b,p a b/\q a b/\r a b)(k:∀ a b,p a b->q a b->r a b->C):C:=h.elim λ a h=>h.elim λ b h=>k a b h.1 h.2.1 h.2.2
open PySem PySem.Spec PyProof.Rows
def uX (h:Heap)(a:Addr)(items:Array Value):Prop:=∃ n,h.get? a=some { cls:=.type "tuple",data:=.seq items n }
def uX.is{items:Array Value}(x:uX h a items):IsTup h a items:=let ⟨n,e⟩:=x;⟨_,e,rfl,n,rfl⟩
def uX.new (h:Heap)(items:Array Value):uX (h.push { cls:=.type "tuple",data:=.seq items }) h.objs.size items:=⟨_,MI _ rfl⟩
abbrev Key:=Sum Int Str
def pP:Key->Value->Bool
 |.inl k,v=>Value.isInt k v
 |.inr x,v=>Value.isStrOf x v
def Lg (w:World):Key->Int
 |.inl k=>hashInt k
 |.inr x=>hashStr w x
def cM:∀ {k:Key}{v:Value},pP k v=true->(∃ i t,k=Sum.inl i/\v=Value.int i t)\/(∃ x t,k=Sum.inr x/\v=Value.str x t)
 | .inl i,v,h=>by
  obtain⟨t,e⟩:=QG (k:=i) (v:=v) h;exact .inl ⟨i,t,rfl,e⟩
 | .inr x,v,h=>by
  obtain⟨t,e⟩:=Value.isStrOf_shape (x:=x) (v:=v) h;exact .inr ⟨x,t,rfl,e⟩
def Aa (i:Int)(t:Tok):pP (.inl i) (.int i t)=true:=by simp[pP,Value.isInt]
def Ad (x:Str)(t:Tok):pP (.inr x) (.str x t)=true:=by simp[pP,Value.isStrOf]
def G7 (a b:Int):decide ((Sum.inl a:Key)=Sum.inl b)=(a == b):=by
 by_cases e:a=b
 ·subst e;simp
 ·have h:¬ (Sum.inl a:Key)=Sum.inl b:=λ q=>e (Pe q);rw[M6 h];exact(OW.mpr e).symm
def GQ (a b:Str):decide ((Sum.inr a:Key)=Sum.inr b)=decide (a=b):=by
 by_cases e:a=b
 ·subst e;simp
 ·have h:¬ (Sum.inr a:Key)=Sum.inr b:=λ q=>e (Sum.inr.inj q);rw[M6 h,M6 e]
def GR (a:Int)(b:Str):decide ((Sum.inl a:Key)=Sum.inr b)=false:=M6 (λ q=>nomatch q)
def G5 (a:Str)(b:Int):decide ((Sum.inr a:Key)=Sum.inl b)=false:=M6 (λ q=>nomatch q)
def cT (prog:Program)(w:World):PySem.KeyKind prog w Key where
 is:=pP
 hash:=Lg w
 inj:=λ v a b ha hb=>by
  rcases cM ha with ⟨i,t,rfl,rfl⟩|⟨x,t,rfl,rfl⟩
  ·rcases cM hb with ⟨j,u,rfl,e⟩|⟨y,u,rfl,e⟩
   ·injection e with e1 _;rw[e1]
   ·exact nomatch e
  ·rcases cM hb with ⟨j,u,rfl,e⟩|⟨y,u,rfl,e⟩
   ·exact nomatch e
   ·injection e with e1 _;rw[e1]
 byValue:=λ k v h=>by
  rcases cM h with ⟨i,t,rfl,rfl⟩|⟨x,t,rfl,rfl⟩<;>rfl
 pyHash:=λ hv h=>by
  rcases cM hv with ⟨i,t,rfl,rfl⟩|⟨x,t,rfl,rfl⟩
  ·exact wpAny_pyHash_int h
  ·exact wpAny_pyHash_str h
 eqBool:=λ hu hv h=>by
  rcases cM hu with ⟨i,t,rfl,rfl⟩|⟨x,t,rfl,rfl⟩
  ·rcases cM hv with ⟨j,u,rfl,rfl⟩|⟨y,u,rfl,rfl⟩
   ·rw[G7]at h;exact wpAny_eqBool_int h
   ·rw[GR]at h;exact SeqAt.EqAt.int_str i t y u _ _ _ _ h
  ·rcases cM hv with ⟨j,u,rfl,rfl⟩|⟨y,u,rfl,rfl⟩
   ·rw[G5]at h;exact SeqAt.EqAt.str_int x t j u _ _ _ _ h
   ·rw[GQ]at h;exact wpAny_eqBool_str h
 «strs» :=λ k x t v h=>by
  rcases cM h with ⟨i,u,rfl,e⟩|⟨y,u,rfl,e⟩
  ·exact nomatch e
  ·injection e with e1 _
   subst e1;cases v<;>rfl
def u3 (prog:Program)(w:World)(i:Int)(t:Tok):(cT prog w).is (.inl i) (.int i t)=true:=Aa i t
def uY (prog:Program)(w:World)(x:Str)(t:Tok):(cT prog w).is (.inr x) (.str x t)=true:=Ad x t
inductive V where
 |bJ|bl (b:Bool)|int (i:Int)|str (x:Str)|Bg (b:Array UInt8)|Ja (b:UInt64)|ref (a:Addr)|ty (n:String)
 deriving DecidableEq
variable {v:V}
def RelV:V->Value->Prop
 |.bJ,u=>u=Value.none
 |.bl b,u=>u=Value.bool b
 |.int i,u=>∃ t,u=Value.int i t
 |.str x,u=>∃ t,u=Value.str x t
 |.Bg b,u=>∃ t,u=Value.bytes b t
 |.Ja b,u=>∃ t,u=Value.float b t
 |.ref a,u=>u=Value.ref a
 |.ty n,u=>u=Value.type n
abbrev Vals:List V->List Value->Prop:=Paired RelV
def Vals.length {xs:List V}(r:Vals xs us):xs.length=us.length:=OB r
def Vals.get:∀ {xs:List V}{us:List Value}{i:Nat}{x:V},Vals xs us->xs[i]?=some x->∃ u,us[i]?=some u/\RelV x u
 |_,_,_,_,.nil,e=>by simp at e
 |_,_,0,_,.cons r _,e=>by simp at e;subst e;exact⟨_,rfl,r⟩
 | _,_,i+1,x,.cons _ t,e=>by
  obtain⟨u,h1,h2⟩:=Vals.get (i:=i) (x:=x) t (by simpa using e);exact⟨u,by simpa using h1,h2⟩
def Vals.append:∀ {xs ys:List V}{us ws:List Value},Vals xs us->Vals ys ws->Vals (xs++ys) (us++ws)
 |_,_,_,_,.nil,s=>s
 |_,_,_,_,.cons r t,s=>.cons r (Vals.append t s)
def Vals.take:∀ {xs:List V}{us:List Value} (n:Nat),Vals xs us->Vals (xs.take n) (us.take n)
 |_,_,0,_=>.nil
 |_,_,_+1,.nil=>.nil
 |_,_,n+1,.cons r t=>.cons r (Vals.take n t)
def Vals.drop:∀ {xs:List V}{us:List Value} (n:Nat),Vals xs us->Vals (xs.drop n) (us.drop n)
 |_,_,0,r=>r
 |_,_,_+1,.nil=>.nil
 |_,_,n+1,.cons _ t=>Vals.drop n t
def nL:Option V->Option Value->Prop
 |some v,some u=>RelV v u
 |none,none=>True
 |_,_=>False
def KV {κ:Type}:List (κ×V)->List (κ×Value)->Prop:=Paired λ (p:κ×V) (q:κ×Value)=>p.1=q.1/\RelV p.2 q.2
def kV:Key->V
 |.inl i=>.int i
 |.inr x=>.str x
inductive HO where
 |lst (xs:List V)
 |tup (xs:List V)
 |dK (kvs:List (Key×V)) (ep:Nat)|dT (kvs:List (List Key×V)) (ep:Nat)
 |set (S:Int->Bool) (n:Nat)
 |ins (C dx:Addr) (fs:List (Str×V))
 |own (x:Addr)
 |xd (fs:List (Str×V))
 |met (f x:Addr)
 |K9 (lo hi:Int)
 |aq (o:Obj) (u:HO)
 |GU (ps:Array Value)
 |ext (φ:Heap->Prop)
variable {o:HO}
abbrev Hp:=Addr->Option HO
variable {H H':Hp}
def upd (H:Hp)(a:Addr)(o:HO):Hp:=λ b=>if b=a then some o else H b
def bB:upd H a o a=some o:=by unfold upd;rw[MO rfl]
def aU(h:b≠a):upd H a o b=H b:=by unfold upd;rw[MP h]
def Jy{u:HO}(h:H a=some o)(h':H b=some u)(d:o≠u):a≠b:=by
 intro e;subst e;rw[h]at h';exact d (Nq h')
def bC(h:H a=some o)(h':H b=none):a≠b:=by
 intro e;subst e;rw[h]at h';cases h'
section
variable (P:Program)(w:World)
def ck (H:Hp)(h:Heap)(a:Addr):HO->Prop
 |.lst xs=>xs.length<=sizeLine/\∃ (its:List Value) (n:Nat),Vals xs its/\h.get? a=some { cls:=.type "list",data:=.seq its.toArray n }
 |.tup xs=>xs.length<=sizeLine/\∃ its:List Value,Vals xs its/\uX h a its.toArray
 |.dK kvs ep=>kvs.length<=sizeLine/\(a == sysModules)=false/\∃ vs,KV kvs vs/\h.DictAt (cT P w) a vs ep
 | .dT kvs ep=>kvs.length<=sizeLine/\(a == sysModules)=false/\∃ xs:List (List Key×Addr×Value),
   Paired (λ (p:List Key×V) (q:List Key×Addr×Value)=>p.1=q.1/\H q.2.1=some (.tup (p.1.map kV))/\RelV p.2 q.2.2) kvs xs /\
   ∃ o es,h.get? a=some o/\o.ExactDict/\o.data=.dict es ep/\es.toList=xs.map (entryOfKey (tupleKind (cT P w)))/\(xs.map (·.1)).Nodup
 |.set S n=>h.SetOf (intKind P w) a S n
 | .ins C dx fs=>H dx=some (.own a)/\fs.length<=1000/\dx≠a/\h.get? a=some (PySem.W.instObj C dx) /\
   ∃ mA,h.Ns1 dx mA/\(∀ f,nL (fs.lookup f) (mA f))/\PySem.Within mA (fs.map (·.1))
 |.own _=>∃ o,h.get? a=some o
 |.xd fs=>∃ mA,h.Ns1 a mA/\∀ f,nL (fs.lookup f) (mA f)
 |.K9 lo hi=>∃ t u v,h.get? a=some { cls:=.type "range",data:=.fields #[.int lo t,.int hi u,.int 1 v] }
 |.aq o u=>h.get? a=some o/\ck H h a u
 |.GU ps=>h.get? a=some { cls:=.none,data:=.fields ps }
 |.met f x=>h.get? a=some (PySem.W.methodObj (.ref f) (.ref x))
 |.ext φ=>φ h/\(∃ o,h.get? a=some o)/\∀ h1 h2:Heap,φ h1->(∀ o,h1.get? a=some o->h2.get? a=some o)->φ h2
def jA (H:Hp)(h:Heap):Prop:=∀ a o,H a=some o->ck P w H h a o
end
section
def ck.lt (x:ck P w H h a o):a<h.objs.size:=by
 cases o with
 |lst xs=>obtain⟨_,_,_,_,e⟩:=x;exact MJ e|tup xs=>obtain⟨_,_,_,p⟩:=x;exact p.is.lt|dK kvs ep=>obtain⟨_,_,_,_,o,_,e,_⟩:=x;exact MJ e|dT kvs ep=>obtain⟨_,_,_,_,o,_,e,_⟩:=x;exact MJ e|set S n=>obtain⟨o,_,_,_,e,_⟩:=x;exact MJ e|ins C dx fs=>obtain⟨_,_,_,e,_⟩:=x;exact MJ e|own y=>obtain⟨_,e⟩:=x;exact MJ e|xd fs=>obtain⟨_,⟨_,_,_,e,_⟩,_⟩:=x;exact MJ e|K9 lo hi=>obtain⟨_,_,_,e⟩:=x;exact MJ e|aq ob u=>obtain⟨e,_⟩:=x;exact MJ e|GU ps=>exact MJ (show h.get? a=some _ from x)|met f y=>exact MJ (show h.get? a=some _ from x)|ext φ=>obtain⟨_,⟨_,e⟩,_⟩:=x;exact MJ e
def Paired.GK {α β:Type}{F G:α->β->Prop}:∀ {l₁:List α}{l₂:List β},Paired F l₁ l₂->(∀ a b,F a b->G a b)->Paired G l₁ l₂
 |_,_,.nil,_=>.nil
 |_,_,.cons r t,f=>.cons (f _ _ r) (Paired.GK t f)
def ck.stay (x:ck P w H h a o)(k:∀ b u,(b=a\/H b=some (.own a))->h.get? b=some u->h'.get? b=some u)
  (ho:∀ b,H b=some (.own a)->H' b=some (.own a)) (ht:∀ b xs,H b=some (.tup xs)->H' b=some (.tup xs)):ck P w H' h' a o:=by
 induction o with
 |lst xs=>obtain⟨z,its,n,r,e⟩:=x;exact⟨z,its,n,r,k _ _ (.inl rfl) e⟩| tup xs=>obtain⟨z,its,r,n,e⟩:=x;exact⟨z,its,r,n,k _ _ (.inl rfl) e⟩| dK kvs ep=>obtain⟨z,y,vs,r,ob,es,e,c⟩:=x;exact⟨z,y,vs,r,ob,es,k _ _ (.inl rfl) e,c⟩
 | dT kvs ep =>
  obtain⟨z,y,xs,r,ob,es,e,c⟩:=x;exact⟨z,y,xs,Paired.GK r λ p q z=>⟨z.1,ht _ _ z.2.1,z.2.2⟩,ob,es,k _ _ (.inl rfl) e,c⟩
 |set S n=>obtain⟨ob,es,ep,t,e,c⟩:=x;exact⟨ob,es,ep,t,k _ _ (.inl rfl) e,c⟩
 | ins C dx fs =>
  obtain⟨d,z,ne,e,mA,⟨od,es,ep,e2,c⟩,r⟩:=x;exact⟨ho _ d,z,ne,k _ _ (.inl rfl) e,mA,⟨od,es,ep,k _ _ (.inr d) e2,c⟩,r⟩
 |own y=>obtain⟨ob,e⟩:=x;exact⟨ob,k _ _ (.inl rfl) e⟩| xd fs=>obtain⟨mA,⟨od,es,ep,e,c⟩,r⟩:=x;exact⟨mA,⟨od,es,ep,k _ _ (.inl rfl) e,c⟩,r⟩| K9 lo hi=>obtain⟨t,u,v,e⟩:=x;exact⟨t,u,v,k _ _ (.inl rfl) e⟩| aq ob u ih=>obtain⟨e,q⟩:=x;exact⟨k _ _ (.inl rfl) e,ih q⟩
 | GU ps =>
  have e:h.get? a=some { cls:=.none,data:=.fields ps }:=x;show h'.get? a=some { cls:=.none,data:=.fields ps };exact k a _ (.inl rfl) e
 | met f y =>
  have e:h.get? a=some (PySem.W.methodObj (.ref f) (.ref y)):=x;show h'.get? a=some (PySem.W.methodObj (.ref f) (.ref y));exact k a _ (.inl rfl) e
 |ext φ=>obtain⟨p,⟨o,e⟩,st⟩:=x;exact⟨st _ _ p λ o q=>k _ _ (.inl rfl) q,⟨o,k _ _ (.inl rfl) e⟩,st⟩
def jA.lt (x:jA P w H h)(e:H a=some o):a<h.objs.size:=(x a o e).lt
def jA.fresh (x:jA P w H h)(e:h.objs.size<=a):H a=none:=by
 cases q:H a with
 |none=>rfl|some u=>exact absurd (Ng (x.lt q) e) (NG _)
def jA.kept (x:jA P w H h)(k:∀ b u,h.get? b=some u->h'.get? b=some u):jA P w H h':=λ a o e=>
 (x a o e).stay (λ b u _ q=>k b u q) (λ _ q=>q) λ _ _ q=>q
def jA.laid (x:jA P w H h)(k:∀ b u,h.get? b=some u->h'.get? b=some u)(hp:h.objs.size<=a)(new:ck P w (upd H a o) h' a o):jA P w (upd H a o) h':=λ b u e=>by
 have hn:=x.fresh hp;by_cases hb:b=a
 ·subst hb;rw[bB]at e;cases e;exact new
 ·rw[aU hb]at e;exact(x b u e).stay (λ c v _ q=>k c v q) (λ c q=>by rw[aU (bC q hn)];exact q) λ c xs q=>by rw[aU (bC q hn)];exact q
end
def Rd (H:Hp)(a:Addr)(u:HO):Prop:=H a=some u\/∃ o,H a=some (.aq o u)
def Rd.ok{u:HO}(r:Rd H a u)(x:jA P w H h):ck P w H h a u:=by
 rcases r with r|⟨o,r⟩
 ·exact x a u r
 ·obtain⟨_,q⟩:=x a _ r;exact q
def Jw:Option HO->Prop
 |some (.lst _)=>True
 |some (.dK _ _)=>True
 |some (.dT _ _)=>True
 |some (.set _ _)=>True
 |some (.ins _ _ _)=>True
 |some (.ext _)=>True
 |_=>False
section
variable{x e:Addr}{o':HO}
def jA.write (ok:jA P w H h)(mu:Jw (H x))(he:e=x\/H e=some (.own x))(k:∀ b u,b≠e->h.get? b=some u->h'.get? b=some u)(heo:∃ u,h'.get? e=some u)
  (new:ck P w (upd H x o') h' x o'):jA P w (upd H x o') h':=λ b u q=>by
 have nown:∀ c y,H c=some (.own y)->c≠x:=λ c y r z=>by subst z;rw[r]at mu;exact mu
 have ntup:∀ c xs,H c=some (.tup xs)->c≠x:=λ c xs r z=>by subst z;rw[r]at mu;exact mu
 by_cases hb:b=x
 ·subst hb;rw[bB]at q;cases q;exact new
 ·rw[aU hb]at q;by_cases hbe:b=e
  ·have q':H b=some (.own x):=by
    rcases he with z|z
    ·exact absurd (hbe.trans z) hb
    ·rw[hbe];exact z
   rw[q]at q';cases q';obtain⟨v,hv⟩:=heo;exact⟨v,by rw[hbe];exact hv⟩
  ·refine(ok b u q).stay (λ c v hc r=>k c v ?_ r) (λ c r=>by rw[aU (nown c b r)];exact r) λ c xs r=>by rw[aU (ntup c xs r)];exact r
   rcases hc with rfl|hc
   ·exact hbe
   ·rintro rfl;rcases he with z|z
    ·exact nown c b hc z
    ·rw[hc]at z;cases z;exact hb rfl
end
structure Un (fs ex:List Addr)(H H':Hp)(h h':Heap):Prop where
 keep:∀ b o,h.get? b=some o->H b=none->b∉fs->b∉ex->h'.get? b=some o
 slot:∀ b o,h.get? b=some o->H b=none->b∈fs->b∉ex->∃ sl,h'.get? b=some { o with slots:=sl }
 free:∀ b o,h.get? b=some o->H b=none->b∉ex->H' b=none
 there:∀ b o,h.get? b=some o->b∉ex->∃ o',h'.get? b=some o'
 tups:∀ b xs,H b=some (.tup xs)->H' b=some (.tup xs)
 qY:∀ b o u,H b=some (.aq o u)->H' b=some (.aq o u)
 tN:∀ b ps,H b=some (.GU ps)->∃ more,H' b=some (.GU (ps++more))
section
variable {fs fs' ex ex':List Addr}{H1 H2:Hp}{h1 h2:Heap}{x e:Addr}
def Un.any (u:Un fs ex H H1 h h1){ob:Obj}(q:h.get? b=some ob)(n:H b=none)(hx:b∉ex):∃ sl,h1.get? b=some { ob with slots:=sl }:=by
 by_cases hb:b∈fs
 ·exact u.slot b ob q n hb hx
 ·exact⟨ob.slots,u.keep b ob q n hb hx⟩
def Un.kept (k:∀ b u,h.get? b=some u->h'.get? b=some u):Un fs ex H H h h':=
 ⟨λ b ob q _ _ _=>k b ob q,λ b ob q _ _ _=>⟨ob.slots,k b ob q⟩,λ _ _ _ n _=>n,λ b ob q _=>⟨ob,k b ob q⟩,λ _ _ q=>q,λ _ _ _ q=>q,λ _ ps q=>⟨#[],by rw[q];simp⟩⟩
def Un.refl:Un fs ex H H h h:=Un.kept λ _ _ q=>q
def Un.laid (k:∀ b u,h.get? b=some u->h'.get? b=some u)(hp:h.objs.size<=a)(hn:H a=none):Un fs ex H (upd H a o) h h' where
 keep:=λ b u q _ _ _=>k b u q
 slot:=λ b u q _ _ _=>⟨u.slots,k b u q⟩
 free:=λ b u q n _=>by rw[aU (M0 (Ng (MJ q) hp))];exact n
 there:=λ b u q _=>⟨u,k b u q⟩
 tups:=λ b xs q=>by rw[aU (bC q hn)];exact q
 qY:=λ b u xs q=>by rw[aU (bC q hn)];exact q
 tN:=λ b ps q=>⟨#[],by rw[aU (bC q hn),q];simp⟩
def Un.write (mu:Jw (H x))(he:e=x\/H e=some (.own x))(k:∀ b u,b≠e->h.get? b=some u->h'.get? b=some u)(heo:∃ u,h'.get? e=some u):Un fs ex H (upd H x o) h h':=by
 have hx:∀ b,H b=none->b≠x:=λ b n z=>by subst z;rw[n]at mu;exact mu
 have hb:∀ b,H b=none->b≠e:=λ b n z=>by
  subst z;rcases he with r|r
  ·exact hx b n r
  ·rw[n]at r;cases r
 have hm:∀ b u,H b=some u->¬ Jw (some u)->b≠x:=λ b u q nm z=>by subst z;rw[q]at mu;exact nm mu
 refine⟨λ b u q n _ _=>k b u (hb b n) q,λ b u q n _ _=>⟨u.slots,k b u (hb b n) q⟩,λ b u q n _=>by rw[aU (hx b n)];exact n,λ b u q _=>?_,
  λ b xs q=>by rw[aU (hm b _ q λ z=>z)];exact q,λ b u xs q=>by rw[aU (hm b _ q λ z=>z)];exact q,λ b ps q=>⟨#[],by rw[aU (hm b _ q λ z=>z),q];simp⟩⟩
 by_cases hbe:b=e
 ·subst hbe;exact heo
 ·exact⟨u,k b u hbe q⟩
end
def KI (h:Heap)(H:Hp):List Addr:=(List.range h.objs.size).filter λ a=>(H a).isSome
def tL (h:Heap)(H:Hp):Heap:=PySem.W.hideAll h (KI h H)
def zS (h:Heap)(H:Hp):(tL h H).objs.size=h.objs.size:=PySem.W.hideAll_size _ _
def Bu{o:Obj}(e:h.get? b=some o)(n:H b=none):(tL h H).get? b=some o:=
 PySem.W.hideAll_get _ e λ hm=>by
  have q:(H b).isSome=true:=(N7.mp hm).2;rw[n]at q;simp at q
def Ek{o:Obj}(e:(tL h H).get? b=some o):h.get? b=some o/\H b=none:=by
 have e':h.get? b=some o:=PySem.W.of_hideAll (KI h H) e;refine⟨e',?_⟩;cases q:H b with
 |none=>rfl
 | some x =>
  have hm:b∈KI h H:=N7.mpr ⟨M3.mpr (MJ e'),by simp[q]⟩;have z:(tL h H).get? b=none:=PySem.W.hideAll_none (KI h H) hm;rw[z]at e;cases e
structure Mod (K:PySem.W.Frag)(mg:Str->Option Value)(base:Heap):Prop where
 La:K.In base
 glob:base.Ns mainGlobals mg
 blt:∃ mb,base.Ns builtinsNs mb/\∀ x:Str,x ≠ "__name__" -> mb x=bootBuiltins x
 nolimit:base.NoLimit
structure Cx where
 prog:Program
 w:World
 K:PySem.W.Frag
 mg:Str->Option Value
 base:Heap
 A:Around
 N:List Str
 s₀:Shared
 H₀:Hp
 env:Env
 outer:List Env
 stack:List Env
 ex:List Addr
 fn:Str->Bool
 calm:Bool
 pn:List (Addr×Obj)
 xe:Value->Shared->Prop
variable {X:Cx}
def frs (l:List Env):List Addr:=l.filterMap (·.frame)
abbrev Cx.fs (X:Cx):List Addr:=frs X.outer
def wR (sc:Scope)(x:Str):Prop:=sc.names.lookup x=some .local\/sc.names.lookup x=some .cell\/sc.names.lookup x=some .free
def Loc (sc:Scope)(x:Str):Prop:=sc.names.lookup x=some .local\/sc.names.lookup x=some .cell
def Look (env:Env)(h:Heap)(m:Str->Option Value)(x:Str)(u:Value):Prop:=
 (env.kindOf x=some .local/\m x=some u)\/((env.kindOf x=some .cell\/env.kindOf x=some .free)/\∃ c,env.cells.lookup x=some c/\h.IsCell c (some u))
structure Cx.Ok (X:Cx):Prop where
 mod:Mod X.K X.mg X.base
 kind:X.env.scope.kind=.function
 glob:X.env.globals=mainGlobals
 blt:X.env.builtins=builtinsNs
 above:X.s₀.heap.objs.size<=X.env.locals
 inj:∀ x y c,X.env.cells.lookup x=some c->X.env.cells.lookup y=some c->x=y
 has:∀ x,(X.env.kindOf x=some .cell\/X.env.kindOf x=some .free)->∃ c,X.env.cells.lookup x=some c
 Jb:∀ x c,X.fn x=true->X.env.cells.lookup x=some c->X.s₀.heap.objs.size<=c
 hd:X.calm=true->X.A.handled=none
 frames:X.A.frames=some X.stack
 Jl:X.stack=X.outer\/(X.stack=X.env::X.outer/\X.env.frame=some X.env.locals)
 KP:∀ b∈X.ex,b≠X.env.locals/\∀ x c,X.env.cells.lookup x=some c->c≠b
 bs:∀ b o,X.base.get? b=some o->X.s₀.heap.get? b=some o/\X.H₀ b=none
 Ef:X.base.objs.size<=X.s₀.heap.objs.size
 zZ:∀ b o,X.base.get? b=some o->b∉X.ex
 Ab:∀ b∈X.ex,b∉X.fs
 o4:X.s₀.heap.FunFrames X.base X.outer
 GJ:∀ b∈X.fs,X.H₀ b=none
structure Inv (X:Cx)(pins:List (Addr×Obj))(σ:List (Option V))(H:Hp)(s:Shared):Prop where
 ok:X.Ok
 os:s.os=X.s₀.os
 bare:AllBare s.gens
 base:Un X.fs X.ex X.H₀ H X.s₀.heap s.heap
 loc:∃ m,s.heap.Ns X.env.locals m/\∀ (i:Nat) (x:Str) (v:V),X.N[i]?=some x->σ[i]?=some (some v)->wR X.env.scope x->∃ u,RelV v u/\Look X.env s.heap m x u
 cell:∀ x c,X.env.cells.lookup x=some c->∃ v,s.heap.IsCell c v
 free:H X.env.locals=none
 ku:∀ x c,X.env.cells.lookup x=some c->H c=none
 pin:∀ p∈X.pn++pins,s.heap.get? p.1=some p.2/\H p.1=none/\p.1≠X.env.locals/\p.1∉X.fs/\∀ v,p.2.data ≠ .cell v
 hok:jA X.prog X.w H s.heap
 len:σ.length=X.N.length
section
variable{σ:List (Option V)}
def Cx.Ok.K5 (ok:X.Ok){o:Obj}(e:X.base.get? b=some o):b∉X.fs:=λ hb=>by
 have:=(ok.o4.mem hb).1;rw[e]at this;cases this
def Inv.bs (I:Inv X pins σ H s):∀ b o,X.base.get? b=some o->s.heap.get? b=some o/\H b=none:=λ b o e=>
 ⟨I.base.keep b o (I.ok.bs b o e).1 (I.ok.bs b o e).2 (I.ok.K5 e) (I.ok.zZ b o e),I.base.free b o (I.ok.bs b o e).1 (I.ok.bs b o e).2 (I.ok.zZ b o e)⟩
def Inv.bk (I:Inv X pins σ H s):∀ b o,X.base.get? b=some o->s.heap.get? b=some o:=λ b o e=>(I.bs b o e).1
def Inv.mod (I:Inv X pins σ H s):Mod X.K X.mg X.base:=I.ok.mod
def Inv.tG (I:Inv X pins σ H s):X.K.In s.heap:=I.ok.mod.La.keeps I.bk
def Inv.lt (I:Inv X pins σ H s):X.env.locals<s.heap.objs.size:=let ⟨_,hn,_⟩:=I.loc;hn.lt
def Inv.sz (I:Inv X pins σ H s):X.s₀.heap.objs.size<=s.heap.objs.size:=NX I.ok.above (Ow I.lt)
def Inv.Ld (I:Inv X pins σ H s)(h:s.heap.objs.size<=a):a∉X.fs:=λ hb=>by
 obtain⟨_,o,ho,_⟩:=I.ok.o4.mem hb;exact absurd (Ng (MJ ho) (NX I.sz h)) (NG _)
def Inv.GV (I:Inv X pins σ H s):∀ x c,X.env.cells.lookup x=some c->c≠X.env.locals:=λ x c e z=>by
 obtain⟨v,o,ho,hd⟩:=I.cell x c e;obtain⟨m,⟨o',es,ep,ho',hd',_⟩,_⟩:=I.loc;rw[z,ho']at ho;cases ho;rw[hd']at hd;cases hd
def Inv.o4 (I:Inv X pins σ H s):s.heap.FunFrames X.base X.outer:=by
 have all:∀ (l:List Env),(∀ b∈frs l,b∈X.fs)->X.s₀.heap.FunFrames X.base l->s.heap.FunFrames X.base l:=by
  intro l
  induction l with
  |nil=>intro _ _;trivial
  | cons env r ih =>
   intro hs hl;obtain⟨hk,⟨L,o,hf,hn,ho,hd⟩,hr⟩:=hl;have hL:L∈X.fs:=hs L (by unfold frs;rw[Qq,hf];exact MD);obtain⟨sl,e⟩:=I.base.slot L o ho (I.ok.GJ L hL) hL λ z=>I.ok.Ab L z hL;exact⟨hk,⟨L,_,hf,hn,e,hd⟩,ih (λ b hb=>hs b (by unfold frs;rw[Qq,hf];exact ME _ hb)) hr⟩
 exact all X.outer (λ _ hb=>hb) I.ok.o4
def Inv.stack (I:Inv X pins σ H s):s.heap.FunFrames X.base X.stack:=by
 rcases I.ok.Jl with e|⟨e,hf⟩
 ·rw[e];exact I.o4
 ·rw[e];obtain⟨m,hn,_⟩:=I.loc;refine .cons (by rw[I.ok.kind];decide) hf hn ?_ I.o4;exact Heap.get?_none_of_le (NX I.ok.Ef I.ok.above)
def Inv.tK (I:Inv X pins σ H s):∀ b∈frs X.stack,b∈X.env.locals::X.fs:=λ b hb=>by
 rcases I.ok.Jl with e|⟨e,hf⟩
 ·rw[e]at hb;exact ME _ hb
 ·rw[e]at hb;unfold frs at hb;rw[Qq,hf]at hb;exact hb
def Inv.yw (I:Inv X pins σ H s):∀ b∈frs X.stack,H b=none:=λ b hb=>by
 rcases MK.mp (I.tK b hb) with e|hb
 ·rw[e];exact I.free
 ·obtain⟨_,o,ho,_⟩:=I.ok.o4.mem hb;exact I.base.free b o ho (I.ok.GJ b hb) λ z=>I.ok.Ab b z hb
def Inv.step {g':Array GenState}{d':Drawn}(I:Inv X pins σ H s)
  (hch:∀ b∈ch,(b∈X.ex\/X.s₀.heap.objs.size<=b)/\b≠X.env.locals/\(∀ x c,X.env.cells.lookup x=some c->c≠b)/\∀ p∈X.pn++pins,p.1≠b)
  (keep:∀ b o,b≠X.env.locals->b∉X.fs->b∉ch->s.heap.get? b=some o->H b=none->h'.get? b=some o)
  (slot:∀ b o,b≠X.env.locals->b∈X.fs->b∉ch->s.heap.get? b=some o->H b=none->∃ sl,h'.get? b=some { o with slots:=sl }) (free:∀ b o,b∉ch->s.heap.get? b=some o->H b=none->H' b=none)
  (there:∀ b o,b∉ch->s.heap.get? b=some o->∃ o',h'.get? b=some o')
  (tups:∀ b xs,H b=some (.tup xs)->H' b=some (.tup xs)) (qY:∀ b o u,H b=some (.aq o u)->H' b=some (.aq o u)) (tN:∀ b ps,H b=some (.GU ps)->∃ more,H' b=some (.GU (ps++more)))
  (ns:∀ m,s.heap.Ns X.env.locals m->h'.Ns X.env.locals m) (hok:jA X.prog X.w H' h') (hg:AllBare g') :
  Inv X pins σ H' { s with heap:=h',gens:=g',drawn:=d',toks:=t' }:=by
 have neL:∀ b o,X.s₀.heap.get? b=some o->b≠X.env.locals:=λ b o e=>M0 (Ng (MJ e) I.ok.above);have neC:∀ b o,X.s₀.heap.get? b=some o->b∉X.ex->b∉ch:=λ b o e hx hb=>by
  rcases (hch b hb).1 with z|z
  ·exact hx z
  ·exact absurd (Ng (MJ e) z) (NG _)
 have cellK:∀ x c,X.env.cells.lookup x=some c->∀ v,s.heap.IsCell c v->h'.IsCell c v:=λ x c e v ⟨o,ho,hd⟩=>by
  have nch:c∉ch:=λ z=>(hch c z).2.2.1 x c e rfl;by_cases hc:c∈X.fs
  ·obtain⟨sl,q⟩:=slot c o (I.GV x c e) hc nch ho (I.ku x c e);exact⟨_,q,hd⟩
  ·exact⟨o,keep c o (I.GV x c e) hc nch ho (I.ku x c e),hd⟩
 refine⟨I.ok,I.os,hg,⟨λ b o e n hb hx=>?_,λ b o e n hb hx=>?_,λ b o e n hx=>?_,λ b o e hx=>?_,λ b xs e=>tups b xs (I.base.tups b xs e),λ b o xs e=>qY b o xs (I.base.qY b o xs e),λ b ps e=>?_⟩,?_,λ x c e=>?_,?_,λ x c e=>?_,λ p hp=>?_,hok,I.len⟩
 ·exact keep b o (neL b o e) hb (neC b o e hx) (I.base.keep b o e n hb hx) (I.base.free b o e n hx)
 ·obtain⟨sl,e1⟩:=I.base.slot b o e n hb hx;obtain⟨sl',e2⟩:=slot b _ (neL b o e) hb (neC b o e hx) e1 (I.base.free b o e n hx);exact⟨sl',e2⟩
 ·obtain⟨o',e1⟩:=I.base.there b o e hx;exact free b o' (neC b o e hx) e1 (I.base.free b o e n hx)
 ·obtain⟨o',e1⟩:=I.base.there b o e hx;exact there b o' (neC b o e hx) e1
 ·obtain⟨m1,e1⟩:=I.base.tN b ps e;obtain⟨m2,e2⟩:=tN b _ e1;exact⟨m1++m2,by rw[e2,Array.append_assoc]⟩
 ·obtain⟨m,hn,hl⟩:=I.loc;refine⟨m,ns m hn,λ i x v e1 e2 e3=>?_⟩;obtain⟨u,r,l⟩:=hl i x v e1 e2 e3;refine⟨u,r,?_⟩;rcases l with l|⟨k,c,e,z⟩
  ·exact .inl l
  ·exact .inr ⟨k,c,e,cellK x c e _ z⟩
 ·obtain⟨v,z⟩:=I.cell x c e;exact⟨v,cellK x c e v z⟩
 ·obtain⟨m,⟨o,_,_,ho,_⟩,_⟩:=I.loc;exact free _ o (λ z=>(hch _ z).2.1 rfl) ho I.free
 ·obtain⟨v,o,ho,hd⟩:=I.cell x c e;exact free c o (λ z=>(hch c z).2.2.1 x c e rfl) ho (I.ku x c e)
 ·obtain⟨e,n,ne,nf,d⟩:=I.pin p hp;have nch:p.1∉ch:=λ z=>(hch p.1 z).2.2.2 p hp rfl;exact⟨keep p.1 p.2 ne nf nch e n,free p.1 p.2 nch e n,ne,nf,d⟩
def Inv.un(I:Inv X pins σ H s)(u:Un X.fs [] H H' s.heap h')(hok:jA X.prog X.w H' h'):Inv X pins σ H' { s with heap:=h',toks:=t' }:=by
 obtain⟨m,⟨o,es,ep,ho,r⟩,_⟩:=id I.loc;obtain⟨sl,hL⟩:=u.any ho I.free (by simp);exact I.step (g':=s.gens) (d':=s.drawn) (ch:=[]) (λ _ z=>nomatch z) (λ b o _ hb _ e n=>u.keep b o e n hb (by simp)) (λ b o _ hb _ e n=>u.slot b o e n hb (by simp)) (λ b o _ e n=>u.free b o e n (by simp)) (λ b o _ e=>u.there b o e (by simp)) u.tups u.qY u.tN (λ m' hm=>by
  obtain⟨o',es',ep',ho',r'⟩:=hm;rw[ho]at ho';cases ho';exact⟨_,es',ep',hL,r'⟩) hok I.bare
def Inv.call {g':Array GenState}{d':Drawn}(I:Inv X pins σ H s)(u:Un (frs X.stack) ch H H' s.heap h')(hok:jA X.prog X.w H' h')(hg:AllBare g')
  (hch:∀ b∈ch,(b∈X.ex\/X.s₀.heap.objs.size<=b)/\b≠X.env.locals/\(∀ x c,X.env.cells.lookup x=some c->c≠b)/\∀ p∈X.pn++pins,p.1≠b) :
  Inv X pins σ H' { s with heap:=h',gens:=g',drawn:=d',toks:=t' }:=by
 obtain⟨m,⟨o,es,ep,ho,r⟩,_⟩:=id I.loc;obtain⟨sl,hL⟩:=u.any ho I.free λ z=>(hch _ z).2.1 rfl;exact I.step (ch:=ch) hch (λ b o hL hb hc e n=>u.keep b o e n (λ z=>(MK.mp (I.tK b z)).elim hL hb) hc) (λ b o _ _ hc e n=>u.any e n hc) (λ b o hc e n=>u.free b o e n hc) (λ b o hc e=>u.there b o e hc) u.tups u.qY u.tN (λ m' hm=>by
  obtain⟨o',es',ep',ho',r'⟩:=hm;rw[ho]at ho';cases ho';exact⟨_,es',ep',hL,r'⟩) hok hg
def Inv.turned{it:Addr}(I:Inv X pins σ H s)(k:∀ b o,b≠it->s.heap.get? b=some o->h'.get? b=some o)(hn:H it=none)(hL:it≠X.env.locals)
  (h1:it∈X.ex\/X.s₀.heap.objs.size<=it) (h2:∀ x c,X.env.cells.lookup x=some c->c≠it) (h3:∀ p∈X.pn++pins,p.1≠it):Inv X pins σ H { s with heap:=h',toks:=t' }:=by
 have nit:∀ b u,H b=some u->b≠it:=λ b u e z=>by rw[z,hn]at e;cases e
 refine I.step (g':=s.gens) (d':=s.drawn) (ch:=[it]) (λ b hb=>?_) (λ b o _ _ hc e _=>k b o (λ z=>hc (by simp[z])) e) (λ b o _ _ hc e _=>⟨o.slots,k b o (λ z=>hc (by simp[z])) e⟩) (λ _ _ _ _ n=>n)
  (λ b o hc e=>⟨o,k b o (λ z=>hc (by simp[z])) e⟩) (λ _ _ e=>e) (λ _ _ _ e=>e) (λ b ps e=>⟨#[],by rw[e];simp⟩) (λ m hm=>?_) (λ b u e=>?_) I.bare
 ·have e:b=it:=by simpa using hb
  subst e;exact⟨h1,hL,h2,h3⟩
 ·obtain⟨o,es,ep,ho,r⟩:=hm;exact⟨o,es,ep,k _ o (NU hL) ho,r⟩
 ·refine(I.hok b u e).stay (λ c v hc q=>k c v ?_ q) (λ _ q=>q) λ _ _ q=>q;rcases hc with z|z
  ·rw[z];exact nit b u e
  ·exact nit c _ z
def Inv.tok (I:Inv X pins σ H s)(t:Nat):Inv X pins σ H { s with toks:=t }:=I.un (h':=s.heap) (t':=t) Un.refl I.hok
def Inv.kept(I:Inv X pins σ H s)(k:∀ b u,s.heap.get? b=some u->h'.get? b=some u):Inv X pins σ H { s with heap:=h',toks:=t' }:=I.un (Un.kept k) (I.hok.kept k)
def Inv.laid(I:Inv X pins σ H s)(k:∀ b u,s.heap.get? b=some u->h'.get? b=some u)(hp:s.heap.objs.size<=a)(new:ck X.prog X.w (upd H a o) h' a o) :
  Inv X pins σ (upd H a o) { s with heap:=h',toks:=t' }:=I.un (Un.laid k hp (I.hok.fresh hp)) (I.hok.laid k hp new)
def Inv.write {x e:Addr}(I:Inv X pins σ H s)(mu:Jw (H x))(he:e=x\/H e=some (.own x))(k:∀ b u,b≠e->s.heap.get? b=some u->h'.get? b=some u)(heo:∃ u,h'.get? e=some u)
  (new:ck X.prog X.w (upd H x o) h' x o):Inv X pins σ (upd H x o) { s with heap:=h',toks:=t' }:=I.un (Un.write mu he k heo) (I.hok.write mu he k heo new)
def Inv.yu {pins':List (Addr×Obj)}(I:Inv X pins σ H s)(h:∀ p∈pins',s.heap.get? p.1=some p.2/\H p.1=none/\p.1≠X.env.locals/\p.1∉X.fs/\∀ v,p.2.data ≠ .cell v):Inv X pins' σ H s:=
 ⟨I.ok,I.os,I.bare,I.base,I.loc,I.cell,I.free,I.ku,λ p hp=>(M4.mp hp).elim (λ z=>I.pin p (MW _ z)) (h p),I.hok,I.len⟩
def u4(hN:N.Nodup){j:Nat}(a:N[i]?=some x)(b:N[j]?=some x):i=j:=by
 obtain⟨h1,e1⟩:=MF.mp a;obtain⟨h2,e2⟩:=MF.mp b;exact(List.getElem_inj hN).mp (e1.trans e2.symm)
def rT{Q:Unit->Shared->Prop}(I:Inv X pins σ H s)(hN:X.N.Nodup)(hi:X.N[i]?=some x)(hx:Loc X.env.scope x)(r:RelV v u)
  (h:∀ s',Inv X pins (σ.set i (some v)) H s'->(∃ a,Heap.SameBut a s.heap s'.heap/\(a=X.env.locals\/X.env.cells.lookup x=some a))->Q () s') (hf:X.fn x=true\/X.env.scope.names.lookup x=some .local:=by first|exact .inl rfl|exact .inr rfl|assumption):wpAny M A (storeName X.env x u) Q E s:=by
 obtain⟨m,hn,hl⟩:=id I.loc;have hcls:(X.env.scope.kind == .class||(X.env.scope.kind == .module&&X.env.locals != X.env.globals))=false:=by rw[I.ok.kind];rfl
 have hiσ:i<σ.length:=by rw[I.len];exact(MF.mp hi).1
 have GV:=I.GV;have tracked:∀ {a:Addr}{h':Heap},(∃ o,s.heap.get? a=some o/\H a=none)->Heap.SameBut a s.heap h'->jA X.prog X.w H h':=λ {a h'} ha hs b ob e=>by
  obtain⟨_,_,hfree⟩:=ha;refine(I.hok b ob e).stay (λ c w' hc q=>(hs.2 c ?_).trans q) (λ _ q=>q) λ _ _ q=>q;rintro rfl;rcases hc with rfl|hc
  ·rw[hfree]at e;cases e
  ·rw[hfree]at hc;cases hc
 rcases hx with hk|hk
 ·refine wpAny_storeName_local hk hn (λ h' hn' hs=>?_) hcls;obtain⟨oL,_,_,hoL,_⟩:=id hn;refine h _ ⟨I.ok,I.os,I.bare,⟨λ b o e n hb hx=>?_,λ b o e n hb hx=>?_,I.base.free,λ b o e hx=>?_,I.base.tups,I.base.qY,I.base.tN⟩,⟨_,hn',λ j y v' e1 e2 e3=>?_⟩,λ y c e=>?_,I.free,I.ku,λ p hp=>?_,tracked ⟨oL,hoL,I.free⟩ hs,by simpa using I.len⟩ ⟨_,hs,.inl rfl⟩
  ·exact(hs.2 b (M0 (Ng (MJ e) I.ok.above))).trans (I.base.keep b o e n hb hx)
  ·obtain⟨sl,e1⟩:=I.base.slot b o e n hb hx;exact⟨sl,(hs.2 b (M0 (Ng (MJ e) I.ok.above))).trans e1⟩
  ·obtain⟨o',e1⟩:=I.base.there b o e hx;exact⟨o',(hs.2 b (M0 (Ng (MJ e) I.ok.above))).trans e1⟩
  ·by_cases hj:j=i
   ·subst hj;rw[hi]at e1;cases e1;rw[NP hiσ]at e2;cases e2;exact⟨u,r,.inl ⟨hk,by simp⟩⟩
   ·rw[NN (NU hj)]at e2;obtain⟨u',r',q⟩:=hl j y v' e1 e2 e3;refine⟨u',r',?_⟩;rcases q with ⟨k,e⟩|⟨k,c,e,z⟩
    ·refine .inl ⟨k,?_⟩;have:y≠x:=λ e=>hj (u4 hN e1 (e▸hi));simp[this,e]
    ·exact .inr ⟨k,c,e,z.sameBut hs (GV y c e)⟩
  ·obtain⟨w',z⟩:=I.cell y c e;exact⟨w',z.sameBut hs (GV y c e)⟩
  ·obtain⟨e,n,ne,nf,d⟩:=I.pin p hp;exact⟨(hs.2 p.1 ne).trans e,n,ne,nf,d⟩
 ·have hfn:X.fn x=true:=by
   rcases hf with z|z
   ·exact z
   ·rw[z]at hk;cases hk
  obtain⟨c,hc⟩:=I.ok.has x (.inl hk);obtain⟨w',z⟩:=I.cell x c hc;refine wpAny_storeName_cell I.ok.kind hk hc z (λ h' hc' hs=>?_);obtain⟨oc,hoc,hocd⟩:=id z;refine h { s with heap:=h' } ⟨I.ok,I.os,I.bare,⟨λ b o e n hb hx=>?_,λ b o e n hb hx=>?_,I.base.free,λ b o e hx=>?_,I.base.tups,I.base.qY,I.base.tN⟩,⟨m,hn.sameBut hs (NU (GV x c hc)),λ j y v' e1 e2 e3=>?_⟩,λ y c' e=>?_,I.free,I.ku,λ p hp=>?_,tracked ⟨oc,hoc,I.ku x c hc⟩ hs,by simpa using I.len⟩ ⟨c,hs,.inr hc⟩
  ·exact(hs.2 b (M0 (Ng (MJ e) (I.ok.Jb x c hfn hc)))).trans (I.base.keep b o e n hb hx)
  ·obtain⟨sl,e1⟩:=I.base.slot b o e n hb hx;exact⟨sl,(hs.2 b (M0 (Ng (MJ e) (I.ok.Jb x c hfn hc)))).trans e1⟩
  ·obtain⟨o',e1⟩:=I.base.there b o e hx;exact⟨o',(hs.2 b (M0 (Ng (MJ e) (I.ok.Jb x c hfn hc)))).trans e1⟩
  ·by_cases hj:j=i
   ·subst hj;rw[hi]at e1;cases e1;rw[NP hiσ]at e2;cases e2;exact⟨u,r,.inr ⟨.inl hk,c,hc,hc'⟩⟩
   ·rw[NN (NU hj)]at e2;obtain⟨u',r',q⟩:=hl j y v' e1 e2 e3;refine⟨u',r',?_⟩;rcases q with q|⟨k,c',e,z'⟩
    ·exact .inl q
    ·refine .inr ⟨k,c',e,z'.sameBut hs ?_⟩;rintro rfl;exact hj (u4 hN e1 (I.ok.inj _ _ _ e hc▸hi))
  ·by_cases hcc:c'=c
   ·subst hcc;exact⟨_,hc'⟩
   ·obtain⟨w2,z2⟩:=I.cell y c' e;exact⟨w2,z2.sameBut hs hcc⟩
  ·obtain⟨e,n,ne,nf,d⟩:=I.pin p hp;refine⟨(hs.2 p.1 ?_).trans e,n,ne,nf,d⟩;intro q;rw[q,hoc]at e;have q':oc=p.2:=Nq e;exact d w' (by rw[<-q'];exact hocd)
def u0{Q:Unit->Shared->Prop}(I:Inv X pins σ H s)(hN:X.N.Nodup)(hi:X.N[i]?=some x)(hx:Loc X.env.scope x)(r:RelV v u)
  (h:∀ s',Inv X pins (σ.set i (some v)) H s'->Q () s') (hf:X.fn x=true\/X.env.scope.names.lookup x=some .local:=by first|exact .inl rfl|exact .inr rfl|assumption):wpAny M A (storeName X.env x u) Q E s:=
 rT I hN hi hx r (λ s' I' _=>h s' I') hf
def Inv.JE(I:Inv X pins σ H s)(ho:s'.os=s.os)(u:Un (frs X.stack) ch H H' s.heap s'.heap)(hok:jA X.prog X.w H' s'.heap)(hg:AllBare s'.gens)
  (hch:∀ b∈ch,(b∈X.ex\/X.s₀.heap.objs.size<=b)/\b≠X.env.locals/\(∀ x c,X.env.cells.lookup x=some c->c≠b)/\∀ p∈X.pn++pins,p.1≠b):Inv X pins σ H' s':=by
 obtain⟨h',g',d',t',o'⟩:=s';have e:o'=s.os:=ho;subst e;exact I.call (g':=g') (t':=t') (d':=d') u hok hg hch
end
abbrev XK:=Value->Option Addr->Hp->Prop
abbrev St:=List (Option V)
variable {σ:St}
abbrev VK:=V->Hp->Prop
abbrev TE:=St->Hp->VK->Prop
variable {ta tb te:TE}
abbrev TT:=St->Hp->(Bool->Hp->Prop)->Prop
abbrev TA:=St->Hp->(List V->Hp->Prop)->Prop
structure Ends where
 nx:St->Hp->Prop
 rt:VK
 bk:St->Hp->Prop:=λ _ _=>False
 ct:St->Hp->Prop:=λ _ _=>False
abbrev TS:=Ends->St->Hp->Prop
def EP (X:Cx)(pins:List (Addr×Obj))(σ:St)(Q:VK)(u:Value)(s':Shared):Prop:=∃ v H',Inv X pins σ H' s'/\RelV v u/\Q v H'
def TP (X:Cx)(pins:List (Addr×Obj))(σ:St)(Q:Bool->Hp->Prop)(b:Bool)(s':Shared):Prop:=∃ H',Inv X pins σ H' s'/\Q b H'
def AP (X:Cx)(pins:List (Addr×Obj))(σ:St)(Q:List V->Hp->Prop)(us:List Value)(s':Shared):Prop:=∃ vs H',Inv X pins σ H' s'/\Vals vs us/\Q vs H'
def SP (X:Cx)(pins:List (Addr×Obj))(D:Ends)(f:Flow)(s':Shared):Prop:=
 match f with
 |.next=>∃ σ' H',Inv X pins σ' H' s'/\D.nx σ' H'
 |.brk=>∃ σ' H',Inv X pins σ' H' s'/\D.bk σ' H'
 |.cont=>∃ σ' H',Inv X pins σ' H' s'/\D.ct σ' H'
 |.ret u=>∃ v σ' H',Inv X pins σ' H' s'/\RelV v u/\D.rt v H'
def PE (X:Cx)(e:Expr)(t:TE):Prop:=
 ∀ (pins:List (Addr×Obj)) (s:Shared) (σ:St) (H:Hp) (Q:VK),Inv X pins σ H s->t σ H Q->wpAny (model X.prog X.w) X.A (eval e X.env) (EP X pins σ Q) X.xe s
def PT (X:Cx)(e:Expr)(t:TT):Prop:=
 ∀ (pins:List (Addr×Obj)) (s:Shared) (σ:St) (H:Hp) (Q:Bool->Hp->Prop),Inv X pins σ H s->t σ H Q->wpAny (model X.prog X.w) X.A (isTrue e X.env (eval e X.env)) (TP X pins σ Q) X.xe s
def PW (X:Cx)(e:Expr)(t:TT):Prop:=
 ∀ (whole:Sem Value) (pins:List (Addr×Obj)) (s:Shared) (σ:St) (H:Hp) (Q:Bool->Hp->Prop),Inv X pins σ H s->t σ H Q->wpAny (model X.prog X.w) X.A (isTrue e X.env whole) (TP X pins σ Q) X.xe s
def PW.pt{t:TT}(h:PW X e t):PT X e t:=h _
def PA (X:Cx)(es:List Expr)(t:TA):Prop:=
 ∀ (pos:Pos) (pins:List (Addr×Obj)) (s:Shared) (σ:St) (H:Hp) (Q:List V->Hp->Prop),Inv X pins σ H s->t σ H Q->wpAny (model X.prog X.w) X.A (spliced (backTo pos (starEach es X.env))) (AP X pins σ Q) X.xe s
def PS (X:Cx)(st:Stmt)(t:TS):Prop:=
 ∀ (pins:List (Addr×Obj)) (s:Shared) (σ:St) (H:Hp) (D:Ends),Inv X pins σ H s->t D σ H->wpAny (model X.prog X.w) X.A (exec st X.env) (SP X pins D) X.xe s
def mF (X:Cx)(st:List Stmt)(t:TS):Prop:=
 ∀ (pins:List (Addr×Obj)) (s:Shared) (σ:St) (H:Hp) (D:Ends),Inv X pins σ H s->t D σ H->wpAny (model X.prog X.w) X.A (execs st X.env) (SP X pins D) X.xe s
def eB {α:Type}{t:Sem α}{Q Q':α->Shared->Prop}(h:wpAny M A t Q E s)(hQ:∀ a s,Q a s->Q' a s):wpAny M A t Q' E s:=Om h hQ λ _ _ x=>x
section
def Lh (i:Nat):TE:=λ σ H Q=>∃ v,σ[i]?=some (some v)/\Q v H
def tC (v:V):TE:=λ _ H Q=>Q v H
def gP(hN:X.N[i]?=some x)(hv:wR X.env.scope x)(hd:(x == ("__debug__" : Str))=false:=by decide)(hcd:(x == ("__classdict__" : Str))=false:=by decide):PE X (.Name x pos) (Lh i):=by
 intro pins s σ H Q I h;obtain⟨v,e,h⟩:=h;obtain⟨m,hn,hl⟩:=I.loc;obtain⟨u,r,l⟩:=hl i x v hN e hv;have fin:EP X pins σ Q u s:=⟨v,H,I,r,h⟩;rcases l with ⟨hk,hm⟩|⟨hk,c,hc,hcell⟩
 ·exact wpAny_Name (wpAny_loadName_local I.ok.kind hk hn hm fin) hd
 ·rcases hk with hk|hk
  ·exact wpAny_Name (wpAny_loadName_cell I.ok.kind hk hc hcell fin) hd
  ·exact wpAny_Name (wpAny_loadName_free I.ok.kind hk hc hcell fin hcd) hd
def G6 {i j pos}:PE X (.Constant (.int i) j pos) (tC (.int i)):=λ _ _ _ H _ I h=>wpAny_Constant_int ⟨.int i,H,I.tok _,⟨_,rfl⟩,h⟩
def Jz {b j pos}:PE X (.Constant (.bool b) j pos) (tC (.bl b)):=λ _ _ _ H _ I h=>Constant_bool ⟨.bl b,H,I,rfl,h⟩
def Hc {j pos}:PE X (.Constant .none j pos) (tC .bJ):=λ _ _ _ H _ I h=>Constant_none ⟨.bJ,H,I,rfl,h⟩
def Gl (X:Cx)(x:Str):Prop:=X.env.kindOf x=some .globalImplicit
def Ej(I:Inv X pins σ H s)(hg:Gl X x)(hm:X.mg x=some u)(h:Q u s)
  (hd:(x == ("__debug__" : Str))=false:=by decide):wpAny (model X.prog X.w) X.A (eval (.Name x pos) X.env) Q E s:=
 Calls.Name_function_global I.ok.kind hg (Calls.loadGlobal_global (by rw[I.ok.glob];exact I.mod.glob.keeps I.bk) hm h) hd
def kq(I:Inv X pins σ H s)(hg:Gl X x)(hm:X.mg x=none)(hv:bootBuiltins x=some u)(h:Q u s)
  (hn:x ≠ "__name__" :=by decide) (hd:(x == ("__debug__" : Str))=false:=by decide):wpAny (model X.prog X.w) X.A (eval (.Name x pos) X.env) Q E s:=by
 obtain⟨mb,h1,h2⟩:=I.mod.blt;exact Calls.Name_function_global I.ok.kind hg (Calls.loadGlobal_builtin (by rw[I.ok.glob];exact I.mod.glob.keeps I.bk) hm (by rw[I.ok.blt];exact h1.keeps I.bk) ((h2 x hn).trans hv) h) hd
def Ea(hg:Gl X x)(hm:X.mg x=none)(hv:bootBuiltins x=some u)(r:RelV v u)(hn:x ≠ "__name__" :=by decide)(hd:(x == ("__debug__" : Str))=false:=by decide):PE X (.Name x pos) (tC v):=
 λ _ _ _ H _ I h=>kq I hg hm hv ⟨v,H,I,r,h⟩ hn hd
variable {a b:Expr}
def tB (t:TE):TT:=λ σ H Q=>t σ H λ x H1=>∃ c,x=.bl c/\Q c H1
def GH{t:TE}(h:PE X e t)(he:∀ whole,isTrue e X.env whole=(do let v <-whole;standAt e.pos;holding [v] (truthy v)):=by intro _;rfl):PT X e (tB t):=by
 intro pins s σ H Q I hw;refine isTrue_plain (eB (h pins s σ H _ I hw) λ v s1 hq5=>L2.ex5 hq5 λ x H1 I1 r1 q1=>?_) (he _);obtain⟨d,rfl,q⟩:=q1;cases r1;exact PN ⟨H1,I1,q⟩
variable {tA tB':TT}{rest:List Expr}
def Lj (t u:TT):TT:=λ σ H Q=>t σ H λ c H1=>if c=true then u σ H1 Q else Q false H1
def Mk (t u:TT):TT:=λ σ H Q=>t σ H λ c H1=>if c=true then Q true H1 else u σ H1 Q
def Lm (t:TT):TT:=λ σ H Q=>t σ H λ c H1=>Q (!c) H1
def D8 (ha:PT X a tA):PW X (.BoolOp .And [a] pos) tA:=by
 intro wh pins s σ H Q I h;refine isTrue_and (eB (ha pins s σ H Q I h) λ c s1 e=>?_);cases c with
 |true=>exact isTrue_and_nil e|false=>exact e
def GY (ha:PT X a tA):PW X (.BoolOp .Or [a] pos) tA:=by
 intro wh pins s σ H Q I h;refine isTrue_or (eB (ha pins s σ H Q I h) λ c s1 e=>?_);cases c with
 |false=>exact isTrue_or_nil e|true=>exact e
def G4 (ha:PT X a tA)(hb:PW X (.BoolOp .And (b::rest) pos) tB'):PW X (.BoolOp .And (a::b::rest) pos) (Lj tA tB'):=by
 intro wh pins s σ H Q I h;refine isTrue_and (eB (ha pins s σ H _ I h) λ c s1 ⟨H1,I1,q1⟩=>?_);cases c with
 |true=>exact hb wh pins s1 σ H1 Q I1 q1|false=>exact⟨H1,I1,q1⟩
def JF (ha:PT X a tA)(hb:PW X (.BoolOp .Or (b::rest) pos) tB'):PW X (.BoolOp .Or (a::b::rest) pos) (Mk tA tB'):=by
 intro wh pins s σ H Q I h;refine isTrue_or (eB (ha pins s σ H _ I h) λ c s1 ⟨H1,I1,q1⟩=>?_);cases c with
 |true=>exact⟨H1,I1,q1⟩| false=>exact hb wh pins s1 σ H1 Q I1 q1
def G9 (ha:PT X a tA):PT X (.UnaryOp .Not a pos) (Lm tA):=by
 intro pins s σ H Q I h;exact isTrue_not (ha pins s σ H (λ c H1=>Q (!c) H1) I h)
def JB (ta tb:TE):TE:=λ σ H Q=>ta σ H λ x H1=>∃ c,x=.bl c/\if c=true then tb σ H1 Q else Q (.bl false) H1
def JC (ta:TE):TE:=λ σ H Q=>ta σ H λ x H1=>∃ c,x=.bl c/\Q (.bl (!c)) H1
def G1 {op}{t:TE}(h:PE X a t):PE X (.BoolOp op [a] pos) t:=λ pins s σ H Q I hw=>BoolOp_one (h pins s σ H Q I hw)
def GL (ha:PE X a ta)(hb:PE X (.BoolOp .And (b::rest) pos) tb):PE X (.BoolOp .And (a::b::rest) pos) (JB ta tb):=by
 intro pins s σ H Q I h;refine BoolOp_and (eB (ha pins s σ H _ I h) λ v s1 hq5=>L2.ex5 hq5 λ x H1 I1 r1 q1=>?_);obtain⟨c,rfl,q1⟩:=q1;cases r1;refine PN ?_;cases c with
 |true=>exact hb pins s1 σ H1 Q I1 q1|false=>exact⟨.bl false,H1,I1,rfl,q1⟩
def Ha (ha:PE X a ta):PE X (.UnaryOp .Not a pos) (JC ta):=by
 intro pins s σ H Q I h;refine UnaryOp_ (eB (ha pins s σ H _ I h) λ v s1 hq5=>L2.ex5 hq5 λ x H1 I1 r1 q1=>?_);obtain⟨c,rfl,q1⟩:=q1;cases r1;exact not_of (PN ⟨.bl (!c),H1,I1,rfl,q1⟩)
def Mj (t:TT)(ta tb:TE):TE:=λ σ H Q=>t σ H λ c H1=>if c=true then ta σ H1 Q else tb σ H1 Q
def Bm(hc:PT X c tA)(ha:PE X a ta)(hb:PE X b tb):PE X (.IfExp c a b pos) (Mj tA ta tb):=by
 intro pins s σ H Q I h;refine wpAny_IfExp (eB (hc pins s σ H _ I h) λ d s1 ⟨H1,I1,q1⟩=>?_);cases d with
 |true=>exact ha pins s1 σ H1 Q I1 q1|false=>exact hb pins s1 σ H1 Q I1 q1
end
def dR (K:PySem.W.Frag)(H:Hp)(a:Addr)(xs:List V):Prop:=
 Rd H a (.lst xs) ∨
  ∃ (o:Obj) (its:Array Value) (n:Nat),K.lookup a=some o/\o.cls=.type "list" /\ o.dict=none/\o.data=.seq its n/\its.size<=sizeLine/\Vals xs its.toList
def jd (K:PySem.W.Frag)(H:Hp)(a:Addr)(xs:List V):Prop:=
 Rd H a (.tup xs) ∨
  ∃ (o:Obj) (its:Array Value) (n:Nat),K.lookup a=some o/\o.cls=.type "tuple" /\ o.data=.seq its n/\its.size<=sizeLine/\Vals xs its.toList
def Le:Value->Option V
 |.none=>some .bJ
 |.bool b=>some (.bl b)
 |.int i _=>some (.int i)
 |.str x _=>some (.str x)
 |.bytes b _=>some (.Bg b)
 |.float b _=>some (.Ja b)
 |.ref a=>some (.ref a)
 |.type n=>some (.ty n)
 |_=>none
def RelV.abs {x:V}(r:RelV x u):Le u=some x:=by
 cases x with
 |bJ=>cases r;rfl|bl _=>cases r;rfl|int _=>obtain⟨t,rfl⟩:=r;rfl|str _=>obtain⟨t,rfl⟩:=r;rfl|Bg _=>obtain⟨t,rfl⟩:=r;rfl|Ja _=>obtain⟨t,rfl⟩:=r;rfl|ref _=>cases r;rfl|ty _=>cases r;rfl
def RelV.inj {x y:V}(r:RelV x u)(q:RelV y u):x=y:=Nq (r.abs.symm.trans q.abs)
def Vals.inj:∀ {xs ys:List V}{us:List Value},Vals xs us->Vals ys us->xs=ys
 |_,_,_,.nil,.nil=>rfl|_,_,_,.cons r t,.cons r' t'=>by rw[r.inj r',Vals.inj t t']
section
variable{xs ys:List V}
def dR.of {K:PySem.W.Frag}(h:H a=some (.lst xs)):dR K H a xs:=.inl (.inl h)
def jd.of {K:PySem.W.Frag}(h:H a=some (.tup xs)):jd K H a xs:=.inl (.inl h)
def Inv.list (I:Inv X pins σ H s)(h:dR X.K H a xs):∃ its:List Value,Vals xs its/\PlainL s.heap a its.toArray/\xs.length<=sizeLine:=by
 rcases h with h|⟨o,its,n,hk,hc,hd,hs,hz,r⟩
 ·obtain⟨z,its,n,r,e⟩:=h.ok I.hok;exact⟨its,r,⟨_,n,e,rfl,rfl,rfl⟩,z⟩
 ·refine⟨its.toList,r,⟨o,n,I.tG a o hk,hc,hd,by simpa using hs⟩,?_⟩;have e:=r.length;simp only[M8]at e;omega
def Inv.tuple (I:Inv X pins σ H s)(h:jd X.K H a xs):∃ its:List Value,Vals xs its/\IsTup s.heap a its.toArray/\xs.length<=sizeLine:=by
 rcases h with h|⟨o,its,n,hk,hc,hs,hz,r⟩
 ·obtain⟨z,its,r,p⟩:=h.ok I.hok;exact⟨its,r,p.is,z⟩
 ·refine⟨its.toList,r,⟨o,I.tG a o hk,hc,n,by simpa using hs⟩,?_⟩;have e:=r.length;simp only[M8]at e;omega
def Inv.pO (I:Inv X pins σ H s)(h:dR X.K H a xs)(h':dR X.K H a ys):xs=ys:=by
 obtain⟨its,r,⟨o,n,e,_,_,d⟩,_⟩:=I.list h;obtain⟨its',r',⟨o',n',e',_,_,d'⟩,_⟩:=I.list h';rw[e]at e';cases e';rw[d]at d';injection d' with d1 _
 have:its=its':=by simpa using N1 Array.toList d1
 subst this;exact r.inj r'
def Inv.nK (I:Inv X pins σ H s)(h:jd X.K H a xs)(h':jd X.K H a ys):xs=ys:=by
 obtain⟨its,r,⟨o,e,_,n,d⟩,_⟩:=I.tuple h;obtain⟨its',r',⟨o',e',_,n',d'⟩,_⟩:=I.tuple h';rw[e]at e';cases e';rw[d]at d';injection d' with d1 _
 have:its=its':=by simpa using N1 Array.toList d1
 subst this;exact r.inj r'
end
abbrev Cx.qZ (X:Cx)(E:Value->Shared->Prop):Cx:={ X with xe:=E }
abbrev Cx.Gf (X:Cx):Cx:=X.qZ λ _ _=>False
def Cx.Ok.qZ(ok:X.Ok)(E:Value->Shared->Prop):(X.qZ E).Ok:=
 ⟨ok.mod,ok.kind,ok.glob,ok.blt,ok.above,ok.inj,ok.has,ok.Jb,ok.hd,ok.frames,ok.Jl,ok.KP,ok.bs,ok.Ef,ok.zZ,ok.Ab,ok.o4,ok.GJ⟩
def Cx.Ok.ko(ok:(X.qZ E).Ok):X.Ok:=
 ⟨ok.mod,ok.kind,ok.glob,ok.blt,ok.above,ok.inj,ok.has,ok.Jb,ok.hd,ok.frames,ok.Jl,ok.KP,ok.bs,ok.Ef,ok.zZ,ok.Ab,ok.o4,ok.GJ⟩
section
def Inv.qZ (I:Inv X pins σ H s)(E:Value->Shared->Prop):Inv (X.qZ E) pins σ H s:=⟨I.ok.qZ E,I.os,I.bare,I.base,I.loc,I.cell,I.free,I.ku,I.pin,I.hok,I.len⟩
def Inv.ko (I:Inv (X.qZ E) pins σ H s):Inv X pins σ H s:=⟨I.ok.ko,I.os,I.bare,I.base,I.loc,I.cell,I.free,I.ku,I.pin,I.hok,I.len⟩
def SP.ko {D:Ends}{f:Flow}(h:SP (X.qZ E) pins D f s'):SP X pins D f s':=by
 cases f with
 |next=>obtain⟨σ',H',I,q⟩:=h;exact⟨σ',H',I.ko,q⟩| brk=>obtain⟨σ',H',I,q⟩:=h;exact⟨σ',H',I.ko,q⟩| cont=>obtain⟨σ',H',I,q⟩:=h;exact⟨σ',H',I.ko,q⟩| ret u=>obtain⟨v,σ',H',I,r,q⟩:=h;exact⟨v,σ',H',I.ko,r,q⟩
def mF.Gf {st:List Stmt}{t:TS}(h:mF X.Gf st t):mF X st t:=λ pins s σ H D I hw=>
 Om (h pins s σ H D (I.qZ _) hw) (λ _ _ q=>q.ko) λ _ _ z=>False.elim z
end
section
variable{st:Stmt}{rest:List Stmt}{t u:TS}
def Jt:TS:=λ D σ H=>D.nx σ H
def K2 (t u:TS):TS:=λ D σ H=>t { D with nx:=u D } σ H
def Ei:mF X [] Jt:=λ _ _ σ H _ I h=>Qn ⟨σ,H,I,h⟩
def Bk (h1:PS X st t)(h2:mF X rest u):mF X (st::rest) (K2 t u):=by
 intro pins s σ H D I h;refine wpAny_execs_cons (eB (h1 pins s σ H { D with nx:=u D } I h) λ f s1 q=>?_);cases f with
 | next =>
  obtain⟨σ',H',I',q⟩:=q;exact h2 pins s1 σ' H' D I' q
 |ret v=>exact q|brk=>exact q|cont=>exact q
def D9 (h1:PS X st t):mF X [st] t:=by
 intro pins s σ H D I h;refine wpAny_execs_cons (eB (h1 pins s σ H D I h) λ f s1 q=>?_);cases f with
 |next=>exact Qn q|ret v=>exact q|brk=>exact q|cont=>exact q
def Inv.quiet(I:Inv X pins σ H s):interactive X.env=false:=by simp[interactive,I.ok.kind]
def Jx (te:TE):TS:=λ D σ H=>te σ H λ _ H1=>D.nx σ H1
def kX (he:PE X e te)(hs:swapsWith e none pos.line X.env=pure false:=by rfl):PS X (.Expr e pos) (Jx te):=by
 intro pins s σ H D I h;exact wpAny_Expr_any (eB (he pins s σ H _ I h) λ v s1 hq5=>L2.ex5 hq5 λ x H1 I1 r1 q1=>⟨σ,H1,I1,q1⟩) I.quiet hs
def Li (te:TE):TS:=λ D σ H=>te σ H D.rt
def wN (he:PE X e te):PS X (.Return (some e) pos) (Li te):=by
 intro pins s σ H D I h;exact wpAny_Return_some (eB (he pins s σ H _ I h) λ v s1 hq5=>L2.ex5 hq5 λ x H1 I1 r1 q1=>⟨x,σ,H1,I1,r1,q1⟩)
def Lb (c:TT)(t u:TS):TS:=λ D σ H=>c σ H λ b H1=>if b=true then t D σ H1 else u D σ H1
def Jk{a b:List Stmt}{tc:TT}(hc:PT X c tc)(ha:mF X a t)(hb:mF X b u):PS X (.If c a b pos) (Lb tc t u):=by
 intro pins s σ H D I h;refine wpAny_If (eB (hc pins s σ H _ I h) λ d s1 ⟨H1,I1,q1⟩=>?_);cases d with
 |true=>exact ha pins s1 σ H1 D I1 q1|false=>exact hb pins s1 σ H1 D I1 q1
end
abbrev TG:=V->St->Hp->(St->Hp->Prop)->Prop
abbrev D6:=List V->St->Hp->(St->Hp->Prop)->Prop
def PG (X:Cx)(target:Expr)(t:TG):Prop:=
 ∀ (pins:List (Addr×Obj)) (s:Shared) (σ:St) (H:Hp) (v:V) (u:Value) (Q:St->Hp->Prop),Inv X pins σ H s->RelV v u->t v σ H Q ->
  wpAny (model X.prog X.w) X.A (assign target X.env u) (λ _ s'=>∃ σ' H',Inv X pins σ' H' s'/\Q σ' H') X.xe s
def Ae (X:Cx)(ts:List Expr)(t:D6):Prop:=
 ∀ (pins:List (Addr×Obj)) (s:Shared) (σ:St) (H:Hp) (vs:List V) (us:List Value) (Q:St->Hp->Prop),Inv X pins σ H s->Vals vs us->t vs σ H Q ->
  wpAny (model X.prog X.w) X.A (assignInOrder ((assignEach ts X.env).map (·.2)) us) (λ _ s'=>∃ σ' H',Inv X pins σ' H' s'/\Q σ' H') X.xe s
section
def rS (i:Nat):TG:=λ v σ H Q=>Q (σ.set i (some v)) H
def yv(hN:X.N.Nodup)(hi:X.N[i]?=some x)(hx:Loc X.env.scope x)(hf:X.fn x=true\/X.env.scope.names.lookup x=some .local:=by first|exact .inl rfl|exact .inr rfl|assumption):PG X (.Name x pos) (rS i):=by
 intro pins s σ H v u Q I r h;exact wpAny_assign_Name (u0 I hN hi hx r (λ s' I'=>⟨_,H,I',h⟩) hf)
def Ln:D6:=λ vs σ H Q=>vs=[]/\Q σ H
def Jv (t:TG)(u:D6):D6:=λ vs σ H Q=>∃ v r,vs=v::r/\t v σ H λ σ' H'=>u r σ' H' Q
def Eb:Ae X [] Ln:=by
 intro pins s σ H vs us Q I r h;obtain⟨e,h⟩:=h;subst e;cases r;exact assignInOrder_nil ⟨σ,H,I,h⟩
def Bo {e:Expr}{es:List Expr}{t:TG}{u:D6}(h1:PG X e t)(h2:Ae X es u)
  (hs:(assignEach (e::es) X.env).map (·.2)=assign e X.env::(assignEach es X.env).map (·.2):=by rfl):Ae X (e::es) (Jv t u):=by
 intro pins s σ H vs us Q I r h;obtain⟨v,vr,e1,h⟩:=h;subst e1;cases r with
 | cons r rr =>
  rw[hs];refine assignInOrder_cons (eB (h1 pins s σ H _ _ _ I r h) λ _ s1 ⟨σ1,H1,I1,q1⟩=>?_);exact h2 pins s1 σ1 H1 _ _ Q I1 rr q1
def K3 (K:PySem.W.Frag)(n:Nat)(t:D6):TG:=λ v σ H Q=>∃ a xs,v=.ref a/\jd K H a xs/\xs.length=n/\t xs σ H Q
def GN{k:Nat}{t:D6}{n:Nat}(hc:X.calm=true)(h:Ae X es t)
  (hn:(assignEach es X.env).length=n:=by rfl) (hst:(assignEach es X.env).findIdx? (·.1)=none:=by rfl):PG X (.Tuple es k pos) (K3 X.K n t):=by
 intro pins s σ H v u Q I r hw;obtain⟨a,xs,e1,hq,hl,hw⟩:=hw;subst e1;cases r;obtain⟨its,rv,ht,hz⟩:=I.tuple hq;refine assign_Tuple_tuple (I.ok.hd hc) ht (by simp[hn,<-hl,rv.length]) hst λ h' hx=>?_;have I1:Inv X pins σ H { s with heap:=h' }:=I.kept (t':=s.toks) λ b o e=>hx b o (M0 (MJ e)) e;exact h pins _ σ H xs _ Q I1 (by simpa using rv) hw
def GS (te:TE)(g:TG):TS:=λ D σ H=>te σ H λ x H1=>g x σ H1 D.nx
def Bv{pos':Pos}(hN:X.N.Nodup)(hi:X.N[i]?=some x)(hx:Loc X.env.scope x)(he:PE X e te)(hs:swapsWith e (some (.Name x pos')) pos.line X.env=pure false:=by rfl)(hf:X.fn x=true\/X.env.scope.names.lookup x=some .local:=by first|exact .inl rfl|exact .inr rfl|assumption) :
  PS X (.Assign [.Name x pos'] e pos) (GS te (rS i)):=by
 intro pins s σ H D I h;refine wpAny_Assign_Name (eB (he pins s σ H _ I h) λ v s1 hq5=>L2.ex5 hq5 λ y H1 I1 r1 q1=>?_) hs;exact u0 I1 hN hi hx r1 (λ s2 I2=>⟨_,H1,I2,q1⟩) hf
end
section
def Hf (c:TT)(tb:TS):TS:=λ D σ H=>∃ W:Nat->St->Hp->Prop,(∃ m,W m σ H)/\∀ m σ H,W m σ H ->
 c σ H λ b H1=>if b=true then ∃ N:St->Hp->Prop,(∀ σ' H',N σ' H'->∃ m',m' < m/\W m' σ' H')/\tb { D with nx:=N,ct:=N,bk:=D.nx } σ H1 else D.nx σ H1
def Bp{tc:TT}{tb:TS}(hp:PassesOwn (model X.prog X.w) X.A X.env X.xe)(hc:PT X c tc)(hb:mF X body tb):PS X (.While c body [] pos) (Hf tc tb):=by
 intro pins s σ H D I h;obtain⟨W,⟨m0,w0⟩,turn⟩:=h;refine wpAny_While (codeAny_whileLoop (λ n s'=>∃ σ' H',Inv X pins σ' H' s'/\W n σ' H') ?_ m0 ⟨σ,H,I,w0⟩);rintro n s1 ⟨σ1,H1,I1,w1⟩;refine OJ hp (eB (hc pins s1 σ1 H1 _ I1 (turn n σ1 H1 w1)) λ b s2 ⟨H2,I2,q2⟩=>?_);cases b with
 | true =>
  obtain⟨N,hN,q2⟩:=q2;rw[MO rfl];refine OJ hp (eB (hb pins s2 σ1 H2 _ I2 q2) λ f s3 q3=>?_);cases f with
  | next =>
   obtain⟨σ3,H3,I3,n3⟩:=q3;obtain⟨m',hm,w3⟩:=hN σ3 H3 n3;exact⟨m',hm,σ3,H3,I3,w3⟩
  | cont =>
   obtain⟨σ3,H3,I3,n3⟩:=q3;obtain⟨m',hm,w3⟩:=hN σ3 H3 n3;exact⟨m',hm,σ3,H3,I3,w3⟩
  |brk=>exact q3|ret v=>exact q3
 | false =>
  rw[MP MH];exact Qn ⟨σ1,H2,I2,q2⟩
end
structure It where
 go:Nat->Hp->Prop
 wQ:Nat->Hp->V->Hp->Prop
 stop:Nat->Hp->Prop
def o5 (X:Cx)(pins:List (Addr×Obj))(H:Hp)(b:Addr):Prop:=
 H b=none/\b≠X.env.locals/\b∉X.fs/\(b∈X.ex\/X.s₀.heap.objs.size<=b)/\(∀ x c,X.env.cells.lookup x=some c->c≠b)/\∀ p∈X.pn++pins,p.1≠b
def Inv.rf(I:Inv X pins σ H s)(hb:s.heap.objs.size<=b)(hn:H' b=none):o5 X pins H' b:=by
 refine⟨hn,Ox (Ng I.lt hb),I.Ld hb,.inr (NX I.sz hb),λ x c e z=>?_,λ p hp z=>?_⟩
 ·obtain⟨v,q⟩:=I.cell x c e;exact absurd (Ng q.lt (by rw[z];exact hb)) (NG _)
 ·exact absurd (Ng (MJ (I.pin p hp).1) (by rw[z];exact hb)) (NG _)
structure Be (cm:Cx->Prop)(P:Program)(w:World)(K:PySem.W.Frag)(tg:Expr)(J:It)(fp:List Addr)(it:Addr)(tn:Nat->Heap->Prop):Prop where
 mem:it∈fp
 obj:∀ i h,tn i h->∀ b∈fp,∃ o,h.get? b=some o/\∀ v,o.data ≠ .cell v
 keep:∀ i h h',tn i h->(∀ b∈fp,∀ o,h.get? b=some o->h'.get? b=some o)->tn i h'
 item:∀ (X:Cx),X.prog=P->X.w=w->X.K=K->cm X->∀ (i:Nat) (pins:List (Addr×Obj)) (s:Shared) (σ:St) (H:Hp) (E:Value->Shared->Prop),Inv X pins σ H s->(∀ b∈fp,o5 X pins H b)->tn i s.heap->J.go i H ->
  wpAny (model P w) X.A (pyNext (.ref it)) (λ r s1=>∃ u,r=some u /\
   wpAny (model P w) X.A (letOwnedTupleGo tg (.ref it) u) (λ _ s2=>∃ x H',Inv X pins σ H' s2/\RelV x u/\J.wQ i H x H'/\tn (i+1) s2.heap/\∀ b∈fp,H' b=none) E s1) E s
 done:∀ (X:Cx),X.prog=P->X.w=w->X.K=K->cm X->∀ (i:Nat) (pins:List (Addr×Obj)) (s:Shared) (σ:St) (H:Hp) (E:Value->Shared->Prop),Inv X pins σ H s->(∀ b∈fp,o5 X pins H b)->tn i s.heap->J.stop i H ->
  wpAny (model P w) X.A (pyNext (.ref it)) (λ r s1=>r=none/\Inv X pins σ H s1) E s
 self:∀ (A:Around) (i:Nat) (s:Shared) (Q:Value->Shared->Prop) (E:Value->Shared->Prop),tn i s.heap->Q (.ref it) s->wpAny (model P w) A (pyIter (.ref it)) Q E s
abbrev Turn:=Be λ X=>X.calm=true
abbrev TI:=St->Hp->(It->Hp->Prop)->Prop
def L1 (X:Cx)(pins:List (Addr×Obj))(σ:St)(tg:Expr)(R:It->Hp->Prop)(itv:Value)(s2:Shared):Prop:=
 ∃ (it:Addr) (fp:List Addr) (tn:Nat->Heap->Prop) (J:It) (H':Hp),itv=.ref it/\Inv X pins σ H' s2/\Turn X.prog X.w X.K tg J fp it tn/\tn 0 s2.heap/\(∀ b∈fp,o5 X pins H' b)/\R J H'
def PI (X:Cx)(tg iter:Expr)(wi:TI):Prop:=
 ∀ (pins:List (Addr×Obj)) (s:Shared) (σ:St) (H:Hp) (R:It->Hp->Prop),Inv X pins σ H s->wi σ H R ->
  wpAny (model X.prog X.w) X.A (eval iter X.env) (λ v s1=>wpAny (model X.prog X.w) X.A (pyIter v) (L1 X pins σ tg R) X.xe s1) X.xe s
def yx{it:Addr}{o:Obj}{n:String}{vs:Array Value}{Q:Unit->Shared->Prop}(ho:s.heap.get? it=some o)(hc:o.cls = .type n)(hd:o.data = .fields vs)
    (hn:["enumerate", "zip", "dict_itemiterator", "dict_reverseitemiterator", "odict_iterator", "itertools.zip_longest", "itertools.pairwise"].contains n=false) (hQ:Q () s):wpAny M A (letOwnedTupleGo tg (.ref it) u) Q E s:=by
  unfold letOwnedTupleGo;cases tg<;>first
    |exact MB hQ
    |(cases u<;>first
        |exact MB hQ
        | (refine My (wpAny_load ho ?_)
           rw[hc, hd];show wpAny M A (if (["enumerate", "zip", "dict_itemiterator", "dict_reverseitemiterator", "odict_iterator", "itertools.zip_longest", "itertools.pairwise"].contains n&&vs[0]? == some (rawInt _))=true then _ else _) Q E s;rw[MP (by intro h;rw[hn, QY]at h;cases h)];exact MB hQ))
def K7 (K:PySem.W.Frag)(a:Addr):It:=
 ⟨λ i H=>∃ xs x,dR K H a xs/\xs[i]?=some x,λ i H x H'=>H'=H/\∀ xs,dR K H a xs->xs[i]?=some x,λ i H=>∃ xs,dR K H a xs/\xs.length<=i⟩
def K8 (K:PySem.W.Frag)(a:Addr):It:=
 ⟨λ i H=>∃ xs x,jd K H a xs/\xs[i]?=some x,λ i H x H'=>H'=H/\∀ xs,jd K H a xs->xs[i]?=some x,λ i H=>∃ xs,jd K H a xs/\xs.length<=i⟩
def KN (lo:Int)(n:Nat):It:=⟨λ i _=>i<n,λ i H x H'=>H'=H/\x=.int (lo+i),λ i _=>n<=i⟩
def Ac{K:PySem.W.Frag}(a it:Addr):Turn P w K tg (K7 K a) [it] it (λ i h=>h.IsListIter it a i) where
 mem:=by simp
 obj:=λ i h st b hb=>by
  have e:b=it:=by simpa using hb
  subst e;obtain⟨o,e,c,d⟩:=st;exact⟨o,e,λ v z=>by rw[d]at z;cases z⟩
 keep:=λ i h h' st k=>st.at λ o e=>k it (by simp) o e
 item:=by
  intro X hP hw hK hc i pins s σ H E I hf st hg;subst hP hw hK;obtain⟨xs,x,hq,hx⟩:=hg;obtain⟨its,rv,p,hz⟩:=I.list hq;obtain⟨u,hu,ru⟩:=rv.get hx;obtain⟨f0,f1,f2,f3,f4,f5⟩:=hf it (by simp);refine wpAny_pyNext_list_item st p.isList (x:=u) (by simpa using hu) λ h' st' sb=>?_;have I1:Inv X pins σ H { s with heap:=h' }:=I.turned (t':=s.toks) (λ b o hb e=>(sb.2 b hb).trans e) f0 f1 f3 f4 f5;obtain⟨o,e,c,d⟩:=id st';exact⟨u,rfl,yx (s:={ s with heap:=h' }) e c d (by decide) ⟨x,H,I1,ru,⟨rfl,λ ys hy=>by rw[I.pO hy hq];exact hx⟩,st',λ b hb=>(hf b hb).1⟩⟩
 done:=by
  intro X hP hw hK hc i pins s σ H E I hf st hg;subst hP hw hK;obtain⟨xs,hq,hx⟩:=hg;obtain⟨its,rv,p,hz⟩:=I.list hq;obtain⟨f0,f1,f2,f3,f4,f5⟩:=hf it (by simp);have hl:=rv.length;exact wpAny_pyNext_list_end (I.ok.hd hc) st p.isList (by simp;omega) λ h' eb=>⟨rfl,I.turned (t':=s.toks) (λ b o hb e=>eb b o hb e) f0 f1 f3 f4 f5⟩
 self:=λ _ _ _ _ _ st h=>wpAny_pyIter_listiter st h
def wU{K:PySem.W.Frag}(a it:Addr):Turn P w K tg (K8 K a) [it] it (λ i h=>h.IsTupleIter it a i) where
 mem:=by simp
 obj:=λ i h st b hb=>by
  have e:b=it:=by simpa using hb
  subst e;obtain⟨o,e,c,d⟩:=st;exact⟨o,e,λ v z=>by rw[d]at z;cases z⟩
 keep:=λ i h h' st k=>st.at λ o e=>k it (by simp) o e
 item:=by
  intro X hP hw hK hc i pins s σ H E I hf st hg;subst hP hw hK;obtain⟨xs,x,hq,hx⟩:=hg;obtain⟨its,rv,p,hz⟩:=I.tuple hq;obtain⟨u,hu,ru⟩:=rv.get hx;obtain⟨f0,f1,f2,f3,f4,f5⟩:=hf it (by simp);refine wpAny_pyNext_tuple_item st (show s.heap.IsTuple a its.toArray from p) (x:=u) (by simpa using hu) λ h' st' sb=>?_;have I1:Inv X pins σ H { s with heap:=h' }:=I.turned (t':=s.toks) (λ b o hb e=>(sb.2 b hb).trans e) f0 f1 f3 f4 f5;obtain⟨o,e,c,d⟩:=id st';exact⟨u,rfl,yx (s:={ s with heap:=h' }) e c d (by decide) ⟨x,H,I1,ru,⟨rfl,λ ys hy=>by rw[I.nK hy hq];exact hx⟩,st',λ b hb=>(hf b hb).1⟩⟩
 done:=by
  intro X hP hw hK hc i pins s σ H E I hf st hg;subst hP hw hK;obtain⟨xs,hq,hx⟩:=hg;obtain⟨its,rv,p,hz⟩:=I.tuple hq;obtain⟨f0,f1,f2,f3,f4,f5⟩:=hf it (by simp);have hl:=rv.length;exact wpAny_pyNext_tuple_end (I.ok.hd hc) st (show s.heap.IsTuple a its.toArray from p) (by simp;omega) λ h' eb=>⟨rfl,I.turned (t':=s.toks) (λ b o hb e=>eb b o hb e) f0 f1 f3 f4 f5⟩
 self:=λ _ _ _ _ _ st h=>wpAny_pyIter_tupleiter st h
def wV{K:PySem.W.Frag}(it:Addr)(lo:Int)(n:Nat):Turn P w K tg (KN lo n) [it] it (λ i h=>IsRangeIter h it (lo+(i:Nat)*1) ((n:Int)-(i:Nat)) 1) where
 mem:=by simp
 obj:=λ i h st b hb=>by
  have e:b=it:=by simpa using hb
  subst e;exact⟨_,st,λ v z=>by
   have z':Data.fields _=Data.cell v:=z;cases z'⟩
 keep:=λ i h h' st k=>k it (by simp) _ st
 item:=by
  intro X hP hw hK hc i pins s σ H E I hf st hg;subst hP hw hK;obtain⟨f0,f1,f2,f3,f4,f5⟩:=hf it (by simp);have W:=Walks.range (prog:=X.prog) (w:=X.w) (I.ok.hd hc) it lo 1 n;refine W.item i s _ _ hg st λ v h' tk hv st' kk=>?_;obtain⟨t,rfl⟩:=hv;have I1:Inv X pins σ H { s with heap:=h',toks:=tk }:=I.turned (λ b o hb e=>kk b o (by simpa using hb) e) f0 f1 f3 f4 f5;refine⟨_,rfl,yx (s:={ s with heap:=h',toks:=tk }) (n:="range_iterator") st' rfl rfl (by decide) ⟨.int (lo+i),H,I1,⟨t,?_⟩,⟨rfl,rfl⟩,st',λ b hb=>(hf b hb).1⟩⟩;rw[Int.mul_one]
 done:=by
  intro X hP hw hK hc i pins s σ H E I hf st hg;subst hP hw hK;obtain⟨f0,f1,f2,f3,f4,f5⟩:=hf it (by simp);exact wpAny_pyNext_range_end (I.ok.hd hc) st (by have:n<=i:=hg;omega) λ h' eb=>⟨rfl,I.turned (t':=s.toks) (λ b o hb e=>eb b o hb e) f0 f1 f3 f4 f5⟩
 self:=λ _ _ _ _ _ st h=>wpAny_pyIter_rangeiter st h
section
def Bt{R:It->Hp->Prop}{lo hi:Int}{t u v:Tok}{tk:Nat}(I:Inv X pins σ H s)(h1 : -(2^62)<=lo)(h2:lo<2^62)(h3 : -(2^62)<=hi)(h4:hi<2^62)
  (q:R (KN lo (hi-lo).toNat) H):wpAny (model X.prog X.w) X.A (pyIter (.ref s.heap.objs.size)) (L1 X pins σ tg R) E { s with heap:=s.heap.push { cls:=.type "range",data:=.fields #[.int lo t,.int hi u,.int 1 v] },toks:=tk }:=by
 refine wpAny_pyIter_range (IsRange.new ..) (small_one h1 h2 h3 h4) ?_;have I1:Inv X pins σ H { s with heap:=s.heap.push { cls:=.type "range",data:=.fields #[.int lo t,.int hi u,.int 1 v] },toks:=tk }:=I.kept λ b o e=>Mz _ e;refine⟨(s.heap.push { cls:=.type "range",data:=.fields #[.int lo t,.int hi u,.int 1 v] }).objs.size,[(s.heap.push { cls:=.type "range",data:=.fields #[.int lo t,.int hi u,.int 1 v] }).objs.size],_,_,H,rfl,
  I1.kept (t':=tk) λ b o e=>Mz _ e,wV _ lo (hi-lo).toNat,?_,λ b hb=>?_,q⟩
 ·have e1:lo+((0:Nat):Int)*1=lo:=by simp
  have e2:(((hi-lo).toNat:Nat):Int)-((0:Nat):Int)=Builtin.Range.rangeSize lo hi 1:=by rw[rangeSize_one];split<;>omega
  show IsRangeIter _ _ (lo+((0:Nat):Int)*1) ((((hi-lo).toNat:Nat):Int)-((0:Nat):Int)) 1;rw[e1,e2];exact MI _ rfl
 ·have e:b=(s.heap.push { cls:=.type "range",data:=.fields #[.int lo t,.int hi u,.int 1 v] }).objs.size:=by simpa using hb
  subst e;exact I1.rf (ML _) (I1.hok.fresh (ML _))
def Gd (ta:TA):TI:=λ σ H R=>ta σ H λ vs H1=>∃ j:Int,vs=[.int j] /\ -(2^62)<=j/\j<2^62/\R (KN 0 j.toNat) H1
def zX {a:Expr}{ta:TA}(hg:Gl X "range")(hm:X.mg "range" = none)(ha:PA X [a] ta)(hs:starEach [a] X.env=[(false,eval a X.env)]:=by rfl):PI X tg (.Call (.Name "range" p) [a] [] pos) (Gd ta):=by
 intro pins s σ H R I h;refine Call_ (kq I hg hm boot_range (Oc (eB (ha pos pins s σ H _ I h) λ us s1 hq5=>L2.ex5 hq5 λ vs H1 I1 r1 q1=>?_) hs rfl));obtain⟨j,e,q1,q2,q⟩:=q1;subst e;cases r1 with
 | cons r rr =>
  cases rr;obtain⟨t,rfl⟩:=r;exact call_range_1 (Bt I1 (by omega) (by omega) q1 q2 (by simpa using q))
def K4 (wi:TI)(g:TG)(tb:TS):TS:=λ D σ H=>wi σ H λ J H1=>∃ W:Nat->Nat->St->Hp->Prop,(∃ m,W 0 m σ H1)/\∀ i m σ H,W i m σ H ->
 (J.stop i H/\D.nx σ H)\/(J.go i H/\∃ N:St->Hp->Prop,(∀ σ' H',N σ' H'->∃ m',m' < m/\W (i+1) m' σ' H')/\∀ x H',J.wQ i H x H'->g x σ H' λ σ2 H2=>tb { D with nx:=N,ct:=N,bk:=D.nx } σ2 H2)
def pR (fp:List Addr)(h:Heap):List (Addr×Obj):=fp.filterMap λ b=>(h.get? b).map λ o=>(b,o)
def jB{o:Obj}(hb:b∈fp)(e:h.get? b=some o):(b,o)∈pR fp h:=List.mem_filterMap.mpr ⟨b,hb,by rw[e];rfl⟩
def zV{p:Addr×Obj}(hp:p∈pR fp h):p.1∈fp/\h.get? p.1=some p.2:=by
 obtain⟨b,hb,e⟩:=List.mem_filterMap.mp hp;cases q:h.get? b with
 |none=>rw[q]at e;cases e
 | some o =>
  rw[q]at e;have e':(b,o)=p:=Nq e;subst e';exact⟨hb,q⟩
def Inv.pinned(I:Inv X pins σ H s)(hf:∀ b∈fp,o5 X pins H b)(ho:∀ b∈fp,∃ o,s.heap.get? b=some o/\∀ v,o.data ≠ .cell v):Inv X (pins++pR fp s.heap) σ H s:=
 I.yu λ p hp=>(M4.mp hp).elim (λ z=>I.pin p (MT _ z)) λ z=>by
  obtain⟨hb,e⟩:=zV z;obtain⟨f0,f1,f2,_⟩:=hf p.1 hb;obtain⟨o,e',d⟩:=ho p.1 hb;rw[e]at e';cases e';exact⟨e,f0,f1,f2,d⟩
def Inv.mH {pl:List (Addr×Obj)}(I:Inv X (pins++pl) σ H s):Inv X pins σ H s:=I.yu λ p hp=>I.pin p (MT _ (MW _ hp))
def GW {iter:Expr}{wi:TI}{g:TG}{tb:TS}(hp:PassesOwn (model X.prog X.w) X.A X.env X.xe)(hc:X.calm=true)(hi:PI X tg iter wi)(hg:PG X tg g)(hb:mF X body tb)
  (hs:∀ x,foldedSetIterable iter X.env x=pure x:=by intro _;rfl):PS X (.For tg iter body [] pos) (K4 wi g tb):=by
 intro pins s σ H D I h;refine wpAny_For (eB (hi pins s σ H _ I h) λ v s1 h1=>eB h1 λ itv s2 h2=>?_) hs;obtain⟨it,fp,tn,J,H2,e,I2,T,st2,f2,W,⟨m0,w0⟩,turn⟩:=h2;subst e;have stat:∀ {H':Hp},(∀ b∈fp,H' b=none)->∀ b∈fp,o5 X pins H' b:=λ hn b hb=>⟨hn b hb,(f2 b hb).2⟩;refine codeAny_forLoop_any (λ n s'=>∃ i σ' H',Inv X pins σ' H' s'/\tn i s'.heap/\(∀ b∈fp,H' b=none)/\W i n σ' H') ?_ m0 ⟨0,σ,H2,I2,st2,λ b hb=>(f2 b hb).1,w0⟩;rintro n s3 ⟨i,σ3,H3,I3,st3,fr3,w3⟩;rcases turn i n σ3 H3 w3 with ⟨stop,qn⟩|⟨go,N,hN,step⟩
 ·refine OJ hp (eB (T.done X rfl rfl rfl hc i pins s3 σ3 H3 X.xe I3 (stat fr3) st3 stop) λ r s4 ⟨hr,I4⟩=>?_);subst hr;exact Qn ⟨σ3,H3,I4,qn⟩
 ·refine OJ hp (eB (T.item X rfl rfl rfl hc i pins s3 σ3 H3 X.xe I3 (stat fr3) st3 go) λ r s4 ⟨u,hr,h4⟩=>?_);subst hr;refine OJ hp (eB h4 λ _ s5 ⟨x,H5,I5,r5,y5,st5,fr5⟩=>?_);have I5':=I5.pinned (stat fr5) (T.obj _ _ st5);refine OJ hp (eB (hg _ s5 σ3 H5 x u _ I5' r5 (step x H5 y5)) λ _ s6 ⟨σ6,H6,I6,q6⟩=>?_);refine OJ hp (eB (hb _ s6 σ6 H6 _ I6 q6) λ f s7 q7=>?_);have again:∀ {σ7:St}{H7:Hp},Inv X (pins++pR fp s5.heap) σ7 H7 s7->N σ7 H7->∃ m,m<n/\∃ i σ' H',Inv X pins σ' H' s7/\tn i s7.heap/\(∀ b∈fp,H' b=none)/\W i m σ' H':=λ {σ7 H7} I7 n7=>by
   obtain⟨m',hm,w7⟩:=hN σ7 H7 n7;refine⟨m',hm,i+1,σ7,H7,I7.mH,T.keep _ _ _ st5 λ b hb o e=>(I7.pin (b,o) (MT _ (MT _ (jB hb e)))).1,λ b hb=>?_,w7⟩;obtain⟨o,e,d⟩:=T.obj _ _ st5 b hb;exact(I7.pin (b,o) (MT _ (MT _ (jB hb e)))).2.1
  cases f with
  |next=>obtain⟨σ7,H7,I7,n7⟩:=q7;exact again I7 n7|cont=>obtain⟨σ7,H7,I7,n7⟩:=q7;exact again I7 n7|brk=>obtain⟨σ7,H7,I7,q7⟩:=q7;exact⟨σ7,H7,I7.mH,q7⟩| ret v=>obtain⟨x7,σ7,H7,I7,r7,q7⟩:=q7;exact⟨x7,σ7,H7,I7.mH,r7,q7⟩
end
abbrev R2:=V->V->Hp->VK->Prop
variable {r:R2}
def j6 (X:Cx)(f:Value->Value->Sem Value)(r:R2):Prop:=
 ∀ (pins:List (Addr×Obj)) (s:Shared) (σ:St) (H:Hp) (x y:V) (v u:Value) (Q:VK),Inv X pins σ H s->RelV x v->RelV y u->r x y H Q ->
  wpAny (model X.prog X.w) X.A (f v u) (EP X pins σ Q) X.xe s
def K6 (X:Cx)(f:Value->Sem Value)(r:V->Hp->VK->Prop):Prop:=
 ∀ (pins:List (Addr×Obj)) (s:Shared) (σ:St) (H:Hp) (x:V) (v:Value) (Q:VK),Inv X pins σ H s->RelV x v->r x H Q ->
  wpAny (model X.prog X.w) X.A (f v) (EP X pins σ Q) X.xe s
def eE (X:Cx)(f:Value)(r:List V->Hp->VK->Prop):Prop:=
 ∀ (pins:List (Addr×Obj)) (s:Shared) (σ:St) (H:Hp) (xs:List V) (us:List Value) (Q:VK),Inv X pins σ H s->Vals xs us->r xs H Q ->
  wpAny (model X.prog X.w) X.A (call f us) (EP X pins σ Q) X.xe s
def KO (r:R2)(ta tb:TE):TE:=λ σ H Q=>ta σ H λ x H1=>tb σ H1 λ y H2=>r x y H2 Q
def Mm (r:V->Hp->VK->Prop)(ta:TE):TE:=λ σ H Q=>ta σ H λ x H1=>r x H1 Q
def rI (C:Int->Int->Prop)(g:Int->Int->V):R2:=λ x y H Q=>∃ i j,x=.int i/\y=.int j/\C i j/\Q (g i j) H
def Bc (g:Int->Int->V):R2:=λ x y H Q=>∃ i j,x=.int i/\y=.int j/\Q (g i j) H
def rU (g:Int->V):V->Hp->VK->Prop:=λ x H Q=>∃ i,x=.int i/\Q (g i) H
section
variable{a b:Expr}{tc:TE}
def G3 (ha:PE X a ta)(hb:PE X b tb){R:V->V->Hp->Prop}(I:Inv X pins σ H s)
  (h:ta σ H λ x H1=>tb σ H1 λ y H2=>R x y H2){f:Value->Value->Sem Value}
  (hf:∀ v u s2 x y H2,Inv X pins σ H2 s2->RelV x v->RelV y u->R x y H2->wpAny (model X.prog X.w) X.A (f v u) Q X.xe s2) :
  wpAny (model X.prog X.w) X.A (eval a X.env) (λ v s₁=>wpAny (model X.prog X.w) X.A (eval b X.env) (λ u s₂=>wpAny (model X.prog X.w) X.A (f v u) Q X.xe s₂) X.xe s₁) X.xe s:=by
 refine eB (ha pins s σ H _ I h) λ v s1 hq5=>L2.ex5 hq5 λ x H1 I1 r1 q1=>?_;refine eB (hb pins s1 σ H1 _ I1 q1) λ u s2 hq5=>L2.ex5 hq5 λ y H2 I2 r2 q2=>?_;exact hf v u s2 x y H2 I2 r1 r2 q2
def Jq {op:Operator}(ho:j6 X (binaryOp op) r)(ha:PE X a ta)(hb:PE X b tb):PE X (.BinOp a op b pos) (KO r ta tb):=by
 intro pins s σ H Q I h;exact wpAny_BinOp (G3 ha hb I h λ v u s2 x y H2 I2 rx ry q=>ho pins s2 σ H2 x y v u Q I2 rx ry q)
def Jo {op:UnaryOp}{r:V->Hp->VK->Prop}(ho:K6 X (unaryOp op) r)(ha:PE X a ta):PE X (.UnaryOp op a pos) (Mm r ta):=by
 intro pins s σ H Q I h;exact UnaryOp_ (eB (ha pins s σ H _ I h) λ v s1 hq5=>L2.ex5 hq5 λ x H1 I1 r1 q1=>ho pins s1 σ H1 x v Q I1 r1 q1)
def KJ {f:Value->Value->Sem Value}{C:Int->Int->Prop}{g:Int->Int->Int}
  (rule:∀ (i j:Int) (t u:Tok) (s:Shared) (Q:Value->Shared->Prop) (E:Value->Shared->Prop),C i j->Q (.int (g i j) s.toks) { s with toks:=s.toks+1 }->wpAny (model X.prog X.w) X.A (f (.int i t) (.int j u)) Q E s) :
  j6 X f (rI C λ i j=>.int (g i j)):=by
 intro pins s σ H x y v u Q I rx ry h;obtain⟨i,j,rfl,rfl,hc,q⟩:=h;obtain⟨t,rfl⟩:=rx;obtain⟨t',rfl⟩:=ry;exact rule i j t t' s _ _ hc ⟨.int (g i j),H,I.tok _,⟨_,rfl⟩,q⟩
def Jp {f:Value->Value->Sem Value}{g:Int->Int->Int}
  (rule:∀ (i j:Int) (t u:Tok) (s:Shared) (Q:Value->Shared->Prop) (E:Value->Shared->Prop),Q (.int (g i j) s.toks) { s with toks:=s.toks+1 }->wpAny (model X.prog X.w) X.A (f (.int i t) (.int j u)) Q E s) :
  j6 X f (Bc λ i j=>.int (g i j)):=by
 intro pins s σ H x y v u Q I rx ry h;obtain⟨i,j,rfl,rfl,q⟩:=h;obtain⟨t,rfl⟩:=rx;obtain⟨t',rfl⟩:=ry;exact rule i j t t' s _ _ ⟨.int (g i j),H,I.tok _,⟨_,rfl⟩,q⟩
def JD {f:Value->Value->Sem Value}{g:Int->Int->Bool}
  (rule:∀ (i j:Int) (t u:Tok) (s:Shared) (Q:Value->Shared->Prop) (E:Value->Shared->Prop),Q (.bool (g i j)) s->wpAny (model X.prog X.w) X.A (f (.int i t) (.int j u)) Q E s) :
  j6 X f (Bc λ i j=>.bl (g i j)):=by
 intro pins s σ H x y v u Q I rx ry h;obtain⟨i,j,rfl,rfl,q⟩:=h;obtain⟨t,rfl⟩:=rx;obtain⟨t',rfl⟩:=ry;exact rule i j t t' s _ _ ⟨.bl (g i j),H,I,rfl,q⟩
def iX (i j:Int):Prop:=0<j/\j<1073741824
def je (i j:Int):Prop:=0<=j/\j<=1000000/\i.natAbs<2^64
def Bq (i j:Int):Prop:=(-(2^64)<i/\i<2^64)\/(-(2^64)<j/\j<2^64)
def Bq.ok {i j:Int}(h:Bq i j):IntMulOk i j:=by
 rcases h with ⟨h1,h2⟩|⟨h1,h2⟩
 ·exact .of_left (intBits_le_64 h1 h2)
 ·exact .of_right (intBits_le_64 h1 h2)
def G8:j6 X (binaryOp .Add) (Bc λ i j=>.int (i+j)):=Jp λ _ _ _ _ _ _ _ q=>add_int q
def wM:j6 X (binaryOp .Sub) (Bc λ i j=>.int (i-j)):=Jp λ _ _ _ _ _ _ _ q=>sub_int q
def cf:j6 X (binaryOp .FloorDiv) (rI iX λ i j=>.int (i/j)):=KJ λ i j _ _ _ _ _ hc q=>by
 have h1:(0:Int)<j:=hc.1;have h2:j<1073741824:=hc.2;exact floordiv_int (by omega) (by rw[Int.fdiv_eq_ediv_of_nonneg i (by omega)];exact q) (.inl (PyProof.noPylong_small (by omega)))
def bV:j6 X (binaryOp .Mod) (rI (λ _ j=>0<j) λ i j=>.int (i%j)):=KJ λ i j _ _ _ _ _ hc q=>by
 have h1:(0:Int)<j:=hc;exact mod_int' (by omega) (by rw[Int.fmod_eq_emod_of_nonneg i (by omega)];exact q)
def tF:j6 X (binaryOp .Pow) (rI je λ i j=>.int (i^j.toNat)):=KJ λ _ _ _ _ _ _ _ hc q=>pow_int_small hc.1 hc.2.1 hc.2.2 q
def Ml {f:Value->Sem Value}{g:Int->Int}
  (rule:∀ (i:Int) (t:Tok) (s:Shared) (Q:Value->Shared->Prop) (E:Value->Shared->Prop),Q (.int (g i) s.toks) { s with toks:=s.toks+1 }->wpAny (model X.prog X.w) X.A (f (.int i t)) Q E s) :
  K6 X f (rU λ i=>.int (g i)):=by
 intro pins s σ H x v Q I rx h;obtain⟨i,rfl,q⟩:=h;obtain⟨t,rfl⟩:=rx;exact rule i t s _ _ ⟨.int (g i),H,I.tok _,⟨_,rfl⟩,q⟩
def GP:K6 X (unaryOp .USub) (rU λ i=>.int (-i)):=Ml λ _ _ _ _ _ q=>neg_int q
end
def Hb:V->V->Bool
 |.bJ,.bJ=>true|.bJ,.int _=>true|.int _,.bJ=>true|.bJ,.bl _=>true|.bl _,.bJ=>true|.bJ,.str _=>true|.str _,.bJ=>true
 |.int _,.int _=>true|.bl _,.bl _=>true|.str _,.str _=>true|.Bg _,.Bg _=>true
 |.int _,.str _=>true|.str _,.int _=>true|.bl _,.str _=>true|.str _,.bl _=>true
 |_,_=>false
def L3:R2:=λ x y H Q=>Hb x y=true/\Q (.bl (decide (x=y))) H
def L0:R2:=λ x y H Q=>Hb x y=true/\Q (.bl (!decide (x=y))) H
def yq {i j:Int}:decide (V.int i=V.int j)=(i == j):=by
 rw[OL];simp
def Br {i j:Bool}:decide (V.bl i=V.bl j)=(i == j):=by
 rw[OL];simp
def yt {i j:Str}:decide (V.str i=V.str j)=(i == j):=by
 rw[OL];simp
def yy {i j:Array UInt8}:decide (V.Bg i=V.Bg j)=(i.toList == j.toList):=by
 rw[OL];cases i;cases j;simp
section
variable{a b:Expr}{tc:TE}
def bK{Q:VK}{k k':Bool}(I:Inv X pins σ H s)(q:Q (.bl k) H)(e:k=k'):EP X pins σ Q (.bool k') s:=by
 subst e;exact⟨.bl k,H,I,rfl,q⟩
def fP:j6 X (compareOp .Eq) L3:=by
 intro pins s σ H x y v u Q I rx ry h;obtain⟨hs,q⟩:=h;cases x with
 | bJ =>
  cases rx;cases y with
  |bJ=>cases ry;exact PySem.EqNone.eq_none_none (bK I q (by simp))|bl j=>cases ry;exact PySem.EqNone.eq_none_bool (bK I q (by simp))|int j=>obtain⟨t',rfl⟩:=ry;exact PySem.EqNone.eq_none_int (bK I q (by simp))|str j=>obtain⟨t',rfl⟩:=ry;exact PySem.EqNone.eq_none_str (bK I q (by simp))|_=>exact absurd (show false=true from hs) MH
 | bl i =>
  cases rx;cases y with
  |bJ=>cases ry;exact PySem.EqNone.eq_bool_none (bK I q (by simp))|bl j=>cases ry;exact eq_bool (bK I q Br)|str j=>obtain⟨t',rfl⟩:=ry;exact PySem.EqMixed.eq_bool_str (bK I q (by simp))|_=>exact absurd (show false=true from hs) MH
 | int i =>
  obtain⟨t,rfl⟩:=rx;cases y with
  |bJ=>cases ry;exact PySem.EqNone.eq_int_none (bK I q (by simp))|int j=>obtain⟨t',rfl⟩:=ry;exact eq_int (bK I q yq)|str j=>obtain⟨t',rfl⟩:=ry;exact PySem.EqMixed.eq_int_str (bK I q (by simp))|_=>exact absurd (show false=true from hs) MH
 | str i =>
  obtain⟨t,rfl⟩:=rx;cases y with
  |bJ=>cases ry;exact PySem.EqNone.eq_str_none (bK I q (by simp))|bl j=>cases ry;exact PySem.EqMixed.eq_str_bool (bK I q (by simp))|int j=>obtain⟨t',rfl⟩:=ry;exact PySem.EqMixed.eq_str_int (bK I q (by simp))|str j=>obtain⟨t',rfl⟩:=ry;exact eq_str (bK I q yt)|_=>exact absurd (show false=true from hs) MH
 | Bg i =>
  obtain⟨t,rfl⟩:=rx;cases y with
  |Bg j=>obtain⟨t',rfl⟩:=ry;exact PySem.W.eq_bytes (bK I q yy)|_=>exact absurd (show false=true from hs) MH
 |_=>cases y<;>exact absurd (show false=true from hs) MH
def Bh:j6 X (compareOp .NotEq) L0:=by
 intro pins s σ H x y v u Q I rx ry h;obtain⟨hs,q⟩:=h;cases x with
 | bJ =>
  cases rx;cases y with
  |bJ=>cases ry;exact PySem.EqNone.ne_none_none (bK I q (by simp))|bl j=>cases ry;exact PySem.EqNone.ne_none_bool (bK I q (by simp))|int j=>obtain⟨t',rfl⟩:=ry;exact PySem.EqNone.ne_none_int (bK I q (by simp))|str j=>obtain⟨t',rfl⟩:=ry;exact PySem.EqNone.ne_none_str (bK I q (by simp))|_=>exact absurd (show false=true from hs) MH
 | bl i =>
  cases rx;cases y with
  |bJ=>cases ry;exact PySem.EqNone.ne_bool_none (bK I q (by simp))|bl j=>cases ry;exact ne_bool (bK I q (N1 not Br))|str j=>obtain⟨t',rfl⟩:=ry;exact PySem.EqMixed.ne_bool_str (bK I q (by simp))|_=>exact absurd (show false=true from hs) MH
 | int i =>
  obtain⟨t,rfl⟩:=rx;cases y with
  |bJ=>cases ry;exact PySem.EqNone.ne_int_none (bK I q (by simp))|int j=>obtain⟨t',rfl⟩:=ry;exact ne_int (bK I q (N1 not yq))|str j=>obtain⟨t',rfl⟩:=ry;exact PySem.EqMixed.ne_int_str (bK I q (by simp))|_=>exact absurd (show false=true from hs) MH
 | str i =>
  obtain⟨t,rfl⟩:=rx;cases y with
  |bJ=>cases ry;exact PySem.EqNone.ne_str_none (bK I q (by simp))|bl j=>cases ry;exact PySem.EqMixed.ne_str_bool (bK I q (by simp))|int j=>obtain⟨t',rfl⟩:=ry;exact PySem.EqMixed.ne_str_int (bK I q (by simp))|str j=>obtain⟨t',rfl⟩:=ry;exact ne_str (bK I q (N1 not yt))|_=>exact absurd (show false=true from hs) MH
 | Bg i =>
  obtain⟨t,rfl⟩:=rx;cases y with
  |Bg j=>obtain⟨t',rfl⟩:=ry;exact PySem.W.ne_bytes (bK I q (N1 not yy))|_=>exact absurd (show false=true from hs) MH
 |_=>cases y<;>exact absurd (show false=true from hs) MH
def Bj:j6 X (compareOp .Lt) (Bc λ i j=>.bl (decide (i<j))):=JD λ _ _ _ _ _ _ _ q=>lt_int q
def Bs:j6 X (compareOp .Gt) (Bc λ i j=>.bl (decide (j<i))):=JD λ _ _ _ _ _ _ _ q=>gt_int q
def wW:j6 X (compareOp .Is) (λ x y H Q=>y=.bJ/\Q (.bl (decide (x=.bJ))) H):=by
 intro pins s σ H x y v u Q I rx ry h;obtain⟨rfl,q⟩:=h;cases ry;refine is_none_gen (bK I q ?_);cases x<;>first
  |(cases rx;rfl)
  |(obtain⟨t,rfl⟩:=rx;rfl)
def D7:j6 X (compareOp .IsNot) (λ x y H Q=>y=.bJ/\Q (.bl (!decide (x=.bJ))) H):=by
 intro pins s σ H x y v u Q I rx ry h;obtain⟨rfl,q⟩:=h;cases ry;refine isnot_none_gen (bK I q ?_);cases x<;>first
  |(cases rx;rfl)
  |(obtain⟨t,rfl⟩:=rx;rfl)
def tH (b:Expr)(h:op ≠ .In:=by decide)(h2:op ≠ .NotIn:=by decide):behindInMarks op b=false:=by
 have e1:(op == CmpOp.In)=false:=by cases op<;>first|rfl|exact absurd rfl h
 have e2:(op == CmpOp.NotIn)=false:=by cases op<;>first|rfl|exact absurd rfl h2
 cases b<;>simp[behindInMarks,e1,e2]
def Eh(ho:j6 X (compareOp op) r)(ha:PE X a ta)(hb:PE X b tb)(hm:behindInMarks op b=false):PE X (.Compare a [op] [b] pos) (KO r ta tb):=by
 intro pins s σ H Q I h;exact wpAny_Compare1 (G3 ha hb I h λ v u s2 x y H2 I2 rx ry q=>ho pins s2 σ H2 x y v u Q I2 rx ry q) hm
def Ju (t:TE):TT:=λ σ H Q=>t σ H λ x H'=>∃ k,x=.bl k/\Q k H'
def Ed(ho:j6 X (compareOp op) r)(ha:PE X a ta)(hb:PE X b tb)(hm:behindInMarks op b=false):PT X (.Compare a [op] [b] pos) (Ju (KO r ta tb)):=by
 intro pins s σ H Q I h;refine wpAny_isTrue_Compare1 (eB (ha pins s σ H _ I h) λ v s1 hq5=>L2.ex5 hq5 λ x H1 I1 r1 q1=>eB (hb pins s1 σ H1 _ I1 q1) λ u s2 hq5=>L2.ex5 hq5 λ y H2 I2 r2 q2=>
  eB (ho pins s2 σ H2 x y v u _ I2 r1 r2 q2) λ c s3 ⟨z,H3,I3,r3,k,e,q3⟩=>?_) hm
 subst e;cases r3;exact PN ⟨H3,I3,q3⟩
def pQ:(sizeLine:Nat)<2^63:=by rw[NH];decide
def wO:j6 X (binaryOp .Add) (λ x y H Q=>∃ i j,x=.str i/\y=.str j/\i.length+j.length<=sizeLine/\Q (.str (i++j)) H):=by
 intro pins s σ H x y v u Q I rx ry h;obtain⟨i,j,rfl,rfl,hz,q⟩:=h;obtain⟨t,rfl⟩:=rx;obtain⟨t',rfl⟩:=ry;exact add_str (λ t' tk=>⟨.str (i++j),H,I.tok _,⟨_,rfl⟩,q⟩) hz
def vals1 {x:V}(r:Vals [x] us):∃ u,us=[u]/\RelV x u:=by
 cases r with
 |cons r1 r2=>cases r2;exact⟨_,rfl,r1⟩
def vals2 {x y:V}(r:Vals [x,y] us):∃ u w',us=[u,w']/\RelV x u/\RelV y w':=by
 cases r with
 | cons r1 r2 =>
  cases r2 with
  |cons r3 r4=>cases r4;exact⟨_,_,rfl,r1,r3⟩
def jf (hc:X.calm=true):eE X (.builtin "max") (λ xs H Q=>∃ i j,xs=[.int i,.int j]/\Q (.int (if j>i then j else i)) H):=by
 intro pins s σ H xs us Q I r h;obtain⟨i,j,rfl,q⟩:=h;obtain⟨u,w',rfl,⟨t,rfl⟩,⟨t',rfl⟩⟩:=vals2 r;refine max_two_ints (I.ok.hd hc) λ h' tk k=>⟨_,H,I.kept k,?_,q⟩;by_cases hj:j>i
 ·rw[MO hj,MO hj];exact⟨_,rfl⟩
 ·rw[MP hj,MP hj];exact⟨_,rfl⟩
def kY (hc:X.calm=true):eE X (.builtin "min") (λ xs H Q=>∃ i j,xs=[.int i,.int j]/\Q (.int (if j<i then j else i)) H):=by
 intro pins s σ H xs us Q I r h;obtain⟨i,j,rfl,q⟩:=h;obtain⟨u,w',rfl,⟨t,rfl⟩,⟨t',rfl⟩⟩:=vals2 r;refine min_two_ints (I.ok.hd hc) λ h' tk k=>⟨_,H,I.kept k,?_,q⟩;by_cases hj:j<i
 ·rw[MO hj,MO hj];exact⟨_,rfl⟩
 ·rw[MP hj,MP hj];exact⟨_,rfl⟩
end
structure GI (h:Heap)(x dx C:Addr)(mA:Str->Option Value):Prop where
 obj:h.get? x=some (PySem.W.instObj C dx)
 ns:h.Ns1 dx mA
 ne:dx≠x
def zW(n:h.Ns1 dx mA):∃ od,h.get? dx=some od/\∀ name,PySem.W.lookIn name od=some (mA name):=by
 obtain⟨o,es,ep,ho,hd,hk,_,hm⟩:=n;refine⟨o,ho,λ name=>?_⟩;have e:=hm name;unfold nsFind findBy at e;rw[<-Array.find?_toList]at e;unfold PySem.W.lookIn;rw[hd];dsimp only;split
 ·rename_i y q;rw[q]at e;exact N1 some e
 ·rename_i q;rw[q]at e;have a:es.toList.any (·.refKey)=false:=by
   rw[PQ];intro y hy;obtain⟨z,t,hkey⟩:=hk y (Array.mem_toList_iff.mp hy);simp[DictEntry.refKey,hkey]
  have a':¬ es.toList.any (·.refKey)=true:=by rw[a];exact MH
  rw[MP a'];exact N1 some e
def GI.look{x:Addr}(I:GI h x dx C mA):∃ od,PySem.W.InstAt h x (PySem.W.instObj C dx) C (some od)/\∀ name,PySem.W.lookIn name od=some (mA name):=
 let ⟨od,ho,hl⟩:=zW I.ns
 ⟨od,⟨I.obj,rfl,rfl,ho⟩,hl⟩
section
variable {prog:Program}{K:PySem.W.Frag}{x:Addr}{name:Str}{v:Value}
end
def nL.some_of{o:Option Value}(r:nL (some v) o):∃ u,o=some u/\RelV v u:=by
 cases o with
 |none=>exact(show False from r).elim|some u=>exact⟨u,rfl,r⟩
section
variable{fs fs':List (Str×V)}
def Ec (hok:jA P w H h)(e:H a=some (.ins C dx fs)):∃ mA,GI h a dx C mA/\(∀ f,nL (fs.lookup f) (mA f))/\PySem.Within mA (fs.map (·.1))/\fs.length<=1000/\H dx=some (.own a):=by
 obtain⟨d,z,ne,ob,mA,n,r,q⟩:=(show ck P w H h a (.ins C dx fs) from hok a _ e);exact⟨mA,⟨ob,n,ne⟩,r,q,z,d⟩
end
structure K1 (K:PySem.W.Frag)(C:Addr):Prop where
 pg:PySem.W.plainGet K C Str.empty=true
 hd:PySem.W.hasDictIn K C=true
 po:PySem.W.plainOver K C=true
 sa:PySem.W.findIn K (.ref C) "__setattr__" = some (some (.builtin "object.__setattr__"))
def K1.get {K:PySem.W.Frag}(c:K1 K C)(f:Str):PySem.W.plainGet K C f=true:=c.pg
section
variable{fs:List (Str×V)}{f:Str}
end
section
variable{o value:Expr}{f:Str}{pos' tpos:Pos}{tv:TE}
end
section
variable{c:Value}{b:Bool}
inductive mG (K:PySem.W.Frag)(H:Hp):V->Value->Prop where
 |bJ:mG K H .bJ (.type "NoneType")
 |bl (x:Bool):mG K H (.bl x) (.type "bool")
 |int (i:Int):mG K H (.int i) (.type "int")
 |str (x:Str):mG K H (.str x) (.type "str")
 |Ja (x:UInt64):mG K H (.Ja x) (.type "float")
 |lst {a:Addr}{xs:List V} (e:H a=some (.lst xs)):mG K H (.ref a) (.type "list")
 |aq {a:Addr}{o:Obj}{xs:List V} (e:H a=some (.aq o (.lst xs))):mG K H (.ref a) (.type "list")
 |tup {a:Addr}{xs:List V} (e:H a=some (.tup xs)):mG K H (.ref a) (.type "tuple")
 |dK {a:Addr}{kvs:List (Key×V)}{ep:Nat} (e:H a=some (.dK kvs ep)):mG K H (.ref a) (.type "dict")
 |dT {a:Addr}{kvs:List (List Key×V)}{ep:Nat} (e:H a=some (.dT kvs ep)):mG K H (.ref a) (.type "dict")
 | ins {a C dx:Addr}{fs:List (Str×V)} (e:H a=some (.ins C dx fs)) (cl:K1 K C) (ha:PySem.W.findIn K (.ref C) "__class__" = some (some (.builtin "object.__class__")))
   (hn:PySem.W.specialIn K (.builtin "object.__class__") "__get__" = some (some (.builtin "getset_descriptor.__get__"))) (htk:PySem.W.takesIn K (.builtin "object.__class__")=some true)
   (hm:PySem.W.mroIn K C (.type "object")=some true):mG K H (.ref a) (.ref C)
def zY {x:V}{t:Value}(I:Inv X pins σ H s)(rx:RelV x u)(ty:mG X.K H x t)(e:PySem.W.kitOne X.K t c=some b)(h:∀ tk,Q (.bool b) { s with toks:=tk }) :
  wpAny (model X.prog X.w) A (call (.builtin "isinstance") [u,c]) Q E s:=by
 cases ty with
 |bJ=>cases (show u=Value.none from rx);exact NI PySem.W.kitx_none I.tG True.intro e (λ z=>nomatch z) h|bl y=>cases (show u=Value.bool y from rx);exact NI PySem.W.kitx_bool I.tG True.intro e (λ z=>nomatch z) h|int i=>obtain⟨t,q⟩:=(show ∃ t,u=Value.int i t from rx);cases q;exact NI PySem.W.kitx_int I.tG True.intro e (λ z=>nomatch z) h|str y=>obtain⟨t,q⟩:=(show ∃ t,u=Value.str y t from rx);cases q;exact NI PySem.W.kitx_str I.tG True.intro e (λ z=>nomatch z) h|Ja y=>obtain⟨t,q⟩:=(show ∃ t,u=Value.float y t from rx);cases q;exact NI PySem.W.kitx_float I.tG True.intro e (λ z=>nomatch z) h
 | @lst a xs ea =>
  cases (show u=Value.ref a from rx);obtain⟨_,_,n,_,h1⟩:=(show ck X.prog X.w H s.heap a (.lst xs) from I.hok a _ ea);exact NI QH I.tG ⟨_,h1,rfl⟩ e (λ z=>nomatch z) h
 | @aq a ob xs ea =>
  cases (show u=Value.ref a from rx);obtain⟨_,_,_,n,_,h1⟩:=(show ck X.prog X.w H s.heap a (.aq ob (.lst xs)) from I.hok a _ ea);exact NI QH I.tG ⟨_,h1,rfl⟩ e (λ z=>nomatch z) h
 | @tup a xs ea =>
  cases (show u=Value.ref a from rx);obtain⟨_,_,_,p⟩:=(show ck X.prog X.w H s.heap a (.tup xs) from I.hok a _ ea);obtain⟨o,h1,h2,_⟩:=p.is;exact NI PySem.W.kitx_tuple I.tG ⟨o,h1,h2⟩ e (λ z=>nomatch z) h
 | @dK a kvs ep ea =>
  cases (show u=Value.ref a from rx);obtain⟨_,_,vs,_,p⟩:=(show ck X.prog X.w H s.heap a (.dK kvs ep) from I.hok a _ ea);obtain⟨o,es,h1,h2,_⟩:=p;exact NI PySem.W.kitx_dict I.tG ⟨o,h1,h2.1⟩ e (λ z=>nomatch z) h
 | @dT a kvs ep ea =>
  cases (show u=Value.ref a from rx);obtain⟨_,_,xs,_,o,es,h1,h2,_⟩:=(show ck X.prog X.w H s.heap a (.dT kvs ep) from I.hok a _ ea);exact NI PySem.W.kitx_dict I.tG ⟨o,h1,h2.1⟩ e (λ z=>nomatch z) h
 | @ins a C dx fs ea cl ha hn htk hm =>
  cases (show u=Value.ref a from rx);obtain⟨mA,O,_⟩:=Ec I.hok ea;obtain⟨od,J,_⟩:=O.look;exact NI (PySem.W.kitx_own (cl.get _) cl.hd ha hn htk hm) I.tG J e (λ z=>nomatch z) h
end
structure gB (k:Nat)(A:Around):Prop where
 hd:A.handled=none
 dp:A.depth+3*k+5<recursionLimit
 un:A.units+16*k+200<cLine
def gB.mono {j k:Nat}(r:gB k A)(h:j<=k):gB j A:=⟨r.hd,by have:=r.dp;omega,by have:=r.un;omega⟩
def gB.deeper {k:Nat}(r:gB (k+1) A)(env:Env):gB k (A.deeper env):=
 ⟨r.hd,by have:=r.dp;show A.depth+1+3*k+5<_;omega,by have:=r.un;show A.units+3+16*k+200<_;omega⟩
def gB.depth {k:Nat}(r:gB k A):A.depth<recursionLimit:=by have:=r.dp;omega
def gB.units {k:Nat}(r:gB k A):A.units+64<cLine:=by have:=r.un;omega
def Js:TA:=λ _ H Q=>Q [] H
def Ge (ta:TE)(tr:TA):TA:=λ σ H Q=>ta σ H λ x H1=>tr σ H1 λ xs H2=>Q (x::xs) H2
section
variable{t:TA}
def jC:PA X [] Js:=λ _ _ _ _ H Q I h=>QI ⟨[],H,I,.nil,h⟩
def gm (ha:PE X e te)(hr:PA X es t)(hs:starEach (e::es) X.env=(false,eval e X.env)::starEach es X.env:=by rfl):PA X (e::es) (Ge te t):=by
 intro pos pins s σ H Q I h;rw[hs];show wpAny _ _ (spliced ((false,eval e X.env)::backTo pos (starEach es X.env))) _ _ s;refine PD (eB (ha pins s σ H _ I h) λ u s1 hq5=>L2.ex5 hq5 λ x H1 I1 r1 q1=>?_);exact eB (hr pos pins s1 σ H1 _ I1 q1) λ us s2 hq5=>L2.ex5 hq5 λ xs H2 I2 r2 q2=>⟨x::xs,H2,I2,.cons r1 r2,q2⟩
def Lf (t:TA):TE:=λ σ H Q=>t σ H λ xs H1=>xs.length<=sizeLine/\∀ p,H1 p=none->Q (.ref p) (upd H1 p (.tup xs))
def Lc (t:TA):TE:=λ σ H Q=>t σ H λ xs H1=>xs.length<=sizeLine/\∀ p,H1 p=none->Q (.ref p) (upd H1 p (.lst xs))
def GZ {x1}(h:PA X es t):PE X (.Tuple es x1 pos) (Lf t):=by
 intro pins s σ H Q I hq;refine wpAny_Tuple_spliced (eB (h pos pins s σ H _ I hq) λ us s1 ⟨xs,H1,I1,r,z,q⟩=>⟨by rw[<-r.length];exact z,?_⟩);have hf:H1 s1.heap.objs.size=none:=I1.hok.fresh (ML _);refine⟨.ref s1.heap.objs.size,upd H1 s1.heap.objs.size (.tup xs),I1.laid (t':=s1.toks) (λ b u e=>Mz _ e) (ML _) ?_,rfl,q _ hf⟩;exact⟨z,us,r,⟨_,MI _ rfl⟩⟩
def Hd (h:PA X es t):PE X (.List es pos) (Lc t):=by
 intro pins s σ H Q I hq;refine wpAny_List_spliced (eB (h pos pins s σ H _ I hq) λ us s1 ⟨xs,H1,I1,r,z,q⟩=>⟨by rw[<-r.length];exact z,?_⟩);have hf:H1 s1.heap.objs.size=none:=I1.hok.fresh (ML _);refine⟨.ref s1.heap.objs.size,upd H1 s1.heap.objs.size (.lst xs),I1.laid (t':=s1.toks) (λ b u e=>Mz _ e) (ML _) ?_,rfl,q _ hf⟩;exact⟨z,us,0,r,MI _ rfl⟩
end
abbrev Sp:=List V->Hp->VK->XK->Prop
variable {sp:Sp}
abbrev Bw:=List Env->Hp->Shared->XK->Value->Shared->Prop
variable {CX:Bw}
structure D5 (P:Program)(w:World)(K:PySem.W.Frag)(mg:Str->Option Value)(base:Heap)(A:Around)(outer:List Env)(s:Shared)(H:Hp):Prop where
 frames:A.frames=some outer
 mod:Mod K mg base
 bs:∀ b o,base.get? b=some o->s.heap.get? b=some o/\H b=none
 Ef:base.objs.size<=s.heap.objs.size
 o4:s.heap.FunFrames base outer
 GJ:∀ b∈frs outer,H b=none
 hok:jA P w H s.heap
 bare:AllBare s.gens
def CE (outer:List Env)(P:Program)(w:World)(H:Hp)(s:Shared)(Q:VK)(u:Value)(s':Shared):Prop:=
 ∃ v H',s'.os=s.os/\AllBare s'.gens/\Un (frs outer) [] H H' s.heap s'.heap/\jA P w H' s'.heap/\RelV v u/\Q v H'
def CR (CX:Bw)(outer:List Env)(P:Program)(w:World)(H:Hp)(s:Shared)(Q:VK)(E:XK)(r:Result)(s':Shared):Prop:=
 match r with
 |.ok (.ret u)=>CE outer P w H s Q u s'
 |.ok _=>False
 |.error e=>CX outer H s E e s'
structure pN (P:Program)(w:World)(K:PySem.W.Frag)(mg:Str->Option Value)(base:Heap)(CX:Bw)(k:Nat)(f:Addr)(fd:FuncData)(ps:List Str)(sp:Sp):Prop where
 len:∀ vs H Q E,sp vs H Q E->vs.length=ps.length
 run:∀ (A:Around) (outer:List Env) (s:Shared) (H:Hp) (args:Args) (us:List Value) (vs:List V) (Q:VK) (E:XK),gB k A->D5 P w K mg base A outer s H->BindsTo s fd args (ps.zip us)->Vals vs us->sp vs H Q E ->
  codeAny (model P w) A (.call (.ref f) args) (CR CX outer P w H s Q E) s
section
def Inv.Ll (I:Inv X pins σ H s):D5 X.prog X.w X.K X.mg X.base X.A X.stack s H:=
 ⟨I.ok.frames,I.ok.mod,I.bs,NX I.ok.Ef I.sz,I.stack,I.yw,I.hok,I.bare⟩
def Inv.after {Q:VK}(I:Inv X pins σ H s)(h:CE X.stack X.prog X.w H s Q u s'):EP X pins σ Q u s':=by
 obtain⟨v,H',os,bare,un,hok,r,q⟩:=h;obtain⟨hh,g,d,t,os'⟩:=s';obtain rfl:os'=s.os:=os;exact⟨v,H',I.call (h':=hh) (g':=g) (d':=d) (t':=t) (ch:=[]) un hok bare (λ b z=>absurd z (by simp)),r,q⟩
end
def Gg (sp:Sp)(dvs:List V)(E:XK)(t:TA):TE:=λ σ H Q=>t σ H λ vs H1=>sp (vs++dvs) H1 Q E
def Binds (K:PySem.W.Frag)(fd:FuncData)(ps:List Str)(ds:List Value):Prop:=
 ∀ (s:Shared) (us:List Value),K.In s.heap->(us++ds).length=ps.length->BindsTo s fd ⟨us,[]⟩ (ps.zip (us++ds))
def Binds.all {K:PySem.W.Frag}(h:∀ us:List Value,us.length=ps.length->bindArgs fd ⟨us,[]⟩=pure (ps.zip us)):Binds K fd ps []:=λ s us _ hl=>by
 rw[Nh]at hl ⊢;exact .of_eq (h us hl)
def Passes (CX:Bw)(X:Cx)(E:XK):Prop:=∀ (pins:List (Addr×Obj)) (σ:St) (H:Hp) (s:Shared) (e:Value) (s':Shared),Inv X pins σ H s->CX X.stack H s E e s'->X.xe e s'
section
variable{k:Nat}{dvs:List V}{ds:List Value}{E:XK}{m:Str}{apos:Pos}{o:Expr}{t:TA}
def GX{Q:VK}{vs:List V}(F:pN X.prog X.w X.K X.mg X.base CX k f fd ps sp)(hr:gB k X.A)(hb:Binds X.K fd ps ds)(hd:Vals dvs ds)(hx:Passes CX X E)
  (I:Inv X pins σ H s) (r:Vals vs us) (h:sp (vs++dvs) H Q E):wpAny (model X.prog X.w) X.A (call (.ref f) us) (EP X pins σ Q) X.xe s:=by
 have r2:Vals (vs++dvs) (us++ds):=r.append hd;have hl:(us++ds).length=ps.length:=by rw[<-r2.length];exact F.len _ _ _ _ h
 refine wpAny_call (Qu (F.run X.A X.stack s H ⟨us,[]⟩ (us++ds) (vs++dvs) Q E hr I.Ll (hb s us I.tG hl) r2 h) λ r s' hq=>?_);cases r with
 |error e=>exact hx pins σ H s e s' I hq
 | ok fl =>
  cases fl with
  |ret u=>exact I.after hq|next=>exact False.elim hq|brk=>exact False.elim hq|cont=>exact False.elim hq
def Eg (F:pN X.prog X.w X.K X.mg X.base CX k f fd ps sp)(hr:gB k X.A)(hg:Gl X x)(hm:X.mg x=some (.ref f))(hk:PySem.W.keepIn X.K (.ref f)=true)(hb:Binds X.K fd ps ds)(hd:Vals dvs ds)(hx:Passes CX X E)
  (ha:PA X (e::es) t) (hdb:(x == ("__debug__" : Str))=false:=by decide) (he:starEach (e::es) X.env=(false,eval e X.env)::starEach es X.env:=by rfl) (hpl:(backTo pos (starEach es X.env)).any (·.1)=false:=by rfl) :
  PE X (.Call (.Name x p) (e::es) [] pos) (Gg sp dvs E t):=by
 intro pins s σ H Q I h;refine Oo (Ej I hg hm ?_ hdb);refine PySem.W.callWith_K (h₀:=X.base) I.ok.mod.La hk (eB (ha pos pins s σ H _ I h) λ us s1 hq5=>L2.ex5 hq5 λ vs H1 I1 r q=>⟨I1.tG,?_⟩) he hpl;exact GX F hr hb hd hx I1 r q
end
section
variable{k:Nat}{ks:List Str}{E:XK}{m:Str}{apos kpos:Pos}{o:Expr}{kws:List Keyword}{t tk:TA}{nm:Option Str}
variable {g:List Value->List Value->List Value}{gV:List V->List V->List V}
end
structure aT (N P:List Str)(sc:Scope):Prop where
 kind:sc.kind=.function
 co:sc.isCoroutine=false
 gen:sc.isGenerator=false
 nd:N.Nodup
 pre:N.take P.length=P
 par:∀ x∈P,sc.names.lookup x=some .local\/sc.names.lookup x=some .cell
 GO:∀ y∈sc.names,y.2 ≠ .free
def rO {kindOf:Str->Option NameKind}{x:Str}:∀ {binds:List (Str×Value)}{m:Str->Option Value},(∀ v,(x,v)∉binds)->bindL kindOf binds m x=m x
 |[],_,_=>rfl
 | (n,v)::r,m,h=>by
  unfold bindL;rw[rO λ w hw=>h w (ME _ hw)];split
  ·have:x≠n:=by rintro rfl;exact h v MD
   simp[this]
  ·rfl
def rR {kindOf:Str->Option NameKind}{x:Str}:∀ {binds:List (Str×Value)}{m:Str->Option Value},(∀ v,(x,v)∉binds)->bindC kindOf binds m x=m x
 |[],_,_=>rfl
 | (n,v)::r,m,h=>by
  unfold bindC;rw[rR λ w hw=>h w (ME _ hw)];split
  ·rfl
  ·have:x≠n:=by rintro rfl;exact h v MD
   simp[this]
def rQ {kindOf:Str->Option NameKind}{x:Str}{v:Value}:∀ {P:List Str}{vs:List Value}{i:Nat}{m:Str->Option Value},P.Nodup->P[i]?=some x->vs[i]?=some v->kindOf x=some .local ->
  bindL kindOf (P.zip vs) m x=some v
 |[],_,_,_,_,h,_,_=>by simp at h
 |_::_,[],_,_,_,_,h,_=>by simp at h
 | p::P,w::vs,0,m,nd,h1,h2,hk=>by
  simp at h1 h2;subst h1;subst h2;show bindL kindOf ((p,w)::P.zip vs) m p=_;unfold bindL;rw[rO λ v hv=>(MZ.mp nd).1 (QW hv).1,MO hk];simp
 | p::P,w::vs,i+1,m,nd,h1,h2,hk=>by
  show bindL kindOf ((p,w)::P.zip vs) m x=_;unfold bindL;exact rQ (i:=i) (MZ.mp nd).2 (by simpa using h1) (by simpa using h2) hk
def rP {kindOf:Str->Option NameKind}{x:Str}{v:Value}:∀ {P:List Str}{vs:List Value}{i:Nat}{m:Str->Option Value},P.Nodup->P[i]?=some x->vs[i]?=some v->kindOf x≠some .local ->
  bindC kindOf (P.zip vs) m x=some v
 |[],_,_,_,_,h,_,_=>by simp at h
 |_::_,[],_,_,_,_,h,_=>by simp at h
 | p::P,w::vs,0,m,nd,h1,h2,hk=>by
  simp at h1 h2;subst h1;subst h2;show bindC kindOf ((p,w)::P.zip vs) m p=_;unfold bindC;rw[rR λ v hv=>(MZ.mp nd).1 (QW hv).1,MP hk];simp
 | p::P,w::vs,i+1,m,nd,h1,h2,hk=>by
  show bindC kindOf ((p,w)::P.zip vs) m x=_;unfold bindC;exact rP (i:=i) (MZ.mp nd).2 (by simpa using h1) (by simpa using h2) hk
def start (N:List Str)(vs:List V):St:=vs.map some++List.replicate (N.length-vs.length) none
def q9 (CX:Bw)(P:Program)(w:World)(K:PySem.W.Frag)(mg:Str->Option Value)(base:Heap)(N:List Str)(qual:Str)(scope:Scope)(f:Addr)(cd:Value)(A:Around)(outer:List Env)(s:Shared)(H:Hp)(E:XK):Cx where
 prog:=P
 w:=w
 K:=K
 mg:=mg
 base:=base
 A:=A.deeper (envOfC qual scope s.heap.objs.size f cd)
 N:=N
 s₀:=s
 H₀:=H
 env:=envOfC qual scope s.heap.objs.size f cd
 outer:=outer
 stack:=envOfC qual scope s.heap.objs.size f cd::outer
 ex:=[]
 calm:=true
 fn:=λ _=>true
 pn:=[]
 xe:=λ e s'=>wpAny (model P w) (A.deeper (envOfC qual scope s.heap.objs.size f cd)) (leaving (envOfC qual scope s.heap.objs.size f cd) e) (λ _ s''=>CX outer H s E e s'') (λ e' s''=>CX outer H s E e' s'') s'
def uZ {sc:Scope}{n:Nat}(h:sc.names.lookup x=some .cell):∃ c,(cellsFrom n sc.names []).lookup x=some c:=by
 have q:=O4 sc.names n [] (.inl h);exact OT.mp q
def zT{K:PySem.W.Frag}{mg:Str->Option Value}{base:Heap}{qual:Str}{scope:Scope}{cd:Value}{outer:List Env}{s1:Shared}{E:XK}{vs:List V}
  (S:aT N ps scope) (hd:A.handled=none) (e0:D5 P w K mg base A outer s H) (hl:vs.length=ps.length) (r:Vals vs us)
  (x:InCallC s s.heap.objs.size (bindL (envOfC qual scope s.heap.objs.size f cd).kindOf (ps.zip us) λ _=>none) (cellsFrom (s.heap.objs.size+1) scope.names []) (bindC (envOfC qual scope s.heap.objs.size f cd).kindOf (ps.zip us) λ _=>none) s1) :
  Inv (q9 CX P w K mg base N qual scope f cd A outer s H E) [] (start N vs) H s1:=by
 have hpl:ps.length<=N.length:=by have:=N1 List.length S.pre;rw[OD]at this;omega
 obtain⟨h1,tk,rfl,hk⟩:=x.done;have noA:∀ b:Addr,b∉(q9 CX P w K mg base N qual scope f cd A outer s H E).ex:=λ b z=>absurd (show b∈([]:List Addr) from z) (by simp);refine⟨⟨e0.mod,S.kind,rfl,rfl,ML _,λ y z c h1 h2=>?_,λ y hy=>?_,λ y c _ h=>?_,λ _=>hd,Around.frames_deeper e0.frames,.inr ⟨rfl,rfl⟩,λ b z=>absurd z (noA b),e0.bs,e0.Ef,λ b _ _=>noA b,λ b z=>absurd z (noA b),e0.o4,e0.GJ⟩,
  rfl,e0.bare,Un.kept hk,⟨_,x.toInCall.ns,λ i y v h1 h2 h3=>?_⟩,λ y c h=>⟨_,x.cell y c h⟩,e0.hok.fresh (ML _),λ y c h=>?_,λ p hp=>absurd (show p∈([]:List (Addr×Obj)) from hp) (by simp),e0.hok.kept hk,?_⟩
 ·exact name_of_addr x.apart (OX h1) (OX h2)
 ·have hy:scope.names.lookup y=some .cell\/scope.names.lookup y=some .free:=hy;rcases hy with hy|hy
  ·exact uZ hy
  ·exact absurd rfl (S.GO _ (OX hy))
 ·exact Ow (x.above y c (OX h))
 ·have hi:i<vs.length:=by
   unfold start at h2;by_cases hi:i<vs.length
   ·exact hi
   ·rw[Oe (by simpa using hi)]at h2;rw[List.getElem?_replicate]at h2;split at h2<;>cases h2
  have ha:vs[i]?=some v:=by
   unfold start at h2;rw[QF (by simpa using hi),MR]at h2;cases e:vs[i]? with
   |none=>rw[e]at h2;cases h2|some a=>rw[e]at h2;cases h2;rfl
  obtain⟨u,hu,rv⟩:=r.get ha;have hp:ps[i]?=some y:=by
   rw[<-S.pre,List.getElem?_take_of_lt (by omega)];exact h1
  have ndP:ps.Nodup:=by rw[<-S.pre];exact S.nd.sublist (List.take_sublist _ _)
  refine⟨u,rv,?_⟩;rcases S.par y (Qj hp) with k|k
  ·exact .inl ⟨k,rQ ndP hp hu k⟩
  ·obtain⟨c,e⟩:=uZ (n:=s.heap.objs.size+1) k;refine .inr ⟨.inl k,c,e,?_⟩;have q:=x.cell y c e;rw[rP ndP hp hu (by show scope.names.lookup y≠_;rw[k];decide)]at q;exact q
 ·exact e0.hok.fresh (Ow (x.above y c (OX h)))
 ·unfold start;show _=N.length;rw[MY,MC,List.length_replicate];omega
def Jm{K:PySem.W.Frag}{mg:Str->Option Value}{base:Heap}{k:Nat}{name qual:Str}{params:Arguments}{scope:Scope}{dV kV doc pm cdv ct oc:Value}{an od:Option Addr}
  {osl:Array (Option Value)} (lk:K.lookup f=some ⟨oc,od,.func (PySem.W.fnOf name qual params body scope dV kV doc pm an cdv ct),osl⟩) (hcd:PySem.W.codeIn K cdv qual=true) (S:aT N ps scope)
  (len:∀ vs H Q E,sp vs H Q E->vs.length=ps.length)
  (hbody:∀ (A:Around) (outer:List Env) (s:Shared) (H:Hp) (vs:List V) (Q:VK) (E:XK),gB k (A.deeper (envOfC qual scope s.heap.objs.size f cdv))->sp vs H Q E ->
   ∃ t,mF (q9 CX P w K mg base N qual scope f cdv A outer s H E) body t/\t { nx:=λ _ H'=>Q .bJ H',rt:=Q } (start N vs) H) :
  pN P w K mg base CX (k+1) f (PySem.W.fnOf name qual params body scope dV kV doc pm an cdv ct) ps sp:=by
 refine⟨len,λ A outer s H args us vs Q E hr e0 hb r hsp=>?_⟩;have hl:=len _ _ _ _ hsp;have KX:K.In s.heap:=e0.mod.La.keeps λ b o e=>(e0.bs b o e).1;have lim:s.heap.NoLimit:=e0.mod.nolimit.keeps λ b o e=>(e0.bs b o e).1;have hkind:∀ y∈ps.zip us,scope.names.lookup y.1=some .local\/(scope.names.lookup y.1=some .cell/\((cellsFrom (s.heap.objs.size+1) scope.names []).lookup y.1).isSome=true):=λ ⟨n,v⟩ hy=>by
  rcases S.par n (QW hy).1 with q|q
  ·exact .inl q
  ·exact .inr ⟨q,O4 _ _ _ (.inl q)⟩
 refine codeAny_call_function hr.depth (KX _ _ lk) rfl S.co S.gen rfl (PySem.W.codeRec_of KX hcd) (hb _ _ _ _ ?_);refine wpAny_newFunctionEnv_cells S.kind hkind λ env he s1 x=>?_;subst he;refine⟨lim.keeps x.toInCall.keep,codeAny_func ?_⟩;obtain⟨t,ht,hq⟩:=hbody A outer s H vs Q E (hr.deeper _) hsp;have I:Inv (q9 CX P w K mg base N qual scope f cdv A outer s H E) [] (start N vs) H s1:=zT S hr.hd e0 hl r x;refine Om (ht [] s1 (start N vs) H _ I hq) (λ fl s' hs=>?_) λ e s' hs=>hs;have fin:∀ {σ':St}{H':Hp}{v:V}{u:Value},Inv (q9 CX P w K mg base N qual scope f cdv A outer s H E) [] σ' H' s'->RelV v u->Q v H'->CE outer P w H s Q u s':=
  λ {σ' H' v u} J rv q=>⟨v,H',J.os,J.bare,J.base,J.hok,rv,q⟩
 cases fl with
 | ret u =>
  obtain⟨v,σ',H',J,rv,q⟩:=hs;exact fin J rv q
 | next =>
  obtain⟨σ',H',J,q⟩:=hs;exact fin (v:=V.bJ) (u:=Value.none) J rfl q
 | brk =>
  obtain⟨_,_,_,q⟩:=hs;exact False.elim q
 | cont =>
  obtain⟨_,_,_,q⟩:=hs;exact False.elim q
section
variable{t:TA}{id T:String}{r:List V->Hp->VK->Prop}
def LZ (r:List V->Hp->VK->Prop)(t:TA):TE:=λ σ H Q=>t σ H λ vs H1=>r vs H1 Q
def pM (hc:eE X (.builtin id) r)(hg:Gl X x)(hm:X.mg x=none)(hv:bootBuiltins x=some (.builtin id))(ha:PA X (e::es) t)(hn:x ≠ "__name__" :=by decide)(hdb:(x == ("__debug__" : Str))=false:=by decide)
  (he:starEach (e::es) X.env=(false,eval e X.env)::starEach es X.env:=by rfl) (hpl:(backTo pos (starEach es X.env)).any (·.1)=false:=by rfl):PE X (.Call (.Name x p) (e::es) [] pos) (LZ r t):=by
 intro pins s σ H Q I h;refine Oo (kq I hg hm hv ?_ hn hdb);exact Qd (eB (ha pos pins s σ H _ I h) λ us s1 hq5=>L2.ex5 hq5 λ vs H1 I1 r1 q1=>hc pins s1 σ H1 vs us Q I1 r1 q1) he hpl
def zU (hc:eE X (.type T) r)(hg:Gl X x)(hm:X.mg x=none)(hv:bootBuiltins x=some (.type T))(ha:PA X (e::es) t)(hn:x ≠ "__name__" :=by decide)(hdb:(x == ("__debug__" : Str))=false:=by decide)
  (he:starEach (e::es) X.env=(false,eval e X.env)::starEach es X.env:=by rfl) (hpl:(backTo pos (starEach es X.env)).any (·.1)=false:=by rfl):PE X (.Call (.Name x p) (e::es) [] pos) (LZ r t):=by
 intro pins s σ H Q I h;refine Oo (kq I hg hm hv ?_ hn hdb);exact Oc (eB (ha pos pins s σ H _ I h) λ us s1 hq5=>L2.ex5 hq5 λ vs H1 I1 r1 q1=>hc pins s1 σ H1 vs us Q I1 r1 q1) he hpl
end
end L2
namespace HT
open PySem PyProof.Rows
section
open PySem.SeqAt
open PySem.AutoSeq1 (wpAny_loadPart')
open PySem.MeetsSeq PySem.MeetsSeq2 PySem.MeetsSeq3
end
section
variable {prog:Program}{w:World}{A:Around}{E:Value->Shared->Prop}{s:Shared}
def Eo {t b:Addr}{vs ws:List Value}{Q:Value->Shared->Prop}(ht:IsTup s.heap t vs.toArray)(hb:IsTup s.heap b ws.toArray)(hv:vs≠[])
  (h1:ws=[]->Q (.ref t) s) (h2:ws≠[]->Q (.ref s.heap.objs.size) { s with heap:=s.heap.push { cls:=.type "tuple",data:=.seq (vs++ws).toArray } })
  (hsz:vs.length+ws.length<=sizeLine):wpAny (model prog w) A (binaryOp .Add (.ref t) (.ref b)) Q E s:=by
 obtain⟨⟨cls,dd,data,sl⟩,ho,hc,n,hd⟩:=id ht;obtain⟨⟨cls2,dd2,data2,sl2⟩,ho2,hc2,n2,hd2⟩:=id hb;simp only at hc hd hc2 hd2;subst hc hd hc2 hd2;have e:vs.toArray++ws.toArray=(vs++ws).toArray:=by simp
 by_cases hw:ws=[]
 ·exact concat_meets ⟨_,ho,rfl⟩ ⟨_,ho2,rfl⟩ noFill_tuple_add seq_tuple_add PySem.F.slot_tuple_add PySem.F.entry_tuple_add (PySem.F.args_tuple_add_2 _ _)
   (tuple_addW1 t b vs.toArray ws.toArray n n2 dd dd2 sl sl2 (by simpa using hv) (by simp[hw])) ⟨ho,ho2,h1 hw⟩
 ·refine concat_meets ⟨_,ho,rfl⟩ ⟨_,ho2,rfl⟩ noFill_tuple_add seq_tuple_add PySem.F.slot_tuple_add PySem.F.entry_tuple_add (PySem.F.args_tuple_add_2 _ _)
   (tuple_addW2 t b vs.toArray ws.toArray n n2 dd dd2 sl sl2 (by simpa using hv) (by simpa using hw) (by rw[MN,MN];exact hsz)) ⟨ho,ho2,?_⟩
  rw[e];exact h2 hw
def eS (n d:Nat):Option Int->Nat
 |none=>d
 |some v=>if v<0 then (v+(n:Int)).toNat else min v.toNat n
def Hg (n d:Nat)(hd:d<=n)(o:Option Int):eS n d o<=n:=by
 cases o with
 |none=>exact hd
 | some v =>
  show(if v<0 then (v+(n:Int)).toNat else min v.toNat n)<=n;by_cases hv:v<0
  ·rw[MO hv];omega
  ·rw[MP hv];exact Nat.min_le_right _ _
def yz (v:Int)(n d:Nat):(if v<0 then max (v+(n:Int)) 0 else min v (n:Int))=((eS n d (some v):Nat):Int):=by
 show(if v<0 then max (v+(n:Int)) 0 else min v (n:Int))=(((if v<0 then (v+(n:Int)).toNat else min v.toNat n):Nat):Int);by_cases hv:v<0
 ·simp only[MO hv];omega
 ·simp only[MP hv];omega
def wZ (lo hi:Option Int)(n:Nat):Builtin.Slice.sliceAdjust lo hi 1 (n:Int)=(((eS n 0 lo:Nat):Int),((eS n n hi:Nat):Int)):=by
 have h1:¬ ((1:Int)<0):=by omega
 unfold Builtin.Slice.sliceAdjust;simp only[h1,ON];refine Prod.ext ?_ ?_
 ·cases lo with
  |none=>rfl|some v=>exact yz v n 0
 ·cases hi with
  |none=>rfl|some v=>exact yz v n n
def w4 (i j:Nat):Builtin.Slice.slicePlaces (i:Int) (j:Int) 1=j-i:=by
 unfold Builtin.Slice.slicePlaces;have h1:(1:Int)>0:=by omega
 simp only[h1,OG,Int.ediv_one];split<;>omega
def pS {v:Value}{o:Option Int}{Q:Option Int->Shared->Prop}(p:IsPart v o)(h:Q o s):wpAny (model prog w) A (Builtin.Slice.slicePartIndex v) Q E s:=by
 cases p with
 |none=>exact slicePart_none h|int i t=>exact slicePart_int h
def jg {sl:Addr}{vl vu:Value}{lo hi:Option Int}{n:Nat}{Q:Int×Int×Nat->Shared->Prop}(hs:s.heap.IsSliceOf sl vl vu .none)(pl:IsPart vl lo)(pu:IsPart vu hi)
  (h:Q (((eS n 0 lo:Nat):Int),1,eS n n hi-eS n 0 lo) s):wpAny (model prog w) A (Builtin.Slice.sliceApplied (.ref sl) (pure (n:Int))) Q E s:=by
 obtain⟨os,hos,hcs,hds⟩:=id hs;unfold Builtin.Slice.sliceApplied Builtin.Slice.sliceFields;refine My (My (Nx hos hds (x:=vl) rfl (My (Nx hos hds (x:=vu) rfl (My (Nx hos hds (x:=.none) rfl (MB ?_)))))));refine My (slicePart_none ?_);show wpAny _ _ (if ((1:Int) == 0)=true then _ else _) _ _ s;rw[MP (by decide)];refine My (pS pl (My (pS pu (My (MB ?_)))));show wpAny _ _ (match Builtin.Slice.sliceAdjust lo hi 1 (n:Int) with|(lo,hi)=>pure (lo,(1:Int),Builtin.Slice.slicePlaces lo hi 1)) _ _ s;rw[wZ lo hi n];show wpAny _ _ (pure (((eS n 0 lo:Nat):Int),(1:Int),Builtin.Slice.slicePlaces ((eS n 0 lo:Nat):Int) ((eS n n hi:Nat):Int) 1)) _ _ s;rw[w4];exact MB h
def BE (xs:Array Value)(i k:Nat):((List.range k).filterMap λ (m:Nat)=>xs[((i:Int)+(m:Int)*1).toNat]?).toArray=((xs.toList.drop i).take k).toArray:=by
 have e:(λ (m:Nat)=>xs[((i:Int)+(m:Int)*1).toNat]?)=λ m=>xs[i+m]?:=by
  funext m;have:((i:Int)+(m:Int)*1).toNat=i+m:=by omega
  rw[this]
 rw[e];have:=pick_run xs i k;rw[List.filterMap_map]at this;have e2:((λ x=>xs[x]?)∘λ x=>i+x)=λ m=>xs[i+m]?:=rfl;rw[e2]at this;rw[this]
def mK {t sl:Addr}{items:Array Value}{vl vu:Value}{lo hi:Option Int}{Q:Value->Shared->Prop}(ht:IsTup s.heap t items)(hs:s.heap.IsSliceOf sl vl vu .none)(pl:IsPart vl lo)(pu:IsPart vu hi)
  (hw:¬ (eS items.size 0 lo=0/\eS items.size items.size hi=items.size))
  (h:Q (.ref s.heap.objs.size) { s with heap:=s.heap.push { cls:=.type "tuple",data:=.seq ((items.toList.drop (eS items.size 0 lo)).take (eS items.size items.size hi-eS items.size 0 lo)).toArray } })
  (hsz:items.size<=sizeLine):wpAny (model prog w) A (getItem (.ref t) (.ref sl)) Q E s:=by
 have htake:sizeOk (.seq ((items.toList.drop (eS items.size 0 lo)).take (eS items.size items.size hi-eS items.size 0 lo)).toArray):=by
  show((items.toList.drop (eS items.size 0 lo)).take (eS items.size items.size hi-eS items.size 0 lo)).toArray.size<=sizeLine;rw[MN,OD,Ph,M8];omega
 have hj:eS items.size items.size hi<=items.size:=Hg _ _ (ML _) hi;obtain⟨os,hos,hcs,hds⟩:=id hs;have hTs:s.TypeIs (.ref sl) "slice" :=⟨os,hos,hcs⟩;unfold getItem
 try with_reducible refine Od ?_
 first|refine My (MB ?_)|skip
 refine My (wpAny_sequenceKey ht.typeIs (by decide) ?_);refine My (Nf (name:=Str.ofString "__getitem__") ht.typeIs Oj
  (Nd Oj ht.typeIs entry_tuple_getitem ?_ (args_tuple_getitem _ _)))
 show wpAny _ _ (Builtin.Tuple.tupleItemsOf (.ref t) >>= _) _ _ s;refine My (tupleItemsOf_ ht ?_);refine My (O5 hTs ?_);rw[MO (by decide)];refine My (jg hs pl pu ?_);have hno:¬ ((((eS items.size 0 lo:Nat):Int) == 0&&(1:Int) == 1&&(eS items.size items.size hi-eS items.size 0 lo) == items.size)=true):=by
  intro q;rw[Nk,Nk]at q;have q1:((eS items.size 0 lo:Nat):Int)=0:=eq_of_beq q.1.1;have q2:eS items.size items.size hi-eS items.size 0 lo=items.size:=eq_of_beq q.2;exact hw ⟨by omega,by omega⟩
 show wpAny _ _ (if (((eS items.size 0 lo:Nat):Int) == 0&&(1:Int) == 1&&(eS items.size items.size hi-eS items.size 0 lo) == items.size)=true then _ else _) _ _ s;rw[MP hno,BE]
 first
  |exact My (m:=Builtin.Tuple.tupleExact _) (Nm (MB ⟨_,rfl,MB h⟩) htake)
  |exact My (m:=Builtin.Tuple.tupleExact _) (Nm (My (MB (MB ⟨_,rfl,MB h⟩))) htake)
  |exact My (My (m:=Builtin.Tuple.tupleExact _) (Nm (MB (MB ⟨_,rfl,MB h⟩)) htake))
  |exact My (My (m:=Builtin.Tuple.tupleExact _) (Nm (MB ⟨_,rfl,MB h⟩) htake))
end
end HT
namespace L2
open PySem PySem.Spec PyProof.Rows
variable {a b:Addr}{A:Around}{X:Cx}{e:Expr}{H:Hp}{pins:List (Addr×Obj)}{xs:List (List Key×Addr×Value)}{kvs:List (List Key×V)}{us:List Value}{n t':Nat}{o:Option V}{pos:Pos}{P:Program}{s:Shared}{σ:St}{T:String}{α:Type}{x y:V}{u:Value}{E Q:Value->Shared->Prop}{w:World}
abbrev TO:=St->Hp->(Option Int->Hp->Prop)->Prop
def PO (X:Cx)(e:Option Expr)(t:TO):Prop:=
 ∀ (pins:List (Addr×Obj)) (s:Shared) (σ:St) (H:Hp) (Q:Option Int->Hp->Prop),Inv X pins σ H s->t σ H Q ->
  wpAny (model X.prog X.w) X.A (evalPart e X.env) (λ u s'=>∃ o H',Inv X pins σ H' s'/\IsPart u o/\Q o H') X.xe s
def Em:TO:=λ _ H Q=>Q none H
def JJ (t:TE):TO:=λ σ H Q=>t σ H λ x H1=>∃ i,x=.int i/\Q (some i) H1
def intsAre_of {ns:List Int}:∀ {us:List Value},Vals (ns.map V.int) us->IntsAre us ns:=by
 induction ns with
 |nil=>intro us r;rw[List.map_nil]at r;cases r;exact .nil
 | cons n ns ih =>
  intro us r;rw[MU]at r;cases r with
  | cons r1 r2 =>
   obtain⟨t,e⟩:=r1;subst e;exact .cons n t (ih r2)
section
variable{te:TE}{lo hi:Option Expr}{tl th:TO}{p2:Pos}
def Et:PO X none Em:=by
 intro pins s σ H Q I h;rw[evalPart_none];exact MB ⟨none,H,I,.none,h⟩
def EA (h:PE X e te):PO X (some e) (JJ te):=by
 intro pins s σ H Q I hw;rw[evalPart_some];refine eB (h pins s σ H _ I hw) λ u s1 hq5=>L2.ex5 hq5 λ x H1 I1 r1 q1=>?_;obtain⟨i,rfl,q⟩:=q1;obtain⟨t,rfl⟩:=r1;exact⟨some i,H1,I1,.int i t,q⟩
def D4 (X:Cx)(r:V->Option Int->Option Int->Hp->VK->Prop):Prop:=
 ∀ (pins:List (Addr×Obj)) (s:Shared) (σ:St) (H:Hp) (x:V) (v vl vu:Value) (lo hi:Option Int) (sl:Addr) (Q:VK),Inv X pins σ H s->RelV x v->s.heap.IsSliceOf sl vl vu .none->IsPart vl lo->IsPart vu hi->r x lo hi H Q ->
  ∃ T id,typeLookup (.type T) "__getitem__" = pure (some (.builtin id))/\s.TypeIs v T/\wpAny (model X.prog X.w) X.A (getItem v (.ref sl)) (EP X pins σ Q) X.xe s
def D4.or {r r':V->Option Int->Option Int->Hp->VK->Prop}(h:D4 X r)(h':D4 X r'):D4 X (λ x lo hi H Q=>r x lo hi H Q\/r' x lo hi H Q):=by
 intro pins s σ H x v vl vu lo hi sl Q I rx hs pl pu q;rcases q with q|q
 ·exact h pins s σ H x v vl vu lo hi sl Q I rx hs pl pu q
 ·exact h' pins s σ H x v vl vu lo hi sl Q I rx hs pl pu q
def Mn (r:V->Option Int->Option Int->Hp->VK->Prop)(te:TE)(tl th:TO):TE:=λ σ H Q=>te σ H λ x H1=>tl σ H1 λ l H2=>th σ H2 λ u H3=>r x l u H3 Q
def u6 {r:V->Option Int->Option Int->Hp->VK->Prop}(hr:D4 X r)(he:PE X e te)(hl:PO X lo tl)(hu:PO X hi th):PE X (.Subscript e (.Slice lo hi none p2) pos) (Mn r te tl th):=by
 intro pins s σ H Q I h;refine Subscript_ (eB (he pins s σ H _ I h) λ v s1 hq5=>L2.ex5 hq5 λ x H1 I1 r1 q1=>?_);refine wpAny_Slice (eB (hl pins s1 σ H1 _ I1 q1) λ vl s2 hq5=>L2.ex5 hq5 λ l H2 I2 pl q2=>eB (hu pins s2 σ H2 _ I2 q2) λ vu s3 hq5=>L2.ex5 hq5 λ u H3 I3 pu q3=>?_);rw[evalPart_none];refine MB ?_;have I4:Inv X pins σ H3 { s3 with heap:=s3.heap.push { cls:=.type "slice",data:=.fields #[vl,vu,.none] } }:=I3.kept (t':=s3.toks) λ b ob q=>Mz _ q;obtain⟨T,id,hT,ht,hg⟩:=hr pins { s3 with heap:=s3.heap.push { cls:=.type "slice",data:=.fields #[vl,vu,.none] } } σ H3 x v vl vu l u s3.heap.objs.size Q I4 r1 (Heap.IsSliceOf.new ..) pl pu q3;show wpAny (model X.prog X.w) X.A (subscriptTail e (.Slice lo hi none p2) v (.ref s3.heap.objs.size)) (EP X pins σ Q) X.xe { s3 with heap:=s3.heap.push { cls:=.type "slice",data:=.fields #[vl,vu,.none] } };exact tail_any (ops:=[.ref s3.heap.objs.size,v]) ht hT hg (by with_unfolding_all rfl)
def u5 (xs:List V)(lo hi:Option Int):List V:=(xs.drop (HT.eS xs.length 0 lo)).take (HT.eS xs.length xs.length hi-HT.eS xs.length 0 lo)
def oB (xs:List V)(lo hi:Option Int):(u5 xs lo hi).length<=xs.length:=by
 unfold u5;rw[OD,Ph];omega
def Lq (K:PySem.W.Frag):V->Option Int->Option Int->Hp->VK->Prop:=λ x lo hi H Q=>∃ a xs,x=.ref a/\jd K H a xs /\
 ¬ (HT.eS xs.length 0 lo=0/\HT.eS xs.length xs.length hi=xs.length)/\∀ p,H p=none->Q (.ref p) (upd H p (.tup (u5 xs lo hi)))
def BC:D4 X (Lq X.K):=by
 intro pins s σ H x v vl vu lo hi sl Q I rx hs pl pu h;obtain⟨a,xs,rfl,hx,hw,q⟩:=h;cases rx;obtain⟨its,r,ht,hz⟩:=I.tuple hx;have hlen:its.toArray.size=xs.length:=by rw[MN];exact r.length.symm
 refine⟨"tuple",_,PyProof.Rows.slot_tuple_getitem.lookup,ht.typeIs,?_⟩;refine HT.mK ht hs pl pu (by rw[hlen];exact hw) ?_ (by rw[hlen];exact hz);rw[hlen];refine⟨.ref s.heap.objs.size,_,I.laid (t':=s.toks) (o:=.tup (u5 xs lo hi)) (λ b ob q=>Mz _ q) (ML _) ?_,rfl,q _ (I.hok.fresh (ML _))⟩;exact⟨NX (oB xs lo hi) hz,_,(r.drop (HT.eS xs.length 0 lo)).take (HT.eS xs.length xs.length hi-HT.eS xs.length 0 lo),uX.new _ _⟩
def Gh (K:PySem.W.Frag):R2:=λ x y H Q=>∃ a b xs ys,x=.ref a/\y=.ref b/\jd K H a xs/\jd K H b ys/\xs≠[]/\xs.length+ys.length<=sizeLine /\
 (ys=[]->Q (.ref a) H)/\(ys≠[]->∀ p,H p=none->Q (.ref p) (upd H p (.tup (xs++ys))))
def Vals.kZ {xs:List V}(r:Vals xs us):us=[]↔xs=[]:=by
 cases r with
 |nil=>simp|cons _ _=>simp
def Ez:j6 X (binaryOp .Add) (Gh X.K):=by
 intro pins s σ H x y v u Q I rx ry h;obtain⟨a,b,xs,ys,rfl,rfl,ha,hb,hx,hz,q1,q2⟩:=h;cases rx;cases ry;obtain⟨its,r1,p1,_⟩:=I.tuple ha;obtain⟨its2,r2,p2,_⟩:=I.tuple hb;refine HT.Eo p1 p2 (λ z=>hx (r1.kZ.mp z)) (λ z=>⟨.ref a,H,I,rfl,q1 (r2.kZ.mp z)⟩) (λ z=>?_) (by rw[<-r1.length,<-r2.length];exact hz);refine⟨.ref s.heap.objs.size,_,I.laid (t':=s.toks) (o:=.tup (xs++ys)) (λ b ob q=>Mz _ q) (ML _) ?_,rfl,q2 (λ w=>z (r2.kZ.mpr w)) _ (I.hok.fresh (ML _))⟩;exact⟨by rw[MY];exact hz,_,r1.append r2,uX.new _ _⟩
end
def Ey (n:Nat)(i:Int):Option Nat:=if 0<=i then (if i<n then some i.toNat else none) else if -(n:Int)<=i then some (i+n).toNat else none
def rj(xs:List α)(i:Int):Option α:=(Ey xs.length i).bind λ j=>xs[j]?
def Eu{i:Int}{j:Nat}(h:Ey n i=some j):seqIndex? i n=some j/\j<n /\ -(n:Int)<=i/\i<n:=by
 unfold Ey at h;by_cases h0:0<=i
 ·rw[MO h0]at h;by_cases h1:i<n
  ·rw[MO h1]at h;have e:i.toNat=j:=Nq h;exact⟨by rw[seqIndex_of h0 h1,e],by omega,by omega,h1⟩
  ·rw[MP h1]at h;cases h
 ·rw[MP h0]at h;by_cases h1 : -(n:Int)<=i
  ·rw[MO h1]at h;have e:(i+n).toNat=j:=Nq h;exact⟨by rw[seqIndex_neg (by omega) h1,e],by omega,h1,by omega⟩
  ·rw[MP h1]at h;cases h
def tR{xs:List α}{i:Int}{v:α}(h:rj xs i=some v):∃ j,seqIndex? i xs.length=some j/\xs[j]?=some v/\j<xs.length /\ -(xs.length:Int)<=i/\i<xs.length:=by
 unfold rj at h;cases e:Ey xs.length i with
 |none=>rw[e]at h;cases h
 | some j =>
  rw[e]at h;obtain⟨h1,h2,h3,h4⟩:=Eu e;exact⟨j,h1,h,h2,h3,h4⟩
def Es{xs:List α}{j:Nat}{v:α}(h:xs[j]?=some v):rj xs (j:Int)=some v:=by
 have hj:j<xs.length:=(MF.mp h).1;have e:Ey xs.length (j:Int)=some j:=by
  unfold Ey;rw[MO (by omega),MO (by omega)];simp
 unfold rj;rw[e];exact h
def tS (b:Expr):Prop:=∀ o i,subscripted b false o i=operate [o,i] (getItem o i)
def D0 (X:Cx)(r:R2):Prop:=
 ∀ (value slice:Expr) (pins:List (Addr×Obj)) (s:Shared) (σ:St) (H:Hp) (x y:V) (v u:Value) (Q:VK),Inv X pins σ H s->RelV x v->RelV y u->r x y H Q ->
  subscripted slice false v u=operate [v,u] (getItem v u)->wpAny (model X.prog X.w) X.A (subscriptTail value slice v u) (EP X pins σ Q) X.xe s
def L5 (X:Cx)(id:String)(r:V->List V->Hp->VK->Prop):Prop:=
 ∀ (pins:List (Addr×Obj)) (s:Shared) (σ:St) (H:Hp) (x:V) (xs:List V) (v:Value) (us:List Value) (Q:VK),Inv X pins σ H s->RelV x v->Vals xs us->r x xs H Q ->
  wpAny (model X.prog X.w) X.A (call (.builtin id) (v::us)) (EP X pins σ Q) X.xe s
section
variable{a b:Expr}{ta tb:TE}
def D0.or {r r':R2}(h:D0 X r)(h':D0 X r'):D0 X (λ x y H Q=>r x y H Q\/r' x y H Q):=by
 intro value slice pins s σ H x y v u Q I rx ry q hs;rcases q with q|q
 ·exact h value slice pins s σ H x y v u Q I rx ry q hs
 ·exact h' value slice pins s σ H x y v u Q I rx ry q hs
def JG {r:R2}(hr:D0 X r)(ha:PE X a ta)(hb:PE X b tb)(hs:tS b):PE X (.Subscript a b pos) (KO r ta tb):=by
 intro pins s σ H Q I h;exact Subscript_ (G3 ha hb I h λ v u s2 x y H2 I2 rx ry q=>hr a b pins s2 σ H2 x y v u Q I2 rx ry q (hs _ _))
def JL (K:PySem.W.Frag):R2:=λ x y H Q=>∃ p xs i v,x=.ref p/\y=.int i/\dR K H p xs/\rj xs i=some v/\Q v H
def JK (K:PySem.W.Frag):R2:=λ x y H Q=>∃ p xs i v,x=.ref p/\y=.int i/\jd K H p xs/\rj xs i=some v/\Q v H
def JH:R2:=λ x y H Q=>∃ z i c,x=.str z/\y=.int i/\z.length<=sizeLine/\rj z.cps.toList i=some c/\Q (.str ⟨#[c]⟩) H
def En:D0 X (JL X.K):=by
 intro value slice pins s σ H x y v u Q I rx ry h hs;obtain⟨p,xs,i,z,rfl,rfl,hq,he,q⟩:=h;cases rx;obtain⟨t,rfl⟩:=ry;obtain⟨its,r,pl,hz⟩:=I.list hq;obtain⟨j,h1,h2,h3,h4,h5⟩:=tR he;obtain⟨w,ew,rw'⟩:=r.get h2;have hl:=r.length;have hn:=pQ;have fin:EP X pins σ Q w s:=⟨z,H,I,rw',q⟩;by_cases h0:0<=i
 ·have hj:i.toNat=j:=by
   rw[seqIndex_of h0 h5]at h1;exact Nq h1
  exact item_listR pl.isList h0 (by omega) (by rw[hj];simpa using ew) fin hs
 ·have hj:(i+(its.toArray.size:Int)).toNat=j:=by
   rw[seqIndex_neg (by omega) h4]at h1;rw[MN,<-hl];exact Nq h1
  exact subscriptTail_builtinR (x:=w) pl.isList.typeIs slot_list_getitem.lookup
   (wpAny_getItem_list_neg (Q:=λ r s'=>r=w/\EP X pins σ Q r s') pl.isList (by omega) (by rw[MN]<;>omega) (by omega) (by rw[hj];simpa using ew) ⟨rfl,fin⟩) hs
def iY:D0 X (JK X.K):=by
 intro value slice pins s σ H x y v u Q I rx ry h hs;obtain⟨p,xs,i,z,rfl,rfl,hq,he,q⟩:=h;cases rx;obtain⟨t,rfl⟩:=ry;obtain⟨its,r,pl,hz⟩:=I.tuple hq;obtain⟨j,h1,h2,h3,h4,h5⟩:=tR he;obtain⟨w,ew,rw'⟩:=r.get h2;have hl:=r.length;have hn:=pQ;have fin:EP X pins σ Q w s:=⟨z,H,I,rw',q⟩;exact subscriptTail_builtinR (x:=w) pl.typeIs slot_tuple_getitem.lookup
  (getItem_tuple (j:=j) (Q:=λ r s'=>r=w/\EP X pins σ Q r s') pl (by omega) (by omega) (by rw[MN,<-hl];exact h1) (by simpa using ew) ⟨rfl,fin⟩) hs
def Hj:D0 X JH:=by
 intro value slice pins s σ H x y v u Q I rx ry h hs;obtain⟨z,i,c,rfl,rfl,hz,he,q⟩:=h;obtain⟨t,rfl⟩:=rx;obtain⟨t',rfl⟩:=ry;obtain⟨j,h1,h2,h3,h4,h5⟩:=tR he;have hl:z.cps.toList.length=z.length:=by simp[Str.length]
 rw[hl]at h1 h4 h5;have hn:=pQ;exact tail_any (typeIs_str s z t) slot_str_getitem.lookup (getItem_str (c:=c) (by
  have e1:decide (i < -(2^63:Int))=false:=M6 (by omega);have e2:decide (i≥2^63)=false:=M6 (by omega);rw[e1,e2,Bool.or_false]) (by rw[h1];simpa using h2) ⟨.str ⟨#[c]⟩,H,I.tok _,⟨_,rfl⟩,q⟩) hs
def L4 (K:PySem.W.Frag):R2:=λ x y H Q=>JL K x y H Q\/JK K x y H Q\/JH x y H Q
def Hk:D0 X (L4 X.K):=En.or (iY.or Hj)
def tO (lo hi:Option Int)(n:Nat):(sliceBounds lo hi none n).1=((HT.eS n 0 lo:Nat):Int)/\(sliceBounds lo hi none n).2.1=((HT.eS n n hi:Nat):Int)/\(sliceBounds lo hi none n).2.2=1:=by
 refine⟨?_,?_,rfl⟩
 ·cases lo with
  |none=>simp[sliceBounds,HT.eS]
  | some i =>
   simp only[sliceBounds,HT.eS,QR,show(1:Int)>0 by decide,OG];by_cases h:i<0
   ·simp only[h,OG]<;>omega
   ·simp only[h,ON]<;>omega
 ·cases hi with
  |none=>simp[sliceBounds,HT.eS]
  | some i =>
   simp only[sliceBounds,HT.eS,QR,show(1:Int)>0 by decide,OG];by_cases h:i<0
   ·simp only[h,OG]<;>omega
   ·simp only[h,ON]<;>omega
def rh (its:List Value)(lo hi:Option Int):slicePick its.toArray lo hi none=((its.drop (HT.eS its.length 0 lo)).take (HT.eS its.length its.length hi-HT.eS its.length 0 lo)).toArray:=by
 obtain⟨h1,h2,h3⟩:=tO lo hi its.toArray.size;unfold slicePick;rw[h1,h2,h3];simp only[sliceRange_one,pick_run,MN]<;>rfl
def Ls (K:PySem.W.Frag):V->Option Int->Option Int->Hp->VK->Prop:=λ x lo hi H Q=>∃ a xs,x=.ref a/\dR K H a xs/\∀ p,H p=none->Q (.ref p) (upd H p (.lst (u5 xs lo hi)))
def Ep:D4 X (Ls X.K):=by
 intro pins s σ H x v vl vu lo hi sl Q I rx hs pl pu h;obtain⟨a,xs,rfl,hx,q⟩:=h;cases rx;obtain⟨its,r,ht,hz⟩:=I.list hx;have hlen:=r.length;refine⟨"list",_,slot_list_getitem.lookup,ht.isList.typeIs,?_⟩;refine wpAny_getItem_list_slice ht.isList hs pl pu .none (by simp) ?_ (by rw[MN]<;>omega);rw[rh,<-hlen];refine⟨.ref s.heap.objs.size,_,I.laid (t':=s.toks) (o:=.lst (u5 xs lo hi)) (λ b ob q=>Mz _ q) (ML _) ?_,rfl,q _ (I.hok.fresh (ML _))⟩;exact⟨NX (oB xs lo hi) hz,_,0,(r.drop (HT.eS xs.length 0 lo)).take (HT.eS xs.length xs.length hi-HT.eS xs.length 0 lo),MI _ rfl⟩
def lL:V->Bool
 |.bJ=>true
 |.bl _=>true
 |.int _=>true
 |.str _=>true
 |_=>false
def D3:V->V->Bool
 |.bJ,.bJ=>true
 |.bl a,.bl b=>a == b
 |.bl a,.int b=>(if a then 1 else 0) == b
 |.int a,.bl b=>a == (if b then 1 else 0)
 |.int a,.int b=>a == b
 |.str a,.str b=>a == b
 |_,_=>false
def Hi{v:Value}(ry:RelV y u)(rx:RelV x v)(fy:lL y=true)(fx:lL x=true):SeqAt.EqAt A s u v (D3 y x):=by
 cases y with
 | bJ =>
  cases ry;cases x with
  |bJ=>cases rx;exact SeqAt.EqAt.same _|bl b=>cases rx;exact SeqAt.EqAt.none_bool b|int b=>obtain⟨t,rfl⟩:=rx;exact SeqAt.EqAt.none_int b t|str b=>obtain⟨t,rfl⟩:=rx;exact SeqAt.EqAt.none_str b t|_=>exact absurd (show false=true from fx) MH
 | bl a =>
  cases ry;cases x with
  |bJ=>cases rx;exact SeqAt.EqAt.bool_none a|bl b=>cases rx;exact SeqAt.EqAt.bool_bool a b|int b=>obtain⟨t,rfl⟩:=rx;exact SeqAt.EqAt.bool_int a b t|str b=>obtain⟨t,rfl⟩:=rx;exact SeqAt.EqAt.bool_str a b t|_=>exact absurd (show false=true from fx) MH
 | int a =>
  obtain⟨t',rfl⟩:=ry;cases x with
  |bJ=>cases rx;exact SeqAt.EqAt.int_none a t'| bl b=>cases rx;exact SeqAt.EqAt.int_bool a t' b|int b=>obtain⟨t,rfl⟩:=rx;exact SeqAt.EqAt.int_int a t' b t|str b=>obtain⟨t,rfl⟩:=rx;exact SeqAt.EqAt.int_str a t' b t|_=>exact absurd (show false=true from fx) MH
 | str a =>
  obtain⟨t',rfl⟩:=ry;cases x with
  |bJ=>cases rx;exact SeqAt.EqAt.str_none a t'| bl b=>cases rx;exact SeqAt.EqAt.str_bool a t' b|int b=>obtain⟨t,rfl⟩:=rx;exact SeqAt.EqAt.str_int a t' b t|str b=>obtain⟨t,rfl⟩:=rx;exact SeqAt.EqAt.str_str a t' b t|_=>exact absurd (show false=true from fx) MH
 |_=>exact absurd (show false=true from fy) MH
def Ex (x:V)(u:Value):Bool:=match u with
 |.none=>D3 .bJ x
 |.bool b=>D3 (.bl b) x
 |.int i _=>D3 (.int i) x
 |.str z _=>D3 (.str z) x
 |_=>false
def BD(r:RelV y u)(f:lL y=true):Ex x u=D3 y x:=by
 cases y with
 |bJ=>cases r;rfl|bl b=>cases r;rfl|int i=>obtain⟨t,rfl⟩:=r;rfl|str z=>obtain⟨t,rfl⟩:=r;rfl|_=>exact absurd (show false=true from f) MH
def tT {x:V}:∀ {xs:List V}{us:List Value},Vals xs us->xs.all lL=true->us.any (Ex x)=xs.any λ y=>D3 y x
 |_,_,.nil,_=>rfl
 | y::xs,u::us,.cons r t,f=>by
  rw[QN,Nk]at f;rw[OC,OC,BD r f.1,tT t f.2]
def pT {A:Around}{s:Shared}{x:V}{v:Value}(rx:RelV x v)(fx:lL x=true):∀ {xs:List V}{us:List Value},Vals xs us->xs.all lL=true->∀ u∈us,SeqAt.EqAt A s u v (Ex x u)
 |_,_,.nil,_=>λ u hu=>by cases hu
 | y::xs,u::us,.cons r t,f=>λ u' hu=>by
  rw[QN,Nk]at f;rcases MK.mp hu with rfl|hu
  ·rw[BD r f.1];exact Hi r rx f.1 fx
  ·exact pT rx fx t f.2 u' hu
def KQ (x:V)(xs:List V):Bool:=xs.any λ y=>D3 y x
def L6 (K:PySem.W.Frag)(neg:Bool):R2:=λ x y H Q=>∃ p xs,y=.ref p/\(dR K H p xs\/jd K H p xs)/\lL x=true/\xs.all lL=true/\Q (.bl (if neg then !KQ x xs else KQ x xs)) H
def gZ:j6 X (compareOp .NotIn) (L6 X.K true):=by
 intro pins s σ H x y v u Q I rx ry h;obtain⟨p,xs,rfl,hq,fx,fs,q⟩:=h;cases ry;rcases hq with hq|hq
 ·obtain⟨its,r,pl,hz⟩:=I.list hq;refine SeqAt.notIn_listAt (Ex x) pl.isList (λ w hw=>pT rx fx r fs w (by simpa using hw)) ⟨.bl _,H,I,rfl,?_⟩;rw[show its.toArray.any (Ex x)=its.any (Ex x) by simp,tT r fs];exact q
 ·obtain⟨its,r,pl,hz⟩:=I.tuple hq;refine SeqAt.notIn_tupleAt (Ex x) pl (λ w hw=>pT rx fx r fs w (by simpa using hw)) ⟨.bl _,H,I,rfl,?_⟩;rw[show its.toArray.any (Ex x)=its.any (Ex x) by simp,tT r fs];exact q
def tP:eE X (.builtin "len") (λ xs H Q=>∃ p ys,xs=[.ref p]/\(dR X.K H p ys\/jd X.K H p ys)/\Q (.int ys.length) H):=by
 intro pins s σ H xs us Q I r h;obtain⟨p,ys,rfl,hq,q⟩:=h;obtain⟨u,rfl,rx⟩:=vals1 r;cases rx;have hn:=pQ;rcases hq with hq|hq
 ·obtain⟨its,r',pl,hz⟩:=I.list hq;have hlen:=r'.length;exact Calls.call_len_list pl.isList (by simp only[MN]<;>omega) ⟨.int ys.length,H,I.tok _,⟨s.toks+1,by rw[MN,hlen]⟩,q⟩
 ·obtain⟨its,r',pl,hz⟩:=I.tuple hq;have hlen:=r'.length;exact len_tuple pl (by simp only[MN]<;>omega) ⟨.int ys.length,H,I.tok _,⟨s.toks+1,by rw[MN,hlen]⟩,q⟩
def tQ:eE X (.builtin "len") (λ xs H Q=>∃ z,xs=[.str z]/\z.length<=sizeLine/\Q (.int z.length) H):=by
 intro pins s σ H xs us Q I r h;obtain⟨z,rfl,hz,q⟩:=h;obtain⟨u,rfl,t,rfl⟩:=vals1 r;have hn:=pQ;exact len_str (by omega) ⟨.int z.length,H,I.tok _,⟨_,rfl⟩,q⟩
def eE.or {f:Value}{r r':List V->Hp->VK->Prop}(h:eE X f r)(h':eE X f r'):eE X f (λ xs H Q=>r xs H Q\/r' xs H Q):=by
 intro pins s σ H xs us Q I rs q;rcases q with q|q
 ·exact h pins s σ H xs us Q I rs q
 ·exact h' pins s σ H xs us Q I rs q
def mJ:eE X (.type "list") (λ xs H Q=>∃ p ys,xs=[.ref p]/\(dR X.K H p ys\/jd X.K H p ys)/\∀ l,H l=none->Q (.ref l) (upd H l (.lst ys))):=by
 intro pins s σ H xs us Q I r h;obtain⟨p,ys,rfl,hq,q⟩:=h;obtain⟨u,rfl,rx⟩:=vals1 r;cases rx;have fin:∀ (its:List Value),Vals ys its->ys.length<=sizeLine->∀ (h':Heap) (c':Nat),(∀ b o',s.heap.get? b=some o'->h'.get? b=some o') ->
   h'.get? s.heap.objs.size=some { cls:=.type "list",dict:=none,data:=.seq its.toArray c',slots:=#[] }->EP X pins σ Q (.ref s.heap.objs.size) { s with heap:=h' }:=λ its r' hz h' c' kp e=>
  ⟨.ref s.heap.objs.size,_,I.laid (t':=s.toks) kp (ML _) (show ck X.prog X.w _ h' _ (.lst ys) from ⟨hz,its,c',r',e⟩),rfl,q _ (I.hok.fresh (ML _))⟩
 rcases hq with hq|hq
 ·obtain⟨its,r',pl,hz⟩:=I.list hq;have hlen:=r'.length;obtain⟨o,ho,hc,n,hd⟩:=pl.isList;exact call_list_seq p (.inl rfl) ho hc hd (λ h' c' kp e=>fin its r' hz h' c' kp e) (by simp only[MN]<;>omega)
 ·obtain⟨its,r',pl,hz⟩:=I.tuple hq;have hlen:=r'.length;obtain⟨o,ho,hc,n,hd⟩:=pl;exact call_list_seq p (.inr rfl) ho hc hd (λ h' c' kp e=>fin its r' hz h' c' kp e) (by simp only[MN]<;>omega)
def cy:eE X (.type "tuple") (λ xs H Q=>∃ p ys,xs=[.ref p]/\((dR X.K H p ys/\∀ l,H l=none->Q (.ref l) (upd H l (.tup ys)))\/(jd X.K H p ys/\Q (.ref p) H))):=by
 intro pins s σ H xs us Q I r h;obtain⟨p,ys,rfl,h⟩:=h;obtain⟨u,rfl,rx⟩:=vals1 r;cases rx;rcases h with ⟨hq,q⟩|⟨hq,q⟩
 ·obtain⟨its,r',pl,hz⟩:=I.list hq;have hlen:=r'.length;refine call_tuple_list pl.isList (λ h' kp=>?_) (by simp only[MN]<;>omega);have I1:Inv X pins σ H { s with heap:=h' }:=I.kept (t':=s.toks) kp;have I2:Inv X pins σ (upd H h'.objs.size (.tup ys)) { s with heap:=h'.push { cls:=.type "tuple",data:=.seq its.toArray } }:=
   I1.laid (t':=s.toks) (λ b o e=>Mz _ e) (ML _) (show ck X.prog X.w _ _ _ (.tup ys) from ⟨hz,its,r',uX.new _ _⟩)
  exact⟨.ref h'.objs.size,_,I2,rfl,q _ (I1.hok.fresh (ML _))⟩
 ·obtain⟨its,r',pl,hz⟩:=I.tuple hq;exact call_tuple_same pl ⟨.ref p,H,I,rfl,q⟩
def Lp (K:PySem.W.Frag)(T:String)(x:V)(H:Hp):Prop:=match x with
 |.str _=>T = "str"
 |.int _=>T = "int"
 | .ref p=>(T = "list" /\ ∃ xs,dR K H p xs)\/(T = "tuple" /\ ∃ o,K.lookup p=some o/\o.cls=.type "tuple" /\ o.dict=none) ∨
   (T = "dict" /\ ((∃ kvs ep,H p=some (.dK kvs ep))\/∃ kvs ep,H p=some (.dT kvs ep)))\/(T = "set" /\ ∃ S n,H p=some (.set S n))
 |_=>False
def wY{v:Value}(I:Inv X pins σ H s)(r:RelV x v)(ty:Lp X.K T x H) :
  s.TypeIs v T/\∀ a,v=.ref a->∃ ob,s.heap.get? a=some ob/\ob.dict=none:=by
 cases x with
 | str z =>
  obtain⟨t,rfl⟩:=r;cases (show T = "str" from ty);exact⟨typeIs_str s z t,λ _ e=>nomatch e⟩
 | int i =>
  obtain⟨t,rfl⟩:=r;cases (show T = "int" from ty);exact⟨typeIs_int s i t,λ _ e=>nomatch e⟩
 | ref p =>
  cases r;rcases ty with ⟨rfl,xs,hq⟩|⟨rfl,o,hk,hc,hd⟩|⟨rfl,hk⟩|⟨rfl,S,n,hk⟩
  ·obtain⟨its,_,pl,_⟩:=I.list hq;refine⟨pl.isList.typeIs,λ a e=>?_⟩;cases e;obtain⟨o,n,e,c,hd,_⟩:=pl;exact⟨o,e,hd⟩
  ·refine⟨⟨o,I.tG p o hk,hc⟩,λ a e=>?_⟩;cases e;exact⟨o,I.tG _ o hk,hd⟩
  ·have z:∃ o,s.heap.get? p=some o/\o.ExactDict:=by
    rcases hk with ⟨kvs,ep,hk⟩|⟨kvs,ep,hk⟩
    ·obtain⟨_,_,_,_,o,_,e,ex,_⟩:=I.hok p _ hk;exact⟨o,e,ex⟩
    ·obtain⟨_,_,_,_,o,_,e,ex,_⟩:=I.hok p _ hk;exact⟨o,e,ex⟩
   obtain⟨o,e,ex⟩:=z;refine⟨⟨o,e,ex.1⟩,λ a e2=>?_⟩;cases e2;exact⟨o,e,ex.2.1⟩
  ·obtain⟨o,_,_,_,e,ex,_⟩:=I.hok p _ hk;refine⟨⟨o,e,ex.1⟩,λ a e2=>?_⟩;cases e2;exact⟨o,e,ex.2.1⟩
 |_=>exact False.elim ty
def Lr (K:PySem.W.Frag)(T:String)(r:V->List V->Hp->VK->Prop)(to:TE):TE:=λ σ H Q=>to σ H λ x H1=>Lp K T x H1/\r x [] H1 Q
def Mp (K:PySem.W.Frag)(T:String)(r:V->List V->Hp->VK->Prop)(to:TE)(t:TA):TE:=λ σ H Q=>to σ H λ x H1=>Lp K T x H1/\t σ H1 λ xs H2=>r x xs H2 Q
variable {o:Expr}{es:List Expr}{to:TE}{t:TA}{name:Str}{apos cpos:Pos}{id:String}{r:V->List V->Hp->VK->Prop}
def By (pa:PlainAttrs T)(slot:Slot T name id)(hty:typeOf (.builtin id)=pure (.type "method_descriptor"))(hm:L5 X id r)(ho:PE X o to)
  (hbase:attributeBase o name X.env (eval o X.env)=eval o X.env:=by rfl) (hline:(apos.endLine == cpos.line)=true:=by rfl):PE X (.Call (.Attribute o name apos) [] [] cpos) (Lr X.K T r to):=by
 intro pins s σ H Q I h;refine wpAny_Call_method0_late hbase hline (eB (ho pins s σ H _ I h) λ v s1 ⟨x,H1,I1,r1,ty,q1⟩=>?_);obtain⟨h1,h2⟩:=wY I1 r1 ty;exact⟨T,id,pa,slot,hty,h1,h2,Oz rfl (PySem.evalArgs_none (hm pins s1 σ H1 x [] v [] Q I1 r1 .nil q1))⟩
def yC (pa:PlainAttrs T)(slot:Slot T name id)(hty:typeOf (.builtin id)=pure (.type "method_descriptor"))(hm:L5 X id r)(ho:PE X o to)(ha:PA X (e::es) t)
  (hbase:attributeBase o name X.env (eval o X.env)=eval o X.env:=by rfl)
  (hfew:((backTo cpos (starEach (e::es) X.env)).all (λ x=>!x.1)&&(backToKw cpos (keywordEach [] X.env)).all (λ x=>x.1.isSome)
   && decide ((e::es).length+([]:List Keyword).length+(if ([]:List Keyword).isEmpty then 0 else 1)<30))=true:=by rfl)
  (hline:(apos.endLine == cpos.line)=true:=by rfl) (hs:starEach (e::es) X.env=(false,eval e X.env)::starEach es X.env:=by rfl) (hplain:(backTo cpos (starEach es X.env)).any (·.1)=false:=by rfl) :
  PE X (.Call (.Attribute o name apos) (e::es) [] cpos) (Mp X.K T r to t):=by
 intro pins s σ H Q I h;refine wpAny_Call_method_late hbase hfew hline rfl (eB (ho pins s σ H _ I h) λ v s1 ⟨x,H1,I1,r1,ty,q1⟩=>?_);obtain⟨h1,h2⟩:=wY I1 r1 ty;refine⟨T,id,pa,slot,hty,h1,h2,?_⟩;have hA:=ha cpos pins s1 σ H1 _ I1 q1;rw[hs]at hA ⊢;refine Oz (by show(false||(backTo cpos (starEach es X.env)).any (·.1))=false;rw[hplain]<;>rfl) (Qk ?_);exact eB hA λ us s2 hq5=>L2.ex5 hq5 λ vs H2 I2 r2 q2=>hm pins s2 σ H2 x vs v us Q I2 r1 r2 q2
end
def Jc (X:Cx)(id:String)(r:V->List V->Hp->VK->Prop):Prop:=
 ∀ (pins:List (Addr×Obj)) (s:Shared) (σ:St) (H:Hp) (x:V) (xs:List V) (v:Value) (us:List Value) (Q:VK),Inv X pins σ H s->RelV x v->Vals xs us->r x xs H Q ->
  wpAny (model X.prog X.w) X.A (call (.builtin id) (v::us)) (EP X pins σ Q) X.xe s
def Vals.one(h:Vals [x] us):∃ u,us=[u]/\RelV x u:=by
 cases h with
 |cons r h=>cases h;exact⟨_,rfl,r⟩
def Vals.zero:∀ {us:List Value},Vals [] us->us=[]
 |_,.nil=>rfl
def Vals.dropLast {xs:List V}(h:Vals xs us):Vals xs.dropLast us.dropLast:=by
 induction h with
 |nil=>exact .nil
 | cons r t ih =>
  cases t with
  |nil=>exact .nil|cons q t'=>exact .cons r ih
def Vals.reverse {xs:List V}(h:Vals xs us):Vals xs.reverse us.reverse:=by
 induction h with
 |nil=>exact .nil|cons r t ih=>rw[PR,PR];exact Vals.append ih (.cons r .nil)
def wX(l:List α):l.eraseIdx (l.length-1)=l.dropLast:=by
 induction l with
 |nil=>rfl
 | cons a r ih =>
  cases r with
  |nil=>rfl
  | cons b r =>
   have e:(a::b::r).length-1=((b::r).length-1)+1:=by
    have h1:(a::b::r).length=r.length+2:=rfl;have h2:(b::r).length=r.length+1:=rfl;omega
   rw[e,List.eraseIdx_cons_succ,ih]
   all_goals rfl
section
variable{l:Addr}{xs ys zs:List V}
def Inv.Er {its its':List Value}{f:Array Value->Array Value}(I:Inv X pins σ H s)(hH:H l=some (.lst xs))
  (e:s.heap.get? l=some { cls:=.type "list",data:=.seq its.toArray n }) (hf:f its.toArray=its'.toArray) (hv:Vals ys its') (hz:ys.length<=sizeLine) :
  Inv X pins σ (upd H l (.lst ys)) { s with heap:=s.heap.update l (Obj.mapSeq f),toks:=t' }:=by
 have q:=PySem.IsL.update e f;rw[hf]at q;refine I.write (x:=l) (e:=l) (by rw[hH];exact trivial) (.inl rfl) (λ b' u hb hu=>(Of s.heap (Obj.mapSeq f) (NU hb)).trans hu) ⟨_,q⟩ ?_;exact⟨hz,its',_,hv,q⟩
def Inv.JI {its:List Value}(I:Inv X pins σ H s)(hv:Vals ys its)(hz:ys.length<=sizeLine) :
  Inv X pins σ (upd H s.heap.objs.size (.lst ys)) { s with heap:=s.heap.push { cls:=.type "list",data:=.seq its.toArray },toks:=t' }:=
 I.laid (λ _ _ q=>Mz _ q) (ML _) ⟨hz,its,0,hv,MI _ rfl⟩
def Inv.fresh (I:Inv X pins σ H s):H s.heap.objs.size=none:=I.hok.fresh (ML _)
def Inv.El (I:Inv X pins σ H s)(hH:H l=some (.lst xs)):xs.length<=sizeLine/\∃ (its:List Value) (n:Nat),Vals xs its/\xs.length=its.length/\s.heap.get? l=some { cls:=.type "list",data:=.seq its.toArray n }:=by
 obtain⟨z,its,n,r,e⟩:=I.hok l _ hH;exact⟨z,its,n,r,r.length,e⟩
def BB(h:n<=sizeLine):Builtin.List.listTooLong n=false:=by
 unfold Builtin.List.listTooLong;exact M6 (by omega)
end
section
def Ew:V->List V->Hp->VK->Prop:=λ x vs H Q=>∃ l xs y,x=.ref l/\vs=[y]/\H l=some (.lst xs)/\xs.length<sizeLine/\Q .bJ (upd H l (.lst (xs++[y])))
def nM:Jc X "list.append" Ew:=by
 intro pins s σ H x vs v us Q I rx rv h;obtain⟨l,xs,y,rfl,rfl,hH,hz,q⟩:=h;cases rx;obtain⟨u,rfl,ru⟩:=rv.one;obtain⟨z,its,n,r,hl,e⟩:=I.El hH;refine Qv F.slot_list_append ⟨_,e,rfl⟩ F.entry_list_append (F.args_list_append_2 _ _) (PySem.list_append l its.toArray n u (by rw[MN];omega)) ⟨e,?_⟩;refine⟨.bJ,_,I.Er (its':=its++[u]) hH e (by simp) (r.append (.cons ru .nil)) ?_,rfl,q⟩;rw[MY,N5];omega
def Lo:V->List V->Hp->VK->Prop:=λ x vs H Q=>∃ l xs y,x=.ref l/\vs=[]/\H l=some (.lst xs)/\xs[xs.length-1]?=some y/\Q y (upd H l (.lst xs.dropLast))
def Hh:Jc X "list.pop" Lo:=by
 intro pins s σ H x vs v us Q I rx rv h;obtain⟨l,xs,y,rfl,rfl,hH,hy,q⟩:=h;cases rx;have hus:=rv.zero;subst hus;obtain⟨z,its,n,r,hl,e⟩:=I.El hH;obtain⟨u,hu,ru⟩:=r.get hy;have hy':its.toArray[its.toArray.size-1]?=some u:=by
  show its.toArray[its.length-1]?=some u;rw[<-Nr,<-hl];exact hu
 refine Qv F.slot_list_pop ⟨_,e,rfl⟩ F.entry_list_pop (F.args_list_pop_1 _) (MeetsSeq.list_pop_last l its.toArray n u hy' (by rw[MN];omega)) ⟨e,?_⟩;refine⟨y,_,I.Er (its':=its.dropLast) hH e ?_ r.dropLast ?_,ru,q⟩
 ·show its.toArray.eraseIdxIfInBounds (its.toArray.size-1)=its.dropLast.toArray;rw[MN,List.eraseIdxIfInBounds_toArray,wX]
 ·rw[List.length_dropLast];omega
def BA:V->List V->Hp->VK->Prop:=λ x vs H Q=>∃ l xs,x=.ref l/\vs=[]/\H l=some (.lst xs)/\Q .bJ (upd H l (.lst xs.reverse))
def xf:Jc X "list.reverse" BA:=by
 intro pins s σ H x vs v us Q I rx rv h;obtain⟨l,xs,rfl,rfl,hH,q⟩:=h;cases rx;have hus:=rv.zero;subst hus;obtain⟨z,its,n,r,hl,e⟩:=I.El hH;refine Qv F.slot_list_reverse ⟨_,e,rfl⟩ F.entry_list_reverse (F.args_list_reverse_1 _) (AutoSeq1.list_reverse_list_0 l its.toArray n (by rw[MN];omega)) ⟨e,?_⟩;refine⟨.bJ,_,I.Er (its':=its.reverse) hH e (by simp) r.reverse ?_,rfl,q⟩;rw[List.length_reverse];omega
end
section
variable {prog:Program}
end
section
end
section
variable {κ:Type}[DecidableEq κ]
def lH (kvs:List (κ×V))(k:κ):Option V:=(kvs.find? λ kv=>decide (kv.1=k)).map (·.2)
def putK (kvs:List (κ×V))(k:κ)(v:V):List (κ×V):=
 if (kvs.any λ kv=>decide (kv.1=k))=true then kvs.map (λ kv=>if kv.1=k then (kv.1,v) else kv) else kvs++[(k,v)]
def ky {p:κ×V}{r:List (κ×V)}{k:κ}(e:p.1=k):lH (p::r) k=some p.2:=by simp[lH,O7,e]
def jh {p:κ×V}{r:List (κ×V)}{k:κ}(e:¬ p.1=k):lH (p::r) k=lH r k:=by simp[lH,O7,e]
def vc (k:κ):∀ kvs:List (κ×V),(kvs.any λ kv=>decide (kv.1=k))=(lH kvs k).isSome
 |[]=>rfl
 | p::r=>by
  rw[OC];by_cases e:p.1=k
  ·simp only[ky e,Nc e,Bool.true_or,Option.isSome_some]
  ·rw[jh e,M6 e,Bool.false_or];exact vc k r
def oE (kvs:List (κ×V))(k:κ)(v:V):(putK kvs k v).length<=kvs.length+1:=by
 unfold putK;split
 ·rw[MC];omega
 ·rw[MY,MQ,NW];omega
def nL.Ag{u:Option Value}(r:nL o u):o.isSome=u.isSome:=by
 cases o with
 | none=>cases u with
  |none=>rfl|some _=>exact(show False from r).elim
 | some _=>cases u with
  |none=>exact(show False from r).elim|some _=>rfl
def nL.getD{u:Option Value}{d:V}{d':Value}(r:nL o u)(rd:RelV d d'):RelV (o.getD d) (u.getD d'):=by
 cases o with
 | none=>cases u with
  |none=>exact rd|some _=>exact(show False from r).elim
 | some _=>cases u with
  |none=>exact(show False from r).elim|some _=>exact r
def KV.val {kvs:List (κ×V)}{vs:List (κ×Value)}(r:KV kvs vs)(k:κ):nL (lH kvs k) (valueAt vs k):=by
 unfold KV at r
 induction r with
 |nil=>exact True.intro
 | @cons p q ps qs h t ih =>
  obtain⟨h1,h2⟩:=h;by_cases e:p.1=k
  ·have e':q.1=k:=h1.symm.trans e;have b:valueAt (q::qs) k=some q.2:=by simp[valueAt,O7,e']
   rw[ky e,b];exact h2
  ·have e':¬ q.1=k:=λ z=>e (h1.trans z);have b:valueAt (q::qs) k=valueAt qs k:=by simp[valueAt,O7,e']
   rw[jh e,b];exact ih
def KV.any {kvs:List (κ×V)}{vs:List (κ×Value)}(r:KV kvs vs)(k:κ):(kvs.any λ kv=>decide (kv.1=k))=vs.any λ kv=>decide (kv.1=k):=by
 unfold KV at r
 induction r with
 |nil=>rfl|cons h t ih=>rw[OC,OC,ih,h.1]
def KV.repl {kvs:List (κ×V)}{vs:List (κ×Value)}(r:KV kvs vs)(k:κ)(ry:RelV y u) :
  KV (kvs.map λ kv=>if kv.1=k then (kv.1,y) else kv) (vs.map λ kv=>if kv.1=k then (kv.1,u) else kv):=by
 unfold KV at r ⊢
 induction r with
 |nil=>exact .nil
 | @cons p q ps qs h t ih =>
  rw[MU,MU];refine .cons ?_ ih;obtain⟨h1,h2⟩:=h;by_cases e:p.1=k
  ·rw[MO e,MO (h1.symm.trans e)];exact⟨h1,ry⟩
  ·rw[MP e,MP (λ z=>e (h1.trans z))];exact⟨h1,h2⟩
def KV.put {kvs:List (κ×V)}{vs:List (κ×Value)}(r:KV kvs vs)(k:κ)(ry:RelV y u):KV (putK kvs k y) (stored vs k u):=by
 unfold putK stored;rw[r.any k];by_cases e:(vs.any λ kv=>decide (kv.1=k))=true
 ·rw[MO e,MO e];exact r.repl k ry
 ·rw[MP e,MP e];exact Paired.snoc r ⟨rfl,ry⟩
def KV.length {kvs:List (κ×V)}{vs:List (κ×Value)}(r:KV kvs vs):kvs.length=vs.length:=OB r
end
def yE{k:Key}(r:RelV (kV k) u):(cT P w).is k u=true:=by
 cases k with
 |inl i=>obtain⟨t,e⟩:=(show ∃ t,u=Value.int i t from r);subst e;exact u3 P w i t|inr x=>obtain⟨t,e⟩:=(show ∃ t,u=Value.str x t from r);subst e;exact uY P w x t
def rV {P:Program}{w:World}:∀ {ks:List Key}{us:List Value},Vals (ks.map kV) us->ItemsAre (cT P w) ks us
 |[],_,r=>by rw[List.map_nil]at r;cases r;exact .nil
 | k::ks,_,r=>by
  rw[MU]at r;cases r with
  |cons h t=>exact .cons (yE h) (rV t)
abbrev KT (H:Hp):List (List Key×V)->List (List Key×Addr×Value)->Prop:=Paired λ p q=>p.1=q.1/\H q.2.1=some (.tup (p.1.map kV))/\RelV p.2 q.2.2
def KT.val(r:KT H kvs xs)(k:List Key):nL (lH kvs k) ((atKey xs k).map (·.2)):=by
 induction r with
 |nil=>exact True.intro
 | @cons p q ps qs h t ih =>
  obtain⟨h1,_,h2⟩:=h;by_cases e:p.1=k
  ·have e':q.1=k:=h1.symm.trans e;have b:atKey (q::qs) k=some q.2:=by simp[atKey,O7,e']
   rw[ky e,b];exact h2
  ·have e':¬ q.1=k:=λ z=>e (h1.trans z);have b:atKey (q::qs) k=atKey qs k:=by simp[atKey,O7,e']
   rw[jh e,b];exact ih
def KT.repl(r:KT H kvs xs)(k:List Key)(ry:RelV y u) :
  KT H (kvs.map λ kv=>if kv.1=k then (kv.1,y) else kv) (xs.map (putAt k u)):=by
 induction r with
 |nil=>exact .nil
 | @cons p q ps qs h t ih =>
  rw[MU,MU];refine .cons ?_ ih;obtain⟨h1,h2,h3⟩:=h;unfold putAt;by_cases e:p.1=k
  ·rw[MO e,MO (h1.symm.trans e)];exact⟨h1,h2,ry⟩
  ·rw[MP e,MP (λ z=>e (h1.trans z))];exact⟨h1,h2,h3⟩
def KT.put(r:KT H kvs xs)(k:List Key)(hb:H b=some (.tup (k.map kV)))(ry:RelV y u) :
  KT H (putK kvs k y) (storedH xs k b u):=by
 have e:(kvs.any λ kv=>decide (kv.1=k))=(atKey xs k).isSome:=by
  rw[vc,(r.val k).Ag,Option.isSome_map]
 unfold putK storedH;rw[e];by_cases q:(atKey xs k).isSome=true
 ·rw[MO q,MO q];exact r.repl k ry
 ·rw[MP q,MP q];exact Paired.snoc r ⟨rfl,hb,ry⟩
def KT.keeps {H':Hp}(r:KT H kvs xs)(ht:∀ b ys,H b=some (.tup ys)->H' b=some (.tup ys)):KT H' kvs xs:=
 Paired.GK r λ _ _ z=>⟨z.1,ht _ _ z.2.1,z.2.2⟩
section
variable{h:Heap}
def Gi {u:HO}(ok:jA P w H h)(e:Rd H a u):ck P w H h a u:=e.ok ok
def KS (H:Hp)(a:Addr)(kvs:List (Key×V)):Prop:=∃ ep,Rd H a (.dK kvs ep)
def KR (H:Hp)(a:Addr)(kvs:List (List Key×V)):Prop:=∃ ep,Rd H a (.dT kvs ep)
def HK (H:Hp)(a:Addr)(kvs:List (Key×V)):Prop:=∃ ep,H a=some (.dK kvs ep)
def HT (H:Hp)(a:Addr)(kvs:List (List Key×V)):Prop:=∃ ep,H a=some (.dT kvs ep)
def HK.rd{kvs:List (Key×V)}(e:HK H a kvs):KS H a kvs:=let ⟨ep,e⟩:=e;⟨ep,.inl e⟩
def HT.rd(e:HT H a kvs):KR H a kvs:=let ⟨ep,e⟩:=e;⟨ep,.inl e⟩
def vd {kvs:List (Key×V)}(ok:jA P w H h)(e:KS H a kvs):kvs.length<=sizeLine/\(a == sysModules)=false/\∃ vs,KV kvs vs/\h.DictOf (cT P w) a vs:=
 by
 obtain⟨ep,e⟩:=e;obtain⟨z,y,vs,r,d⟩:=(show ck P w H h a (.dK kvs ep) from Gi ok e);exact⟨z,y,vs,r,d.dictOf⟩
def JQ {kvs:List (Key×V)}(ok:jA P w H h)(e:HK H a kvs):kvs.length<=sizeLine/\(a == sysModules)=false/\∃ vs,KV kvs vs/\h.DictOf (cT P w) a vs:=vd ok e.rd
def tU {ks:List Key}(ok:jA P w H h)(e:H a=some (.tup (ks.map kV))):(tupleKind (cT P w)).is h ks a:=by
 obtain⟨_,its,r,tn⟩:=(show ck P w H h a (.tup (ks.map kV)) from ok a _ e);obtain⟨o,h1,h2,n,h3⟩:=tn.is;exact⟨o,its.toArray,n,h1,h2,h3,by simpa using rV r⟩
def u7(ok:jA P w H h)(e:KR H a kvs):kvs.length<=sizeLine/\(a == sysModules)=false /\
  ∃ xs,KT H kvs xs/\h.DictOfH (tupleKind (cT P w)) a xs:=by
 obtain⟨ep,e⟩:=e;obtain⟨z,y,xs,r,o,es,h1,h2,h3,h4,h5⟩:=(show ck P w H h a (.dT kvs ep) from Gi ok e);refine⟨z,y,xs,r,o,es,ep,h1,h2,h3,h4,λ x hx=>?_,h5⟩;have all:∀ {l:List (List Key×V)}{m:List (List Key×Addr×Value)},KT H l m->∀ x∈m,(tupleKind (cT P w)).is h x.1 x.2.1:=by
  intro l m q
  induction q with
  |nil=>intro x hx;exact nomatch hx
  | @cons p q ps qs hq t ih =>
   intro x hx;rcases MK.mp hx with e|hx
   ·subst e;exact tU ok (by rw[<-hq.1];exact hq.2.1)
   ·exact ih x hx
 exact all r x hx
def JO(ok:jA P w H h)(e:HT H a kvs):kvs.length<=sizeLine/\(a == sysModules)=false /\
  ∃ xs,KT H kvs xs/\h.DictOfH (tupleKind (cT P w)) a xs:=u7 ok e.rd
end
def lG (H:Hp)(a:Addr)(y:V)(r:Option V):Prop:=
 (∃ kvs k,KS H a kvs/\y=kV k/\r=lH kvs k)\/∃ kvs k b,KR H a kvs/\y=.ref b/\H b=some (.tup (k.map kV))/\r=lH kvs k
def JM (H:Hp)(a:Addr)(y v:V)(K:Hp->Prop):Prop:=
 (∃ kvs k,HK H a kvs/\y=kV k/\kvs.length<sizeLine/\∀ ep,K (upd H a (.dK (putK kvs k v) ep))) ∨
 ∃ kvs k b,HT H a kvs/\y=.ref b/\H b=some (.tup (k.map kV))/\kvs.length<sizeLine/\∀ ep,K (upd H a (.dT (putK kvs k v) ep))
def lG.k{kvs:List (Key×V)}{k:Key}(e:HK H a kvs):lG H a (kV k) (lH kvs k):=.inl ⟨kvs,k,e.rd,rfl,rfl⟩
def lG.t{k:List Key}(e:HT H a kvs)(eb:H b=some (.tup (k.map kV))):lG H a (.ref b) (lH kvs k):=.inr ⟨kvs,k,b,e.rd,rfl,eb,rfl⟩
section
variable{v:V}{r:Value}
def Inv.big (I:Inv X pins σ H s):sysModules<s.heap.objs.size:=by
 have h:mainGlobals<s.heap.objs.size:=(I.mod.glob.keeps I.bk).lt;exact QV (by decide) h
def Ah(hu:A.units+1<cLine)(I:Inv X pins σ H s)(g:lG H a y (some v))(ry:RelV y u)(h:∀ w' s',Inv X pins σ H s'->RelV v w'->Q w' s') :
  wpAny (model X.prog X.w) A (getItem (.ref a) u) Q E s:=by
 rcases g with ⟨kvs,k,e,ey,l⟩|⟨kvs,k,b,e,ey,eb,l⟩
 ·subst ey;obtain⟨z,hd,vs,rel,dd⟩:=vd I.hok e;obtain⟨w',hw,rw'⟩:=nL.some_of (v:=v) (o:=valueAt vs k) (by rw[l];exact rel.val k);exact wpAny_getItem_of (yE ry) dd.mapOf hw (h w' _ (I.tok _) rw')
 ·subst ey;cases (show u=Value.ref b from ry);obtain⟨z,hd,xs,rel,dd⟩:=u7 I.hok e;obtain⟨w',hw,rw'⟩:=nL.some_of (v:=v) (o:=(atKey xs k).map (·.2)) (by rw[l];exact rel.val k);obtain⟨p,hp,hp2⟩:=Option.map_eq_some_iff.mp hw;refine wpAny_getItem_heap (Qw hu) (tU I.hok eb) dd hp ?_;rw[hp2];exact h w' _ (I.tok _) rw'
def yF {h':Heap}{ob:HO}(I:Inv X pins σ H s)(mu:Jw (H a))(hs:Heap.SameBut a s.heap h')(he:∃ q,h'.get? a=some q)(new:ck X.prog X.w (upd H a ob) h' a ob) :
  Inv X pins σ (upd H a ob) { s with heap:=h',toks:=t' }:=
 I.write (x:=a) (e:=a) mu (.inl rfl) (λ b q hb z=>(hs.2 b hb).trans z) he new
def Hn{H':Hp}{h':Heap}{kvs:List (Key×V)}{vs:List (Key×Value)}{ep:Nat}(z:kvs.length<=sizeLine)(hd:(a == sysModules)=false)(rel:KV kvs vs)(dd:h'.DictAt (cT P w) a vs ep) :
  ck P w H' h' a (.dK kvs ep):=⟨z,hd,vs,rel,dd⟩
def Af {K:Hp->Prop}{Q:Unit->Shared->Prop}(hu:A.units+1<cLine)(I:Inv X pins σ H s)(g:JM H a y v K)(ry:RelV y u)(rv:RelV v r)(h:∀ H' s',K H'->Inv X pins σ H' s'->Q () s') :
  wpAny (model X.prog X.w) A (setItem (.ref a) u r) Q E s:=by
 rcases g with ⟨kvs,k,e,ey,l,eH⟩|⟨kvs,k,b,e,ey,eb,l,eH⟩
 ·subst ey;obtain⟨ep0,e0⟩:=id e;obtain⟨z,hd,vs,rel,dd⟩:=JQ I.hok e;have hz:vs.length<=sizeLine:=by rw[<-rel.length];exact z
  have hl:(putK kvs k v).length<=sizeLine:=by have:=oE kvs k v;omega
  refine wpAny_setItem_pairs (hsz:=hz) (yE ry) dd λ h' dd' hs=>?_;obtain⟨ep',dd'⟩:=dd'.dictAt;refine h _ _ (eH ep') ?_;have he:∃ q,h'.get? a=some q:=let ⟨q,_,hq,_⟩:=dd';⟨q,hq⟩
  exact yF I (by rw[e0];exact True.intro) hs he (Hn hl hd (rel.put k rv) dd')
 ·subst ey;obtain⟨ep0,e0⟩:=id e;cases (show u=Value.ref b from ry);obtain⟨z,hd,xs,rel,dd⟩:=JO I.hok e;have hz:xs.length<=sizeLine:=by rw[<-OB rel];exact z
  have hl:(putK kvs k v).length<=sizeLine:=by have:=oE kvs k v;omega
  refine wpAny_setItem_heap (hsz:=hz) (Qw hu) (tU I.hok eb) dd λ h' dd' hs=>?_;obtain⟨q,es,ep,hq,h2,h3,h4,_,h5⟩:=dd';refine h _ _ (eH ep) ?_;refine yF I (by rw[e0];exact True.intro) hs ⟨q,hq⟩ ⟨hl,hd,_,(rel.put k eb rv).keeps λ c ys ec=>?_,q,es,hq,h2,h3,h4,h5⟩;rw[aU (Jy ec e0 (λ z=>nomatch z))];exact ec
end
section
variable{kvs:List (Key×V)}{k:Key}
end
def ED (i:Expr):Prop:=∀ ov iv,subscripted i false ov iv=operate [ov,iv] (getItem ov iv)
def EC {prog:Program}{env:Env}{value slice:Expr}{id:String}
  (hl:typeLookup (.type T) "__getitem__" = pure (some (.builtin id))) (hs:ED slice)
  (h:wpAny (model prog w) A (eval value env) (λ o s₁=>wpAny (model prog w) A (eval slice env) (λ i s₂=>s₂.TypeIs o T/\wpAny (model prog w) A (getItem o i) Q E s₂) E s₁) E s) :
  wpAny (model prog w) A (eval (.Subscript value slice pos) env) Q E s:=by
 refine Subscript_ (Om h (λ o s₁ h₁=>Om h₁ (λ i s₂ h₂=>?_) λ _ _ x=>x) λ _ _ x=>x);obtain⟨hT,h₂⟩:=h₂;unfold subscriptTail;refine My ?_;rw[getitemInPython_of_ne hT.not_modules];refine My (wpAny_specialOf hT hl ?_);have fin:wpAny (model prog w) A (subscripted slice false o i) (λ r s₃=>wpAny (model prog w) A (letTemporaryGo value o r >>= λ _=>pure r) Q E s₃) E s₂:=by
  rw[hs o i];exact wpAny_operating (Om h₂ (λ r s₃ h₃=>My (wpAny_letTemporaryGo (MB h₃))) λ _ _ x=>x)
 first
  |exact MB (My fin)
  |exact My (MB (My fin))
  |exact My fin
def u9(I:Inv X pins σ H s)(g:lG H a y o):s.TypeIs (.ref a) "dict" :=by
 rcases g with ⟨kvs,k,e,_,_⟩|⟨kvs,k,b,e,_,_,_⟩
 ·obtain⟨_,_,vs,_,dd⟩:=vd I.hok e;exact dd.typeIs
 ·obtain⟨_,_,xs,_,dd⟩:=u7 I.hok e;exact dd.typeIs
def JN (td ty:TE):TE:=λ σ H Q=>td σ H λ x H1=>ty σ H1 λ y H2=>∃ a v,x=.ref a/\lG H2 a y (some v)/\Q v H2
def JP (td ty tv:TE):TS:=λ D σ H=>tv σ H λ v H1=>td σ H1 λ x H2=>ty σ H2 λ y H3=>∃ a,x=.ref a/\JM H3 a y v (D.nx σ)
section
variable{o i value:Expr}{pos' tpos:Pos}{td ty tv:TE}
def yH (hu:X.A.units+1<cLine)(ho:PE X o td)(hi:PE X i ty)(hs:ED i):PE X (.Subscript o i pos) (JN td ty):=by
 intro pins s σ H Q I h;refine EC PySem.F.slot_dict_getitem.lookup hs (eB (ho pins s σ H _ I h) λ u s1 hq5=>L2.ex5 hq5 λ x H1 I1 rx q1=>eB (hi pins s1 σ H1 _ I1 q1) λ iv s2 ⟨y,H2,I2,ry,a,v,ex,g,q2⟩=>?_);subst ex;obtain rfl:u=Value.ref a:=rx;exact⟨u9 I2 g,Ah hu I2 g ry λ w' s3 I3 rw'=>⟨v,H2,I3,rw',q2⟩⟩
def yG (hu:X.A.units+1<cLine)(ho:PE X o td)(hi:PE X i ty)(hv:PE X value tv)(hs:swapsWith value (some (.Subscript o i pos')) pos.line X.env=pure false) :
  PS X (.Assign [.Subscript o i pos'] value pos) (JP td ty tv):=by
 intro pins s σ H D I h;refine wpAny_Assign_Subscript (eB (hv pins s σ H _ I h) λ r s1 hq5=>L2.ex5 hq5 λ v H1 I1 rv q1=>eB (ho pins s1 σ H1 _ I1 q1) λ u s2 hq5=>L2.ex5 hq5 λ x H2 I2 rx q2=>eB (hi pins s2 σ H2 _ I2 q2) λ iv s3 ⟨y,H3,I3,ry,a,ex,g⟩=>?_) hs;subst ex;obtain rfl:u=Value.ref a:=rx;exact Af hu I3 g ry rv λ H4 s4 q3 I4=>⟨σ,H4,I4,q3⟩
end
def BJ(h:Heap)(hb:sysModules<h.objs.size):ck P w H (h.push { cls:=.type "dict",data:=.dict #[] }) h.objs.size (.dK [] 0):=
 ⟨NV _,OW.mpr (NU (M0 hb)),[],.nil,_,#[],MI _ rfl,⟨rfl,rfl,rfl⟩,rfl,λ _ he=>by simp at he,Pairs.nil,NJ⟩
def BF(h:Heap)(hb:sysModules<h.objs.size):ck P w H (h.push { cls:=.type "dict",data:=.dict #[] }) h.objs.size (.dT [] 0):=
 ⟨NV _,OW.mpr (NU (M0 hb)),[],.nil,_,#[],MI _ rfl,⟨rfl,rfl,rfl⟩,rfl,rfl,NJ⟩
def Hm:TE:=λ _ H Q=>∀ p,H p=none->Q (.ref p) (upd H p (.dK [] 0))
def Hl:TE:=λ _ H Q=>∀ p,H p=none->Q (.ref p) (upd H p (.dT [] 0))
section
def BI:PE X (.Dict [] [] pos) Hm:=λ pins s σ H Q I h=>
 wpAny_Dict_empty ⟨.ref s.heap.objs.size,_,I.laid (a:=s.heap.objs.size) (o:=.dK [] 0) (t':=s.toks) (λ _ _ q=>Mz _ q) (ML _) (BJ s.heap I.big),rfl,h _ (I.hok.fresh (ML _))⟩
def BG:PE X (.Dict [] [] pos) Hl:=λ pins s σ H Q I h=>
 wpAny_Dict_empty ⟨.ref s.heap.objs.size,_,I.laid (a:=s.heap.objs.size) (o:=.dT [] 0) (t':=s.toks) (λ _ _ q=>Mz _ q) (ML _) (BF s.heap I.big),rfl,h _ (I.hok.fresh (ML _))⟩
end
structure M2 (X:Cx)(o:Expr)(m:Str)(apos:Pos)(e f:Expr)(cpos:Pos):Prop where
 base:attributeBase o m X.env (eval o X.env)=eval o X.env
 few:((backTo cpos (starEach [e,f] X.env)).all (λ x=>!x.1)&&(backToKw cpos (keywordEach [] X.env)).all (λ x=>x.1.isSome)
  && decide (([e,f]:List Expr).length+([]:List Keyword).length+(if ([]:List Keyword).isEmpty then 0 else 1)<30))=true
 line:(apos.endLine == cpos.line)=true
 trees:backTo cpos (starEach [e,f] X.env)=[(false,eval e X.env),(false,eval f X.env)]
def Lu (H:Hp)(a:Addr):Prop:=(∃ kvs,KS H a kvs)\/∃ kvs,KR H a kvs
def Hr(I:Inv X pins σ H s)(d:Lu H a) :
  s.TypeIs (.ref a) "dict" /\ (∀ b,Value.ref a=.ref b->∃ ob,s.heap.get? b=some ob/\ob.dict=none)/\(a == sysModules)=false:=by
 rcases d with ⟨kvs,e⟩|⟨kvs,e⟩
 ·obtain⟨_,hd,vs,_,dd⟩:=vd I.hok e;refine⟨dd.typeIs,λ b q=>?_,hd⟩;cases q;obtain⟨ob,_,_,h1,h2,_⟩:=dd;exact⟨ob,h1,h2.2.1⟩
 ·obtain⟨_,hd,xs,_,dd⟩:=u7 I.hok e;refine⟨dd.typeIs,λ b q=>?_,hd⟩;cases q;obtain⟨ob,_,_,h1,h2,_⟩:=dd;exact⟨ob,h1,h2.2.1⟩
section
variable{d:V}{r:Value}
def Ho(hu:A.units+1<cLine)(I:Inv X pins σ H s)(g:lG H a y o)(ry:RelV y u)(rd:RelV d r)(h:∀ w' s',Inv X pins σ H s'->RelV (o.getD d) w'->Q w' s') :
  wpAny (model X.prog X.w) A (call (.builtin "dict.get") [.ref a,u,r]) Q E s:=by
 rcases g with ⟨kvs,k,e,ey,l⟩|⟨kvs,k,b,e,ey,eb,l⟩
 ·subst ey;obtain⟨z,hd,vs,rel,dd⟩:=vd I.hok e;refine call_meetsIn P6 dd.typeIs PySem.F.entry_dict_get (PySem.F.args_dict_get_3 _ _ _) (meets_dict_get_default (cT X.prog X.w) a (yE ry) hd r) ⟨_,dd.mapOf,h _ _ (I.tok _) ?_⟩;rw[l];exact(rel.val k).getD rd
 ·subst ey;cases (show u=Value.ref b from ry);obtain⟨z,hd,xs,rel,dd⟩:=u7 I.hok e;refine call_meetsIn P6 dd.typeIs PySem.F.entry_dict_get (PySem.F.args_dict_get_3 _ _ _) (meetsH_dict_get_default (tupleKind (cT X.prog X.w)) a b hd r) ⟨Qw hu,k,xs,tU I.hok eb,dd,h _ _ (I.tok _) ?_⟩;rw[l];exact(rel.val k).getD rd
end
def Hq (td ty tx:TE):TE:=λ σ H Q=>td σ H λ x H1=>∃ a,x=.ref a/\Lu H1 a/\ty σ H1 λ y H2=>tx σ H2 λ z H3=>∃ o,lG H3 a y o/\Q (o.getD z) H3
section
variable{o f:Expr}{apos cpos:Pos}{td ty tx:TE}
def BH (hu:X.A.units+1<cLine)(ho:PE X o td)(he:PE X e ty)(hf:PE X f tx)(m:M2 X o "get" apos e f cpos):PE X (.Call (.Attribute o "get" apos) [e,f] [] cpos) (Hq td ty tx):=by
 intro pins s σ H Q I h;refine wpAny_Call_method m.base m.few m.line PySem.F.plainAttrs_dict P6 PySem.F.type_dict_get (eB (ho pins s σ H _ I h) λ u s1 ⟨x,H1,I1,rx,a,ex,d,q1⟩=>?_);subst ex;obtain rfl:u=Value.ref a:=rx;obtain⟨t1,t2,_⟩:=Hr I1 d;refine⟨t1,t2,?_⟩;rw[m.trees];refine Oz rfl (Qk (PD (eB (he pins s1 σ H1 _ I1 q1) λ iv s2 hq5=>L2.ex5 hq5 λ y H2 I2 ry q2=>
  PD (eB (hf pins s2 σ H2 _ I2 q2) λ fv s3 ⟨z,H3,I3,rz,ov,g,q3⟩=>QI ?_))))
 exact Ho hu I3 g ry rz λ w' s4 I4 rw'=>⟨_,H3,I4,rw',q3⟩
end
section
variable{kvs:List (Key×V)}
end
section
end
end L2
namespace L7
open PySem PySem.W PySem.Calls PyProof.Rows
def o6 {P:Params}{h:Heap}:∀ (ns:List Int) (vs:List Value),WellAll P h vs (ns.map WData.int)->IntsAre vs ns:=by
 intro ns
 induction ns with
 | nil =>
  intro vs w;rw[List.map_nil]at w;cases w;exact .nil
 | cons n ns ih =>
  intro vs w;rw[MU]at w;cases w with
  | cons a b =>
   cases a;exact .cons _ _ (ih _ b)
def Ak {l:OpenLaw}{n:Nat}(hn:l.most=some n){P:Params}{h:Heap}{args:List WData}{vals:List Value}
  (hpre:l.row.toRowW.claim.pre args=true) (hwl:WellAll P h vals args) :
  ∃ a vs ns,vals=[Value.ref a]/\args=[WData.list (ns.map WData.int)]/\h.get? a=some { cls:=.type "list",data:=.seq vs.toArray }/\IntsAre vs ns/\ns.length<=n:=by
 have hsh:WShape.hasAll [] args [.list .int]=true:=(pre_splitW hpre).1;have hc:l.pre.holds [] { args:=args }=true:=(pre_splitW hpre).2;obtain⟨d,r,rfl,h1,h2⟩:=hasAllW_cons hsh;obtain rfl:=hasAllW_nil h2;obtain⟨xs,rfl,h3⟩:=hasW_list h1;obtain⟨ns,rfl⟩:=items_int h3;have hlen:ns.length<=n:=by
  unfold OpenLaw.pre at hc;have h4:(WTm.not (.lt (.lit (.int (n:Int))) (.len (.arg 0)))).holds [] { args:=[.list (ns.map .int)] }=true:=by
   have h4:=(holds_andW hc).1;rw[hn]at h4;exact h4
  have h5:=condW_of h4 (w_not (w_lt w_lit (w_len_list (w_arg rfl))));rw[MC]at h5;refine Nat.le_of_not_lt λ q=>?_;have q':(n:Int)<((ns.length:Nat):Int):=by omega
  first
   |(rw[Nc q']at h5;exact absurd h5 (by decide))
   |(simp at h5;omega)
 cases hwl with
 | cons w1 w2 =>
  cases w2;cases w1 with
  |list ho hall=>exact⟨_,_,ns,rfl,rfl,ho,o6 ns _ hall,hlen⟩
def Aj (l:OpenLaw)(args:List WData):l.row.toRowW.claim.post args (.bool true) args=true:=
 postW_of (r:=l.row.toRowW) (X:=(true == true))
  (show WShape.has [] (.bool true) .bool=true by first|rfl|decide|simp[WShape.has,WShape.arms,WShape.armsAll])
  (show(WTm.eq .res (.lit (.bool true))).value [] { args:=args,res:=some (.bool true),after:=args }=some (.bool (true == true)) from w_eq_bool (w_res rfl) w_lit) rfl
def ve {l:OpenLaw}{n:Nat}{q:Program}{loose:List Str}{XP:(Str->Option Value)->Heap->Prop}{YP:World->Heap->Prop}{d:DefRec}
  (hn:l.most=some n) (hdf:d.params.defaults=[])
  (call:∀ (w:World) (s₀ s₁:Shared) (mg mb:Str->Option Value) (fa:Addr) (o:Obj) (pm cd doc:Value) (a:Addr) (vs:List Value) (ns:List Int),
   Ground q loose [] XP w s₀ mg mb s₁.heap->YP w s₁.heap ->
   s₁.heap.get? fa=some o->o.data=.func (docDef d.name d.params d.body d.scope pm cd doc)->s₁.heap.CodeRec cd d.name->mg d.name=some (.ref fa) ->
   s₁.heap.get? a=some { cls:=.type "list",data:=.seq vs.toArray }->IntsAre vs ns->ns.length<=n->s₁.gens = #[] ->
   codeAny (model l.prog w) callerA (.call (.ref fa) ⟨[.ref a],[]⟩) (λ r s'=>r=.ok (.ret (.bool true))/\OldK s₁.heap s'.heap/\s'.os=s₁.os/\AllBare s'.gens) s₁) :
  WalkO q loose XP YP l.row.toRowW d [] (λ f vs=>PySem.call f vs):=by
 intro w s₀ s₁ mg mb G Y fa o pm cd doc dV kV ho hd hcd hD hmg hg args vals as hpre hlay hrd hwl hlo;obtain rfl:dV=.none:=Dflts.none hD hdf;obtain rfl:kV=.none:=Dflts.noKw hD;obtain⟨a,vs,ns,rfl,rfl,hobj,hints,hlen⟩:=Ak hn hpre hwl;refine enter_call (Qu (call w s₀ s₁ mg mb fa o pm cd doc a vs ns G Y ho (fd_plain hd) hcd hmg hobj hints hlen hg) λ r s' hq=>?_);obtain⟨rfl,h2,h3,h4⟩:=hq;exact⟨.inl ⟨.bool true,.bool true,[],rfl,λ _=>rfl,.bool true,Aj l _,λ _=>⟨List.Pairwise.nil,λ _ hm=>(nomatch hm)⟩⟩,h2,h3,h4⟩
section
variable {prog:Program}{w:World}{A:Around}{E:Value->Shared->Prop}{s:Shared}{K:Frag}
end
end L7
namespace L2
open PySem PySem.Spec PyProof.Rows
variable {a e f it:Addr}{A:Around}{items:Array Value}{X:Cx}{cm:Cx->Prop}{env:Env}{fd:FuncData}{H H':Hp}{pins:List (Addr×Obj)}{cl:List (Str×Addr)}{cap:List (Str×Nat)}{fp:List Addr}{ps:List Str}{i:Nat}{pos:Pos}{P:Program}{scope:Scope}{s:Shared}{sp:Sp}{σ:St}{st:Stmt}{qual x y:Str}{E Q:Value->Shared->Prop}{w:World}
def ji:∀ {vs:List Value}{ns:List Int},IntsAre vs ns->Vals (ns.map V.int) vs
 |_,_,.nil=>.nil
 |_,_,.cons n t h=>.cons ⟨t,rfl⟩ (ji h)
def Hs (H:Hp):Prop:=∀ b,H b=none\/∃ o xs,H b=some (.aq o (.lst xs))
def BK{K:PySem.W.Frag}{mg mb:Str->Option Value}{CX:Bw}{k:Nat}{fa:Addr}{s₁:Shared}{vs:List Value}{ns:List Int}
  (KX:K.In s₁.heap) (hns:s₁.heap.Ns mainGlobals mg) (hb:s₁.heap.Ns builtinsNs mb) (hbb:∀ x:Str,x ≠ "__name__" -> mb x=bootBuiltins x) (hlim:s₁.heap.NoLimit) (hg:s₁.gens = #[])
  (ha:s₁.heap.get? a=some { cls:=.type "list",data:=.seq vs.toArray }) (hi:IntsAre vs ns) (hl:ns.length<=sizeLine) (hr:gB k callerA)
  (F:∀ base:Heap,K.In base->base.Ns mainGlobals mg->pN P w K mg base CX k fa fd [x] sp) (hbind:∀ (s:Shared) (u:Value),BindsTo s fd ⟨[u],[]⟩ [(x,u)])
  (hsp:∀ H:Hp,Hs H->dR K H a (ns.map V.int)->sp [.ref a] H (λ v _=>v=.bl true) λ _ _ _=>False)
  (hCX:∀ H e s',CX [] H s₁ (λ _ _ _=>False) e s'->False) :
  codeAny (model P w) callerA (.call (.ref fa) ⟨[.ref a],[]⟩) (λ r s'=>r=.ok (.ret (.bool true))/\OldK s₁.heap s'.heap/\s'.os=s₁.os/\AllBare s'.gens) s₁:=by
 have rv:=ji hi;have lenV:=hi.length;have core:∀ H:Hp,Hs H->dR K H a (ns.map V.int)->jA P w H s₁.heap->(∀ b,H b≠none->b=a)->(H a≠none->K.lookup a=none) ->
   codeAny (model P w) callerA (.call (.ref fa) ⟨[.ref a],[]⟩) (λ r s'=>r=.ok (.ret (.bool true))/\OldK s₁.heap s'.heap/\s'.os=s₁.os/\AllBare s'.gens) s₁:=by
  intro H hO hS hok hA hK;have base_of:∀ {b:Addr}{o:Obj},s₁.heap.get? b=some o->H b=none->(tL s₁.heap H).get? b=some o:=λ e n=>Bu e n;have noA:∀ {b:Addr}{o:Obj}{es:Array DictEntry}{ep:Nat},s₁.heap.get? b=some o->o.data=.dict es ep->H b=none:=λ {b o es ep} e d=>by
   cases q:H b with
   |none=>rfl
   | some u =>
    have e':b=a:=hA b (by rw[q];simp);subst e';rw[ha]at e;cases e;have d':Data.seq vs.toArray _=Data.dict es ep:=d;cases d'
  have nsK:∀ {b:Addr}{m:Str->Option Value},s₁.heap.Ns b m->(tL s₁.heap H).Ns b m:=λ {b m} ⟨o,es,ep,e,d,r⟩=>⟨o,es,ep,base_of e (noA e d),d,r⟩;have hKb:K.In (tL s₁.heap H):=λ b o e=>base_of (KX b o e) (by
   cases q:H b with
   |none=>rfl
   | some u =>
    have e':b=a:=hA b (by rw[q];simp);subst e';rw[hK (by rw[q];simp)]at e;cases e)
  have hM:Mod K mg (tL s₁.heap H):=⟨hKb,nsK hns,⟨mb,nsK hb,hbb⟩,let ⟨mc,h1,h2⟩:=hlim;⟨mc,nsK h1,h2⟩⟩;have e0:D5 P w K mg (tL s₁.heap H) callerA [] s₁ H:=⟨rfl,hM,λ b o e=>Ek e,Nat.le_of_eq (zS _ _),trivial,λ b hb=>absurd (show b∈([]:List Addr) from hb) (by simp),hok,.of_eq hg⟩;refine Qu ((F _ hKb (nsK hns)).run callerA [] s₁ H ⟨[.ref a],[]⟩ [.ref a] [.ref a] _ _ hr e0 (hbind s₁ (.ref a)) (.cons rfl .nil) (hsp H hO hS)) λ r s' h=>?_;cases r with
  |error e=>exact(hCX H e s' h).elim
  | ok fl =>
   cases fl with
   |next=>exact False.elim h|brk=>exact False.elim h|cont=>exact False.elim h
   | ret u =>
    obtain⟨v,H',os,bare,un,hok',r',q⟩:=h;have q':v=.bl true:=q;subst q';obtain rfl:u=Value.bool true:=r';refine⟨rfl,OldK.of_keep λ b o e=>?_,os,bare⟩;cases q:H b with
    |none=>exact un.keep b o e q (by intro z;exact absurd (show b∈([]:List Addr) from z) (by simp)) (by simp)
    | some u =>
     rcases hO b with z|⟨ob,xs,z⟩
     ·rw[q]at z;cases z
     ·have z2:=un.qY b ob _ z;obtain⟨e1,_⟩:=hok b _ z;obtain⟨e2,_⟩:=hok' b _ z2;rw[e]at e1;cases e1;exact e2
 cases hk:K.lookup a with
 | some o =>
  have e:=KX a o hk;rw[ha]at e;cases e;refine core (λ _=>none) (λ _=>.inl rfl) (.inr ⟨_,vs.toArray,_,hk,rfl,rfl,rfl,by rw[MN,lenV];exact hl,by simpa using rv⟩) (λ b u z=>by have z':(none:Option HO)=some u:=z;cases z') (λ b z=>absurd rfl z) λ z=>absurd rfl z
 | none =>
  refine core (λ b=>if b=a then some (.aq { cls:=.type "list",data:=.seq vs.toArray } (.lst (ns.map V.int))) else none) (λ b=>?_) (.inl (.inr ⟨{ cls:=.type "list",data:=.seq vs.toArray },MO rfl⟩)) (λ b u z=>?_) (λ b z=>?_) λ _=>hk
  ·by_cases hb:b=a
   ·exact .inr ⟨_,_,MO hb⟩
   ·exact .inl (MP hb)
  ·by_cases hb:b=a
   ·have z':=(MO hb).symm.trans z;cases z';subst hb;exact⟨ha,by rw[MC];exact hl,vs,_,rv,ha⟩
   ·have z':=(MP hb).symm.trans z;cases z'
  ·by_cases hb:b=a
   ·exact hb
   ·exact absurd (MP hb) z
def EF {l:PySem.W.OpenLaw}{n k:Nat}{q:Program}{loose:List Str}{XP:(Str->Option Value)->Heap->Prop}{YP:World->Heap->Prop}{d:DefRec}{K:Params->PySem.W.Frag}{CX:World->Bw}{sp:World->Sp}
  (hn:l.most=some n) (hn2:n<=sizeLine) (hdf:d.params.defaults=[]) (hr:gB k callerA)
  (hY:∀ (w:World) (h:Heap),YP w h->(K w.params).In h)
  (F:∀ (w:World) (mg:Str->Option Value) (fa:Addr) (h:Heap),(K w.params).In h->h.Ns mainGlobals mg->mg d.name=some (.ref fa) ->
   ∃ fd:FuncData,(∀ (s:Shared) (u:Value),BindsTo s fd ⟨[u],[]⟩ [(x,u)]) /\
    ∀ base:Heap,(K w.params).In base->base.Ns mainGlobals mg->pN l.prog w (K w.params) mg base (CX w) k fa fd [x] (sp w))
  (hsp:∀ (w:World) (H:Hp) (a:Addr) (ns:List Int),ns.length<=n->Hs H->dR (K w.params) H a (ns.map V.int)->sp w [.ref a] H (λ v _=>v=.bl true) λ _ _ _=>False)
  (hCX:∀ (w:World) (H:Hp) (s:Shared) (e:Value) (s':Shared),CX w [] H s (λ _ _ _=>False) e s'->False) :
  PySem.W.WalkO q loose XP YP l.row.toRowW d [] (λ f vs=>PySem.call f vs):=by
 refine L7.ve hn hdf λ w s₀ s₁ mg mb fa o pm cd doc a vs ns G Y ho hd hcd hmg hobj hints hlen hg=>?_;have KX:=hY w _ Y;obtain⟨fd,hb,hF⟩:=F w mg fa _ KX G.T.g hmg;exact BK KX G.T.g G.T.b G.T.builtins G.T.nolimit hg hobj hints (NX hlen hn2) hr hF hb (λ H hO hS=>hsp w H a ns hlen hO hS) λ H e s'=>hCX w H s₁ e s'
def iL (s:Stmt):Arguments:=match s with
 |.FunctionDef _ a _ _ _ _ _ _ _ _=>a
 |_=>{ posonlyargs:=[],args:=[],vararg:=none,kwonlyargs:=[],kw_defaults:=[],kwarg:=none,defaults:=[] }
def eU (s:Stmt):List Stmt:=match s with
 |.FunctionDef _ _ b _ _ _ _ _ _ _=>b
 |_=>[]
def aC (s:Stmt):Scope:=match s with
 |.FunctionDef _ _ _ _ _ _ sc _ _ _=>sc
 |_=>{ kind:=.function,names:=[],isGenerator:=false,isCoroutine:=false }
abbrev Ai:Bw:=λ _ _ _ _ _ _=>False
abbrev E0:XK:=λ _ _ _=>False
def JR:Passes Ai X E0:=λ _ _ _ _ _ _ _ h=>h.elim
structure EE (K:PySem.W.Frag)(x qual:Str)(st:Stmt)(f:Addr)(fd:FuncData):Prop where
 ex:∃ (oc:Value) (od:Option Addr) (kV doc pm:Value) (an:Option Addr) (cdv ct:Value) (osl:Array (Option Value)),
  fd=PySem.W.fnOf x qual (iL st) (eU st) (aC st) .none kV doc pm an cdv ct/\K.lookup f=some ⟨oc,od,.func fd,osl⟩/\PySem.W.codeIn K cdv qual=true
 kp:PySem.W.keepIn K (.ref f)=true
section
variable{K:PySem.W.Frag}{mg:Str->Option Value}{base:Heap}
def EE.ok{N:List Str}{k:Nat}(F:EE K x qual st f fd)(S:aT N ps (aC st))(len:∀ vs H Q E,sp vs H Q E->vs.length=ps.length)
  (hbody:∀ (cdv:Value) (A:Around) (outer:List Env) (s:Shared) (H:Hp) (vs:List V) (Q:VK) (E:XK),gB k (A.deeper (envOfC qual (aC st) s.heap.objs.size f cdv))->sp vs H Q E ->
   ∃ t,mF (q9 Ai P w K mg base N qual (aC st) f cdv A outer s H E).Gf (eU st) t/\t { nx:=λ _ H'=>Q .bJ H',rt:=Q } (start N vs) H):pN P w K mg base Ai (k+1) f fd ps sp:=by
 obtain⟨oc,od,kV,doc,pm,an,cdv,ct,osl,rfl,lk,hcd⟩:=F.ex;refine Jm lk hcd S len λ A outer s H vs Q E hr hsp=>?_;obtain⟨t,h,q⟩:=hbody cdv A outer s H vs Q E hr hsp;exact⟨t,h.Gf,q⟩
def EE.binds(F:EE K x qual st f fd)
  (h:∀ (kV doc pm:Value) (an:Option Addr) (cdv ct:Value) (us:List Value),us.length=ps.length->bindArgs (PySem.W.fnOf x qual (iL st) (eU st) (aC st) .none kV doc pm an cdv ct) ⟨us,[]⟩=pure (ps.zip us)):Binds K fd ps []:=by
 obtain⟨oc,od,kV,doc,pm,an,cdv,ct,osl,rfl,lk,hcd⟩:=F.ex;exact .all (h kV doc pm an cdv ct)
def xg{oc:Value}{od an:Option Addr}{osl:Array (Option Value)}{kV doc pm cdv ct:Value}(l:K.lookup f=some ⟨oc,od,.func (PySem.W.fnOf x qual (iL st) (eU st) (aC st) .none kV doc pm an cdv ct),osl⟩)
  (c:PySem.W.codeIn K cdv qual=true) (k:PySem.W.keepIn K (.ref f)=true):EE K x qual st f (PySem.W.fnOf x qual (iL st) (eU st) (aC st) .none kV doc pm an cdv ct):=⟨⟨oc,od,kV,doc,pm,an,cdv,ct,osl,rfl,l,c⟩,k⟩
end
def cZ{k:Nat}(hr:gB k A):A.units+1<cLine:=Nat.lt_of_le_of_lt (Nat.add_le_add_left (by decide:1<=64) _) hr.units
section
end
def aw (H H':Hp):Prop:=∀ b o,H b=some o->H' b=some o
def aw.refl (H:Hp):aw H H:=λ _ _ h=>h
def aw.trans {H1 H2:Hp}(a:aw H H1)(b:aw H1 H2):aw H H2:=λ c o h=>b c o (a c o h)
def aw.free(e:aw H H'){l:Addr}(h:H' l=Option.none):H l=Option.none:=by
 cases q:H l with
 |none=>rfl
 | some o =>
  rw[e l o q]at h;cases h
def aw.seq {K:PySem.W.Frag}{xs:List V}(e:aw H H')(h:dR K H a xs):dR K H' a xs:=by
 rcases h with (h|⟨o,h⟩)|h
 ·exact .inl (.inl (e _ _ h))
 ·exact .inl (.inr ⟨o,e _ _ h⟩)
 ·exact .inr h
section
end
section
variable {κ:Type}[DecidableEq κ]
end
section
variable{s':Shared}
end
def lookup_mem {α:Type}{y:Str}{v:α}:∀ {l:List (Str×α)},l.lookup y=some v->(y,v)∈l
 |[],h=>by cases h
 | (n,k)::r,h=>by
  rw[Oa]at h;cases hb:y == n with
  | true =>
   rw[hb]at h;cases h;rw[OU.mp hb];exact MD
  | false =>
   rw[hb]at h;exact ME _ (lookup_mem h)
def g6 {α:Type}{y:Str}{v:α}:∀ {l:List (Str×α)},(l.map (·.1)).Nodup->(y,v)∈l->l.lookup y=some v
 |[],_,h=>by cases h
 | (n,k)::r,hn,h=>by
  have hn':(n::r.map (·.1)).Nodup:=hn;obtain⟨h1,h2⟩:=MZ.mp hn';rw[Oa];rcases MK.mp h with e|e
  ·cases e;simp
  ·have hne:(y == n)=false:=by
    refine OW.mpr λ z=>h1 ?_;rw[<-z];exact MM.mpr ⟨(y,v),e,rfl⟩
   rw[hne];exact g6 h2 e
def Al (env:Env)(y:Str)(k:NameKind):NameKind:=if (k == NameKind.free&&env.scope.kind == .function&&env.kindOf y == some .cell)=true then .cell else k
def kB (scope:Scope)(env:Env)(y:Str):(relabel scope env).names.lookup y=(scope.names.lookup y).map (Al env y):=by
 show(scope.names.map λ (n,k)=>if (k == NameKind.free&&env.scope.kind == .function&&env.kindOf n == some .cell)=true then (n,NameKind.cell) else (n,k)).lookup y=_
 induction scope.names with
 |nil=>rfl
 | cons p r ih =>
  obtain⟨n,k⟩:=p;rw[MU];by_cases hc:(k == NameKind.free&&env.scope.kind == .function&&env.kindOf n == some .cell)=true
  ·simp only[MO hc,Oa];cases hb:y == n with
   | true =>
    have e:y=n:=OU.mp hb;subst e;simp only[Pw,Al,MO hc]
   |false=>exact ih
  ·simp only[MP hc,Oa];cases hb:y == n with
   | true =>
    have e:y=n:=OU.mp hb;subst e;simp only[Pw,Al,MP hc]
   |false=>exact ih
def l5 {env:Env}(f:Str×NameKind->List (Str×Addr)->Sem (ForInStep (List (Str×Addr))))
  (hf:∀ name kind cs,f (name,kind) cs=if (kind == .free)=true then (do let a <-cellOf env name;pure (.yield ((name,a)::cs))) else pure (.yield cs)) :
  ∀ (names:List (Str×NameKind)) (acc:List (Str×Addr)),(∀ y∈names,y.2=.free->∃ c,env.cells.lookup y.1=some c) ->
   ∃ cl,(forIn names acc f:Sem (List (Str×Addr)))=pure cl/\(∀ y c,cl.lookup y=some c->acc.lookup y=some c\/(env.cells.lookup y=some c/\(y,NameKind.free)∈names)) /\
    (∀ y,(y,NameKind.free)∈names\/(acc.lookup y).isSome=true->∃ c,cl.lookup y=some c)
 | [],acc,_=>⟨acc,by rw [Qx],λ y c e=>.inl e,λ y h=>by
   rcases h with h|h
   ·cases h
   ·exact OT.mp h⟩
 | (name,kind)::r,acc,h=>by
  have hr:∀ y∈r,y.2=.free->∃ c,env.cells.lookup y.1=some c:=λ y hy=>h y (ME _ hy);by_cases hk:(kind == NameKind.free)=true
  ·have e:kind=.free:=OU.mp hk;subst e;obtain⟨c0,hc0⟩:=h (name,.free) MD rfl;have hc0:env.cells.lookup name=some c0:=hc0;obtain⟨cl,h1,h2,h3⟩:=l5 f hf r ((name,c0)::acc) hr;refine⟨cl,?_,λ y c e=>?_,λ y hy=>?_⟩
   ·rw[Px,hf,MO hk];unfold cellOf;rw[hc0];exact h1
   ·rcases h2 y c e with q|⟨q1,q2⟩
    ·rw[Oa]at q;cases hb:y == name with
     | true =>
      rw[hb]at q;cases q;have e:y=name:=OU.mp hb;subst e;exact .inr ⟨hc0,MD⟩
     | false =>
      rw[hb]at q;exact .inl q
    ·exact .inr ⟨q1,ME _ q2⟩
   ·refine h3 y ?_;rw[Oa];cases hb:y == name with
    |true=>exact .inr rfl
    | false =>
     rcases hy with hy|hy
     ·rcases MK.mp hy with z|z
      ·cases z;simp at hb
      ·exact .inl z
     ·exact .inr hy
  ·obtain⟨cl,h1,h2,h3⟩:=l5 f hf r acc hr;refine⟨cl,?_,λ y c e=>(h2 y c e).imp id λ q=>⟨q.1,ME _ q.2⟩,λ y hy=>h3 y (hy.imp (λ hy=>?_) id)⟩
   ·rw[Px,hf,MP hk];exact h1
   ·rcases MK.mp hy with z|z
    ·cases z;exact absurd rfl hk
    ·exact z
def xj(h:∀ y∈scope.names,y.2=.free->∃ c,env.cells.lookup y.1=some c) :
  ∃ cl,closureFor scope env=pure cl/\(∀ y c,cl.lookup y=some c->env.cells.lookup y=some c/\(y,NameKind.free)∈scope.names)/\(∀ y,(y,NameKind.free)∈scope.names->∃ c,cl.lookup y=some c):=by
 have key:∀ f:Str×NameKind->List (Str×Addr)->Sem (ForInStep (List (Str×Addr))),
   (∀ name kind cs,f (name,kind) cs=if (kind == .free)=true then (do let a <-cellOf env name;pure (.yield ((name,a)::cs))) else pure (.yield cs)) ->
   closureFor scope env=(forIn scope.names [] f >>= λ r=>pure r) ->
   ∃ cl,closureFor scope env=pure cl/\(∀ y c,cl.lookup y=some c->env.cells.lookup y=some c/\(y,NameKind.free)∈scope.names)/\(∀ y,(y,NameKind.free)∈scope.names->∃ c,cl.lookup y=some c):=by
  intro f hf e;obtain⟨cl,h1,h2,h3⟩:=l5 f hf scope.names [] h;refine⟨cl,?_,λ y c q=>(h2 y c q).resolve_left (λ z=>by cases z),λ y hy=>h3 y (.inl hy)⟩;rw[e,h1];rfl
 refine key _ (λ name kind cs=>?_) rfl;by_cases hk:(kind == NameKind.free)=true
 ·simp only[hk,OG]
 ·simp only[hk,ON]
def kC:∀ (names:List (Str×NameKind)) (h:Heap) (acc:List (Str×Addr)) (y:Str) (c:Addr),(cellsFrom h.objs.size names acc).lookup y=some c ->
  acc.lookup y=some c\/(h.objs.size<=c/\(y,NameKind.cell)∈names/\(pushCells h names).IsCell c none)
 |[],_,_,_,_,e=>.inl e
 | (name,kind)::r,h,acc,y,c,e=>by
  unfold cellsFrom at e;unfold pushCells;by_cases hk:(kind == NameKind.cell)=true
  ·rw[MO hk]at e ⊢;have ek:kind=.cell:=OU.mp hk;subst ek;have sz:(h.push { cls:=.type "cell",data:=.cell none }).objs.size=h.objs.size+1:=Ny ..;rw[<-sz]at e;rcases kC r _ _ y c e with q|⟨q1,q2,q3⟩
   ·rw[Oa]at q;cases hb:y == name with
    | true =>
     rw[hb]at q;cases q;have e:y=name:=OU.mp hb;subst e;exact .inr ⟨ML _,MD,⟨_,Qo _ _ _ _ (MI _ rfl),rfl⟩⟩
    | false =>
     rw[hb]at q;exact .inl q
   ·rw[sz]at q1;exact .inr ⟨Pc q1,ME _ q2,q3⟩
  ·rw[MP hk]at e ⊢;rcases kC r _ _ y c e with q|⟨q1,q2,q3⟩
   ·exact .inl q
   ·exact .inr ⟨q1,ME _ q2,q3⟩
def nN:∀ (names:List (Str×NameKind)) (n:Nat) (acc:List (Str×Addr)),(∀ y z c,acc.lookup y=some c->acc.lookup z=some c->y=z)->(∀ y c,acc.lookup y=some c->c<n) ->
  ∀ y z c,(cellsFrom n names acc).lookup y=some c->(cellsFrom n names acc).lookup z=some c->y=z
 |[],_,_,h,_,y,z,c,e1,e2=>h y z c e1 e2
 | (name,kind)::r,n,acc,h,hl,y,z,c,e1,e2=>by
  unfold cellsFrom at e1 e2;by_cases hk:(kind == NameKind.cell)=true
  ·rw[MO hk]at e1 e2;refine nN r (n+1) _ (λ y z c q1 q2=>?_) (λ y c q=>?_) y z c e1 e2
   ·rw[Oa]at q1 q2;cases b1:y == name with
    | true =>
     rw[b1]at q1;cases q1;cases b2:z == name with
     |true=>rw[OU.mp b1,OU.mp b2]
     | false =>
      rw[b2]at q2;exact absurd (hl z _ q2) (NG _)
    | false =>
     rw[b1]at q1;cases b2:z == name with
     | true =>
      rw[b2]at q2;cases q2;exact absurd (hl y _ q1) (NG _)
     | false =>
      rw[b2]at q2;exact h y z c q1 q2
   ·rw[Oa]at q;cases b:y == name with
    | true =>
     rw[b]at q;cases q;exact Qe _
    | false =>
     rw[b]at q;exact OO (hl y c q)
  ·rw[MP hk]at e1 e2;exact nN r n acc h hl y z c e1 e2
def xh {M:Model}{Q:Env->Shared->Prop}
  (hQ:Q { scope:=scope,locals:=s.heap.objs.size,globals:=env.globals,cells:=cellsFrom (s.heap.objs.size+1) scope.names cl,qual:=env.qual,func:=none,code:=env.code,frame:=env.frame,builtins:=env.builtins }
   { s with heap:=pushCells (s.heap.push { cls:=.type "dict",data:=.dict #[] }) scope.names }) :
  wpAny M A (newFunctionEnv scope env.globals cl [] env.qual none .none (some env)) Q E s:=by
 simp only[newFunctionEnv,Option.isSome_some,OG];refine My (wpAny_alloc ?_);refine My (wpAny_layCells _ (λ name kind cells=>by cases hkc:kind == NameKind.cell<;>simp[hkc]) _ _ _ _ ?_);rw[show({ s with heap:=s.heap.push { cls:=.type "dict",data:=.dict #[] } }:Shared).heap.objs.size=s.heap.objs.size+1 from Ny ..];refine My ?_;rw[Qx];exact MB (MB hQ)
section
variable {prog:Program}{R:Result->Shared->Prop}
def Am {elt target iter:Expr}{ifs:List Expr}{it acc:Value}(I:Nat->Shared->Prop)
  (turn:∀ n s,I n s->wpAny (model prog w) A (pyNext it) (λ r s₁=>match r with
   |none=>R (.ok .next) s₁
   | some v=>wpAny (model prog w) A (letOwnedTupleGo target it v) (λ _ s₁'=>wpAny (model prog w) A (assign target env v) (λ _ s₂ =>
     wpAny (model prog w) A (forIn ifs true λ c r=>if r=true then do let ok <-isTrue c env (eval c env);pure (ForInStep.yield ok) else pure (ForInStep.yield r)) (λ ok s₂'=>
      if ok=true then wpAny (model prog w) A (eval elt env) (λ x s₃=>
       wpAny (model prog w) A (call (.builtin "list.append") [acc,x]) (λ _ s₄=>∃ m,m<n/\I m s₄) (λ _ _=>False) s₃) (λ _ _=>False) s₂'
      else ∃ m,m<n/\I m s₂') (λ _ _=>False) s₂) (λ _ _=>False) s₁') (λ _ _=>False) s₁) (λ _ _=>False) s)
  (n:Nat) (h:I n s):codeAny (model prog w) A (.compLoop (.ListComp elt [⟨target,iter,ifs,0⟩] scope pos) 0 it acc env) R s:=by
 refine codeAny_loop rfl I (λ n s hI=>?_) n h;show wpAny _ _ ((compTurn (.ListComp elt [⟨target,iter,ifs,0⟩] scope pos) 0 it acc env).onRaise (λ x=>do noteFrame x env;theTreesLotGoes x)) _ _ s;refine wpAny_noted ?_;rw[compTurn_list];refine My (wpAny_standAt (My (Om (turn n s hI) (λ r s₁ h₁=>?_) λ _ _ h'=>h'.elim)));cases r with
 |none=>exact MB h₁
 | some v =>
  refine My (Om h₁ (λ _ s₁' h₁'=>?_) λ _ _ h'=>h'.elim);refine My (Om h₁' (λ _ s₂ h₂=>My (Om h₂ (λ ok s₃ h₃=>?_) λ _ _ h'=>h'.elim)) λ _ _ h'=>h'.elim);cases ok with
  |false=>exact MB ⟨rfl,h₃⟩
  | true =>
   exact My (My (Om h₃ (λ x s₄ h₄=>My (Om h₄ (λ _ s₅ h₅=>MB (MB ⟨rfl,h₅⟩)) λ _ _ h'=>h'.elim)) λ _ _ h'=>h'.elim))
def JS (X:Cx)(ifs:List Expr)(t:TT):Prop:=∀ (pins:List (Addr×Obj)) (s:Shared) (σ:St) (H:Hp) (Q:Bool->Hp->Prop),Inv X pins σ H s->t σ H Q ->
 wpAny (model X.prog X.w) X.A (forIn ifs true λ c r=>if r=true then do let ok <-isTrue c X.env (eval c X.env);pure (ForInStep.yield ok) else pure (ForInStep.yield r)) (TP X pins σ Q) X.xe s
def Lv:TT:=λ _ H Q=>Q true H
def EH:JS X [] Lv:=λ pins s σ H Q I h=>wpAny_tests_nil ⟨H,I,h⟩
def EG{c:Expr}{t:TT}(h:PT X c t):JS X [c] t:=λ pins s σ H Q I hw=>wpAny_tests_one (h pins s σ H Q I hw)
end
structure gQ (X:Cx)(scope:Scope)(own:List Str)(cap:List (Str×Nat)):Prop where
 kind:scope.kind=.function
 nd:(scope.names.map (·.1)).Nodup
 free:∀ y∈scope.names,y.2=.free->X.env.kindOf y.1=some .cell\/X.env.kindOf y.1=some .free
 Lw:∀ p∈cap,X.N[p.2]?=some p.1/\(p.1,NameKind.free)∈scope.names
def pU (σ:St)(cap:List (Str×Nat)):St:=cap.map λ p=>(σ[p.2]?).join
def iZ (X:Cx)(scope:Scope)(cs:List (Str×Addr))(C:Addr)(N:List Str)(s0:Shared)(H0:Hp)(fp:List Addr):Cx where
 prog:=X.prog
 w:=X.w
 K:=X.K
 mg:=X.mg
 base:=X.base
 A:=X.A
 N:=N
 s₀:=s0
 H₀:=H0
 env:=compEnvC scope cs C X.env
 outer:=X.stack
 stack:=X.stack
 ex:=fp
 fn:=λ y=>decide (scope.names.lookup y=some .cell)
 calm:=X.calm
 pn:=X.pn
 xe:=λ _ _=>False
section
def vg(h:env.kindOf y=some .cell\/env.kindOf y=some .free):wR env.scope y:=.inr h
def BL{own:List Str}(I:Inv X pins σ H s)(ok:gQ X scope own cap)
  (hcl:∀ y c,cl.lookup y=some c->X.env.cells.lookup y=some c/\(y,NameKind.free)∈scope.names) (hcl2:∀ y,(y,NameKind.free)∈scope.names->∃ c,cl.lookup y=some c)
  (f2:∀ b∈fp,o5 X pins H b) (fo:∀ b∈fp,b<s.heap.objs.size) :
  Inv (iZ X scope (cellsFrom (s.heap.objs.size+1) scope.names cl) s.heap.objs.size (own++cap.map (·.1)) s H fp) pins (List.replicate own.length none++pU σ cap) H
   { s with heap:=pushCells (s.heap.push { cls:=.type "dict",data:=.dict #[] }) scope.names }:=by
 have szC:(s.heap.push { cls:=.type "dict",data:=.dict #[] }).objs.size=s.heap.objs.size+1:=Ny ..;have kp:∀ b o,s.heap.get? b=some o->(pushCells (s.heap.push { cls:=.type "dict",data:=.dict #[] }) scope.names).get? b=some o:=λ b o e=>Qo _ _ b o (Mz _ e);have sp:∀ y c,(cellsFrom (s.heap.objs.size+1) scope.names cl).lookup y=some c->(X.env.cells.lookup y=some c/\(y,NameKind.free)∈scope.names) ∨
   (s.heap.objs.size+1<=c/\(y,NameKind.cell)∈scope.names/\(pushCells (s.heap.push { cls:=.type "dict",data:=.dict #[] }) scope.names).IsCell c none):=λ y c e=>by
  rw[<-szC]at e;rcases kC _ _ _ y c e with q|q
  ·exact .inl (hcl y c q)
  ·rw[szC]at q;exact .inr q
 have clt:∀ y c,X.env.cells.lookup y=some c->c<s.heap.objs.size:=λ y c e=>by
  obtain⟨v,o,ho,_⟩:=I.cell y c e;exact MJ ho
 have kfree:∀ y,(y,NameKind.free)∈scope.names->scope.names.lookup y=some .free:=λ y h=>g6 ok.nd h;have kcell:∀ y,(y,NameKind.cell)∈scope.names->scope.names.lookup y=some .cell:=λ y h=>g6 ok.nd h;have okY:(iZ X scope (cellsFrom (s.heap.objs.size+1) scope.names cl) s.heap.objs.size (own++cap.map (·.1)) s H fp).Ok:={
  mod:=I.ok.mod
  kind:=ok.kind
  glob:=I.ok.glob
  blt:=I.ok.blt
  above:=ML _
  inj:=λ x y c e1 e2=>nN scope.names (s.heap.objs.size+1) cl (λ y z c q1 q2=>I.ok.inj y z c (hcl y c q1).1 (hcl z c q2).1) (λ y c q=>OO (clt y c (hcl y c q).1)) x y c e1 e2
  has:=λ y hy=>by
   have hy':(relabel scope X.env).names.lookup y=some .cell\/(relabel scope X.env).names.lookup y=some .free:=hy;rw[kB]at hy';refine OT.mp (O4 scope.names _ _ ?_);cases q:scope.names.lookup y with
   | none =>
    rw[q]at hy';rcases hy' with z|z<;>cases z
   | some k =>
    by_cases hk:k=.cell
    ·subst hk;exact .inl rfl
    ·by_cases hf:k=.free
     ·subst hf;obtain⟨c,hc⟩:=hcl2 y (lookup_mem q);exact .inr (by rw[hc];rfl)
     ·rw[q]at hy';exfalso;have hb:(k == NameKind.free)=false:=by simpa using hf
      rcases hy' with z|z
      ·simp[Al,hb]at z;exact hk z
      ·simp[Al,hb]at z;exact hf z
  Jb:=λ y c hf e=>by
   have hf':scope.names.lookup y=some .cell:=PU hf;rcases sp y c e with ⟨_,q⟩|⟨q,_⟩
   ·rw[kfree y q]at hf';cases hf'
   ·exact Pc q
  hd:=I.ok.hd
  frames:=I.ok.frames
  Jl:=.inl rfl
  KP:=λ b hb=>⟨M0 (fo b hb),λ x c e z=>by
   subst z;rcases sp x c e with ⟨q,_⟩|⟨q,_⟩
   ·exact(f2 c hb).2.2.2.2.1 x c q rfl
   ·exact absurd (Ng (fo c hb) (Pc q)) (NG _)⟩
  bs:=I.bs
  Ef:=NX I.ok.Ef I.sz
  zZ:=λ b o e hb=>by
   rcases (f2 b hb).2.2.2.1 with q|q
   ·exact I.ok.zZ b o e q
   ·exact absurd (Ng (MJ e) (NX I.ok.Ef q)) (NG _)
  Ab:=λ b hb z=>by
   rcases MK.mp (I.tK b z) with q|q
   ·exact(f2 b hb).2.1 q
   ·exact(f2 b hb).2.2.1 q
  o4:=I.stack
  GJ:=I.yw }
 obtain⟨m,hns,hl⟩:=id I.loc;refine⟨okY,rfl,I.bare,Un.kept kp,⟨λ _=>none,(Heap.Ns.new s.heap (.type "dict")).keeps (Qo _ _),λ i x v e1 e2 e3=>?_⟩,λ y c e=>?_,I.fresh,λ y c e=>?_,λ p hp=>?_,I.hok.kept kp,?_⟩
 ·
  have e1:(own++cap.map (·.1))[i]?=some x:=e1;by_cases hi:i<own.length
  ·rw[QF (by simpa using hi)]at e2;simp[hi]at e2
  ·have hi':own.length<=i:=Nat.not_lt.mp hi;rw[Oe (by simpa using hi')]at e2;rw[Oe hi']at e1;rw[List.length_replicate]at e2;unfold pU at e2;rw[MR]at e1 e2;cases q:cap[i-own.length]? with
   | none =>
    rw[q]at e1;cases e1
   | some p =>
    rw[q]at e1 e2;obtain⟨p1,p2⟩:=p;have e1:p1=x:=Nq e1;subst e1;have e2:(σ[p2]?).join=some v:=Nq e2;have e2:σ[p2]?=some (some v):=by
     cases z:σ[p2]? with
     |none=>rw[z]at e2;cases e2|some z'=>rw[z]at e2;exact N1 some e2
    obtain⟨hN,hfr⟩:=ok.Lw (p1,p2) (Qj q);have hk:=ok.free (p1,.free) hfr rfl;obtain⟨u,r,L⟩:=hl p2 p1 v hN e2 (vg hk);refine⟨u,r,?_⟩;rcases L with ⟨k,_⟩|⟨_,c,hc,hcell⟩
    ·have hk:X.env.kindOf p1=some .cell\/X.env.kindOf p1=some .free:=hk;rw[k]at hk;rcases hk with z|z<;>cases z
    ·refine .inr ⟨?_,c,?_,hcell.keeps kp⟩
     ·show(relabel scope X.env).names.lookup p1=some .cell\/(relabel scope X.env).names.lookup p1=some .free;rw[kB,kfree _ hfr,Pw];unfold Al;split
      ·exact .inl rfl
      ·exact .inr rfl
     ·obtain⟨c',hc'⟩:=hcl2 p1 hfr;obtain⟨c2,hc2⟩:=OT.mp (O4 scope.names (s.heap.objs.size+1) cl (.inr (by rw[hc'];rfl):scope.names.lookup p1=some .cell\/(cl.lookup p1).isSome=true));have hc2':(cellsFrom (s.heap.objs.size+1) scope.names cl).lookup p1=some c2:=hc2;rcases sp p1 c2 hc2' with ⟨q1,_⟩|⟨_,q2,_⟩
      ·rw[hc]at q1;cases q1;exact hc2'
      ·have:=kcell p1 q2;rw[kfree p1 hfr]at this;cases this
 ·rcases sp y c e with ⟨q,_⟩|⟨_,_,q⟩
  ·obtain⟨v,hv⟩:=I.cell y c q;exact⟨v,hv.keeps kp⟩
  ·exact⟨none,q⟩
 ·rcases sp y c e with ⟨q,_⟩|⟨q,_⟩
  ·exact I.ku y c q
  ·exact I.hok.fresh (Pc q)
 ·obtain⟨a1,a2,a3,a4,a5⟩:=I.pin p hp;refine⟨kp _ _ a1,a2,M0 (MJ a1),λ z=>?_,a5⟩;rcases MK.mp (I.tK p.1 z) with q|q
  ·exact a3 q
  ·exact a4 q
 ·show(List.replicate own.length none++pU σ cap).length=(own++cap.map (·.1)).length;simp[pU]
def vf{cs:List (Str×Addr)}{C:Addr}{N:List Str}{τ:St}{s':Shared}{h':Heap}(I:Inv X pins σ H s)(f2:∀ b∈fp,o5 X pins H b)
  (hC:s.heap.objs.size<=C) (J:Inv (iZ X scope cs C N s H fp) pins τ H' s') (hs:Heap.SameBut C s'.heap h'):Inv X pins σ H' { s' with heap:=h' }:=by
 have u:Un (frs X.stack) fp H H' s.heap s'.heap:=J.base;have ne:∀ b o,s.heap.get? b=some o->b≠C:=λ b o e=>M0 (Ng (MJ e) hC);refine I.JE (s':={ s' with heap:=h' }) (ch:=fp) J.os ⟨λ b o e n hf hx=>?_,λ b o e n hf hx=>?_,u.free,λ b o e hx=>?_,u.tups,u.qY,u.tN⟩ (λ a o e=>?_) J.bare λ b hb=>⟨(f2 b hb).2.2.2.1,(f2 b hb).2.1,(f2 b hb).2.2.2.2.1,(f2 b hb).2.2.2.2.2⟩
 ·exact(hs.2 b (ne b o e)).trans (u.keep b o e n hf hx)
 ·obtain⟨sl,q⟩:=u.slot b o e n hf hx;exact⟨sl,(hs.2 b (ne b o e)).trans q⟩
 ·obtain⟨o',q⟩:=u.there b o e hx;exact⟨o',(hs.2 b (ne b o e)).trans q⟩
 ·refine(J.hok a o e).stay (λ b v hb q=>(hs.2 b ?_).trans q) (λ _ q=>q) λ _ _ q=>q;rintro rfl;have fr:H' b=none:=J.free;rcases hb with rfl|hb
  ·rw[fr]at e;cases e
  ·rw[fr]at hb;cases hb
end
def rW (wi:TI)(g:TG)(tt:TT)(te:TE)(k:Nat)(cap:List (Str×Nat)):TE:=λ σ H Q=>wi σ H λ J H1=>∀ acc,H1 acc=none->∃ W:Nat->Nat->St->List V->Hp->Prop,
 (∃ m,W 0 m (List.replicate k none++pU σ cap) [] (upd H1 acc (.lst []))) /\
 ∀ i m τ ys H,W i m τ ys H->(J.stop i H/\Q (.ref acc) H)\/(J.go i H/\∀ x H',J.wQ i H x H'->g x τ H' λ τ2 H2=>tt τ2 H2 λ b H2'=>if b=true then te τ2 H2' λ v H3=>
  H3 acc=some (.lst ys)/\ys.length<sizeLine/\∃ m',m' < m/\W (i+1) m' τ2 (ys++[v]) (upd H3 acc (.lst (ys++[v]))) else ∃ m',m' < m/\W (i+1) m' τ2 ys H2')
structure iM (X:Cx)(scope:Scope)(own:List Str)(cap:List (Str×Nat))(tg:Expr)(ifs:List Expr)(elt:Expr)(g:TG)(tt:TT)(te:TE):Prop where
 Mr:∀ cs C s0 H0 fp,PG (iZ X scope cs C (own++cap.map (·.1)) s0 H0 fp) tg g
 Mt:∀ cs C s0 H0 fp,JS (iZ X scope cs C (own++cap.map (·.1)) s0 H0 fp) ifs tt
 Ms:∀ cs C s0 H0 fp,PE (iZ X scope cs C (own++cap.map (·.1)) s0 H0 fp) elt te
section
variable{tg elt iter:Expr}{ifs:List Expr}{tt:TT}{own:List Str}{wi:TI}{g:TG}{te:TE}
def pV{H2:Hp}{s2:Shared}{Q:VK}{tn:Nat->Heap->Prop}{J:It}{RR:Value->Addr->Result->Shared->Prop} (ok:gQ X scope own cap) (hc:∀ cs C N s0 H0 fp,Inv X pins σ H0 s0->cm (iZ X scope cs C N s0 H0 fp)) (B:iM X scope own cap tg ifs elt g tt te)
  (hcl:∀ y c,cl.lookup y=some c->X.env.cells.lookup y=some c/\(y,NameKind.free)∈scope.names) (hcl2:∀ y,(y,NameKind.free)∈scope.names->∃ c,cl.lookup y=some c)
  (I2:Inv X pins σ H2 s2) (T:Be cm X.prog X.w X.K tg J fp it tn) (st2:tn 0 s2.heap) (f2:∀ b∈fp,o5 X pins H2 b)
  (h:∀ acc,H2 acc=none->∃ W:Nat->Nat->St->List V->Hp->Prop,(∃ m,W 0 m (List.replicate own.length none++pU σ cap) [] (upd H2 acc (.lst []))) /\
   ∀ i m τ ys H,W i m τ ys H->(J.stop i H/\Q (.ref acc) H)\/(J.go i H/\∀ x H',J.wQ i H x H'->g x τ H' λ τ2 H2=>tt τ2 H2 λ b H2'=>if b=true then te τ2 H2' λ v H3=>
    H3 acc=some (.lst ys)/\ys.length<sizeLine/\∃ m',m' < m/\W (i+1) m' τ2 (ys++[v]) (upd H3 acc (.lst (ys++[v]))) else ∃ m',m' < m/\W (i+1) m' τ2 ys H2'))
  (hR:∀ D C H' s',(∀ h',Heap.SameBut C s'.heap h'->Inv X pins σ H' { s' with heap:=h' })->(∃ m,s'.heap.Ns C m)->H' C=none->X.s₀.heap.objs.size<=C->C≠X.env.locals->(∀ x c,X.env.cells.lookup x=some c->c≠C)->(∀ p∈X.pn++pins,p.1≠C) ->
   Q (.ref D) H'->RR (.ref D) C (.ok .next) s') :
  wpAny (model X.prog X.w) X.A (newList []) (λ acc s₃=>wpAny (model X.prog X.w) X.A (newFunctionEnv scope X.env.globals cl [] X.env.qual none .none (some X.env)) (λ cenv s₄=>
   codeAny (model X.prog X.w) X.A (.compStart (.ListComp elt [⟨tg,iter,ifs,0⟩] scope pos) 0 (.ref it) acc { cenv with scope:=relabel scope X.env }) (RR acc cenv.locals) s₄) E s₃) E s2:=by
 refine Nm ?_;have fresh:H2 s2.heap.objs.size=none:=I2.fresh;have I3:Inv X pins σ (upd H2 s2.heap.objs.size (.lst [])) { s2 with heap:=s2.heap.push { cls:=.type "list",data:=.seq ([]:List Value).toArray } }:=I2.JI (its:=[]) (ys:=[]) (t':=s2.toks) .nil (NV _);have ob2:=T.obj _ _ st2;have lt2:∀ b∈fp,b<s2.heap.objs.size:=λ b hb=>let ⟨o,e,_⟩:=ob2 b hb;MJ e
 have f3:∀ b∈fp,o5 X pins (upd H2 s2.heap.objs.size (.lst [])) b:=λ b hb=>⟨by rw[aU (M0 (lt2 b hb))];exact(f2 b hb).1,(f2 b hb).2⟩;have kp3:∀ b o,s2.heap.get? b=some o->(s2.heap.push { cls:=.type "list",data:=.seq ([]:List Value).toArray }).get? b=some o:=λ b o e=>Mz _ e;generalize hs3:({ s2 with heap:=s2.heap.push { cls:=.type "list",data:=.seq ([]:List Value).toArray } }:Shared)=s3 at I3 ⊢;have k3:∀ b o,s2.heap.get? b=some o->s3.heap.get? b=some o:=λ b o e=>by rw[<-hs3];exact kp3 b o e
 refine xh ?_;have Mf:∀ b∈fp,b<s3.heap.objs.size:=λ b hb=>let ⟨o,e,_⟩:=ob2 b hb;MJ (k3 b o e)
 have I4:=BL (own:=own) (cap:=cap) (fp:=fp) I3 ok hcl hcl2 f3 Mf;have st4:tn 0 (pushCells (s3.heap.push { cls:=.type "dict",data:=.dict #[] }) scope.names):=T.keep _ _ _ st2 λ b _ o e=>Qo _ _ b o (Mz _ (k3 b o e));obtain⟨W,⟨m0,w0⟩,turn⟩:=h s2.heap.objs.size fresh
 let Y:=iZ X scope (cellsFrom (s3.heap.objs.size+1) scope.names cl) s3.heap.objs.size (own++cap.map (·.1)) s3 (upd H2 s2.heap.objs.size (.lst [])) fp
 have I4:Inv Y pins (List.replicate own.length none++pU σ cap) (upd H2 s2.heap.objs.size (.lst [])) { s3 with heap:=pushCells (s3.heap.push { cls:=.type "dict",data:=.dict #[] }) scope.names }:=I4;have f4:∀ {H':Hp},(∀ b∈fp,H' b=none)->∀ b∈fp,o5 Y pins H' b:=λ {H'} hn b hb=>by
  refine⟨hn b hb,M0 (Mf b hb),λ z=>?_,.inl hb,(I4.ok.KP b hb).2,(f2 b hb).2.2.2.2.2⟩;exact I4.ok.Ab b hb z
 have loop:codeAny (model X.prog X.w) X.A (.compLoop (.ListComp elt [⟨tg,iter,ifs,0⟩] scope pos) 0 (.ref it) (.ref s2.heap.objs.size) Y.env) (RR (.ref s2.heap.objs.size) s3.heap.objs.size)
   { s3 with heap:=pushCells (s3.heap.push { cls:=.type "dict",data:=.dict #[] }) scope.names }:=by
  refine Am (λ n s'=>∃ i τ ys H',Inv Y pins τ H' s'/\tn i s'.heap/\(∀ b∈fp,H' b=none)/\W i n τ ys H') ?_ m0 ⟨0,_,[],_,I4,st4,λ b hb=>(f3 b hb).1,w0⟩;rintro n s5 ⟨i,τ,ys,H5,I5,st5,fr5,w5⟩;rcases turn i n τ ys H5 w5 with ⟨stop,q⟩|⟨go,step⟩
  ·refine eB (T.done Y rfl rfl rfl (hc _ _ _ _ _ _ I3) i pins s5 τ H5 (λ _ _=>False) I5 (f4 fr5) st5 stop) λ r s6 ⟨hr,I6⟩=>?_;subst hr;obtain⟨m,hns,_⟩:=I6.loc;have hC:X.s₀.heap.objs.size<=s3.heap.objs.size:=I3.sz;refine hR _ _ H5 s6 (λ h' hs'=>vf I3 f3 (ML _) I6 hs') ⟨m,hns⟩ I6.free hC (λ z=>?_) (λ x c e z=>?_) (λ p hp z=>?_) q
   ·exact NG _ (z▸I3.lt)
   ·obtain⟨v,o,ho,_⟩:=I3.cell x c e;rw[z]at ho;exact NG _ (MJ ho)
   ·have e:=(I3.pin p hp).1;rw[z]at e;exact NG _ (MJ e)
  ·refine eB (T.item Y rfl rfl rfl (hc _ _ _ _ _ _ I3) i pins s5 τ H5 (λ _ _=>False) I5 (f4 fr5) st5 go) λ r s6 ⟨u,hr,h6⟩=>?_;subst hr;refine eB h6 λ _ s7 ⟨x,H7,I7,r7,y7,st7,fr7⟩=>?_;have I7':=I7.pinned (f4 fr7) (T.obj _ _ st7);refine eB (B.Mr _ _ _ _ _ _ s7 τ H7 x u _ I7' r7 (step x H7 y7)) λ _ s8 ⟨τ8,H8,I8,q8⟩=>?_;refine eB (B.Mt _ _ _ _ _ _ s8 τ8 H8 _ I8 q8) λ ok s8' ⟨H8',I8',q8'⟩=>?_;have again:∀ {H':Hp}{s':Shared},Inv Y (pins++pR fp s7.heap) τ8 H' s'->Inv Y pins τ8 H' s'/\tn (i+1) s'.heap/\∀ b∈fp,H' b=none:=λ {H' s'} I'=>by
    refine⟨I'.mH,T.keep _ _ _ st7 λ b hb o e=>(I'.pin (b,o) (MT _ (MT _ (jB hb e)))).1,λ b hb=>?_⟩;obtain⟨o,e,d⟩:=T.obj _ _ st7 b hb;exact(I'.pin (b,o) (MT _ (MT _ (jB hb e)))).2.1
   cases ok with
   | false =>
    rw[MP MH]at q8' ⊢;obtain⟨m',hm,w9⟩:=q8';obtain⟨z1,z2,z3⟩:=again I8';exact⟨m',hm,i+1,τ8,ys,H8',z1,z2,z3,w9⟩
   | true =>
    rw[MO rfl]at q8' ⊢;refine eB (B.Ms _ _ _ _ _ _ s8' τ8 H8' _ I8' q8') λ v s9 ⟨y,H9,I9,r9,hacc,hlen,m',hm,w9⟩=>?_;refine eB (nM _ s9 τ8 H9 (.ref s2.heap.objs.size) [y] (.ref s2.heap.objs.size) [v] (λ z H'=>z=.bJ/\H'=upd H9 s2.heap.objs.size (.lst (ys++[y]))) I9 rfl (.cons r9 .nil) ⟨_,ys,y,rfl,rfl,hacc,hlen,rfl,rfl⟩) λ _ s10 ⟨z,H10,I10,_,_,e10⟩=>?_;subst e10;obtain⟨z1,z2,z3⟩:=again I10;exact⟨m',hm,i+1,τ8,ys++[y],_,z1,z2,z3,w9⟩
 exact codeAny_compStart_list loop (T.self X.A 0 _ _ _ st4 loop)
def mL(I:Inv X pins σ H s)(ok:gQ X scope own cap):∃ cl,closureFor scope X.env=pure cl/\(∀ y c,cl.lookup y=some c->X.env.cells.lookup y=some c/\(y,NameKind.free)∈scope.names)/\(∀ y,(y,NameKind.free)∈scope.names->∃ c,cl.lookup y=some c):=
 xj λ y hy hk=>I.ok.has y.1 (ok.free y hy hk)
def pW (ok:gQ X scope own cap):∀ x∈scope.names,x.2=.local->scope.names.lookup x.1=some .local:=λ x hx hl=>g6 ok.nd (by rw[<-hl];exact hx)
def Lx (cm:Cx->Prop)(X:Cx)(pins:List (Addr×Obj))(σ:St)(tg:Expr)(R:It->Hp->Prop)(itv:Value)(s2:Shared):Prop:=
 ∃ (it:Addr) (fp:List Addr) (tn:Nat->Heap->Prop) (J:It) (H':Hp),itv=.ref it/\Inv X pins σ H' s2/\Be cm X.prog X.w X.K tg J fp it tn/\tn 0 s2.heap/\(∀ b∈fp,o5 X pins H' b)/\R J H'
def L8 (cm:Cx->Prop)(X:Cx)(tg iter:Expr)(wi:TI):Prop:=
 ∀ (pins:List (Addr×Obj)) (s:Shared) (σ:St) (H:Hp) (R:It->Hp->Prop),Inv X pins σ H s->wi σ H R ->
  wpAny (model X.prog X.w) X.A (eval iter X.env) (λ v s1=>wpAny (model X.prog X.w) X.A (pyIter v) (Lx cm X pins σ tg R) X.xe s1) X.xe s
def BN(ok:gQ X scope own cap)(hc:∀ pins σ cs C N s0 H0 fp,Inv X pins σ H0 s0->cm (iZ X scope cs C N s0 H0 fp))(hi:L8 cm X tg iter wi)(B:iM X scope own cap tg ifs elt g tt te)(hs:∀ x,foldedSetIterable iter X.env x=pure x:=by intro _;rfl) :
  PE X (.ListComp elt [⟨tg,iter,ifs,0⟩] scope pos) (rW wi g tt te own.length cap):=by
 intro pins s σ H Q I h;obtain⟨cl,hclos,hcl,hcl2⟩:=mL I ok;rw[eval_ListComp];refine wpAny_comprehension_free (use:=none) rfl hs hclos ok.kind (pW ok) (eB (hi pins s σ H _ I h) λ xv s1 h1=>eB h1 λ itv s2 h2=>?_);obtain⟨it,fp,tn,J,H2,e,I2,T,st2,f2,hW⟩:=h2;subst e;refine pV (Q:=Q) (RR:=λ acc C=>compPost (model X.prog X.w) X.A X.xe none (EP X pins σ Q) acc C) ok (hc pins σ) B hcl hcl2 I2 T st2 f2 hW ?_;rintro D C H' s' hI ⟨m,hm⟩ _ _ _ _ _ q;exact⟨m,hm,λ h' hs'=>⟨.ref D,H',hI h' hs',rfl,q⟩⟩
def vh{py spos:Pos}(hN:X.N.Nodup)(hi':X.N[i]?=some y)(hy:Loc X.env.scope y)(ok:gQ X scope own cap)(hc:∀ pins σ cs C N s0 H0 fp,Inv X pins σ H0 s0->cm (iZ X scope cs C N s0 H0 fp))(hi:L8 cm X tg iter wi)(B:iM X scope own cap tg ifs elt g tt te)
  (hsw:swapsWith (.ListComp elt [⟨tg,iter,ifs,0⟩] scope pos) (some (.Name y py)) spos.line X.env=pure true:=by rfl)
  (hf:X.fn y=true\/X.env.scope.names.lookup y=some .local:=by first|exact .inl rfl|exact .inr rfl) (hs:∀ x,foldedSetIterable iter X.env x=pure x:=by intro _;rfl) :
  PS X (.Assign [.Name y py] (.ListComp elt [⟨tg,iter,ifs,0⟩] scope pos) spos) (GS (rW wi g tt te own.length cap) (rS i)):=by
 intro pins s σ H D I h;obtain⟨cl,hclos,hcl,hcl2⟩:=mL I ok;rw[exec_Assign_Name_used _ _ _ _ hsw];refine My (wpAny_standAt (My ?_));show wpAny _ X.A (do let _ <-comprehension (.ListComp elt [⟨tg,iter,ifs,0⟩] scope pos) scope X.env _ (newList []) false (eval iter X.env) (some (assign (.Name y py) X.env))) _ _ s;refine My (Om (wpAny_comprehension_free (use:=some (assign (.Name y py) X.env)) (Q:=λ _ s'=>SP X pins D .next s') rfl hs hclos ok.kind (pW ok) (eB (hi pins s σ H _ I h) λ xv s1 h1=>eB h1 λ itv s2 h2=>?_)) (λ _ s' hq=>MB (MB hq)) λ _ _ e=>e);obtain⟨it,fp,tn,J,H2,e,I2,T,st2,f2,hW⟩:=h2;subst e;refine pV (Q:=λ v H'=>rS i v σ H' D.nx) (RR:=λ acc C=>compPost (model X.prog X.w) X.A X.xe (some (assign (.Name y py) X.env)) (λ _ s'=>SP X pins D .next s') acc C) ok (hc pins σ) B hcl hcl2 I2 T st2 f2 hW ?_;rintro D' C H' s' hI ⟨m,hm⟩ hHC hC1 hC2 hC3 hC4 q;have I':Inv X pins σ H' s':=hI s'.heap (.refl ..);show wpAny _ X.A (assign (.Name y py) X.env (.ref D')) _ _ s';refine wpAny_assign_Name (rT I' hN hi' hy (show RelV (.ref D') (.ref D') from rfl) (λ s'' I'' ⟨a,hsa,ha⟩=>?_) hf);have ne:C≠a:=by
  rcases ha with rfl|ha
  ·exact hC2
  ·exact λ z=>hC3 y a ha z.symm
 refine⟨m,hm.sameBut hsa ne,λ h' hs'=>?_⟩;refine⟨_,H',I''.turned (t':=s''.toks) (h':=h') (it:=C) (λ b o hb e=>(hs'.2 b hb).trans e) hHC hC2 (.inr hC1) (λ x c e z=>hC3 x c e z) hC4,q⟩
def EI (ok:gQ X scope own cap)(hc:X.calm=true)(hi:PI X tg iter wi)(B:iM X scope own cap tg ifs elt g tt te)(hs:∀ x,foldedSetIterable iter X.env x=pure x:=by intro _;rfl) :
  PE X (.ListComp elt [⟨tg,iter,ifs,0⟩] scope pos) (rW wi g tt te own.length cap):=BN (cm:=λ X=>X.calm=true) ok (λ _ _ _ _ _ _ _ _ _=>hc) hi B hs
def xm{py spos:Pos}(hN:X.N.Nodup)(hi':X.N[i]?=some y)(hy:Loc X.env.scope y)(ok:gQ X scope own cap)(hc:X.calm=true)(hi:PI X tg iter wi)(B:iM X scope own cap tg ifs elt g tt te)
  (hsw:swapsWith (.ListComp elt [⟨tg,iter,ifs,0⟩] scope pos) (some (.Name y py)) spos.line X.env=pure true:=by rfl)
  (hf:X.fn y=true\/X.env.scope.names.lookup y=some .local:=by first|exact .inl rfl|exact .inr rfl) (hs:∀ x,foldedSetIterable iter X.env x=pure x:=by intro _;rfl) :
  PS X (.Assign [.Name y py] (.ListComp elt [⟨tg,iter,ifs,0⟩] scope pos) spos) (GS (rW wi g tt te own.length cap) (rS i)):=
 vh (cm:=λ X=>X.calm=true) hN hi' hy ok (λ _ _ _ _ _ _ _ _ _=>hc) hi B hsw hf hs
end
section
variable {prog:Program}
def jT {t:Addr}{x:Value}(hit:s.heap.IsTupleIter it t i)(ht:s.heap.IsTuple t items)(hx:items[i]?=some x)
  (hQ:∀ h',h'.IsTupleIter it t (i+1)->Heap.SameBut it s.heap h'->Q x { s with heap:=h' }):wpAny (model prog w) A (Builtin.SmallTypes.nextOf (.ref it)) Q E s:=by
 obtain⟨o,ho,hc,hd⟩:=id hit;obtain⟨ot,hot,_,nt,hdt⟩:=ht;unfold Builtin.SmallTypes.nextOf;refine My (Nf (name:=Str.ofString "__next__") hit.typeIs OE (Nd OE hit.typeIs F.entry_tuple_iterator_next ?_ (F.args_tuple_iterator_next_1 _)));show wpAny _ _ (field (.ref it) 0 >>= _) _ _ s;refine My (Nx ho hd (x:=.ref t) rfl ?_);show wpAny _ _ (if (Value.ref t == Value.none)=true then _ else _) _ _ s;rw[MP (λ z:(Value.ref t == Value.none)=true=>MH z)];show wpAny _ _ (field (.ref it) 1 >>= _) _ _ s;refine My (Nx ho hd (x:=.int i 0) rfl ?_);show wpAny _ _ (seqItems? (.ref t) >>= _) _ _ s;refine My (N6 hot hdt ?_);simp only[Nj,hx];refine My (Qy ho hd (by simp) (MB ⟨x,rfl,MB (hQ _ ⟨_,Ol _ ho (Obj.isFreed_of_fields (Obj.data_mapFields hd _)),(Obj.cls_mapFields ..).trans hc,?_⟩ (Ov ..))⟩));rw[Obj.data_mapFields hd];simp[rawInt]
def kD {t:Addr}(hh:A.handled=none)(hit:s.heap.IsTupleIter it t i)(ht:s.heap.IsTuple t items)(hx:items[i]?=none)
  (hE:∀ h' e,Heap.ExtBut it s.heap h'->(∃ o,h'.get? e=some o/\o.cls=.type "StopIteration")->E (.ref e) { s with heap:=h' }):wpAny (model prog w) A (Builtin.SmallTypes.nextOf (.ref it)) Q E s:=by
 obtain⟨o,ho,hc,hd⟩:=id hit;obtain⟨ot,hot,_,nt,hdt⟩:=ht;unfold Builtin.SmallTypes.nextOf;refine My (Nf (name:=Str.ofString "__next__") hit.typeIs OE (Nd OE hit.typeIs F.entry_tuple_iterator_next ?_ (F.args_tuple_iterator_next_1 _)));show wpAny _ _ (field (.ref it) 0 >>= _) _ _ s;refine My (Nx ho hd (x:=.ref t) rfl ?_);show wpAny _ _ (if (Value.ref t == Value.none)=true then _ else _) _ _ s;rw[MP (λ z:(Value.ref t == Value.none)=true=>MH z)];show wpAny _ _ (field (.ref it) 1 >>= _) _ _ s;refine My (Nx ho hd (x:=.int i 0) rfl ?_);show wpAny _ _ (seqItems? (.ref t) >>= _) _ _ s;refine My (N6 hot hdt ?_);simp only[Nj,hx];refine My (O6 (My (Qy ho hd (by simp) ?_)));show wpAny _ _ (newExc (.type "StopIteration") [] >>= _) _ _ _;refine My ?_;simp only[newExc,newTuple];refine My (Nm ?_ (by size_fits));refine My (m:=firstArgMember _ _) (wpAny_of_eq (a:=Value.none) (by first|rfl|(simp only[firstArgMember];rfl)) ?_);refine Nm ?_ (by size_fits);simp only[raiseNew];refine My (QO ?_)
 first|rw[show A.in1.handled=none from hh]|rw[hh]
 exact My (MB (wpAny_throw (hE _ _ (((Ov ..).extBut.push _).push _) ⟨_,MI _ rfl,rfl⟩)))
def An{x old:Value}{R:Obj->Prop}{Q:Option Value->Shared->Prop}(he:IsEnum s.heap e it i old)(hne:e≠it)
  (hn:∀ (A':Around) (E' Q':Value->Shared->Prop),(∀ h',(∃ o,h'.get? it=some o/\R o)->Heap.SameBut it s.heap h'->Q' x { s with heap:=h' })->wpAny (model prog w) A' (Builtin.SmallTypes.nextOf (.ref it)) Q' E' s)
  (hQ:∀ h',IsEnumOut h' e it ((i:Int)+1) x s.heap.objs.size->(∃ o,h'.get? it=some o/\R o)->h'.get? s.heap.objs.size=some { cls:=.type "tuple",data:=.seq #[.int i s.toks,x] }->h'.objs.size=s.heap.objs.size+1 ->
   (∀ b o,b≠e->b≠it->s.heap.get? b=some o->h'.get? b=some o)->Q (some (.ref s.heap.objs.size)) { s with heap:=h',toks:=s.toks+1 }) :
  wpAny (model prog w) A (pyNext (.ref e)) Q E s:=by
 have hT:s.TypeIs (.ref e) "enumerate" :=⟨_,he,rfl⟩;unfold pyNext;refine My (Oq (Nf (name:=Str.ofString "__next__") hT Pa (Nd Pa hT F.entry_enumerate_next ?_ (F.args_enumerate_next_1 _))));obtain⟨hp,g,d,tk,os⟩:=s;show wpAny _ _ (field (.ref e) 2 >>= _) _ _ _;refine My (Nx he rfl (x:=.ref it) rfl (My (hn _ _ _ λ h₁ hit₁ hs₁=>?_)));replace hs₁:Heap.SameBut it hp h₁:=hs₁;have he₁:IsEnum h₁ e it i old:=(hs₁.2 e hne).trans he;show wpAny _ _ (field (.ref e) 3 >>= _) _ _ ⟨h₁,g,d,tk,os⟩;refine My (Nx he₁ rfl (x:=rawInt i) rfl ?_);show wpAny _ _ (field (.ref e) 4 >>= _) _ _ ⟨h₁,g,d,tk,os⟩;refine My (Nx he₁ rfl (x:=.none) rfl ?_);show wpAny _ _ (mkInt i >>= _) _ _ ⟨h₁,g,d,tk,os⟩;refine My (wpAny_mkInt ?_);show wpAny _ _ (setField (.ref e) 3 (rawInt ((i:Int)+1)) >>= _) _ _ ⟨h₁,g,d,tk+1,os⟩;refine My (Na he₁ (by simp) λ h₂ he₂ hs₂=>?_);replace hs₂:Heap.SameBut e h₁ h₂:=hs₂;replace he₂:IsEnum h₂ e it ((i:Int)+1) old:=he₂;show wpAny _ _ (setField (.ref e) 4 .none >>= _) _ _ ⟨h₂,g,d,tk+1,os⟩;refine My (Na he₂ (by simp) λ h₃ he₃ hs₃=>?_);replace hs₃:Heap.SameBut e h₂ h₃:=hs₃;replace he₃:IsEnum h₃ e it ((i:Int)+1) old:=he₃;show wpAny _ _ (newTuple [.int i tk,x] >>= _) _ _ ⟨h₃,g,d,tk+1,os⟩;refine My (Qz ?_);have sz:h₃.objs.size=hp.objs.size:=by rw[hs₃.1,hs₂.1,hs₁.1]
 have hel:e<hp.objs.size:=MJ he;obtain⟨h₄,hh₄⟩:∃ h₄,h₄=h₃.push { cls:=.type "tuple",data:=.seq #[.int i tk,x] }:=⟨_,rfl⟩;have he₄:IsEnum h₄ e it ((i:Int)+1) old:=by rw[hh₄];exact Mz _ he₃
 have ht₄:h₄.get? hp.objs.size=some { cls:=.type "tuple",data:=.seq #[.int i tk,x] }:=by rw[hh₄,<-sz];exact MI _ rfl
 have hz₄:h₄.objs.size=hp.objs.size+1:=by rw[hh₄,Ny,sz]
 have hk₄:∀ b o,b≠e->b≠it->hp.get? b=some o->h₄.get? b=some o:=λ b o hbe hbi hb=>by
  rw[hh₄];exact Mz _ (hs₃.extBut b o hbe (hs₂.extBut b o hbe (hs₁.extBut b o hbi hb)))
 have hit₄:∃ o,h₄.get? it=some o/\R o:=by
  obtain⟨o,ho,r⟩:=hit₁;rw[hh₄];exact⟨o,Mz _ (hs₃.extBut it o (NU hne) (hs₂.extBut it o (NU hne) ho)),r⟩
 rw[<-hh₄];show wpAny _ _ (Builtin.SmallTypes.ownedTupleIsFree (.ref e) >>= _) _ _ ⟨h₄,g,d,tk+1,os⟩;rw[sz];clear hh₄ he₃ hs₃ he₂ hs₂ he₁ hs₁ hit₁ sz h₃ h₂ h₁;refine My ?_;unfold Builtin.SmallTypes.ownedTupleIsFree;refine My (Nx he₄ rfl (x:=.none) rfl (MB ?_));simp only[OG];refine My (O6 (My (Nx he₄ rfl (x:=old) rfl (My (Na he₄ (by simp) λ h₅ he₅ hs₅=>?_)))));replace hs₅:Heap.SameBut e h₄ h₅:=hs₅;replace he₅:IsEnum h₅ e it ((i:Int)+1) x:=he₅;show wpAny _ _ (Builtin.SmallTypes.ownedTupleHandOut (.ref e) (.ref hp.objs.size) >>= _) _ _ ⟨h₅,g,d,tk+1,os⟩;refine My ?_;unfold Builtin.SmallTypes.ownedTupleHandOut;refine My (Na he₅ (by simp) λ h₆ he₆ hs₆=>?_);replace hs₆:Heap.SameBut e h₅ h₆:=hs₆;replace he₆:IsEnumOut h₆ e it ((i:Int)+1) x hp.objs.size:=he₆;refine Na he₆ (by simp) λ h₇ he₇ hs₇=>?_;replace hs₇:Heap.SameBut e h₆ h₇:=hs₇;replace he₇:IsEnumOut h₇ e it ((i:Int)+1) x hp.objs.size:=he₇;have up:∀ b o,b≠e->h₄.get? b=some o->h₇.get? b=some o:=λ b o hb q=>hs₇.extBut b o hb (hs₆.extBut b o hb (hs₅.extBut b o hb q));refine My (QJ (MB ⟨_,rfl,MB (hQ h₇ he₇ ?_ (up _ _ (Ox hel) ht₄) (by rw[hs₇.1,hs₆.1,hs₅.1,hz₄]) λ b o hbe hbi hb=>up b o hbe (hk₄ b o hbe hbi hb))⟩));obtain⟨o,ho,r⟩:=hit₄;exact⟨o,up it o (NU hne) ho,r⟩
def BO{old:Value}{Q:Option Value->Shared->Prop}(he:IsEnum s.heap e it i old)
  (hn:∀ (A':Around) (E' Q':Value->Shared->Prop),A'.handled=A.handled->(∀ h' x,Heap.ExtBut it s.heap h'->(∃ o,h'.get? x=some o/\o.cls=.type "StopIteration")->E' (.ref x) { s with heap:=h' })->wpAny (model prog w) A' (Builtin.SmallTypes.nextOf (.ref it)) Q' E' s)
  (hQ:∀ h',Heap.ExtBut it s.heap h'->Q none { s with heap:=h' }):wpAny (model prog w) A (pyNext (.ref e)) Q E s:=by
 have hT:s.TypeIs (.ref e) "enumerate" :=⟨_,he,rfl⟩;unfold pyNext;refine My (Oq (Nf (name:=Str.ofString "__next__") hT Pa (Nd Pa hT F.entry_enumerate_next ?_ (F.args_enumerate_next_1 _))));show wpAny _ _ (field (.ref e) 2 >>= _) _ _ _;refine My (Nx he rfl (x:=.ref it) rfl (My (hn _ _ _ rfl λ h' x he' hx'=>?_)));obtain⟨o,ho,hc⟩:=hx';exact My (O1 (T:="StopIteration") (b:=true) ⟨o,ho,hc⟩ isSubtype_stop (MB (hQ _ he')))
set_option maxHeartbeats 4000000 in
def o7 (t:Addr)(items:Array Value)(n:Nat)(dct:Option Addr)(sl:Array (Option Value)) :
  Meets (Builtin.«enumerate.__new__» ⟨[.type "enumerate",.ref t],[]⟩) (λ _ R s=>s.heap.get? t=some { cls:=.type "tuple",dict:=dct,data:=.seq items n,slots:=sl } /\
   R (.ok (.ret (.ref (s.heap.push { cls:=.type "tuple_iterator",data:=.fields #[.ref t,.int 0 0] }).objs.size)))
    { s with heap:=(s.heap.push { cls:=.type "tuple_iterator",data:=.fields #[.ref t,.int 0 0] }).push { cls:=.type "enumerate",data:=.fields #[.none,.bool false,.ref s.heap.objs.size,rawInt 0,.none,.none] } }):=
 .of_wp λ prog w A R s h=>by
  obtain⟨hp,g,d,tk,os⟩:=s;obtain⟨ht,h⟩:=h;have hsub:=sub_enumerate;have hT:Heap.IsTuple (Shared.heap ⟨hp,g,d,tk,os⟩) t items:=⟨_,ht,rfl,n,rfl⟩
  wp_walk using Pu ht
  refine wpAny_stack_any λ st=>MB ?_;split
  ·rename_i c _ _ _ _ _;cases (c == Value.type "enumerate")<;>(wp_walk using Pu ht,PF hT;exact⟨_,rfl,h⟩)
  ·wp_walk using Pu ht,PF hT
   exact⟨_,rfl,h⟩
def rm {t:Addr}(hT:s.heap.IsTuple t items)
  (h:∀ h',IsEnum h' (s.heap.objs.size+1) s.heap.objs.size 0 .none->h'.IsTupleIter s.heap.objs.size t 0->(∀ b o,s.heap.get? b=some o->h'.get? b=some o)->Q (.ref (s.heap.objs.size+1)) { s with heap:=h' }) :
  wpAny (model prog w) A (call (.type "enumerate") [.ref t]) Q E s:=by
 obtain⟨⟨c,dct,dt,sl⟩,hl,hc,n,hd⟩:=hT;have hc:c=.type "tuple" :=hc;have hd:dt=.seq items n:=hd;subst hc hd;refine callType_new F.called_enumerate (by decide) (F.typeCall_enumerate_1 _) (F.newCall_enumerate_1 _) (λ obj=>F.args_object_init_2 obj _) F.entry_enumerate_new (o7 t items n dct sl) ⟨hl,?_⟩;have hz:(s.heap.push { cls:=.type "tuple_iterator",data:=.fields #[.ref t,.int 0 0] }).objs.size=s.heap.objs.size+1:=Ny ..;show _/\_;rw[hz];have q:=MI (s.heap.push { cls:=.type "tuple_iterator",data:=.fields #[.ref t,.int 0 0] }) (o:={ cls:=.type "enumerate",data:=.fields #[.none,.bool false,.ref s.heap.objs.size,rawInt 0,.none,.none] }) rfl;rw[hz]at q;exact⟨⟨_,q,rfl⟩,h _ q ⟨_,Mz _ (MI _ rfl),rfl,rfl⟩ λ b o x=>Mz _ (Mz _ x)⟩
end
def tV{h:Heap}{p:Addr}{o:HO}(x:jA P w H h)(hn:H p=none)(new:ck P w (upd H p o) h p o):jA P w (upd H p o) h:=λ a u e=>by
 by_cases q:a=p
 ·subst q;rw[bB]at e;cases e;exact new
 ·rw[aU q]at e;exact(x a u e).stay (λ _ _ _ z=>z) (λ b z=>by rw[aU (bC z hn)];exact z) λ b xs z=>by rw[aU (bC z hn)];exact z
def KU (src:Hp->List V->Prop):It:=
 ⟨λ i H=>∃ xs x,src H xs/\xs[i]?=some x,λ i H x H'=>∃ p y,x=.ref p/\H p=none/\H'=upd H p (.tup [.int i,y])/\∀ xs,src H xs->xs[i]?=some y,λ i H=>∃ xs,src H xs/\xs.length<=i⟩
structure Src (P:Program)(w:World)(K:PySem.W.Frag)(a it:Addr)(src:Hp->List V->Prop)(nx:Nat->Obj->Prop):Prop where
 dat:∀ i o,nx i o->∀ v,o.data ≠ .cell v
 item:∀ (X:Cx),X.prog=P->X.w=w->X.K=K->∀ (pins:List (Addr×Obj)) (σ:St) (H:Hp) (s:Shared) (xs:List V) (i:Nat) (x:V),Inv X pins σ H s->src H xs->xs[i]?=some x->(∃ o,s.heap.get? it=some o/\nx i o) ->
  ∃ u,RelV x u/\∀ (A':Around) (E' Q':Value->Shared->Prop),(∀ h',(∃ o,h'.get? it=some o/\nx (i+1) o)->Heap.SameBut it s.heap h'->Q' u { s with heap:=h' })->wpAny (model P w) A' (Builtin.SmallTypes.nextOf (.ref it)) Q' E' s
 done:∀ (X:Cx),X.prog=P->X.w=w->X.K=K->∀ (pins:List (Addr×Obj)) (σ:St) (H:Hp) (s:Shared) (xs:List V) (i:Nat),Inv X pins σ H s->src H xs->xs.length<=i->(∃ o,s.heap.get? it=some o/\nx i o) ->
  ∀ (A':Around) (E' Q':Value->Shared->Prop),A'.handled=none->(∀ h' x,Heap.ExtBut it s.heap h'->(∃ o,h'.get? x=some o/\o.cls=.type "StopIteration")->E' (.ref x) { s with heap:=h' })->wpAny (model P w) A' (Builtin.SmallTypes.nextOf (.ref it)) Q' E' s
 inj:∀ (X:Cx),X.prog=P->X.w=w->X.K=K->∀ (pins:List (Addr×Obj)) (σ:St) (H:Hp) (s:Shared) (xs ys:List V),Inv X pins σ H s->src H xs->src H ys->xs=ys
def src_list{K:PySem.W.Frag}(a it:Addr):Src P w K a it (λ H xs=>dR K H a xs) (λ i o=>o.cls=.type "list_iterator" /\ o.data=.fields #[.ref a,.int i 0]) where
 dat:=λ i o h v z=>by rw[h.2]at z;cases z
 item:=by
  intro X hP hw hK pins σ H s xs i x I hq hx ho;subst hP hw hK;obtain⟨its,rv,p,hz⟩:=I.list hq;obtain⟨u,hu,ru⟩:=rv.get hx;obtain⟨o,h1,h2,h3⟩:=ho;exact⟨u,ru,λ A' E' Q' hQ=>wpAny_nextOf_list_item ⟨o,h1,h2,h3⟩ p.isList (by simpa using hu) λ h' st sb=>hQ h' st sb⟩
 done:=by
  intro X hP hw hK pins σ H s xs i I hq hx ho A' E' Q' hh hE;subst hP hw hK;obtain⟨its,rv,p,hz⟩:=I.list hq;obtain⟨o,h1,h2,h3⟩:=ho;have hl:=rv.length;exact wpAny_nextOf_list_end hh ⟨o,h1,h2,h3⟩ p.isList (by simp;omega) hE
 inj:=by
  intro X hP hw hK pins σ H s xs ys I h1 h2;subst hP hw hK;exact I.pO h1 h2
def f9 {h:Heap}{its:Array Value}(x:IsTup h a its):h.IsTuple a its:=by
 obtain⟨o,h1,h2,h3⟩:=x;exact⟨o,h1,h2,h3⟩
def EJ{K:PySem.W.Frag}(a it:Addr):Src P w K a it (λ H xs=>jd K H a xs) (λ i o=>o.cls=.type "tuple_iterator" /\ o.data=.fields #[.ref a,.int i 0]) where
 dat:=λ i o h v z=>by rw[h.2]at z;cases z
 item:=by
  intro X hP hw hK pins σ H s xs i x I hq hx ho;subst hP hw hK;obtain⟨its,rv,p,hz⟩:=I.tuple hq;obtain⟨u,hu,ru⟩:=rv.get hx;obtain⟨o,h1,h2,h3⟩:=ho;exact⟨u,ru,λ A' E' Q' hQ=>jT ⟨o,h1,h2,h3⟩ (f9 p) (by simpa using hu) λ h' st sb=>hQ h' st sb⟩
 done:=by
  intro X hP hw hK pins σ H s xs i I hq hx ho A' E' Q' hh hE;subst hP hw hK;obtain⟨its,rv,p,hz⟩:=I.tuple hq;obtain⟨o,h1,h2,h3⟩:=ho;have hl:=rv.length;exact kD hh ⟨o,h1,h2,h3⟩ (f9 p) (by simp;omega) hE
 inj:=by
  intro X hP hw hK pins σ H s xs ys I h1 h2;subst hP hw hK;exact I.nK h1 h2
def rX{K:PySem.W.Frag}{elts:List Expr}{x1:Nat}{tp:Pos}{src:Hp->List V->Prop}{nx:Nat->Obj->Prop}(S:Src P w K a it src nx)(hne:e≠it) :
  Turn P w K (.Tuple elts x1 tp) (KU src) [e,it] e (λ i h=>(∃ old,IsEnum h e it (i:Nat) old)/\∃ o,h.get? it=some o/\nx i o) where
 mem:=by simp
 obj:=λ i h st b hb=>by
  obtain⟨⟨old,h1⟩,o,h2,h3⟩:=st;rcases MK.mp hb with q|q
  ·subst q;exact⟨_,h1,λ v z=>by cases z⟩
  ·have q:b=it:=by simpa using q
   subst q;exact⟨o,h2,S.dat i o h3⟩
 keep:=λ i h h' st k=>by
  obtain⟨⟨old,h1⟩,o,h2,h3⟩:=st;exact⟨⟨old,k e (by simp) _ h1⟩,o,k it (by simp) o h2,h3⟩
 item:=by
  intro X hP hw hK hc i pins s σ H E I hf st hg;obtain⟨xs,x,hq,hx⟩:=hg;obtain⟨⟨old,h1⟩,ho⟩:=st;obtain⟨u,ru,hnx⟩:=S.item X hP hw hK pins σ H s xs i x I hq hx ho;have inj:=λ ys (hy:src H ys)=>S.inj X hP hw hK pins σ H s ys xs I hy hq;obtain⟨f0,f1,f2,f3,f4,f5⟩:=hf e (by simp);obtain⟨g0,g1,g2,g3,g4,g5⟩:=hf it (by simp);subst hP hw hK;have hel:e<s.heap.objs.size:=MJ h1;refine An h1 hne hnx λ h' k1 k2 k3 k4 k5=>⟨_,rfl,wpAny_letOwnedTupleGo_enum k1 λ h'' m1 m2=>?_⟩;have m2:Heap.SameBut e h' h'':=m2;have fr:H s.heap.objs.size=none:=I.fresh;have kp:∀ b o,b≠e->b≠it->s.heap.get? b=some o->h''.get? b=some o:=λ b o hb hb' q=>(m2.2 b hb).trans (k5 b o hb hb' q);have tp:h''.get? s.heap.objs.size=some { cls:=.type "tuple",data:=.seq #[.int i s.toks,u] }:=(m2.2 _ (Ox hel)).trans k3;have ok1:jA X.prog X.w H h'':=λ b o hb=>(I.hok b o hb).stay (λ c v hcb q=>kp c v (λ z=>by
    subst z;rcases hcb with z|z
    ·subst z;rw[f0]at hb;cases hb
    ·rw[f0]at z;cases z) (λ z=>by
    subst z;rcases hcb with z|z
    ·subst z;rw[g0]at hb;cases hb
    ·rw[g0]at z;cases z) q) (λ _ z=>z) λ _ _ z=>z
  have ok2:jA X.prog X.w (upd H s.heap.objs.size (.tup [.int i,x])) h'':=tV ok1 fr ⟨by show 2<=sizeLine;decide,[.int i s.toks,u],.cons ⟨_,rfl⟩ (.cons ru .nil),⟨_,tp⟩⟩;have I2:Inv X pins σ (upd H s.heap.objs.size (.tup [.int i,x])) { s with heap:=h'',toks:=s.toks+1 }:=by
   refine I.step (g':=s.gens) (d':=s.drawn) (ch:=[e,it]) (λ b hb=>?_) (λ b o _ _ hb q _=>kp b o (λ z=>hb (by simp[z])) (λ z=>hb (by simp[z])) q) (λ b o _ _ hb q _=>⟨o.slots,kp b o (λ z=>hb (by simp[z])) (λ z=>hb (by simp[z])) q⟩)
    (λ b o _ q n=>by rw[aU (M0 (MJ q))];exact n) (λ b o hb q=>⟨o,kp b o (λ z=>hb (by simp[z])) (λ z=>hb (by simp[z])) q⟩)
    (λ b ys q=>by rw[aU (bC q fr)];exact q) (λ b o v q=>by rw[aU (bC q fr)];exact q) (λ b ps q=>⟨#[],by rw[aU (bC q fr),PH];exact q⟩)
    (λ m hm=>hm.at λ o q=>kp _ o (NU f1) (NU g1) q) ok2 I.bare
   rcases MK.mp hb with z|z
   ·subst z;exact⟨f3,f1,f4,f5⟩
   ·have z:b=it:=by simpa using z
    subst z;exact⟨g3,g1,g4,g5⟩
  obtain⟨oi,hoi,ri⟩:=k2;refine⟨.ref s.heap.objs.size,_,I2,rfl,⟨_,x,rfl,fr,rfl,λ ys hy=>by rw[inj ys hy];exact hx⟩,⟨⟨u,?_⟩,oi,(m2.2 it (NU hne)).trans hoi,ri⟩,λ b hb=>?_⟩
  ·have m1:IsEnum h'' e it ((i:Int)+1) u:=m1;have z:(((i+1:Nat)):Int)=(i:Int)+1:=by omega
   rw[z];exact m1
  ·have lt:b<s.heap.objs.size:=by
    rcases MK.mp hb with z|z
    ·rw[z];exact hel
    ·have z:b=it:=by simpa using z
     obtain⟨o,q,_⟩:=ho;rw[z];exact MJ q
   rw[aU (M0 lt)];exact(hf b hb).1
 done:=by
  intro X hP hw hK hc i pins s σ H E I hf st hg;obtain⟨xs,hq,hx⟩:=hg;obtain⟨⟨old,h1⟩,ho⟩:=st;have hd:=S.done X hP hw hK pins σ H s xs i I hq hx ho;obtain⟨g0,g1,g2,g3,g4,g5⟩:=hf it (by simp);subst hP hw hK;exact BO h1 (λ A' E' Q' hA hE=>hd A' E' Q' (hA.trans (I.ok.hd hc)) hE) λ h' eb=>⟨rfl,I.turned (t':=s.toks) (λ b o hb q=>eb b o hb q) g0 g1 g3 g4 g5⟩
 self:=λ _ _ _ _ _ st h=>by
  obtain⟨⟨old,h1⟩,_⟩:=st;exact QK h1 h
section
variable{elts:List Expr}{x1:Nat}{tp p:Pos}{l:Expr}{ta:TA}
end
section
def oF:eE X (.builtin "sorted") (λ xs H Q=>∃ (a:Addr) (ns:List Int),xs=[.ref a]/\dR X.K H a (ns.map V.int)/\ns.length<64/\∀ (p:Addr) (ns':List Int),H p=none->ns'.Perm ns->ns'.Pairwise (· <= ·)->Q (.ref p) (upd H p (.lst (ns'.map V.int)))):=by
 intro pins s σ H xs us Q I r h;obtain⟨a,ns,rfl,hq,hl,q⟩:=h;obtain⟨u,rfl,ru⟩:=vals1 r;cases ru;obtain⟨its,rv,pl,hz⟩:=I.list hq;have hi:=intsAre_of rv;have hlen:=rv.length;rw[MC]at hlen;refine sorted_ints pl.isList hi (by omega) λ out ns' a1 a2 a3=>?_;obtain⟨e,he⟩:=sortedAll_at s.heap its out;refine⟨.ref (s.heap.objs.size+1),_,I.laid (t':=s.toks) (λ b o z=>sortedAll_old z) (OP _) ?_,rfl,q _ ns' (I.hok.fresh (OP _)) a2 a3⟩;refine⟨?_,out.toList,e,ji a1,by rw[Ql];exact he⟩;rw[MC,a2.length_eq];exact NX (Ow hl) (by decide)
def dd (ns:List Int):List Int:=firstMet (λ i=>ns.getD i 0) ns.length
end
def BP (scope sc:Scope):Scope:=
 { scope with names:=scope.names.map λ (n,k)=>if (k == .free&&sc.kind == .function&&sc.names.lookup n == some .cell) then (n,.cell) else (n,k) }
def Hu (scope:Scope)(env:Env):relabel scope env=BP scope env.scope:=rfl
def yI (sc:Scope)(N:List Str)(scope:Scope)(cap:List (Str×Nat)):Bool:=
 decide (scope.kind=.function)&&decide ((scope.names.map (·.1)).Nodup) &&
 (scope.names.all λ y=>!(y.2 == .free)||(sc.names.lookup y.1 == some .cell||sc.names.lookup y.1 == some .free)) &&
 (cap.all λ p=>(N[p.2]? == some p.1)&&scope.names.contains (p.1,NameKind.free))
def b6{own:List Str}(sc:Scope)(hsc:X.env.scope=sc)(N:List Str)(hN:X.N=N)(h:yI sc N scope cap=true):gQ X scope own cap:=by
 simp only[yI,Nk,NR]at h;obtain⟨⟨⟨h1,h2⟩,h3⟩,h4⟩:=h;refine⟨h1,h2,λ y hy hk=>?_,λ p hp=>?_⟩
 ·have q:=Pj.mp h3 y hy;show X.env.scope.names.lookup y.1=some .cell\/X.env.scope.names.lookup y.1=some .free;rw[hsc];rw[hk]at q;simpa using q
 ·have q:=Pj.mp h4 p hp;rw[Nk]at q;rw[hN];exact⟨by simpa using q.1,by simpa using q.2⟩
structure kE (P:Program)(w:World)(K:PySem.W.Frag)(mg:Str->Option Value)(base:Heap)(k:Nat)(x:Str)(ps:List Str)(sp:Sp):Prop where
 ex:∃ f fd,mg x=some (.ref f)/\PySem.W.keepIn K (.ref f)=true/\Binds K fd ps []/\pN P w K mg base Ai k f fd ps sp
structure lM (K:PySem.W.Frag)(mg:Str->Option Value)(x:Str)(st:Stmt)(ps:List Str):Prop where
 ex:∃ f fd,EE K x x st f fd/\mg x=some (.ref f)/\Binds K fd ps []
section
variable{k:Nat}{p:Pos}{e:Expr}{es:List Expr}{t:TA}
def Ht (C:kE X.prog X.w X.K X.mg X.base k x ps sp)(hr:gB k X.A)(hg:Gl X x)(ha:PA X (e::es) t)(hdb:(x == ("__debug__" : Str))=false:=by decide)
  (he:starEach (e::es) X.env=(false,eval e X.env)::starEach es X.env:=by rfl) (hpl:(backTo pos (starEach es X.env)).any (·.1)=false:=by rfl):PE X (.Call (.Name x p) (e::es) [] pos) (Gg sp [] E0 t):=by
 obtain⟨f,fd,hm,hk,hb,F⟩:=C.ex;exact Eg F hr hg hm hk hb .nil JR ha hdb he hpl
end
end L2
namespace DL
open PySem PySem.Spec PyProof.Rows L2
variable {a:Addr}{F F':Addr->Prop}{X:Cx}{e l tg:Expr}{o:HO}{base:Heap}{B B' B0 B1 H H' H0 H1:Hp}{σ:L2.St}{cap:List (Str×Nat)}{P f fp:List Addr}{es rest:List Expr}{N ps:List Str}{vs:List V}{i n:Nat}{apos cpos p p1 pos pos':Pos}{C:Prop}{r:R2}{st:Stmt}{x:Str}{mg:Str->Option Value}{T:String}{α β:Type}{v:V}{Q:VK}{w:World}
inductive Tg where|own|bor|aq|len (a:Addr)
 deriving DecidableEq
abbrev KT:=Sum Key (List Key)
variable {ks:List KT}
inductive D where
 |bJ|bl (b:Bool)|int (i:Int)|str (x:Str)
 |tup (xs:List D)|lst (t:Tg) (xs:List D)|dct (t:Tg) (k:Bool) (ks:List KT) (vs:List D)
 |exc (C:Addr)
variable {d:D}{ds xs:List D}
abbrev SD:=List (Option D)
variable {τ:SD}
inductive Res (α:Type) where|ok (a:α)|fY (C:Addr)|bad
variable {g:D->D->Res D}{it:SD->Res (Bool×List D)}{c gc tt:SD->Res Bool}{elt fe:SD->Res D}
def Res.bind:Res α->(α->Res β)->Res β
 |.ok a,f=>f a
 |.fY c,_=>.fY c
 |.bad,_=>.bad
def Res.map(f:α->β)(r:Res α):Res β:=r.bind λ a=>.ok (f a)
@[simp] theorem Res.aG(a:α)(f:α->Res β):(Res.ok a).bind f=f a:=rfl
@[simp] theorem Res.jl(c:Addr)(f:α->Res β):(Res.fY c:Res α).bind f=.fY c:=rfl
@[simp] theorem Res.jk(f:α->Res β):(Res.bad:Res α).bind f=.bad:=rfl
@[simp] theorem Res.BQ(a:α)(f:α->β):Res.map f (Res.ok a)=.ok (f a):=rfl
def Tg.lO:Tg->Bool|.own=>true|.len _=>true|_=>false
def Tg.view:Tg->Tg|.own=>.bor|.len _=>.bor|t=>t
def Tg.aW:Tg->Tg|.aq=>.bor|t=>t
mutual
def D.view:D->D
 |.tup xs=>.tup (aS xs)
 |.lst t xs=>.lst t.view (aS xs)
 |.dct t k ks vs=>.dct t.view k ks (aS vs)
 |d=>d
def aS:List D->List D
 |[]=>[]
 |d::r=>d.view::aS r
end
mutual
def D.aq:D->D
 |.tup xs=>.tup (aD xs)
 |.lst _ xs=>.lst .aq (aD xs)
 |.dct _ k ks vs=>.dct .aq k ks (aD vs)
 |d=>d
def aD:List D->List D
 |[]=>[]
 |d::r=>d.aq::aD r
end
mutual
def D.aW:D->D
 |.tup xs=>.tup (bL xs)
 |.lst t xs=>.lst t.aW (bL xs)
 |.dct t k ks vs=>.dct t.aW k ks (bL vs)
 |d=>d
def bL:List D->List D
 |[]=>[]
 |d::r=>d.aW::bL r
end
mutual
def D.aA:D->Bool
 |.tup xs=>av xs
 |.lst t xs=>decide (t=.bor)||av xs
 |.dct t _ _ vs=>decide (t=.bor)||av vs
 |_=>false
def av:List D->Bool
 |[]=>false
 |d::r=>d.aA||av r
end
mutual
def D.pure:D->Bool
 |.tup xs=>aM xs
 |.lst _ _=>false
 |.dct _ _ _ _=>false
 |_=>true
def aM:List D->Bool
 |[]=>true
 |d::r=>d.pure&&aM r
end
mutual
def rZ:∀ d:D,d.pure=true->d.view=d
 |.bJ,_=>rfl|.bl _,_=>rfl|.int _,_=>rfl|.str _,_=>rfl|.exc _,_=>rfl
 | .tup xs,h=>by
  have h:aM xs=true:=h;show D.tup (aS xs)=_;rw[bO xs h]
 |.lst _ _,h=>by cases h
 |.dct _ _ _ _,h=>by cases h
def bO:∀ xs:List D,aM xs=true->aS xs=xs
 |[],_=>rfl
 | d::r,h=>by
  have h:(d.pure&&aM r)=true:=h;rw[Nk]at h;show d.view::aS r=_;rw[rZ d h.1,bO r h.2]
end
mutual
def bb:∀ d:D,d.pure=true->d.aq=d
 |.bJ,_=>rfl|.bl _,_=>rfl|.int _,_=>rfl|.str _,_=>rfl|.exc _,_=>rfl
 | .tup xs,h=>by
  have h:aM xs=true:=h;show D.tup (aD xs)=_;rw[cg xs h]
 |.lst _ _,h=>by cases h
 |.dct _ _ _ _,h=>by cases h
def cg:∀ xs:List D,aM xs=true->aD xs=xs
 |[],_=>rfl
 | d::r,h=>by
  have h:(d.pure&&aM r)=true:=h;rw[Nk]at h;show d.aq::aD r=_;rw[bb d h.1,cg r h.2]
end
mutual
def pX:∀ d:D,d.pure=true->d.aW=d
 |.bJ,_=>rfl|.bl _,_=>rfl|.int _,_=>rfl|.str _,_=>rfl|.exc _,_=>rfl
 | .tup xs,h=>by
  have h:aM xs=true:=h;show D.tup (bL xs)=_;rw[fK xs h]
 |.lst _ _,h=>by cases h
 |.dct _ _ _ _,h=>by cases h
def fK:∀ xs:List D,aM xs=true->bL xs=xs
 |[],_=>rfl
 | d::r,h=>by
  have h:(d.pure&&aM r)=true:=h;rw[Nk]at h;show d.aW::bL r=_;rw[pX d h.1,fK r h.2]
end
mutual
def aP:∀ d:D,d.pure=true->d.aA=false
 |.bJ,_=>rfl|.bl _,_=>rfl|.int _,_=>rfl|.str _,_=>rfl|.exc _,_=>rfl|.tup xs,h=>cJ xs h
 |.lst _ _,h=>by cases h
 |.dct _ _ _ _,h=>by cases h
def cJ:∀ xs:List D,aM xs=true->av xs=false
 |[],_=>rfl
 | d::r,h=>by
  have h:(d.pure&&aM r)=true:=h;rw[Nk]at h;show(d.aA||av r)=false;rw[aP d h.1,cJ r h.2];rfl
end
def bP:∀ {xs:List D},(∀ d∈xs,d.pure=true)->aM xs=true
 |[],_=>rfl
 | d::r,h=>by
  show(d.pure&&aM r)=true;rw[h d MD,bP λ x hx=>h x (ME _ hx)];rfl
def rY:∀ {xs:List D},aM xs=true->∀ d∈xs,d.pure=true
 | d::r,h,x,hx=>by
  have h:(d.pure&&aM r)=true:=h;rw[Nk]at h;rcases MK.mp hx with e|e
  ·rw[e];exact h.1
  ·exact rY h.2 x e
def jj:∀ xs:List D,aS xs=xs.map D.view
 |[]=>rfl|d::r=>by rw[aS,jj r];rfl
def gn:∀ xs:List D,aD xs=xs.map D.aq
 |[]=>rfl|d::r=>by rw[aD,gn r];rfl
def nO:∀ xs:List D,bL xs=xs.map D.aW
 |[]=>rfl|d::r=>by rw[bL,nO r];rfl
def pY:∀ xs:List D,av xs=xs.any D.aA
 |[]=>rfl|d::r=>by rw[av,pY r];rfl
def DictAt (H:Hp)(a:Addr)(k:Bool)(ks:List KT)(vs:List V):Prop:=
 (k=false/\∃ (kvs:List (Key×V)) (ep:Nat),H a=some (.dK kvs ep)/\ks=kvs.map (λ p=>Sum.inl p.1)/\vs=kvs.map (·.2)) ∨
 (k=true/\∃ (kvs:List (List Key×V)) (ep:Nat),H a=some (.dT kvs ep)/\ks=kvs.map (λ p=>Sum.inr p.1)/\vs=kvs.map (·.2))
def ExcAt (H:Hp)(a C:Addr):Prop:=∃ (t:Addr) (tb:Value) (u:HO),H a=some (.aq { cls:=.ref C,data:=.fields #[.ref t,tb,.none,.none,.bool false,.none] } u)
mutual
def Rep (K:PySem.W.Frag)(B:Hp)(S:Addr->Prop)(H:Hp):D->V->List Addr->Prop
 |.bJ,v,fp=>v=.bJ/\fp=[]
 |.bl b,v,fp=>v=.bl b/\fp=[]
 |.int i,v,fp=>v=.int i/\fp=[]
 |.str x,v,fp=>v=.str x/\fp=[]
 |.exc x,v,fp=>(∃ a,v=.ref a/\ExcAt H a x)/\fp=[]
 |.tup xs,v,fp=>∃ a vs,v=.ref a/\H a=some (.tup vs)/\ak K B S H xs vs fp
 |.lst .own xs,v,fp=>∃ a vs f,v=.ref a/\H a=some (.lst vs)/\ak K B S H xs vs f/\fp=a::f
 |.lst .bor xs,v,fp=>∃ a vs,v=.ref a/\((S a/\dR K H a vs)\/dR K B a vs)/\ak K B S H xs vs []/\fp=[]
 |.lst .aq xs,v,fp=>∃ a vs,v=.ref a/\dR K B a vs/\ak K B (λ _=>False) H xs vs []/\fp=[]
 |.lst (.len _) _,_,_=>False
 |.dct (.len p) k ks xs,v,fp=>∃ vs f,v=.ref p/\DictAt H p k ks vs/\ak K B S H xs vs f/\fp=p::f
 |.dct .own k ks xs,v,fp=>∃ a vs f,v=.ref a/\DictAt H a k ks vs/\ak K B S H xs vs f/\fp=a::f
 |.dct .bor k ks xs,v,fp=>∃ a vs,v=.ref a/\((S a/\DictAt H a k ks vs)\/DictAt B a k ks vs)/\ak K B S H xs vs []/\fp=[]
 |.dct .aq k ks xs,v,fp=>∃ a vs,v=.ref a/\DictAt B a k ks vs/\ak K B (λ _=>False) H xs vs []/\fp=[]
def ak (K:PySem.W.Frag)(B:Hp)(S:Addr->Prop)(H:Hp):List D->List V->List Addr->Prop
 |[],vs,fp=>vs=[]/\fp=[]
 |d::ds,vs,fp=>∃ v r f g,vs=v::r/\Rep K B S H d v f/\ak K B S H ds r g/\fp=f++g
end
def dZ {K:PySem.W.Frag}(s:aw H H'){xs:List V}(h:dR K H a xs):dR K H' a xs:=s.seq h
def DictAt.mono(s:aw H H'){k:Bool}(h:DictAt H a k ks vs):DictAt H' a k ks vs:=by
 rcases h with ⟨z,kvs,ep,h,r⟩|⟨z,kvs,ep,h,r⟩
 ·exact .inl ⟨z,kvs,ep,s _ _ h,r⟩
 ·exact .inr ⟨z,kvs,ep,s _ _ h,r⟩
def ExcAt.mono(s:aw H H'){C:Addr}(h:ExcAt H a C):ExcAt H' a C:=let ⟨t,tb,u,h⟩:=h;⟨t,tb,u,s _ _ h⟩
section
variable {K:PySem.W.Frag}
mutual
def Rep.mono {B B' H H':Hp}{S S':Addr->Prop}(sH:aw H H')(sB:aw B B')(sS:∀ a,S a->S' a):∀ {d:D}{v:V}{fp:List Addr},Rep K B S H d v fp->Rep K B' S' H' d v fp
 |.bJ,_,_,h=>h
 |.bl _,_,_,h=>h
 |.int _,_,_,h=>h
 |.str _,_,_,h=>h
 |.exc _,_,_,h=>let ⟨⟨a,e,z⟩,r⟩:=h;⟨⟨a,e,z.mono sH⟩,r⟩
 |.tup xs,v,fp,h=>let ⟨a,vs,e,q,r⟩:=h;⟨a,vs,e,sH _ _ q,ak.mono sH sB sS r⟩
 |.lst .own xs,v,fp,h=>let ⟨a,vs,f,e,q,r,z⟩:=h;⟨a,vs,f,e,sH _ _ q,ak.mono sH sB sS r,z⟩
 |.lst .bor xs,v,fp,h=>let ⟨a,vs,e,q,r,z⟩:=h;⟨a,vs,e,q.imp (λ y=>⟨sS _ y.1,dZ sH y.2⟩) (λ y=>dZ sB y),ak.mono sH sB sS r,z⟩
 |.lst .aq xs,v,fp,h=>let ⟨a,vs,e,q,r,z⟩:=h;⟨a,vs,e,dZ sB q,ak.mono sH sB (λ _ x=>x) r,z⟩
 |.lst (.len _) _,_,_,h=>h.elim
 |.dct (.len a) k ks xs,v,fp,h=>let ⟨vs,f,e,q,r,z⟩:=h;⟨vs,f,e,q.mono sH,ak.mono sH sB sS r,z⟩
 |.dct .own k ks xs,v,fp,h=>let ⟨a,vs,f,e,q,r,z⟩:=h;⟨a,vs,f,e,q.mono sH,ak.mono sH sB sS r,z⟩
 |.dct .bor k ks xs,v,fp,h=>let ⟨a,vs,e,q,r,z⟩:=h;⟨a,vs,e,q.imp (λ y=>⟨sS _ y.1,y.2.mono sH⟩) (λ y=>y.mono sB),ak.mono sH sB sS r,z⟩
 |.dct .aq k ks xs,v,fp,h=>let ⟨a,vs,e,q,r,z⟩:=h;⟨a,vs,e,q.mono sB,ak.mono sH sB (λ _ x=>x) r,z⟩
def ak.mono {B B' H H':Hp}{S S':Addr->Prop}(sH:aw H H')(sB:aw B B')(sS:∀ a,S a->S' a):∀ {ds:List D}{vs:List V}{fp:List Addr},ak K B S H ds vs fp->ak K B' S' H' ds vs fp
 |[],_,_,h=>h
 |d::ds,vs,fp,h=>let ⟨v,r,f,g,e,h1,h2,z⟩:=h;⟨v,r,f,g,e,Rep.mono sH sB sS h1,ak.mono sH sB sS h2,z⟩
end
def ak.length {B H:Hp}{S:Addr->Prop}:∀ {ds:List D}{vs:List V}{fp:List Addr},ak K B S H ds vs fp->ds.length=vs.length
 |[],_,_,h=>by rw[h.1];rfl
 | d::ds,vs,fp,h=>by
  obtain⟨v,r,f,g,e,h1,h2,z⟩:=h;rw[e,MQ,MQ,ak.length h2]
def lN {g:List Addr}(h:([]:List Addr)=f++g):f=[]/\g=[]:=List.append_eq_nil_iff.mp h.symm
def ak.get {B H:Hp}{S:Addr->Prop}:∀ {ds:List D}{vs:List V}{fp:List Addr}{i:Nat}{d:D},ak K B S H ds vs fp->ds[i]?=some d->∃ v f,vs[i]?=some v/\Rep K B S H d v f/\List.Sublist f fp
 |[],_,_,i,_,_,e=>by simp at e
 | d::ds,vs,fp,0,d',h,e=>by
  obtain⟨v,r,f,g,e1,h1,h2,z⟩:=h;have e:d=d':=by simpa using e
  subst e e1 z;exact⟨v,f,rfl,h1,Np _ _⟩
 | d::ds,vs,fp,i+1,d',h,e=>by
  obtain⟨v,r,f,g,e1,h1,h2,z⟩:=h;subst e1 z;obtain⟨w,f',a1,a2,a3⟩:=ak.get (i:=i) h2 (by simpa using e);exact⟨w,f',by simpa using a1,a2,a3.trans (Nb _ _)⟩
def ak.append {B H:Hp}{S:Addr->Prop}:∀ {xs ys:List D}{us vs:List V}{f g:List Addr},ak K B S H xs us f->ak K B S H ys vs g->ak K B S H (xs++ys) (us++vs) (f++g)
 | [],ys,us,vs,f,g,h,h'=>by
  obtain⟨rfl,rfl⟩:=h;exact h'
 | d::ds,ys,us,vs,f,g,h,h'=>by
  obtain⟨v,r,f1,f2,e1,h1,h2,z⟩:=h;subst e1 z;exact⟨v,r++vs,f1,f2++g,rfl,h1,ak.append h2 h',by rw[Ni]⟩
def ak.one{S:Addr->Prop}(h:Rep K B S H d v f):ak K B S H [d] [v] f:=⟨v,[],f,[],rfl,h,⟨rfl,rfl⟩,(Nh _).symm⟩
def ak.split {B H:Hp}{S:Addr->Prop}:∀ {xs ys:List D}{vs:List V}{f:List Addr},ak K B S H (xs++ys) vs f->∃ us ws g h,vs=us++ws/\f=g++h/\ak K B S H xs us g/\ak K B S H ys ws h
 |[],ys,vs,f,h=>⟨[],vs,[],f,rfl,rfl,⟨rfl,rfl⟩,h⟩
 | d::ds,ys,vs,f,h=>by
  obtain⟨v,r,f1,f2,e1,h1,h2,z⟩:=h;subst e1 z;obtain⟨us,ws,g,h',e1,e2,a,b⟩:=ak.split h2;subst e1 e2;exact⟨v::us,ws,f1++g,h',rfl,by rw[Ni],⟨v,us,f1,g,rfl,h1,a,rfl⟩,b⟩
def tW{S:Addr->Prop}:(∀ (d:D) {v:V}{fp:List Addr},d.pure=true->Rep K B S H d v fp->fp=[])/\(∀ (ds:List D) {vs:List V}{fp:List Addr},aM ds=true->ak K B S H ds vs fp->fp=[]):=by
 refine⟨λ d=>?_,λ ds=>?_⟩
 ·exact D.rec (motive_1:=λ d=>∀ {v:V}{fp:List Addr},d.pure=true->Rep K B S H d v fp->fp=[]) (motive_2:=λ ds=>∀ {vs:List V}{fp:List Addr},aM ds=true->ak K B S H ds vs fp->fp=[])
   (λ _ h=>h.2) (λ _ _ _ _ h=>h.2) (λ _ _ _ _ h=>h.2) (λ _ _ _ _ h=>h.2) (λ xs ih _ _ p h=>let ⟨_,_,_,_,r⟩:=h;ih p r) (λ _ _ _ _ _ p=>by cases p) (λ _ _ _ _ _ _ _ p=>by cases p) (λ _ _ _ _ h=>h.2) (λ _ h=>h.2)
   (λ d r ih1 ih2 _ _ p h=>by
    have p:(d.pure&&aM r)=true:=p;rw[Nk]at p;obtain⟨_,_,_,_,_,h1,h2,z⟩:=h;rw[z,ih1 p.1 h1,ih2 p.2 h2];rfl) d
 ·exact D.rec_1 (motive_1:=λ d=>∀ {v:V}{fp:List Addr},d.pure=true->Rep K B S H d v fp->fp=[]) (motive_2:=λ ds=>∀ {vs:List V}{fp:List Addr},aM ds=true->ak K B S H ds vs fp->fp=[])
   (λ _ h=>h.2) (λ _ _ _ _ h=>h.2) (λ _ _ _ _ h=>h.2) (λ _ _ _ _ h=>h.2) (λ xs ih _ _ p h=>let ⟨_,_,_,_,r⟩:=h;ih p r) (λ _ _ _ _ _ p=>by cases p) (λ _ _ _ _ _ _ _ p=>by cases p) (λ _ _ _ _ h=>h.2) (λ _ h=>h.2)
   (λ d r ih1 ih2 _ _ p h=>by
    have p:(d.pure&&aM r)=true:=p;rw[Nk]at p;obtain⟨_,_,_,_,_,h1,h2,z⟩:=h;rw[z,ih1 p.1 h1,ih2 p.2 h2];rfl) ds
end
abbrev No:Addr->Prop:=λ _=>False
section
variable {K:PySem.W.Frag}
mutual
def Rep.view {B H:Hp}{S:Addr->Prop}:∀ {d:D}{v:V}{fp:List Addr},Rep K B No H d v fp->(∀ a∈fp,S a)->Rep K B S H d.view v []
 |.bJ,_,_,h,_=>⟨h.1,rfl⟩
 |.bl _,_,_,h,_=>⟨h.1,rfl⟩
 |.int _,_,_,h,_=>⟨h.1,rfl⟩
 |.str _,_,_,h,_=>⟨h.1,rfl⟩
 |.exc _,_,_,h,_=>⟨h.1,rfl⟩
 |.tup xs,v,fp,h,hs=>let ⟨a,vs,e,q,r⟩:=h;⟨a,vs,e,q,ak.view r hs⟩
 | .lst .own xs,v,fp,h,hs=>by
  obtain⟨a,vs,f,e,q,r,z⟩:=h;subst z;exact⟨a,vs,e,.inl ⟨hs a MD,dR.of q⟩,ak.view r λ b hb=>hs b (ME _ hb),rfl⟩
 |.lst .bor xs,v,fp,h,hs=>let ⟨a,vs,e,q,r,z⟩:=h;⟨a,vs,e,.inr (q.resolve_left λ y=>y.1),ak.view r (λ _ x=>by cases x),rfl⟩
 |.lst .aq xs,v,fp,h,hs=>let ⟨a,vs,e,q,r,z⟩:=h;⟨a,vs,e,q,ak.view (S:=No) r (λ _ x=>by cases x),rfl⟩
 |.lst (.len _) _,_,_,h,_=>h.elim
 | .dct (.len a) kd ks xs,v,fp,h,hs=>by
  obtain⟨vs,f,e,q,r,z⟩:=h;subst z;exact⟨a,vs,e,.inl ⟨hs a MD,q⟩,ak.view r λ b hb=>hs b (ME _ hb),rfl⟩
 | .dct .own kd ks xs,v,fp,h,hs=>by
  obtain⟨a,vs,f,e,q,r,z⟩:=h;subst z;exact⟨a,vs,e,.inl ⟨hs a MD,q⟩,ak.view r λ b hb=>hs b (ME _ hb),rfl⟩
 |.dct .bor kd ks xs,v,fp,h,hs=>let ⟨a,vs,e,q,r,z⟩:=h;⟨a,vs,e,.inr (q.resolve_left λ y=>y.1),ak.view r (λ _ x=>by cases x),rfl⟩
 |.dct .aq kd ks xs,v,fp,h,hs=>let ⟨a,vs,e,q,r,z⟩:=h;⟨a,vs,e,q,ak.view (S:=No) r (λ _ x=>by cases x),rfl⟩
def ak.view {B H:Hp}{S:Addr->Prop}:∀ {ds:List D}{vs:List V}{fp:List Addr},ak K B No H ds vs fp->(∀ a∈fp,S a)->ak K B S H (aS ds) vs []
 |[],_,_,h,_=>⟨h.1,rfl⟩
 | d::ds,vs,fp,h,hs=>by
  obtain⟨v,r,f,g,e,h1,h2,z⟩:=h;subst z;exact⟨v,r,[],[],e,Rep.view h1 (λ b hb=>hs b (MW _ hb)),ak.view h2 (λ b hb=>hs b (MT _ hb)),rfl⟩
end
def BR{S:Addr->Prop}(sB:aw B B')(hs:∀ a o,S a->H a=some o->B' a=some o)(q:(S a/\dR K H a vs)\/dR K B a vs):dR K B' a vs:=by
 rcases q with ⟨s,(q|⟨o,q⟩)|q⟩|q
 ·exact .inl (.inl (hs _ _ s q))
 ·exact .inl (.inr ⟨o,hs _ _ s q⟩)
 ·exact .inr q
 ·exact sB.seq q
def k7{S:Addr->Prop}{kd:Bool}(sB:aw B B')(hs:∀ a o,S a->H a=some o->B' a=some o)(q:(S a/\DictAt H a kd ks vs)\/DictAt B a kd ks vs):DictAt B' a kd ks vs:=by
 rcases q with ⟨s,⟨z,kvs,ep,q,r⟩|⟨z,kvs,ep,q,r⟩⟩|q
 ·exact .inl ⟨z,kvs,ep,hs _ _ s q,r⟩
 ·exact .inr ⟨z,kvs,ep,hs _ _ s q,r⟩
 ·exact q.mono sB
mutual
def Rep.aq {B B' H:Hp}{S:Addr->Prop}(sB:aw B B')(hs:∀ a o,S a->H a=some o->B' a=some o):∀ {d:D}{v:V}{fp:List Addr},Rep K B S H d v fp->(∀ a∈fp,∀ o,H a=some o->B' a=some o)->Rep K B' No H d.aq v []
 |.bJ,_,_,h,_=>⟨h.1,rfl⟩
 |.bl _,_,_,h,_=>⟨h.1,rfl⟩
 |.int _,_,_,h,_=>⟨h.1,rfl⟩
 |.str _,_,_,h,_=>⟨h.1,rfl⟩
 |.exc _,_,_,h,_=>⟨h.1,rfl⟩
 |.tup xs,v,fp,h,hf=>let ⟨a,vs,e,q,r⟩:=h;⟨a,vs,e,q,ak.aq sB hs r hf⟩
 | .lst .own xs,v,fp,h,hf=>by
  obtain⟨a,vs,f,e,q,r,z⟩:=h;subst z;exact⟨a,vs,e,dR.of (hf a MD _ q),ak.aq sB hs r λ b hb=>hf b (ME _ hb),rfl⟩
 |.lst .bor xs,v,fp,h,hf=>let ⟨a,vs,e,q,r,z⟩:=h;⟨a,vs,e,BR sB hs q,ak.aq sB hs r (λ _ x=>by cases x),rfl⟩
 |.lst .aq xs,v,fp,h,hf=>let ⟨a,vs,e,q,r,z⟩:=h;⟨a,vs,e,dZ sB q,ak.aq sB (λ _ _ x=>x.elim) r (λ _ x=>by cases x),rfl⟩
 |.lst (.len _) _,_,_,h,_=>h.elim
 | .dct (.len a) kd ks xs,v,fp,h,hf=>by
  obtain⟨vs,f,e,q,r,z⟩:=h;subst z;refine⟨a,vs,e,?_,ak.aq sB hs r λ b hb=>hf b (ME _ hb),rfl⟩;exact k7 (S:=λ b=>b=a) sB (λ b o eb=>by rw[eb];exact hf a MD o) (.inl ⟨rfl,q⟩)
 | .dct .own kd ks xs,v,fp,h,hf=>by
  obtain⟨a,vs,f,e,q,r,z⟩:=h;subst z;refine⟨a,vs,e,?_,ak.aq sB hs r λ b hb=>hf b (ME _ hb),rfl⟩;exact k7 (S:=λ b=>b=a) sB (λ b o eb=>by rw[eb];exact hf a MD o) (.inl ⟨rfl,q⟩)
 |.dct .bor kd ks xs,v,fp,h,hf=>let ⟨a,vs,e,q,r,z⟩:=h;⟨a,vs,e,k7 sB hs q,ak.aq sB hs r (λ _ x=>by cases x),rfl⟩
 |.dct .aq kd ks xs,v,fp,h,hf=>let ⟨a,vs,e,q,r,z⟩:=h;⟨a,vs,e,q.mono sB,ak.aq sB (λ _ _ x=>x.elim) r (λ _ x=>by cases x),rfl⟩
def ak.aq {B B' H:Hp}{S:Addr->Prop}(sB:aw B B')(hs:∀ a o,S a->H a=some o->B' a=some o):∀ {ds:List D}{vs:List V}{fp:List Addr},ak K B S H ds vs fp->(∀ a∈fp,∀ o,H a=some o->B' a=some o)->ak K B' No H (aD ds) vs []
 |[],_,_,h,_=>⟨h.1,rfl⟩
 | d::ds,vs,fp,h,hf=>by
  obtain⟨v,r,f,g,e,h1,h2,z⟩:=h;subst z;exact⟨v,r,[],[],e,Rep.aq sB hs h1 (λ b hb=>hf b (MW _ hb)),ak.aq sB hs h2 (λ b hb=>hf b (MT _ hb)),rfl⟩
end
def vj{S:Addr->Prop}(sH:aw B H)(hb:∀ a o,B a=some o->B' a=some o\/S a)(q:dR K B a vs):(S a/\dR K H a vs)\/dR K B' a vs:=by
 rcases q with (q|⟨o,q⟩)|q
 ·exact(hb _ _ q).symm.imp (λ s=>⟨s,dR.of (sH _ _ q)⟩) λ z=>.inl (.inl z)
 ·exact(hb _ _ q).symm.imp (λ s=>⟨s,.inl (.inr ⟨o,sH _ _ q⟩)⟩) λ z=>.inl (.inr ⟨o,z⟩)
 ·exact .inr (.inr q)
def oG{S:Addr->Prop}{kd:Bool}(sH:aw B H)(hb:∀ a o,B a=some o->B' a=some o\/S a)(q:DictAt B a kd ks vs):(S a/\DictAt H a kd ks vs)\/DictAt B' a kd ks vs:=by
 rcases q with ⟨y,kvs,ep,q,r⟩|⟨y,kvs,ep,q,r⟩
 ·exact(hb _ _ q).symm.imp (λ s=>⟨s,.inl ⟨y,kvs,ep,sH _ _ q,r⟩⟩) λ z=>.inl ⟨y,kvs,ep,z,r⟩
 ·exact(hb _ _ q).symm.imp (λ s=>⟨s,.inr ⟨y,kvs,ep,sH _ _ q,r⟩⟩) λ z=>.inr ⟨y,kvs,ep,z,r⟩
mutual
def Rep.aW {B B' H:Hp}{S:Addr->Prop}(sH:aw B H)(hb:∀ a o,B a=some o->B' a=some o\/S a):∀ {d:D}{v:V}{fp:List Addr},Rep K B No H d v fp->Rep K B' S H d.aW v fp
 |.bJ,_,_,h=>h
 |.bl _,_,_,h=>h
 |.int _,_,_,h=>h
 |.str _,_,_,h=>h
 |.exc _,_,_,h=>h
 |.tup xs,v,fp,h=>let ⟨a,vs,e,q,r⟩:=h;⟨a,vs,e,q,ak.aW sH hb r⟩
 |.lst .own xs,v,fp,h=>let ⟨a,vs,f,e,q,r,z⟩:=h;⟨a,vs,f,e,q,ak.aW sH hb r,z⟩
 |.lst .bor xs,v,fp,h=>let ⟨a,vs,e,q,r,z⟩:=h;⟨a,vs,e,vj sH hb (q.resolve_left λ y=>y.1),ak.aW sH hb r,z⟩
 |.lst .aq xs,v,fp,h=>let ⟨a,vs,e,q,r,z⟩:=h;⟨a,vs,e,vj sH hb q,ak.aW sH hb r,z⟩
 |.lst (.len _) _,_,_,h=>h.elim
 |.dct (.len a) kd ks xs,v,fp,h=>let ⟨vs,f,e,q,r,z⟩:=h;⟨vs,f,e,q,ak.aW sH hb r,z⟩
 |.dct .own kd ks xs,v,fp,h=>let ⟨a,vs,f,e,q,r,z⟩:=h;⟨a,vs,f,e,q,ak.aW sH hb r,z⟩
 |.dct .bor kd ks xs,v,fp,h=>let ⟨a,vs,e,q,r,z⟩:=h;⟨a,vs,e,oG sH hb (q.resolve_left λ y=>y.1),ak.aW sH hb r,z⟩
 |.dct .aq kd ks xs,v,fp,h=>let ⟨a,vs,e,q,r,z⟩:=h;⟨a,vs,e,oG sH hb q,ak.aW sH hb r,z⟩
def ak.aW {B B' H:Hp}{S:Addr->Prop}(sH:aw B H)(hb:∀ a o,B a=some o->B' a=some o\/S a):∀ {ds:List D}{vs:List V}{fp:List Addr},ak K B No H ds vs fp->ak K B' S H (bL ds) vs fp
 |[],_,_,h=>h
 |d::ds,vs,fp,h=>let ⟨v,r,f,g,e,h1,h2,z⟩:=h;⟨v,r,f,g,e,Rep.aW sH hb h1,ak.aW sH hb h2,z⟩
end
mutual
def Rep.gY {B H:Hp}{S:Addr->Prop}:∀ {d:D}{v:V}{fp:List Addr},d.aA=false->Rep K B S H d v fp->Rep K B No H d v fp
 |.bJ,_,_,_,h=>h
 |.bl _,_,_,_,h=>h
 |.int _,_,_,_,h=>h
 |.str _,_,_,_,h=>h
 |.exc _,_,_,_,h=>h
 |.tup xs,v,fp,p,h=>let ⟨a,vs,e,q,r⟩:=h;⟨a,vs,e,q,ak.gY (ds:=xs) p r⟩
 |.lst .own xs,v,fp,p,h=>let ⟨a,vs,f,e,q,r,z⟩:=h;⟨a,vs,f,e,q,ak.gY (ds:=xs) (by simpa[D.aA] using p) r,z⟩
 |.lst .bor xs,v,fp,p,h=>by simp[D.aA]at p
 |.lst .aq xs,v,fp,p,h=>h
 |.lst (.len _) _,_,_,_,h=>h.elim
 |.dct (.len a) kd ks xs,v,fp,p,h=>let ⟨vs,f,e,q,r,z⟩:=h;⟨vs,f,e,q,ak.gY (ds:=xs) (by simpa[D.aA] using p) r,z⟩
 |.dct .own kd ks xs,v,fp,p,h=>let ⟨a,vs,f,e,q,r,z⟩:=h;⟨a,vs,f,e,q,ak.gY (ds:=xs) (by simpa[D.aA] using p) r,z⟩
 |.dct .bor kd ks xs,v,fp,p,h=>by simp[D.aA]at p
 |.dct .aq kd ks xs,v,fp,p,h=>h
def ak.gY {B H:Hp}{S:Addr->Prop}:∀ {ds:List D}{vs:List V}{fp:List Addr},av ds=false->ak K B S H ds vs fp->ak K B No H ds vs fp
 |[],_,_,_,h=>h
 | d::ds,vs,fp,p,h=>by
  obtain⟨v,r,f,g,e,h1,h2,z⟩:=h;have p:(d.aA||av ds)=false:=p;rw[OQ]at p;exact⟨v,r,f,g,e,Rep.gY p.1 h1,ak.gY p.2 h2,z⟩
end
def rq:HO->Prop
 |.lst _=>True
 |.dK _ _=>True
 |.dT _ _=>True
 |_=>False
structure j7 (H H':Hp)(M:List Addr):Prop where
 keep:∀ a o,H a=some o->a∉M->H' a=some o
 Ly:∀ a∈M,∃ o,H a=some o/\rq o
def j7.Ba{M:List Addr}(k:j7 H H' M)(h:H a=some o)(n:¬ rq o):H' a=some o:=k.keep a o h λ m=>by
 obtain⟨u,e,z⟩:=k.Ly a m;rw[h]at e;cases e;exact n z
mutual
def Rep.keep {B H H':Hp}{M:List Addr}(k:j7 H H' M):∀ {d:D}{v:V}{fp:List Addr},Rep K B No H d v fp->(∀ a∈fp,a∉M)->Rep K B No H' d v fp
 |.bJ,_,_,h,_=>h
 |.bl _,_,_,h,_=>h
 |.int _,_,_,h,_=>h
 |.str _,_,_,h,_=>h
 |.exc _,_,_,h,_=>let ⟨⟨a,e,t,tb,u,h1⟩,r⟩:=h;⟨⟨a,e,t,tb,u,k.Ba h1 (λ x=>x)⟩,r⟩
 | .tup xs,v,fp,h,hf=>by
  obtain⟨a,vs,e,q,r⟩:=h;exact⟨a,vs,e,k.Ba q (λ x=>x),ak.keep k r hf⟩
 | .lst .own xs,v,fp,h,hf=>by
  obtain⟨a,vs,f,e,q,r,z⟩:=h;subst z;exact⟨a,vs,f,e,k.keep _ _ q (hf a MD),ak.keep k r λ b hb=>hf b (ME _ hb),rfl⟩
 |.lst .bor xs,v,fp,h,hf=>let ⟨a,vs,e,q,r,z⟩:=h;⟨a,vs,e,.inr (q.resolve_left λ y=>y.1),ak.keep k r (λ _ x=>by cases x),z⟩
 |.lst .aq xs,v,fp,h,hf=>let ⟨a,vs,e,q,r,z⟩:=h;⟨a,vs,e,q,ak.keep k r (λ _ x=>by cases x),z⟩
 |.lst (.len _) _,_,_,h,_=>h.elim
 | .dct (.len a) kd ks xs,v,fp,h,hf=>by
  obtain⟨vs,f,e,q,r,z⟩:=h;subst z;have hm:=hf a MD;refine⟨vs,f,e,?_,ak.keep k r λ b hb=>hf b (ME _ hb),rfl⟩;rcases q with ⟨y,kvs,ep,q,w⟩|⟨y,kvs,ep,q,w⟩
  ·exact .inl ⟨y,kvs,ep,k.keep _ _ q hm,w⟩
  ·exact .inr ⟨y,kvs,ep,k.keep _ _ q hm,w⟩
 | .dct .own kd ks xs,v,fp,h,hf=>by
  obtain⟨a,vs,f,e,q,r,z⟩:=h;subst z;have hm:=hf a MD;refine⟨a,vs,f,e,?_,ak.keep k r λ b hb=>hf b (ME _ hb),rfl⟩;rcases q with ⟨y,kvs,ep,q,w⟩|⟨y,kvs,ep,q,w⟩
  ·exact .inl ⟨y,kvs,ep,k.keep _ _ q hm,w⟩
  ·exact .inr ⟨y,kvs,ep,k.keep _ _ q hm,w⟩
 |.dct .bor kd ks xs,v,fp,h,hf=>let ⟨a,vs,e,q,r,z⟩:=h;⟨a,vs,e,.inr (q.resolve_left λ y=>y.1),ak.keep k r (λ _ x=>by cases x),z⟩
 |.dct .aq kd ks xs,v,fp,h,hf=>let ⟨a,vs,e,q,r,z⟩:=h;⟨a,vs,e,q,ak.keep k r (λ _ x=>by cases x),z⟩
def ak.keep {B H H':Hp}{M:List Addr}(k:j7 H H' M):∀ {ds:List D}{vs:List V}{fp:List Addr},ak K B No H ds vs fp->(∀ a∈fp,a∉M)->ak K B No H' ds vs fp
 |[],_,_,h,_=>h
 | d::ds,vs,fp,h,hf=>by
  obtain⟨v,r,f,g,e,h1,h2,z⟩:=h;subst z;exact⟨v,r,f,g,e,Rep.keep k h1 (λ b hb=>hf b (MW _ hb)),ak.keep k h2 (λ b hb=>hf b (MT _ hb)),rfl⟩
end
mutual
def Rep.own {B H:Hp}{S:Addr->Prop}:∀ {d:D}{v:V}{fp:List Addr},Rep K B S H d v fp->∀ a∈fp,∃ o,H a=some o/\rq o
 |.bJ,_,_,h=>by rw[h.2];intro a m;cases m
 |.bl _,_,_,h=>by rw[h.2];intro a m;cases m
 |.int _,_,_,h=>by rw[h.2];intro a m;cases m
 |.str _,_,_,h=>by rw[h.2];intro a m;cases m
 |.exc _,_,_,h=>by rw[h.2];intro a m;cases m
 |.tup xs,v,fp,h=>let ⟨a,vs,e,q,r⟩:=h;ak.own r
 | .lst .own xs,v,fp,h=>by
  obtain⟨a,vs,f,e,q,r,z⟩:=h;subst z;intro b hb;rcases MK.mp hb with e|e
  ·subst e;exact⟨_,q,trivial⟩
  ·exact ak.own r b e
 |.lst .bor xs,v,fp,h=>by obtain⟨a,vs,e,q,r,z⟩:=h;rw[z];intro a m;cases m
 |.lst .aq xs,v,fp,h=>by obtain⟨a,vs,e,q,r,z⟩:=h;rw[z];intro a m;cases m
 |.lst (.len _) _,_,_,h=>h.elim
 | .dct (.len a) kd ks xs,v,fp,h=>by
  obtain⟨vs,f,e,q,r,z⟩:=h;subst z;intro b hb;rcases MK.mp hb with e|e
  ·subst e;rcases q with ⟨y,kvs,ep,q,w⟩|⟨y,kvs,ep,q,w⟩
   ·exact⟨_,q,trivial⟩
   ·exact⟨_,q,trivial⟩
  ·exact ak.own r b e
 | .dct .own kd ks xs,v,fp,h=>by
  obtain⟨a,vs,f,e,q,r,z⟩:=h;subst z;intro b hb;rcases MK.mp hb with e|e
  ·subst e;rcases q with ⟨y,kvs,ep,q,w⟩|⟨y,kvs,ep,q,w⟩
   ·exact⟨_,q,trivial⟩
   ·exact⟨_,q,trivial⟩
  ·exact ak.own r b e
 |.dct .bor kd ks xs,v,fp,h=>by obtain⟨a,vs,e,q,r,z⟩:=h;rw[z];intro a m;cases m
 |.dct .aq kd ks xs,v,fp,h=>by obtain⟨a,vs,e,q,r,z⟩:=h;rw[z];intro a m;cases m
def ak.own {B H:Hp}{S:Addr->Prop}:∀ {ds:List D}{vs:List V}{fp:List Addr},ak K B S H ds vs fp->∀ a∈fp,∃ o,H a=some o/\rq o
 |[],_,_,h=>by rw[h.2];intro a m;cases m
 | d::ds,vs,fp,h=>by
  obtain⟨v,r,f,g,e,h1,h2,z⟩:=h;subst z;intro b hb;rcases M4.mp hb with e|e
  ·exact Rep.own h1 b e
  ·exact ak.own h2 b e
end
def dj (K:PySem.W.Frag)(B H:Hp):SD->L2.St->List Addr->Prop
 |[],σ,P=>σ=[]/\P=[]
 |none::r,σ,P=>∃ o τ,σ=o::τ/\dj K B H r τ P
 |some d::r,σ,P=>∃ v τ f g,σ=some v::τ/\Rep K B No H d v f/\dj K B H r τ g/\P=f++g
structure SI (K:PySem.W.Frag)(H0 B0 B H:Hp)(σ:L2.St)(τ:SD)(P:List Addr)(F:Addr->Prop):Prop where
 bh:aw B H
 h0:aw H0 H
 b0:aw B0 B
 nb:∀ a,B a≠none->B0 a≠none\/H0 a=none
 rep:dj K B H τ σ P
 nd:P.Nodup
 own:∀ a∈P,B a=none/\H0 a=none/\¬ F a
 fr:∀ a,F a->B a=none/\H a≠none
structure fM (H0 B H:Hp)(P:List Addr)(F:Addr->Prop)(fp:List Addr):Prop where
 nd:fp.Nodup
 own:∀ a∈fp,B a=none/\H0 a=none/\H a≠none/\a∉P/\¬ F a
def fM.nil:fM H0 B H P F []:=⟨NJ,λ a m=>by cases m⟩
def fM.sub{fq:List Addr}(h:fM H0 B H P F fp)(s:List.Sublist fq fp):fM H0 B H P F fq:=⟨h.nd.sublist s,λ a m=>h.own a (s.subset m)⟩
def dj.own {B H:Hp}:∀ {τ:SD}{σ:L2.St}{P:List Addr},dj K B H τ σ P->∀ a∈P,∃ o,H a=some o/\rq o
 |[],_,_,h=>by rw[h.2];intro a m;cases m
 |none::r,σ,P,h=>by obtain⟨o,τ,e,h⟩:=h;exact dj.own h
 | some d::r,σ,P,h=>by
  obtain⟨v,τ,f,g,e,h1,h2,z⟩:=h;subst z;intro b hb;rcases M4.mp hb with e|e
  ·exact Rep.own h1 b e
  ·exact dj.own h2 b e
def dj.mono {B B' H H':Hp}(sH:aw H H')(sB:aw B B'):∀ {τ:SD}{σ:L2.St}{P:List Addr},dj K B H τ σ P->dj K B' H' τ σ P
 |[],_,_,h=>h
 |none::r,σ,P,h=>let ⟨o,τ,e,h⟩:=h;⟨o,τ,e,dj.mono sH sB h⟩
 |some d::r,σ,P,h=>let ⟨v,τ,f,g,e,h1,h2,z⟩:=h;⟨v,τ,f,g,e,Rep.mono sH sB (λ _ x=>x) h1,dj.mono sH sB h2,z⟩
def dj.get {B H:Hp}:∀ {τ:SD}{σ:L2.St}{P:List Addr}{i:Nat}{d:D},dj K B H τ σ P->τ[i]?=some (some d)->∃ v f,σ[i]?=some (some v)/\Rep K B No H d v f/\List.Sublist f P
 |[],_,_,i,_,_,e=>by simp at e
 |none::r,σ,P,0,d,h,e=>by simp at e
 | none::r,σ,P,i+1,d,h,e=>by
  obtain⟨o,τ,e1,h⟩:=h;subst e1;obtain⟨v,f,a1,a2,a3⟩:=dj.get (i:=i) h (by simpa using e);exact⟨v,f,by simpa using a1,a2,a3⟩
 | some d::r,σ,P,0,d',h,e=>by
  obtain⟨v,τ,f,g,e1,h1,h2,z⟩:=h;have e:d=d':=by simpa using e
  subst e e1 z;exact⟨v,f,rfl,h1,Np _ _⟩
 | some d::r,σ,P,i+1,d',h,e=>by
  obtain⟨v,τ,f,g,e1,h1,h2,z⟩:=h;subst e1 z;obtain⟨w,f',a1,a2,a3⟩:=dj.get (i:=i) h2 (by simpa using e);exact⟨w,f',by simpa using a1,a2,a3.trans (Nb _ _)⟩
def SI.stands (I:SI K H0 B0 B H σ τ P F)(h:a∈P):H a≠none:=by
 obtain⟨o,e,_⟩:=I.rep.own a h;rw[e];exact λ z=>by cases z
def SI.nP(I:SI K H0 B0 B H σ τ P F)(h:∀ a,F' a->F a):SI K H0 B0 B H σ τ P F':=
 ⟨I.bh,I.h0,I.b0,I.nb,I.rep,I.nd,λ a m=>let ⟨x,y,z⟩:=I.own a m;⟨x,y,λ q=>z (h a q)⟩,λ a m=>I.fr a (h a m)⟩
def SI.hold(I:SI K H0 B0 B H σ τ P F)(v:fM H0 B H P F fp):SI K H0 B0 B H σ τ P (λ a=>a∈fp\/F a):=
 ⟨I.bh,I.h0,I.b0,I.nb,I.rep,I.nd,λ a m=>let ⟨x,y,z⟩:=I.own a m;⟨x,y,λ q=>q.elim (λ r=>(v.own a r).2.2.2.1 m) z⟩,λ a m=>m.elim (λ r=>⟨(v.own a r).1,(v.own a r).2.2.1⟩) (I.fr a)⟩
def SI.grow(I:SI K H0 B0 B H σ τ P F)(s:aw H H'):SI K H0 B0 B H' σ τ P F:=
 ⟨I.bh.trans s,I.h0.trans s,I.b0,I.nb,I.rep.mono s (λ _ _ x=>x),I.nd,I.own,λ a m=>⟨(I.fr a m).1,λ z=>(I.fr a m).2 (s.free z)⟩⟩
def fM.grow(v:fM H0 B H P F fp)(s:aw H H')(hb:∀ a∈fp,B' a=none):fM H0 B' H' P F fp:=
 ⟨v.nd,λ a m=>let ⟨x,y,z,p,q⟩:=v.own a m;⟨hb a m,y,λ n=>z (s.free n),p,q⟩⟩
def SI.BS (I:SI K H0 B0 B H σ τ P F){p:Addr}(h:H p=none):B p=none/\H0 p=none/\p∉P/\¬ F p:=
 ⟨I.bh.free h,I.h0.free h,λ m=>I.stands m h,λ m=>(I.fr p m).2 h⟩
end
def ex8 {α β γ δ ε ζ:Sort _}{p q:α->β->γ->δ->ε->ζ->Prop}(h:∃ a b c d e f,p a b c d e f/\q a b c d e f)(k:∀ a b c d e f,p a b c d e f->q a b c d e f->C):C:=h.elim λ a h=>h.elim λ b h=>h.elim λ c h=>h.elim λ d h=>h.elim λ e h=>h.elim λ f h=>k a b c d e f h.1 h.2
def ex7 {α β γ δ ε:Sort _}{p q:α->β->γ->δ->ε->Prop}(h:∃ a b c d e,p a b c d e/\q a b c d e)(k:∀ a b c d e,p a b c d e->q a b c d e->C):C:=h.elim λ a h=>h.elim λ b h=>h.elim λ c h=>h.elim λ d h=>h.elim λ e h=>k a b c d e h.1 h.2
def ex12 {α β γ δ ε ζ η θ:Sort _}{p q r s:α->β->γ->δ->ε->ζ->η->θ->Prop}(h:∃ a b c d e f g i,p a b c d e f g i/\q a b c d e f g i/\r a b c d e f g i/\s a b c d e f g i)(k:∀ a b c d e f g i,p a b c d e f g i->q a b c d e f g i->r a b c d e f g i->s a b c d e f g i->C):C:=h.elim λ a h=>h.elim λ b h=>h.elim λ c h=>h.elim λ d h=>h.elim λ e h=>h.elim λ f h=>h.elim λ g h=>h.elim λ i h=>k a b c d e f g i h.1 h.2.1 h.2.2.1 h.2.2.2
structure XY where
 ex:Addr->L2.St->Hp->Prop
 ln:Bool
variable {Y:XY}
instance:CoeFun XY λ _=>Addr->L2.St->Hp->Prop:=⟨XY.ex⟩
abbrev yJ:XY:=⟨λ _ _ _=>False,false⟩
section
variable (K:PySem.W.Frag)(Y:XY)(H0 B0 B H:Hp)(σ:L2.St)(τ:SD)(P:List Addr)(F:Addr->Prop)
def Out (Q:VK)(d:D):Prop:=∀ v H' B' fp,SI K H0 B0 B' H' σ τ P F->aw H H'->aw B B'->Rep K B' (· ∈ P) H' d v fp->fM H0 B' H' P F fp->Q v H'
def jD (C:Addr):Prop:=∀ H' B',SI K H0 B0 B' H' σ τ P F->aw H H'->aw B B'->Y C σ H'
def LA (Q:List V->Hp->Prop)(ds:List D):Prop:=∀ vs H' B' fp,SI K H0 B0 B' H' σ τ P F->aw H H'->aw B B'->ak K B' (· ∈ P) H' ds vs fp->fM H0 B' H' P F fp->Q vs H'
def Lz (Q:Bool->Hp->Prop)(b:Bool):Prop:=∀ H' B',SI K H0 B0 B' H' σ τ P F->aw H H'->aw B B'->Q b H'
def Goal (Q:VK):Res D->Prop
 |.ok d=>Out K H0 B0 B H σ τ P F Q d
 |.fY C=>jD K Y H0 B0 B H σ τ P F C
 |.bad=>False
def JU (Q:List V->Hp->Prop):Res (List D)->Prop
 |.ok d=>LA K H0 B0 B H σ τ P F Q d
 |.fY C=>jD K Y H0 B0 B H σ τ P F C
 |.bad=>False
def oH (Q:Bool->Hp->Prop):Res Bool->Prop
 |.ok d=>Lz K H0 B0 B H σ τ P F Q d
 |.fY C=>jD K Y H0 B0 B H σ τ P F C
 |.bad=>False
end
def tM (K:PySem.W.Frag)(Y:XY)(f:SD->Res D):TE:=λ σ H Q=>∃ H0 B0 B τ P F,SI K H0 B0 B H σ τ P F/\Goal K Y H0 B0 B H σ τ P F Q (f τ)
def pC (K:PySem.W.Frag)(Y:XY)(f:SD->Res (List D)):TA:=λ σ H Q=>∃ H0 B0 B τ P F,SI K H0 B0 B H σ τ P F/\JU K Y H0 B0 B H σ τ P F Q (f τ)
def kF (K:PySem.W.Frag)(Y:XY)(f:SD->Res Bool):TT:=λ σ H Q=>∃ H0 B0 B τ P F,SI K H0 B0 B H σ τ P F/\oH K Y H0 B0 B H σ τ P F Q (f τ)
section
variable {K:PySem.W.Frag}
def jD.later{C:Addr}(h:jD K Y H0 B0 B H σ τ P F C)(sH:aw H H1)(sB:aw B B1)(hF:∀ a,F a->F' a):jD K Y H0 B0 B1 H1 σ τ P F' C:=
 λ H' B' I s b=>h H' B' (I.nP hF) (sH.trans s) (sB.trans b)
def Out.later(h:Out K H0 B0 B H σ τ P F Q d)(sH:aw H H1)(sB:aw B B1):Out K H0 B0 B1 H1 σ τ P F Q d:=
 λ v H' B' fp I s b r k=>h v H' B' fp I (sH.trans s) (sB.trans b) r k
def Goal.later{r:Res D}(h:Goal K Y H0 B0 B H σ τ P F Q r)(sH:aw H H1)(sB:aw B B1):Goal K Y H0 B0 B1 H1 σ τ P F Q r:=by
 cases r with
 |ok d=>exact Out.later h sH sB|fY C=>exact jD.later h sH sB λ _ x=>x
 |bad=>exact h
def Out.here(h:Out K H0 B0 B H σ τ P F Q d)(I:SI K H0 B0 B H σ τ P F)(r:Rep K B (· ∈ P) H d v []):Q v H:=h v H B [] I (aw.refl _) (aw.refl _) r fM.nil
def Out.pZ(h:Out K H0 B0 B H σ τ P F Q d)(I:SI K H0 B0 B H σ τ P F)(r:Rep K B (· ∈ P) H d v fp)(k:fM H0 B H P F fp):Q v H:=h v H B fp I (aw.refl _) (aw.refl _) r k
def gC {p:Addr}(h:H p=none):aw H (upd H p o):=λ b u e=>by
 rw[aU (bC e h)];exact e
def Out.tX{p:Addr}(h:Out K H0 B0 B H σ τ P F Q (.lst .own ds))(I:SI K H0 B0 B H σ τ P F)(r:ak K B (· ∈ P) H ds vs fp)(k:fM H0 B H P F fp)(hp:H p=none):Q (.ref p) (upd H p (.lst vs)):=by
 have s:=gC (o:=.lst vs) hp;obtain⟨n1,n2,n3,n4⟩:=I.BS hp;refine h (.ref p) _ B (p::fp) (I.grow s) s (aw.refl _) ⟨p,vs,fp,rfl,bB,r.mono s (aw.refl _) (λ _ x=>x),rfl⟩ ⟨MZ.mpr ⟨λ m=>(k.own p m).2.2.1 hp,k.nd⟩,λ a m=>?_⟩;rcases MK.mp m with e|e
 ·subst e;exact⟨n1,n2,(by rw[bB];exact Oh _),n3,n4⟩
 ·obtain⟨a1,a2,a3,a4,a5⟩:=k.own a e;exact⟨a1,a2,λ z=>a3 (s.free z),a4,a5⟩
def Out.BU{p:Addr}(h:Out K H0 B0 B H σ τ P F Q (.tup ds))(I:SI K H0 B0 B H σ τ P F)(r:ak K B (· ∈ P) H ds vs fp)(k:fM H0 B H P F fp)(hp:H p=none):Q (.ref p) (upd H p (.tup vs)):=by
 have s:=gC (o:=.tup vs) hp;exact h (.ref p) _ B fp (I.grow s) s (aw.refl _) ⟨p,vs,rfl,bB,r.mono s (aw.refl _) (λ _ x=>x)⟩ (k.grow s λ a m=>(k.own a m).1)
def fM.both{g:List Addr}(k:fM H0 B H P F f)(sH:aw H H1)(I1:SI K H0 B0 B1 H1 σ τ P (λ a=>a∈f\/F a))(k':fM H0 B1 H1 P (λ a=>a∈f\/F a) g):fM H0 B1 H1 P F (f++g):=by
 refine⟨MS.mpr ⟨k.nd,k'.nd,λ a ha b hb e=>?_⟩,λ a m=>?_⟩
 ·subst e;exact(k'.own a hb).2.2.2.2 (.inl ha)
 ·rcases M4.mp m with e|e
  ·obtain⟨a1,a2,a3,a4,a5⟩:=k.own a e;exact⟨(I1.fr a (.inl e)).1,a2,(I1.fr a (.inl e)).2,a4,a5⟩
  ·obtain⟨a1,a2,a3,a4,a5⟩:=k'.own a e;exact⟨a1,a2,a3,a4,λ z=>a5 (.inr z)⟩
def fM.left {g:List Addr}(k:fM H0 B H P F (f++g)):fM H0 B H P F f:=k.sub (Np _ _)
def fM.right {g:List Addr}(k:fM H0 B H P F (f++g)):fM H0 B H P F g:=k.sub (Nb _ _)
def PE.imp{t t':TE}(h:PE X e t)(hi:∀ σ H Q,t' σ H Q->t σ H Q):PE X e t':=λ pins s σ H Q I hw=>h pins s σ H Q I (hi σ H Q hw)
def PT.imp{t t':TT}(h:PT X e t)(hi:∀ σ H Q,t' σ H Q->t σ H Q):PT X e t':=λ pins s σ H Q I hw=>h pins s σ H Q I (hi σ H Q hw)
def PA.imp{t t':TA}(h:PA X es t)(hi:∀ σ H Q,t' σ H Q->t σ H Q):PA X es t':=λ pos pins s σ H Q I hw=>h pos pins s σ H Q I (hi σ H Q hw)
def PS.imp{t t':TS}(h:PS X st t)(hi:∀ E σ H,t' E σ H->t E σ H):PS X st t':=λ pins s σ H E I hw=>h pins s σ H E I (hi E σ H hw)
def mF.imp{st:List Stmt}{t t':TS}(h:mF X st t)(hi:∀ E σ H,t' E σ H->t E σ H):mF X st t':=λ pins s σ H E I hw=>h pins s σ H E I (hi E σ H hw)
def tM.seq {f:SD->Res D}{Q':V->Hp->Prop}{g:D->Res D}(I:SI K H0 B0 B H σ τ P F)(h:Goal K Y H0 B0 B H σ τ P F Q ((f τ).bind g))
  (k:∀ d v H1 B1 fp,f τ=.ok d->SI K H0 B0 B1 H1 σ τ P F->aw H H1->aw B B1->Rep K B1 (· ∈ P) H1 d v fp->fM H0 B1 H1 P F fp->Goal K Y H0 B0 B1 H1 σ τ P F Q (g d)->Q' v H1):tM K Y f σ H Q':=by
 refine⟨H0,B0,B,τ,P,F,I,?_⟩;cases e:f τ with
 | ok d =>
  rw[e]at h;intro v H1 B1 fp I1 s1 b1 r1 k1;exact k d v H1 B1 fp e I1 s1 b1 r1 k1 (Goal.later h s1 b1)
 |fY C=>rw[e]at h;exact h|bad=>rw[e]at h;exact h
def tM.rB {f1 f2:SD->Res D}{Q':V->V->Hp->Prop}(I:SI K H0 B0 B H σ τ P F)(h:Goal K Y H0 B0 B H σ τ P F Q ((f1 τ).bind λ x=>(f2 τ).bind (g x)))
  (k:∀ d1 d2 v1 v2 H2 B2 fp1 fp2,f1 τ=.ok d1->f2 τ=.ok d2->SI K H0 B0 B2 H2 σ τ P F->aw H H2->aw B B2->Rep K B2 (· ∈ P) H2 d1 v1 fp1->Rep K B2 (· ∈ P) H2 d2 v2 fp2->fM H0 B2 H2 P F (fp1++fp2)->Goal K Y H0 B0 B2 H2 σ τ P F Q (g d1 d2)->Q' v1 v2 H2) :
  tM K Y f1 σ H λ x H1=>tM K Y f2 σ H1 λ y H2=>Q' x y H2:=by
 refine tM.seq (g:=λ x=>(f2 τ).bind (g x)) I h λ d1 v1 H1 B1 fp1 e1 I1 s1 b1 r1 k1 h1=>?_;refine⟨H0,B0,B1,τ,P,_,I1.hold k1,?_⟩;cases e:f2 τ with
 | ok d2 =>
  rw[e]at h1;intro v2 H2 B2 fp2 I2 s2 b2 r2 k2;exact k d1 d2 v1 v2 H2 B2 fp1 fp2 e1 e (I2.nP λ a x=>.inr x) (s1.trans s2) (b1.trans b2) (r1.mono s2 b2 λ _ x=>x) r2 (k1.both s2 I2 k2) (Goal.later h1 s2 b2)
 | fY C =>
  rw[e]at h1;exact jD.later h1 (aw.refl _) (aw.refl _) λ a x=>.inr x
 |bad=>rw[e]at h1;exact h1
def aa (i:Nat)(τ:SD):Res D:=match τ[i]? with
 |some (some d)=>.ok d.view
 |_=>.bad
def eC (d:D)(_:SD):Res D:=.ok d
def qv(i:Nat)(hN:X.N[i]?=some x:=by rfl)(hv:wR X.env.scope x:=by first|exact Or.inl rfl|exact Or.inr (Or.inl rfl)|exact Or.inr (Or.inr rfl))(hd:(x == ("__debug__" : Str))=false:=by decide)
  (hcd:(x == ("__classdict__" : Str))=false:=by decide):PE X (.Name x pos) (tM X.K Y (aa i)):=by
 refine PE.imp (gP hN hv hd hcd) ?_;rintro σ H Q ⟨H0,B0,B,τ,P,F,I,h⟩;unfold aa at h;cases e:τ[i]? with
 |none=>rw[e]at h;exact h.elim
 | some o =>
  cases o with
  |none=>rw[e]at h;exact h.elim
  | some d =>
   rw[e]at h;obtain⟨v,f,h1,h2,h3⟩:=I.rep.get e;exact⟨v,h1,Out.here h I (h2.view λ a m=>h3.subset m)⟩
def qc(h:PE X e (tC v))(hr:∀ K B S H,Rep K B S H d v []):PE X e (tM X.K Y (eC d)):=PE.imp h λ σ H Q hq=>ex8 hq λ H0 B0 B τ P F I h=>Out.here h I (hr _ _ _ _)
def au{i:Int}{j pos}:PE X (.Constant (.int i) j pos) (tM X.K Y (eC (.int i))):=qc G6 λ _ _ _ _=>⟨rfl,rfl⟩
def o8{b:Bool}{j pos}:PE X (.Constant (.bool b) j pos) (tM X.K Y (eC (.bl b))):=qc Jz λ _ _ _ _=>⟨rfl,rfl⟩
def r6{j pos}:PE X (.Constant .none j pos) (tM X.K Y (eC .bJ)):=qc Hc λ _ _ _ _=>⟨rfl,rfl⟩
def pD (K:PySem.W.Frag)(Y:XY)(r:R2)(g:D->D->Res D):Prop:=∀ {H0 B0 B H:Hp}{σ:L2.St}{τ:SD}{P:List Addr}{F:Addr->Prop}{d1 d2:D}{x y:V}{f1 f2:List Addr}{Q:VK},
 SI K H0 B0 B H σ τ P F->Rep K B (· ∈ P) H d1 x f1->Rep K B (· ∈ P) H d2 y f2->fM H0 B H P F (f1++f2)->Goal K Y H0 B0 B H σ τ P F Q (g d1 d2)->r x y H Q
def af (g:D->D->Res D)(a b:SD->Res D)(τ:SD):Res D:=(a τ).bind λ x=>(b τ).bind (g x)
def j6.or{f:Value->Value->Sem Value}{r':R2}(h:j6 X f r)(h':j6 X f r'):j6 X f (λ x y H Q=>r x y H Q\/r' x y H Q):=by
 intro pins s σ H x y v u Q I rx ry q;rcases q with q|q
 ·exact h pins s σ H x y v u Q I rx ry q
 ·exact h' pins s σ H x y v u Q I rx ry q
variable{a b c:Expr}{fa fb fc:SD->Res D}
def aQ {op:Operator}(ho:j6 X (binaryOp op) r)(hg:pD X.K Y r g)(ha:PE X a (tM X.K Y fa))(hb:PE X b (tM X.K Y fb)):PE X (.BinOp a op b pos) (tM X.K Y (af g fa fb)):=
 PE.imp (Jq ho ha hb) λ σ H Q hq=>ex8 hq λ H0 B0 B τ P F I h=>tM.rB I h λ d1 d2 v1 v2 H2 B2 f1 f2 _ _ I2 _ _ r1 r2 k h2=>hg I2 r1 r2 k h2
def JT {op:CmpOp}(ho:j6 X (compareOp op) r)(hg:pD X.K Y r g)(ha:PE X a (tM X.K Y fa))(hb:PE X b (tM X.K Y fb))(hm:behindInMarks op b=false):PE X (.Compare a [op] [b] pos) (tM X.K Y (af g fa fb)):=
 PE.imp (Eh ho ha hb hm) λ σ H Q hq=>ex8 hq λ H0 B0 B τ P F I h=>tM.rB I h λ d1 d2 v1 v2 H2 B2 f1 f2 _ _ I2 _ _ r1 r2 k h2=>hg I2 r1 r2 k h2
def LB(ho:D0 X r)(hg:pD X.K Y r g)(ha:PE X a (tM X.K Y fa))(hb:PE X b (tM X.K Y fb))(hs:tS b):PE X (.Subscript a b pos) (tM X.K Y (af g fa fb)):=
 PE.imp (JG ho ha hb hs) λ σ H Q hq=>ex8 hq λ H0 B0 B τ P F I h=>tM.rB I h λ d1 d2 v1 v2 H2 B2 f1 f2 _ _ I2 _ _ r1 r2 k h2=>hg I2 r1 r2 k h2
def rA:D->Res Bool|.bl b=>.ok b|_=>.bad
def vm {Q:Bool->Hp->Prop}{r:Res D}(h:oH K Y H0 B0 B H σ τ P F Q (r.bind rA)):Goal K Y H0 B0 B H σ τ P F (λ x H1=>∃ c,x=.bl c/\Q c H1) r:=by
 cases r with
 | ok d =>
  intro v H' B' fp I s b r k;cases d with
  |bl c=>obtain⟨rfl,rfl⟩:=r;exact⟨c,rfl,h H' B' I s b⟩| _=>exact h.elim
 |fY C=>exact h|bad=>exact h
def eT (f:SD->Res D)(τ:SD):Res Bool:=(f τ).bind rA
def fQ (ha:PE X a (tM X.K Y fa))(he:∀ whole,isTrue a X.env whole=(do let v <-whole;standAt a.pos;holding [v] (truthy v)):=by intro _;rfl):PT X a (kF X.K Y (eT fa)):=
 PT.imp (GH ha he) λ σ H Q hq=>ex8 hq λ H0 B0 B τ P F I h=>⟨H0,B0,B,τ,P,F,I,vm h⟩
def xn {op:CmpOp}(ho:j6 X (compareOp op) r)(hg:pD X.K Y r g)(ha:PE X a (tM X.K Y fa))(hb:PE X b (tM X.K Y fb))(hm:behindInMarks op b=false):PT X (.Compare a [op] [b] pos) (kF X.K Y (eT (af g fa fb))):=
 PT.imp (Ed ho ha hb hm) λ σ H Q hq=>ex8 hq λ H0 B0 B τ P F I h=>tM.rB I (vm h) λ d1 d2 v1 v2 H2 B2 f1 f2 _ _ I2 _ _ r1 r2 k h2=>hg I2 r1 r2 k h2
end
section
variable {K:PySem.W.Frag}
def Rep.lst (I:SI K H0 B0 B H σ τ P F){t:Tg}(r:Rep K B (· ∈ P) H (.lst t xs) v f):∃ a vs g,v=.ref a/\dR K H a vs/\ak K B (· ∈ P) H xs vs g/\List.Sublist g f:=by
 cases t with
 |len a=>exact False.elim r
 | own =>
  obtain⟨a,vs,g,e,q,r,z⟩:=r;subst z;exact⟨a,vs,g,e,dR.of q,r,PV _ _⟩
 | bor =>
  obtain⟨a,vs,e,q,r,z⟩:=r;subst z;exact⟨a,vs,[],e,q.elim (λ y=>y.2) λ y=>dZ I.bh y,r,ND _⟩
 | aq =>
  obtain⟨a,vs,e,q,r,z⟩:=r;subst z;exact⟨a,vs,[],e,dZ I.bh q,r.mono (aw.refl _) (aw.refl _) (λ _ x=>x.elim),ND _⟩
def Rep.tp(r:Rep K B (· ∈ P) H (.tup xs) v f):∃ a vs,v=.ref a/\jd K H a vs/\ak K B (· ∈ P) H xs vs f:=let ⟨a,vs,e,q,r⟩:=r;⟨a,vs,e,jd.of q,r⟩
def eZ(h:dR K H a vs):dR K H a vs:=h
def Gj (K:PySem.W.Frag):R2:=λ x y H Q=>∃ l b xs zs,x=.ref l/\y=.ref b/\dR K H l xs/\dR K H b zs/\xs.length+zs.length<=sizeLine/\∀ p,H p=none->Q (.ref p) (upd H p (.lst (xs++zs)))
def EM:j6 X (binaryOp .Add) (Gj X.K):=by
 intro pins s σ H x y v u Q I rx ry h;obtain⟨l,b,xs,zs,rfl,rfl,hH,hB,hz,q⟩:=h;cases rx;cases ry;obtain⟨its,r,pl,z⟩:=I.list hH;obtain⟨its2,r2,pl2,z2⟩:=I.list hB;obtain⟨⟨cls,dd,data,sl⟩,ho,hc,n,hd⟩:=id pl.isList;obtain⟨⟨cls2,dd2,data2,sl2⟩,ho2,hc2,n2,hd2⟩:=id pl2.isList;simp only at hc hd hc2 hd2;subst hc hd hc2 hd2;have e:its.toArray++its2.toArray=(its++its2).toArray:=by simp
 have l1:=r.length;have l2:=r2.length;refine concat_meets ⟨_,ho,rfl⟩ ⟨_,ho2,rfl⟩ noFill_list_add seq_list_add PySem.F.slot_list_add PySem.F.entry_list_add (PySem.F.args_list_add_2 _ _) (list_addW l b its.toArray its2.toArray n n2 dd dd2 sl sl2 (by rw[MN,MN];omega)) ⟨ho,ho2,?_⟩;rw[e];exact⟨.ref _,_,I.JI (t':=s.toks) (r.append r2) (by rw[MY];omega),rfl,q _ I.fresh⟩
def bQ:D->D->Res D
 |.int i,.int j=>.ok (.int (i+j))
 |.str i,.str j=>if i.length+j.length<=16777216 then .ok (.str (i++j)) else .bad
 |.lst _ xs,.lst _ ys=>if xs.length+ys.length<=16777216 then .ok (.lst .own (xs++ys)) else .bad
 |.tup xs,.tup ys=>if xs≠[]/\ys≠[]/\xs.length+ys.length<=16777216 then .ok (.tup (xs++ys)) else .bad
 |_,_=>.bad
def Hw(h:n<=16777216):n<=sizeLine:=by rw[NH];exact h
def ak.kZ {S:Addr->Prop}(r:ak K B S H xs vs f):vs=[]↔xs=[]:=by
 have:=r.length;cases xs<;>cases vs<;>simp_all
abbrev Jr (K:PySem.W.Frag):R2:=λ x y H Q=>Bc (λ i j=>.int (i+j)) x y H Q\/((∃ i j,x=.str i/\y=.str j/\i.length+j.length<=sizeLine/\Q (.str (i++j)) H)\/(Gj K x y H Q\/Gh K x y H Q))
def bc:j6 X (binaryOp .Add) (Jr X.K):=j6.or G8 (j6.or wO (j6.or EM Ez))
def cO:pD K Y (Jr K) bQ:=by
 intro H0 B0 B H σ τ P F d1 d2 x y f1 f2 Q I r1 r2 k h;unfold bQ at h;split at h
 ·obtain⟨rfl,rfl⟩:=r1;obtain⟨rfl,rfl⟩:=r2;exact .inl ⟨_,_,rfl,rfl,Out.here h I ⟨rfl,rfl⟩⟩
 ·obtain⟨rfl,rfl⟩:=r1;obtain⟨rfl,rfl⟩:=r2;split at h
  ·rename_i hl;exact .inr (.inl ⟨_,_,rfl,rfl,Hw hl,Out.here h I ⟨rfl,rfl⟩⟩)
  ·exact h.elim
 ·obtain⟨a,vs,g1,rfl,q1,l1,s1⟩:=r1.lst I;obtain⟨b,ws,g2,rfl,q2,l2,s2⟩:=r2.lst I;split at h
  ·rename_i hl;refine .inr (.inr (.inl ⟨_,_,_,_,rfl,rfl,q1,q2,by rw[<-l1.length,<-l2.length];exact Hw hl,λ p hp=>?_⟩));exact Out.tX h I (l1.append l2) (k.sub (s1.append s2)) hp
  ·exact h.elim
 ·obtain⟨a,vs,rfl,q1,l1⟩:=r1.tp;obtain⟨b,ws,rfl,q2,l2⟩:=r2.tp;split at h
  ·rename_i hl;obtain⟨n1,n2,hl⟩:=hl;refine .inr (.inr (.inr ⟨_,_,_,_,rfl,rfl,q1,q2,λ z=>n1 (l1.kZ.mp z),by rw[<-l1.length,<-l2.length];exact Hw hl,λ z=>absurd (l2.kZ.mp z) n2,λ _ p hp=>?_⟩));exact Out.BU h I (l1.append l2) k hp
  ·exact h.elim
 ·exact h.elim
def pG (C:Int->Int->Prop)[∀ i j,Decidable (C i j)](g:Int->Int->D):D->D->Res D
 |.int i,.int j=>if C i j then .ok (g i j) else .bad
 |_,_=>.bad
def rD (g:Int->Int->D):D->D->Res D
 |.int i,.int j=>.ok (g i j)
 |_,_=>.bad
def EL {C:Int->Int->Prop}[∀ i j,Decidable (C i j)]{g:Int->Int->D}{gv:Int->Int->V}(hg:∀ i j K B S H,Rep K B S H (g i j) (gv i j) []):pD K Y (rI C gv) (pG C g):=by
 intro H0 B0 B H σ τ P F d1 d2 x y f1 f2 Q I r1 r2 k h;unfold pG at h;split at h
 ·obtain⟨rfl,rfl⟩:=r1;obtain⟨rfl,rfl⟩:=r2;split at h
  ·rename_i hc;exact⟨_,_,rfl,rfl,hc,Out.here h I (hg ..)⟩
  ·exact h.elim
 ·exact h.elim
def BW {g:Int->Int->D}{gv:Int->Int->V}(hg:∀ i j K B S H,Rep K B S H (g i j) (gv i j) []):pD K Y (Bc gv) (rD g):=by
 intro H0 B0 B H σ τ P F d1 d2 x y f1 f2 Q I r1 r2 k h;unfold rD at h;split at h
 ·obtain⟨rfl,rfl⟩:=r1;obtain⟨rfl,rfl⟩:=r2;exact⟨_,_,rfl,rfl,Out.here h I (hg ..)⟩
 ·exact h.elim
instance (i j:Int):Decidable (iX i j):=inferInstanceAs (Decidable (_/\_))
instance (i j:Int):Decidable (je i j):=inferInstanceAs (Decidable (_/\_/\_))
instance (i j:Int):Decidable (Bq i j):=inferInstanceAs (Decidable ((_/\_)\/(_/\_)))
def jU (i j:Int):Prop:=Bq i j\/(i.natAbs<2^1024/\j.natAbs<2^1024)
instance (i j:Int):Decidable (jU i j):=inferInstanceAs (Decidable (_\/(_/\_)))
def r8 {i:Int}(h:i.natAbs<2^1024):Builtin.Int.intBits i<=2^20:=by
 unfold Builtin.Int.intBits;split
 ·exact NV _
 ·by_cases e:i.natAbs=0
  ·rw[e];decide
  ·have:=(Nat.log2_lt e).mpr h;omega
def iN:j6 X (binaryOp .Mult) (rI jU λ i j=>.int (i*j)):=KJ λ _ _ _ _ _ _ _ hc q=>mul_int q (hc.elim Bq.ok λ z=>IntMulOk.of_bits (r8 z.1) (r8 z.2))
abbrev JW (g:Int->Int->Int):∀ i j K B S H,Rep K B S H (.int (g i j)) (.int (g i j)) []:=λ _ _ _ _ _ _=>⟨rfl,rfl⟩
abbrev Ma (g:Int->Int->Bool):∀ i j K B S H,Rep K B S H (.bl (g i j)) (.bl (g i j)) []:=λ _ _ _ _ _ _=>⟨rfl,rfl⟩
abbrev EK:=rD λ i j=>.int (i-j)
abbrev o9:=pG jU λ i j=>.int (i*j)
abbrev cV:=pG iX λ i j=>.int (i/j)
abbrev cP:=pG (λ _ j=>0<j) λ i j=>.int (i%j)
abbrev rC:=pG je λ i j=>.int (i^j.toNat)
abbrev Jd:=rD λ i j=>.bl (decide (i<j))
abbrev JV:=rD λ i j=>.bl (decide (j<i))
def BV:pD K Y (Bc λ i j=>.int (i-j)) EK:=BW (JW _)
def oJ:pD K Y (rI jU λ i j=>.int (i*j)) o9:=EL (JW _)
def cX:pD K Y (rI iX λ i j=>.int (i/j)) cV:=EL (JW _)
def cU:pD K Y (rI (λ _ j=>0<j) λ i j=>.int (i%j)) cP:=EL (JW _)
def yK:pD K Y (rI je λ i j=>.int (i^j.toNat)) rC:=EL (JW λ i j=>i^j.toNat)
def Hx:pD K Y (Bc λ i j=>.bl (decide (i<j))) Jd:=BW (Ma λ i j=>decide (i<j))
def Hv:pD K Y (Bc λ i j=>.bl (decide (j<i))) JV:=BW (Ma λ i j=>decide (j<i))
end
section
variable {K:PySem.W.Frag}{a b c:Expr}{fa fb fc:SD->Res D}{ga gb:SD->Res Bool}
def fM.Gm(k:fM H0 B H P F f)(sH:aw H H1)(I1:SI K H0 B0 B1 H1 σ τ P (λ a=>a∈f\/F a)):fM H0 B1 H1 P F f:=⟨k.nd,λ a m=>let ⟨_,a2,_,a4,a5⟩:=k.own a m;⟨(I1.fr a (.inl m)).1,a2,(I1.fr a (.inl m)).2,a4,a5⟩⟩
def D.flat:D->Bool|.bJ=>true|.bl _=>true|.int _=>true|.str _=>true|_=>false
def cY:D->D->Option Bool
 |.bJ,.bJ=>some true|.bJ,.int _=>some false|.int _,.bJ=>some false|.bJ,.bl _=>some false|.bl _,.bJ=>some false|.bJ,.str _=>some false|.str _,.bJ=>some false
 |.int i,.int j=>some (decide (i=j))|.bl i,.bl j=>some (decide (i=j))|.str i,.str j=>some (decide (i=j))
 |.int _,.str _=>some false|.str _,.int _=>some false|.bl _,.str _=>some false|.str _,.bl _=>some false
 |_,_=>none
def sj {S S':Addr->Prop}{d1 d2:D}{x y:V}{f1 f2:List Addr}{r:Bool}(e:cY d1 d2=some r)(r1:Rep K B S H d1 x f1)(r2:Rep K B S' H d2 y f2):Hb x y=true/\decide (x=y)=r:=by
 cases d1<;>cases d2<;>first|(cases e;done)|(obtain⟨rfl,rfl⟩:=r1;obtain⟨rfl,rfl⟩:=r2;cases e;first|exact⟨rfl,rfl⟩|exact⟨rfl,by simp⟩)
def tZ (neg:Bool):Option Bool->Res D|some b=>.ok (.bl (xor neg b))|none=>.bad
def iI (d1 d2:D):Res D:=tZ false (cY d1 d2)
def qX (d1 d2:D):Res D:=tZ true (cY d1 d2)
def jE:pD K Y L3 iI:=by
 intro H0 B0 B H σ τ P F d1 d2 x y f1 f2 Q I r1 r2 k h;unfold iI at h;cases e:cY d1 d2 with
 |none=>rw[e]at h;exact h.elim
 | some r =>
  rw[e]at h;obtain⟨s,z⟩:=sj e r1 r2;refine⟨s,?_⟩;rw[z];exact Out.here h I ⟨by simp,rfl⟩
def Hy:pD K Y L0 qX:=by
 intro H0 B0 B H σ τ P F d1 d2 x y f1 f2 Q I r1 r2 k h;unfold qX at h;cases e:cY d1 d2 with
 |none=>rw[e]at h;exact h.elim
 | some r =>
  rw[e]at h;obtain⟨s,z⟩:=sj e r1 r2;refine⟨s,?_⟩;rw[z];exact Out.here h I ⟨by simp,rfl⟩
def g9 (neg:Bool):D->D->Res D
 |.bJ,.bJ=>.ok (.bl (!neg))
 |_,.bJ=>.ok (.bl neg)
 |_,_=>.bad
def D.Mu:D->Bool|.bJ=>true|_=>false
def yM {S:Addr->Prop}(r:Rep K B S H d v f):decide (v=.bJ)=d.Mu:=by
 cases d with
 |bJ=>rw[r.1];rfl|bl _=>rw[r.1];rfl|int _=>rw[r.1];rfl|str _=>rw[r.1];rfl|exc _=>obtain⟨⟨a,rfl,_⟩,_⟩:=r;rfl|tup _=>obtain⟨a,_,rfl,_⟩:=r;rfl|lst t _=>cases t<;>first|exact False.elim r|(obtain⟨a,_,r⟩:=r;first|(obtain⟨_,rfl,_⟩:=r;rfl)|(obtain⟨rfl,_⟩:=r;rfl))
 |dct t _ _ _=>cases t<;>(obtain⟨a,_,r⟩:=r;first|(obtain⟨_,rfl,_⟩:=r;rfl)|(obtain⟨rfl,_⟩:=r;rfl))
def B7:pD K Y (λ x y H Q=>y=.bJ/\Q (.bl (decide (x=.bJ))) H) (g9 false):=by
 intro H0 B0 B H σ τ P F d1 d2 x y f1 f2 Q I r1 r2 k h;have e:=yM r1;unfold g9 at h;split at h
 ·rw[r2.1];rw[e];exact⟨rfl,Out.here h I ⟨rfl,rfl⟩⟩
 ·rename_i hn;rw[r2.1];rw[e];refine⟨rfl,Out.here h I ⟨?_,rfl⟩⟩;cases d1<;>first|rfl|exact(hn rfl).elim
 ·exact h.elim
def HA:pD K Y (λ x y H Q=>y=.bJ/\Q (.bl (!decide (x=.bJ))) H) (g9 true):=by
 intro H0 B0 B H σ τ P F d1 d2 x y f1 f2 Q I r1 r2 k h;have e:=yM r1;unfold g9 at h;split at h
 ·rw[r2.1];rw[e];exact⟨rfl,Out.here h I ⟨rfl,rfl⟩⟩
 ·rename_i hn;rw[r2.1];rw[e];refine⟨rfl,Out.here h I ⟨?_,rfl⟩⟩;cases d1<;>first|rfl|exact(hn rfl).elim
 ·exact h.elim
def Hz:D->D->Bool
 |.bJ,.bJ=>true
 |.bl a,.bl b=>a == b
 |.bl a,.int b=>(if a then 1 else 0) == b
 |.int a,.bl b=>a == (if b then 1 else 0)
 |.int a,.int b=>a == b
 |.str a,.str b=>a == b
 |_,_=>false
def nQ (x:D)(xs:List D):Bool:=xs.any λ y=>Hz y x
def p6 {S:Addr->Prop}(h:d.flat=true)(r:Rep K B S H d v f):lL v=true:=by
 cases d<;>first|exact absurd (show false=true from h) MH|(obtain⟨rfl,_⟩:=r;rfl)
def HB {S:Addr->Prop}{e:D}{u:V}{g:List Addr}(h:d.flat=true)(h':e.flat=true)(r:Rep K B S H d v f)(r':Rep K B S H e u g):D3 v u=Hz d e:=by
 cases d<;>cases e<;>first|exact absurd (show false=true from h) MH|exact absurd (show false=true from h') MH|(obtain⟨rfl,_⟩:=r;obtain⟨rfl,_⟩:=r';rfl)
def p8 {S:Addr->Prop}{x:D}{u:V}{g:List Addr}(hx:x.flat=true)(rx:Rep K B S H x u g):∀ {xs:List D}{vs:List V}{f:List Addr},xs.all D.flat=true->ak K B S H xs vs f->vs.all lL=true/\KQ u vs=nQ x xs
 |[],vs,f,_,r=>by obtain⟨rfl,_⟩:=r;exact⟨rfl,rfl⟩
 | d::ds,vs,f,h,r=>by
  obtain⟨v,w,f1,f2,rfl,r1,r2,_⟩:=r;rw[QN,Nk]at h;obtain⟨i1,i2⟩:=p8 hx rx h.2 r2;refine⟨by rw[QN,p6 h.1 r1,i1];rfl,?_⟩;show(D3 v u||KQ u w)=(Hz d x||nQ x ds);rw[i2,HB h.1 hx r1 rx]
def inD (neg:Bool):D->D->Res D
 |x,.lst _ xs=>if x.flat=true/\xs.all D.flat=true then .ok (.bl (if neg then !nQ x xs else nQ x xs)) else .bad
 |x,.tup xs=>if x.flat=true/\xs.all D.flat=true then .ok (.bl (if neg then !nQ x xs else nQ x xs)) else .bad
 |_,_=>.bad
def EB (neg:Bool):pD K Y (L6 K neg) (inD neg):=by
 intro H0 B0 B H σ τ P F d1 d2 x y f1 f2 Q I r1 r2 k h;unfold inD at h;split at h
 ·split at h
  ·rename_i hc;obtain⟨a,vs,g,rfl,q,l,s⟩:=r2.lst I;obtain⟨z1,z2⟩:=p8 hc.1 r1 hc.2 l;refine⟨a,vs,rfl,.inl (eZ q),p6 hc.1 r1,z1,?_⟩;rw[z2];exact Out.here h I ⟨rfl,rfl⟩
  ·exact h.elim
 ·split at h
  ·rename_i hc;obtain⟨a,vs,rfl,q,l⟩:=r2.tp;obtain⟨z1,z2⟩:=p8 hc.1 r1 hc.2 l;refine⟨a,vs,rfl,.inr q,p6 hc.1 r1,z1,?_⟩;rw[z2];exact Out.here h I ⟨rfl,rfl⟩
  ·exact h.elim
 ·exact h.elim
def bG:D->D->Res D
 |.lst _ xs,.int i=>match rj xs i with|some d=>.ok d|none=>.bad
 |.tup xs,.int i=>match rj xs i with|some d=>.ok d|none=>.bad
 |.str z,.int i=>if z.length<=16777216 then match rj z.cps.toList i with|some c=>.ok (.str ⟨#[c]⟩)|none=>.bad else .bad
 |_,_=>.bad
def ak.rj {S:Addr->Prop}{i:Int}(r:ak K B S H xs vs f)(e:rj xs i=some d):∃ v g,L2.rj vs i=some v/\Rep K B S H d v g/\List.Sublist g f:=by
 unfold L2.rj at e ⊢;rw[r.length]at e;cases z:Ey vs.length i with
 |none=>rw[z]at e;cases e
 | some j =>
  rw[z]at e;obtain⟨v,g,h1,h2,h3⟩:=r.get (i:=j) e;exact⟨v,g,h1,h2,h3⟩
def LF:pD K Y (L4 K) bG:=by
 intro H0 B0 B H σ τ P F d1 d2 x y f1 f2 Q I r1 r2 k h;unfold bG at h;split at h
 ·obtain⟨rfl,rfl⟩:=r2;obtain⟨a,vs,g,rfl,q,l,s⟩:=r1.lst I;split at h
  ·rename_i d e;obtain⟨v,g',e1,r',s'⟩:=l.rj e;exact .inl ⟨a,vs,_,v,rfl,rfl,eZ q,e1,Out.pZ h I r' (k.left.sub (s'.trans s))⟩
  ·exact h.elim
 ·obtain⟨rfl,rfl⟩:=r2;obtain⟨a,vs,rfl,q,l⟩:=r1.tp;split at h
  ·rename_i d e;obtain⟨v,g',e1,r',s'⟩:=l.rj e;exact .inr (.inl ⟨a,vs,_,v,rfl,rfl,q,e1,Out.pZ h I r' (k.left.sub s')⟩)
  ·exact h.elim
 ·obtain⟨rfl,rfl⟩:=r2;obtain⟨rfl,rfl⟩:=r1;split at h
  ·rename_i hl;split at h
   ·rename_i c e;exact .inr (.inr ⟨_,_,c,rfl,rfl,Hw hl,e,Out.here h I ⟨rfl,rfl⟩⟩)
   ·exact h.elim
  ·exact h.elim
 ·exact h.elim
def oH.later{Q:Bool->Hp->Prop}{r:Res Bool}(h:oH K Y H0 B0 B H σ τ P F Q r)(sH:aw H H1)(sB:aw B B1):oH K Y H0 B0 B1 H1 σ τ P F Q r:=by
 cases r with
 |ok d=>exact λ H' B' I s b=>h H' B' I (sH.trans s) (sB.trans b)
 |fY C=>exact jD.later h sH sB λ _ x=>x
 |bad=>exact h
def kF.seq {f:SD->Res Bool}{Q':Bool->Hp->Prop}{g:Bool->Res Bool}{Q:Bool->Hp->Prop}(I:SI K H0 B0 B H σ τ P F)(h:oH K Y H0 B0 B H σ τ P F Q ((f τ).bind g))
  (k:∀ d H1 B1,SI K H0 B0 B1 H1 σ τ P F->oH K Y H0 B0 B1 H1 σ τ P F Q (g d)->Q' d H1):kF K Y f σ H Q':=by
 refine⟨H0,B0,B,τ,P,F,I,?_⟩;cases e:f τ with
 |ok d=>rw[e]at h;exact λ H1 B1 I1 s1 b1=>k d H1 B1 I1 (oH.later h s1 b1)
 |fY C=>rw[e]at h;exact h|bad=>rw[e]at h;exact h
def kF.LC {f:SD->Res Bool}{Q':Bool->Hp->Prop}{g:Bool->Res D}(I:SI K H0 B0 B H σ τ P F)(h:Goal K Y H0 B0 B H σ τ P F Q ((f τ).bind g))
  (k:∀ d H1 B1,SI K H0 B0 B1 H1 σ τ P F->Goal K Y H0 B0 B1 H1 σ τ P F Q (g d)->Q' d H1):kF K Y f σ H Q':=by
 refine⟨H0,B0,B,τ,P,F,I,?_⟩;cases e:f τ with
 |ok d=>rw[e]at h;exact λ H1 B1 I1 s1 b1=>k d H1 B1 I1 (Goal.later h s1 b1)
 |fY C=>rw[e]at h;exact h|bad=>rw[e]at h;exact h
def fZ (f:SD->Res Bool)(τ:SD):Res Bool:=(f τ).bind λ b=>.ok (!b)
def gD (f g:SD->Res Bool)(τ:SD):Res Bool:=(f τ).bind λ b=>if b=true then g τ else .ok false
def sd (f g:SD->Res Bool)(τ:SD):Res Bool:=(f τ).bind λ b=>if b=true then .ok true else g τ
def jF (ha:PT X a (kF X.K Y ga)):PT X (.UnaryOp .Not a pos) (kF X.K Y (fZ ga)):=
 PT.imp (G9 ha) λ σ H Q hq=>ex8 hq λ H0 B0 B τ P F I h=>kF.seq I h λ d H1 B1 I1 h1=>h1 H1 B1 I1 (aw.refl _) (aw.refl _)
def PW.imp{t t':TT}(h:PW X e t)(hi:∀ σ H Q,t' σ H Q->t σ H Q):PW X e t':=λ wh pins s σ H Q I hw=>h wh pins s σ H Q I (hi σ H Q hw)
def mO (ha:PT X a (kF X.K Y ga)):PW X (.BoolOp .And [a] pos) (kF X.K Y ga):=D8 ha
def HC (ha:PT X a (kF X.K Y ga)):PW X (.BoolOp .Or [a] pos) (kF X.K Y ga):=GY ha
def p5(ha:PT X a (kF X.K Y ga))(hb:PW X (.BoolOp .And (b::rest) pos) (kF X.K Y gb)):PW X (.BoolOp .And (a::b::rest) pos) (kF X.K Y (gD ga gb)):=
 PW.imp (G4 ha hb) λ σ H Q hq=>ex8 hq λ H0 B0 B τ P F I h=>kF.seq I h λ d H1 B1 I1 h1=>by
  cases d with
  |true=>rw[MO rfl]at h1 ⊢;exact⟨H0,B0,B1,τ,P,F,I1,h1⟩| false=>rw[MP MH]at h1 ⊢;exact h1 H1 B1 I1 (aw.refl _) (aw.refl _)
def JZ(ha:PT X a (kF X.K Y ga))(hb:PW X (.BoolOp .Or (b::rest) pos) (kF X.K Y gb)):PW X (.BoolOp .Or (a::b::rest) pos) (kF X.K Y (sd ga gb)):=
 PW.imp (JF ha hb) λ σ H Q hq=>ex8 hq λ H0 B0 B τ P F I h=>kF.seq I h λ d H1 B1 I1 h1=>by
  cases d with
  |true=>rw[MO rfl]at h1 ⊢;exact h1 H1 B1 I1 (aw.refl _) (aw.refl _)|false=>rw[MP MH]at h1 ⊢;exact⟨H0,B0,B1,τ,P,F,I1,h1⟩
def t7 (c:SD->Res Bool)(f g:SD->Res D)(τ:SD):Res D:=(c τ).bind λ b=>if b=true then f τ else g τ
def LD (hc:PT X c (kF X.K Y ga))(ha:PE X a (tM X.K Y fa))(hb:PE X b (tM X.K Y fb)):PE X (.IfExp c a b pos) (tM X.K Y (t7 ga fa fb)):=
 PE.imp (Bm hc ha hb) λ σ H Q hq=>ex8 hq λ H0 B0 B τ P F I h=>kF.LC I h λ d H1 B1 I1 h1=>by
  cases d with
  |true=>rw[MO rfl]at h1 ⊢;exact⟨H0,B0,B1,τ,P,F,I1,h1⟩| false=>rw[MP MH]at h1 ⊢;exact⟨H0,B0,B1,τ,P,F,I1,h1⟩
def iy (f g:SD->Res D)(τ:SD):Res D:=(f τ).bind λ d=>(rA d).bind λ b=>if b=true then g τ else .ok (.bl false)
def j8 (f:SD->Res D)(τ:SD):Res D:=(f τ).bind λ d=>(rA d).bind λ b=>.ok (.bl (!b))
def se{g:Bool->Res D}(r:Rep K B (· ∈ P) H d v f)(h:Goal K Y H0 B0 B H σ τ P F Q ((rA d).bind g)):∃ c,v=.bl c/\f=[]/\Goal K Y H0 B0 B H σ τ P F Q (g c):=by
 cases d with
 |bl c=>exact⟨c,r.1,r.2,h⟩| _=>exact h.elim
def B6 {op}(h:PE X a (tM X.K Y fa)):PE X (.BoolOp op [a] pos) (tM X.K Y fa):=G1 h
def yL(ha:PE X a (tM X.K Y fa))(hb:PE X (.BoolOp .And (b::rest) pos) (tM X.K Y fb)):PE X (.BoolOp .And (a::b::rest) pos) (tM X.K Y (iy fa fb)):=
 PE.imp (GL ha hb) λ σ H Q hq=>ex8 hq λ H0 B0 B τ P F I h=>tM.seq I h λ d v H1 B1 fp _ I1 _ _ r1 _ h1=>by
  obtain⟨c,rfl,_,h2⟩:=se r1 h1;refine⟨c,rfl,?_⟩;cases c with
  |true=>rw[MO rfl]at h2 ⊢;exact⟨H0,B0,B1,τ,P,F,I1,h2⟩| false=>rw[MP MH]at h2 ⊢;exact Out.here h2 I1 ⟨rfl,rfl⟩
def JX (ha:PE X a (tM X.K Y fa)):PE X (.UnaryOp .Not a pos) (tM X.K Y (j8 fa)):=
 PE.imp (Ha ha) λ σ H Q hq=>ex8 hq λ H0 B0 B τ P F I h=>tM.seq I h λ d v H1 B1 fp _ I1 _ _ r1 _ h1=>by
  obtain⟨c,rfl,_,h2⟩:=se r1 h1;exact⟨c,rfl,Out.here h2 I1 ⟨rfl,rfl⟩⟩
def ki (g:D->Res D)(f:SD->Res D)(τ:SD):Res D:=(f τ).bind g
def i0:D->Res D|.int i=>.ok (.int (-i))|_=>.bad
def Gk (ha:PE X a (tM X.K Y fa)):PE X (.UnaryOp .USub a pos) (tM X.K Y (ki i0 fa)):=
 PE.imp (Jo GP ha) λ σ H Q hq=>ex8 hq λ H0 B0 B τ P F I h=>tM.seq I h λ d v H1 B1 fp _ I1 _ _ r1 _ h1=>by
  cases d with
  |int i=>exact⟨i,r1.1,Out.here h1 I1 ⟨rfl,rfl⟩⟩| _=>exact h1.elim
def ah (_:SD):Res (List D):=.ok []
def ae (f:SD->Res D)(g:SD->Res (List D))(τ:SD):Res (List D):=(f τ).bind λ d=>(g τ).bind λ ds=>.ok (d::ds)
variable{fs:SD->Res (List D)}
def cQ:PA X [] (pC X.K Y ah):=PA.imp jC λ σ H Q hq=>ex8 hq λ H0 B0 B τ P F I h=>h [] H B [] I (aw.refl _) (aw.refl _) ⟨rfl,rfl⟩ fM.nil
def aK (ha:PE X e (tM X.K Y fe))(hr:PA X es (pC X.K Y fs))(hs:starEach (e::es) X.env=(false,eval e X.env)::starEach es X.env:=by rfl):PA X (e::es) (pC X.K Y (ae fe fs)):=by
 refine PA.imp (gm ha hr hs) λ σ H Q hq=>ex8 hq λ H0 B0 B τ P F I h=>?_;refine⟨H0,B0,B,τ,P,F,I,?_⟩;unfold ae at h;cases z:fe τ with
 |fY C=>rw[z]at h;exact h|bad=>rw[z]at h;exact h
 | ok d =>
  rw[z]at h;intro v H1 B1 fp I1 s1 b1 r1 k1;refine⟨H0,B0,B1,τ,P,_,I1.hold k1,?_⟩;cases y:fs τ with
  |fY C=>rw[y]at h;exact jD.later h s1 b1 λ a x=>.inr x
  |bad=>rw[y]at h;exact h
  | ok ds =>
   rw[y]at h;intro vs H2 B2 fq I2 s2 b2 r2 k2;exact h (v::vs) H2 B2 (fp++fq) (I2.nP λ a x=>.inr x) (s1.trans s2) (b1.trans b2) ⟨v,vs,fp,fq,rfl,r1.mono s2 b2 (λ _ x=>x),r2,rfl⟩ (k1.both s2 I2 k2)
def pC.seq {f:SD->Res (List D)}{Q':List V->Hp->Prop}{g:List D->Res D}(I:SI K H0 B0 B H σ τ P F)(h:Goal K Y H0 B0 B H σ τ P F Q ((f τ).bind g))
  (k:∀ ds vs H1 B1 fp,f τ=.ok ds->SI K H0 B0 B1 H1 σ τ P F->aw H H1->aw B B1->ak K B1 (· ∈ P) H1 ds vs fp->fM H0 B1 H1 P F fp->Goal K Y H0 B0 B1 H1 σ τ P F Q (g ds)->Q' vs H1):pC K Y f σ H Q':=by
 refine⟨H0,B0,B,τ,P,F,I,?_⟩;cases e:f τ with
 | ok d =>
  rw[e]at h;intro v H1 B1 fp I1 s1 b1 r1 k1;exact k d v H1 B1 fp e I1 s1 b1 r1 k1 (Goal.later h s1 b1)
 |fY C=>rw[e]at h;exact h|bad=>rw[e]at h;exact h
def fD (ds:List D):Res D:=if ds.length<=16777216 then .ok (.tup ds) else .bad
def dm (ds:List D):Res D:=if ds.length<=16777216 then .ok (.lst .own ds) else .bad
def eA (g:List D->Res D)(f:SD->Res (List D))(τ:SD):Res D:=(f τ).bind g
def mQ {x1}(h:PA X es (pC X.K Y fs)):PE X (.Tuple es x1 pos) (tM X.K Y (eA fD fs)):=
 PE.imp (GZ h) λ σ H Q hq=>ex8 hq λ H0 B0 B τ P F I h=>pC.seq I h λ ds vs H1 B1 fp _ I1 _ _ r1 k1 h1=>by
  unfold fD at h1;split at h1
  ·rename_i hl;exact⟨by rw[<-r1.length];exact Hw hl,λ p hp=>Out.BU h1 I1 r1 k1 hp⟩
  ·exact h1.elim
def iw (h:PA X es (pC X.K Y fs)):PE X (.List es pos) (tM X.K Y (eA dm fs)):=
 PE.imp (Hd h) λ σ H Q hq=>ex8 hq λ H0 B0 B τ P F I h=>pC.seq I h λ ds vs H1 B1 fp _ I1 _ _ r1 k1 h1=>by
  unfold dm at h1;split at h1
  ·rename_i hl;exact⟨by rw[<-r1.length];exact Hw hl,λ p hp=>Out.tX h1 I1 r1 k1 hp⟩
  ·exact h1.elim
def jV (K:PySem.W.Frag)(Y:XY)(r:List V->Hp->VK->Prop)(g:List D->Res D):Prop:=∀ {H0 B0 B H:Hp}{σ:L2.St}{τ:SD}{P:List Addr}{F:Addr->Prop}{ds:List D}{vs:List V}{f:List Addr}{Q:VK},
 SI K H0 B0 B H σ τ P F->ak K B (· ∈ P) H ds vs f->fM H0 B H P F f->Goal K Y H0 B0 B H σ τ P F Q (g ds)->r vs H Q
def EN{id:String}{r:List V->Hp->VK->Prop}{g:List D->Res D}(hc:eE X (.builtin id) r)(hgd:jV X.K Y r g)(hg:Gl X x)(hm:X.mg x=none)(hv:bootBuiltins x=some (.builtin id))(ha:PA X (e::es) (pC X.K Y fs))(hn:x ≠ "__name__" :=by decide)(hdb:(x == ("__debug__" : Str))=false:=by decide)
  (he:starEach (e::es) X.env=(false,eval e X.env)::starEach es X.env:=by rfl) (hpl:(backTo pos (starEach es X.env)).any (·.1)=false:=by rfl) :
  PE X (.Call (.Name x p) (e::es) [] pos) (tM X.K Y (eA g fs)):=
 PE.imp (pM hc hg hm hv ha hn hdb he hpl) λ σ H Q hq=>ex8 hq λ H0 B0 B τ P F I h=>pC.seq I h λ ds vs H1 B1 fp _ I1 _ _ r1 k1 h1=>hgd I1 r1 k1 h1
def BZ{r:List V->Hp->VK->Prop}{g:List D->Res D}(hc:eE X (.type T) r)(hgd:jV X.K Y r g)(hg:Gl X x)(hm:X.mg x=none)(hv:bootBuiltins x=some (.type T))(ha:PA X (e::es) (pC X.K Y fs))(hn:x ≠ "__name__" :=by decide)(hdb:(x == ("__debug__" : Str))=false:=by decide)
  (he:starEach (e::es) X.env=(false,eval e X.env)::starEach es X.env:=by rfl) (hpl:(backTo pos (starEach es X.env)).any (·.1)=false:=by rfl) :
  PE X (.Call (.Name x p) (e::es) [] pos) (tM X.K Y (eA g fs)):=
 PE.imp (zU hc hg hm hv ha hn hdb he hpl) λ σ H Q hq=>ex8 hq λ H0 B0 B τ P F I h=>pC.seq I h λ ds vs H1 B1 fp _ I1 _ _ r1 k1 h1=>hgd I1 r1 k1 h1
def iO {S:Addr->Prop}(r:ak K B S H [d] vs f):∃ v,vs=[v]/\Rep K B S H d v f:=by
 obtain⟨v,w,f1,f2,rfl,r1,r2,rfl⟩:=r;obtain⟨rfl,rfl⟩:=r2;exact⟨v,rfl,by rw[Nh];exact r1⟩
def BY {S:Addr->Prop}{e:D}(r:ak K B S H [d,e] vs f):∃ v u f1 f2,vs=[v,u]/\f=f1++f2/\Rep K B S H d v f1/\Rep K B S H e u f2:=by
 obtain⟨v,w,f1,f2,rfl,r1,r2,rfl⟩:=r;obtain⟨u,rfl,r3⟩:=iO r2;exact⟨v,u,f1,f2,rfl,rfl,r1,r3⟩
def c5:List D->Res D
 |[.lst _ xs]=>.ok (.int xs.length)
 |[.tup xs]=>.ok (.int xs.length)
 |[.str z]=>if z.length<=16777216 then .ok (.int z.length) else .bad
 |_=>.bad
abbrev JY (K:PySem.W.Frag):List V->Hp->VK->Prop:=λ xs H Q=>(∃ p ys,xs=[.ref p]/\(dR K H p ys\/jd K H p ys)/\Q (.int ys.length) H)\/∃ z,xs=[.str z]/\z.length<=sizeLine/\Q (.int z.length) H
def cF:eE X (.builtin "len") (JY X.K):=eE.or tP tQ
def iK:jV K Y (JY K) c5:=by
 intro H0 B0 B H σ τ P F ds vs f Q I r k h;unfold c5 at h;split at h
 ·obtain⟨v,rfl,r'⟩:=iO r;obtain⟨a,ws,g,rfl,q,l,s⟩:=r'.lst I;refine .inl ⟨a,ws,rfl,.inl (eZ q),?_⟩;rw[<-l.length];exact Out.here h I ⟨rfl,rfl⟩
 ·obtain⟨v,rfl,r'⟩:=iO r;obtain⟨a,ws,rfl,q,l⟩:=r'.tp;refine .inl ⟨a,ws,rfl,.inr q,?_⟩;rw[<-l.length];exact Out.here h I ⟨rfl,rfl⟩
 ·obtain⟨v,rfl,r'⟩:=iO r;obtain⟨rfl,rfl⟩:=r';split at h
  ·rename_i hl;exact .inr ⟨_,rfl,Hw hl,Out.here h I ⟨rfl,rfl⟩⟩
  ·exact h.elim
 ·exact h.elim
def d7:List D->Res D|[.int i,.int j]=>.ok (.int (if j>i then j else i))|_=>.bad
def eF:List D->Res D|[.int i,.int j]=>.ok (.int (if j<i then j else i))|_=>.bad
def p7:jV K Y (λ xs H Q=>∃ i j,xs=[.int i,.int j]/\Q (.int (if j>i then j else i)) H) d7:=by
 intro H0 B0 B H σ τ P F ds vs f Q I r k h;unfold d7 at h;split at h
 ·obtain⟨v,u,f1,f2,rfl,rfl,⟨rfl,rfl⟩,⟨rfl,rfl⟩⟩:=BY r;exact⟨_,_,rfl,Out.here h I ⟨rfl,rfl⟩⟩
 ·exact h.elim
def t6:jV K Y (λ xs H Q=>∃ i j,xs=[.int i,.int j]/\Q (.int (if j<i then j else i)) H) eF:=by
 intro H0 B0 B H σ τ P F ds vs f Q I r k h;unfold eF at h;split at h
 ·obtain⟨v,u,f1,f2,rfl,rfl,⟨rfl,rfl⟩,⟨rfl,rfl⟩⟩:=BY r;exact⟨_,_,rfl,Out.here h I ⟨rfl,rfl⟩⟩
 ·exact h.elim
def eW:List D->Res D
 |[.lst _ xs]=>.ok (.lst .own xs)
 |[.tup xs]=>.ok (.lst .own xs)
 |_=>.bad
def BX:jV K Y (λ xs H Q=>∃ p ys,xs=[.ref p]/\(dR K H p ys\/jd K H p ys)/\∀ l,H l=none->Q (.ref l) (upd H l (.lst ys))) eW:=by
 intro H0 B0 B H σ τ P F ds vs f Q I r k h;unfold eW at h;split at h
 ·obtain⟨v,rfl,r'⟩:=iO r;obtain⟨a,ws,g,rfl,q,l,s⟩:=r'.lst I;exact⟨a,ws,rfl,.inl (eZ q),λ p hp=>Out.tX h I l (k.sub s) hp⟩
 ·obtain⟨v,rfl,r'⟩:=iO r;obtain⟨a,ws,rfl,q,l⟩:=r'.tp;exact⟨a,ws,rfl,.inr q,λ p hp=>Out.tX h I l k hp⟩
 ·exact h.elim
def b8:List D->Res D
 |[.lst _ xs]=>.ok (.tup xs)
 |[.tup xs]=>.ok (.tup xs)
 |_=>.bad
def ia:jV K Y (λ xs H Q=>∃ p ys,xs=[.ref p]/\((dR K H p ys/\∀ l,H l=none->Q (.ref l) (upd H l (.tup ys)))\/(jd K H p ys/\Q (.ref p) H))) b8:=by
 intro H0 B0 B H σ τ P F ds vs f Q I r k h;unfold b8 at h;split at h
 ·obtain⟨v,rfl,r'⟩:=iO r;obtain⟨a,ws,g,rfl,q,l,s⟩:=r'.lst I;exact⟨a,ws,rfl,.inl ⟨eZ q,λ p hp=>Out.BU h I l (k.sub s) hp⟩⟩
 ·obtain⟨v,rfl,r'⟩:=iO r;obtain⟨a,ws,rfl,q,l⟩:=r'.tp;exact⟨a,ws,rfl,.inr ⟨q,Out.pZ h I r' k⟩⟩
 ·exact h.elim
def eP (f:SD->Res D)(τ:SD):Res (Option Int):=(f τ).bind λ d=>match d with|.int i=>.ok (some i)|_=>.bad
def pe (_:SD):Res (Option Int):=.ok none
def Je (K:PySem.W.Frag)(Y:XY)(f:SD->Res (Option Int)):TO:=λ σ H Q=>∃ H0 B0 B τ P F,SI K H0 B0 B H σ τ P F/\match f τ with
 |.ok o=>∀ H' B',SI K H0 B0 B' H' σ τ P F->aw H H'->aw B B'->Q o H'
 |.fY C=>jD K Y H0 B0 B H σ τ P F C
 |.bad=>False
def PO.imp {e:Option Expr}{t t':TO}(h:PO X e t)(hi:∀ σ H Q,t' σ H Q->t σ H Q):PO X e t':=λ pins s σ H Q I hw=>h pins s σ H Q I (hi σ H Q hw)
def tY:PO X none (Je X.K Y pe):=PO.imp Et λ σ H Q hq=>ex8 hq λ H0 B0 B τ P F I h=>h H B I (aw.refl _) (aw.refl _)
def mP (h:PE X e (tM X.K Y fe)):PO X (some e) (Je X.K Y (eP fe)):=by
 refine PO.imp (EA h) λ σ H Q hq=>ex8 hq λ H0 B0 B τ P F I h=>?_;refine⟨H0,B0,B,τ,P,F,I,?_⟩;unfold eP at h;cases z:fe τ with
 |fY C=>rw[z]at h;exact h|bad=>rw[z]at h;exact h
 | ok d =>
  rw[z]at h;intro v H1 B1 fp I1 s1 b1 r1 k1;cases d with
  |int i=>exact⟨i,r1.1,h H1 B1 I1 s1 b1⟩| _=>exact h.elim
def cut(xs:List α)(lo hi:Option Int):List α:=(xs.drop (HT.eS xs.length 0 lo)).take (HT.eS xs.length xs.length hi-HT.eS xs.length 0 lo)
def ak.drop {S:Addr->Prop}:∀ (n:Nat) {xs:List D}{vs:List V}{f:List Addr},ak K B S H xs vs f->∃ g,ak K B S H (xs.drop n) (vs.drop n) g/\List.Sublist g f
 |0,xs,vs,f,r=>⟨f,r,ND _⟩
 | n+1,[],vs,f,r=>by
  obtain⟨rfl,rfl⟩:=r;exact⟨[],⟨rfl,rfl⟩,ND _⟩
 | n+1,d::ds,vs,f,r=>by
  obtain⟨v,w,f1,f2,rfl,r1,r2,rfl⟩:=r;obtain⟨g,h1,h2⟩:=ak.drop n r2;exact⟨g,h1,h2.trans (Nb _ _)⟩
def ak.take {S:Addr->Prop}:∀ (n:Nat) {xs:List D}{vs:List V}{f:List Addr},ak K B S H xs vs f->∃ g,ak K B S H (xs.take n) (vs.take n) g/\List.Sublist g f
 |0,xs,vs,f,r=>⟨[],⟨rfl,rfl⟩,List.nil_sublist _⟩
 | n+1,[],vs,f,r=>by
  obtain⟨rfl,rfl⟩:=r;exact⟨[],⟨rfl,rfl⟩,ND _⟩
 | n+1,d::ds,vs,f,r=>by
  obtain⟨v,w,f1,f2,rfl,r1,r2,rfl⟩:=r;obtain⟨g,h1,h2⟩:=ak.take n r2;exact⟨f1++g,⟨v,_,f1,g,rfl,r1,h1,rfl⟩,Qs (ND _) h2⟩
def ak.cut {S:Addr->Prop}(r:ak K B S H xs vs f)(lo hi:Option Int):∃ g,ak K B S H (cut xs lo hi) (u5 vs lo hi) g/\List.Sublist g f:=by
 unfold DL.cut u5;rw[r.length];obtain⟨g,h1,h2⟩:=r.drop (HT.eS vs.length 0 lo);obtain⟨g',h3,h4⟩:=h1.take (HT.eS vs.length vs.length hi-HT.eS vs.length 0 lo);exact⟨g',h3,h4.trans h2⟩
def cutD (d:D)(lo hi:Option Int):Res D:=match d with
 |.lst _ xs=>.ok (.lst .own (cut xs lo hi))
 |.tup xs=>if HT.eS xs.length 0 lo=0/\HT.eS xs.length xs.length hi=xs.length then .bad else .ok (.tup (cut xs lo hi))
 |_=>.bad
def fN (f:SD->Res D)(lo hi:SD->Res (Option Int))(τ:SD):Res D:=(f τ).bind λ d=>(lo τ).bind λ l=>(hi τ).bind λ u=>cutD d l u
def t8 {lo hi:Option Expr}{fl fh:SD->Res (Option Int)}{p2:Pos}(he:PE X e (tM X.K Y fe))(hl:PO X lo (Je X.K Y fl))(hu:PO X hi (Je X.K Y fh)):PE X (.Subscript e (.Slice lo hi none p2) pos) (tM X.K Y (fN fe fl fh)):=by
 refine PE.imp (u6 (D4.or Ep BC) he hl hu) λ σ H Q hq=>ex8 hq λ H0 B0 B τ P F I h=>?_;refine tM.seq I h λ d v H1 B1 fp _ I1 s1 b1 r1 k1 h1=>?_;refine⟨H0,B0,B1,τ,P,_,I1.hold k1,?_⟩;cases z:fl τ with
 |fY C=>rw[z]at h1;exact jD.later h1 (aw.refl _) (aw.refl _) λ a x=>.inr x
 |bad=>rw[z]at h1;exact h1
 | ok l =>
  rw[z]at h1;intro H2 B2 I2 s2 b2;refine⟨H0,B0,B2,τ,P,_,I2,?_⟩;cases y:fh τ with
  |fY C=>rw[y]at h1;exact jD.later h1 s2 b2 λ a x=>.inr x
  |bad=>rw[y]at h1;exact h1
  | ok u =>
   rw[y]at h1;intro H3 B3 I3 s3 b3;have I4:=I3.nP (F':=F) λ a x=>.inr x;have k4:=k1.Gm (s2.trans s3) I3;have r4:=r1.mono (s2.trans s3) (b2.trans b3) λ _ x=>x;have h4:Goal X.K Y H0 B0 B3 H3 σ τ P F Q (cutD d l u):=Goal.later h1 (s2.trans s3) (b2.trans b3);unfold cutD at h4;split at h4
   ·obtain⟨a,vs,g,rfl,q,l',s⟩:=r4.lst I4;obtain⟨g',l2,s2⟩:=l'.cut l u;exact .inl ⟨a,vs,rfl,eZ q,λ p hp=>Out.tX h4 I4 l2 (k4.sub (s2.trans s)) hp⟩
   ·obtain⟨a,vs,rfl,q,l'⟩:=r4.tp;obtain⟨g',l2,s2⟩:=l'.cut l u;split at h4
    ·exact h4.elim
    ·rename_i hc;rw[l'.length]at hc;exact .inr ⟨a,vs,rfl,q,hc,λ p hp=>Out.BU h4 I4 l2 (k4.sub s2) hp⟩
   ·exact h4.elim
end
inductive Fl where|nx (τ:SD)|rt (d:D)|bk (τ:SD)|ct (τ:SD)|ex (C:Addr)(τ:SD)|bad
abbrev SF:=SD->Fl
variable {b:SF}
def Tg.a6:Tg->Tg|.bor=>.aq|t=>t
mutual
def D.a6:D->D
 |.tup xs=>.tup (cj xs)
 |.lst t xs=>.lst t.a6 (cj xs)
 |.dct t k ks vs=>.dct t.a6 k ks (cj vs)
 |d=>d
def cj:List D->List D
 |[]=>[]
 |d::r=>d.a6::cj r
end
mutual
def vn:∀ d:D,d.aA=false->d.a6=d
 |.bJ,_=>rfl|.bl _,_=>rfl|.int _,_=>rfl|.str _,_=>rfl|.exc _,_=>rfl
 | .tup xs,h=>by
  have h:av xs=false:=h;show D.tup (cj xs)=_;rw[jm xs h]
 | .lst t xs,h=>by
  have h:(decide (t=.bor)||av xs)=false:=h;rw[OQ]at h;show D.lst t.a6 (cj xs)=_;rw[jm xs h.2];cases t<;>first|rfl|exact absurd h.1 (by decide)
 | .dct t k ks vs,h=>by
  have h:(decide (t=.bor)||av vs)=false:=h;rw[OQ]at h;show D.dct t.a6 k ks (cj vs)=_;rw[jm vs h.2];cases t<;>first|rfl|exact absurd h.1 (by decide)
def jm:∀ xs:List D,av xs=false->cj xs=xs
 |[],_=>rfl
 | d::r,h=>by
  have h:(d.aA||av r)=false:=h;rw[OQ]at h;show d.a6::cj r=_;rw[vn d h.1,jm r h.2]
end
section
variable {K:PySem.W.Frag}
mutual
def Rep.a6 {B B' H:Hp}{S:Addr->Prop}(sB:aw B B')(hs:∀ a o,S a->H a=some o->B' a=some o):∀ {d:D}{v:V}{fp:List Addr},Rep K B S H d v fp->Rep K B' No H d.a6 v fp
 |.bJ,_,_,h=>h
 |.bl _,_,_,h=>h
 |.int _,_,_,h=>h
 |.str _,_,_,h=>h
 |.exc _,_,_,h=>h
 |.tup xs,v,fp,h=>let ⟨a,vs,e,q,r⟩:=h;⟨a,vs,e,q,ak.a6 sB hs r⟩
 |.lst .own xs,v,fp,h=>let ⟨a,vs,f,e,q,r,z⟩:=h;⟨a,vs,f,e,q,ak.a6 sB hs r,z⟩
 |.lst .bor xs,v,fp,h=>let ⟨a,vs,e,q,r,z⟩:=h;⟨a,vs,e,BR sB hs q,ak.a6 sB hs r,z⟩
 |.lst .aq xs,v,fp,h=>let ⟨a,vs,e,q,r,z⟩:=h;⟨a,vs,e,dZ sB q,ak.a6 sB (λ _ _ x=>x.elim) r,z⟩
 |.lst (.len _) _,_,_,h=>h.elim
 |.dct (.len a) kd ks xs,v,fp,h=>let ⟨vs,f,e,q,r,z⟩:=h;⟨vs,f,e,q,ak.a6 sB hs r,z⟩
 |.dct .own kd ks xs,v,fp,h=>let ⟨a,vs,f,e,q,r,z⟩:=h;⟨a,vs,f,e,q,ak.a6 sB hs r,z⟩
 |.dct .bor kd ks xs,v,fp,h=>let ⟨a,vs,e,q,r,z⟩:=h;⟨a,vs,e,k7 sB hs q,ak.a6 sB hs r,z⟩
 |.dct .aq kd ks xs,v,fp,h=>let ⟨a,vs,e,q,r,z⟩:=h;⟨a,vs,e,q.mono sB,ak.a6 sB (λ _ _ x=>x.elim) r,z⟩
def ak.a6 {B B' H:Hp}{S:Addr->Prop}(sB:aw B B')(hs:∀ a o,S a->H a=some o->B' a=some o):∀ {ds:List D}{vs:List V}{fp:List Addr},ak K B S H ds vs fp->ak K B' No H (cj ds) vs fp
 |[],_,_,h=>h
 |d::ds,vs,fp,h=>let ⟨v,r,f,g,e,h1,h2,z⟩:=h;⟨v,r,f,g,e,Rep.a6 sB hs h1,ak.a6 sB hs h2,z⟩
end
def mR (H H':Hp):Prop:=∀ a o,H a=some o->¬ rq o->H' a=some o
def mR.of(s:aw H H'):mR H H':=λ a o h _=>s a o h
def mR.refl (H:Hp):mR H H:=λ _ _ h _=>h
def mR.trans {H2:Hp}(a:mR H H1)(b:mR H1 H2):mR H H2:=λ x o h n=>b x o (a x o h n) n
structure j9 (K:PySem.W.Frag)(H0 B0 B H:Hp)(B' H':Hp)(σ':L2.St)(τ':SD)(P':List Addr):Prop where
 si:SI K H0 B0 B' H' σ' τ' P' No
 b:aw B B'
 Ba:mR H H'
structure oK (K:PySem.W.Frag)(H0 B0 B' H':Hp)(d:D)(v:V)(fp:List Addr):Prop where
 h0:aw H0 H'
 b0:aw B0 B'
 bh:aw B' H'
 nb:∀ a,B' a≠none->B0 a≠none\/H0 a=none
 rep:Rep K B' No H' d v fp
 nd:fp.Nodup
 own:∀ a∈fp,B' a=none/\H0 a=none/\H' a≠none
def Mb (K:PySem.W.Frag)(H0 B0:Hp)(E:Ends):D->Prop
 |.tup [r,x]=>∀ B' H' v u f1 f2,oK K H0 B0 B' H' r v f1->Rep K B' No H' x u f2->(f1++f2).Nodup->(∀ b∈f2,B' b=none/\H0 b=none/\H' b≠none)->E.rt v H'
 |_=>False
def cI (K:PySem.W.Frag)(Y:XY)(H0 B0 B H:Hp)(E:Ends):Fl->Prop
 |.nx τ'=>∀ B' H' σ' P',j9 K H0 B0 B H B' H' σ' τ' P'->E.nx σ' H'
 |.bk τ'=>∀ B' H' σ' P',j9 K H0 B0 B H B' H' σ' τ' P'->E.bk σ' H'
 |.ct τ'=>∀ B' H' σ' P',j9 K H0 B0 B H B' H' σ' τ' P'->E.ct σ' H'
 |.ex C τ'=>∀ B' H' σ' P',j9 K H0 B0 B H B' H' σ' τ' P'->Y C σ' H'
 | .rt d=>match Y.ln with
  |false=>∀ B' H' v fp,oK K H0 B0 B' H' d v fp->E.rt v H'
  |true=>Mb K H0 B0 E d
 |.bad=>False
def kj (K:PySem.W.Frag)(Y:XY)(g:SF):TS:=λ E σ H=>∃ H0 B0 B τ P,SI K H0 B0 B H σ τ P No/\cI K Y H0 B0 B H E (g τ)
variable{E:Ends}
def j9.refl (I:SI K H0 B0 B H σ τ P No):j9 K H0 B0 B H B H σ τ P:=⟨I,aw.refl _,mR.refl _⟩
def j9.grow(I:SI K H0 B0 B' H' σ τ P No)(sB:aw B B')(sH:aw H H'):j9 K H0 B0 B H B' H' σ τ P:=⟨I,sB,mR.of sH⟩
def j9.trans {B2 H2:Hp}{σ1 σ2:L2.St}{τ1 τ2:SD}{P1 P2:List Addr}(a:j9 K H0 B0 B H B1 H1 σ1 τ1 P1)(b:j9 K H0 B0 B1 H1 B2 H2 σ2 τ2 P2):j9 K H0 B0 B H B2 H2 σ2 τ2 P2:=⟨b.si,a.b.trans b.b,a.Ba.trans b.Ba⟩
def cI.later{σ1:L2.St}{τ1:SD}{P1:List Addr}{r:Fl}(h:cI K Y H0 B0 B H E r)(a:j9 K H0 B0 B H B1 H1 σ1 τ1 P1):cI K Y H0 B0 B1 H1 E r:=by
 cases r with
 |nx τ'=>exact λ B' H' σ' P' b=>h B' H' σ' P' (a.trans b)
 |bk τ'=>exact λ B' H' σ' P' b=>h B' H' σ' P' (a.trans b)
 |ct τ'=>exact λ B' H' σ' P' b=>h B' H' σ' P' (a.trans b)
 |ex C τ'=>exact λ B' H' σ' P' b=>h B' H' σ' P' (a.trans b)
 |rt d=>exact h|bad=>exact h
def cI.rt(hl:Y.ln=false)(h:cI K Y H0 B0 B H E (.rt d)):∀ B' H' v fp,oK K H0 B0 B' H' d v fp->E.rt v H':=by
 have h:(match Y.ln with|false=>∀ B' H' v fp,oK K H0 B0 B' H' d v fp->E.rt v H'|true=>Mb K H0 B0 E d):=h;rw[hl]at h;exact h
def Fl.andThen (r:Fl)(s:SF):Fl:=match r with|.nx τ=>s τ|r=>r
def aE (a b:SF)(τ:SD):Fl:=(a τ).andThen b
def aV (τ:SD):Fl:=.nx τ
variable{rest:List Stmt}{g g1 g2:SF}
def bF:mF X [] (kj X.K Y aV):=mF.imp Ei λ E σ H hq=>ex7 hq λ H0 B0 B τ P I h=>h B H σ P (j9.refl I)
def aB (h:PS X st (kj X.K Y g)):mF X [st] (kj X.K Y g):=D9 h
def ao (h1:PS X st (kj X.K Y g1))(h2:mF X rest (kj X.K Y g2)):mF X (st::rest) (kj X.K Y (aE g1 g2)):=by
 refine mF.imp (Bk h1 h2) λ E σ H hq=>ex7 hq λ H0 B0 B τ P I h=>⟨H0,B0,B,τ,P,I,?_⟩;unfold aE at h;cases e:g1 τ with
 |nx τ'=>rw[e]at h;exact λ B' H' σ' P' a=>⟨H0,B0,B',τ',P',a.si,cI.later h a⟩
 |bk τ'=>rw[e]at h;exact h|ct τ'=>rw[e]at h;exact h|ex C τ'=>rw[e]at h;exact h|rt d=>rw[e]at h;exact h|bad=>rw[e]at h;exact h
def cR (_:SD):Fl:=.bad
def k8:PS X st (kj X.K Y cR):=λ _ _ _ _ _ _ ⟨_,_,_,_,_,_,h⟩=>h.elim
def Res.kc (τ:SD)(r:Res D)(k:D->Fl):Fl:=match r with|.ok d=>k d|.fY C=>.ex C τ|.bad=>.bad
def Res.qa (τ:SD)(r:Res Bool)(k:Bool->Fl):Fl:=match r with|.ok d=>k d|.fY C=>.ex C τ|.bad=>.bad
def mS {f:SD->Res D}{k:D->Fl}(I:SI K H0 B0 B H σ τ P No)(h:cI K Y H0 B0 B H E ((f τ).kc τ k))
  (c:∀ d v H1 B1 fp,f τ=.ok d->SI K H0 B0 B1 H1 σ τ P No->aw H H1->aw B B1->Rep K B1 (· ∈ P) H1 d v fp->fM H0 B1 H1 P No fp->cI K Y H0 B0 B1 H1 E (k d)->Q v H1):tM K Y f σ H Q:=by
 refine⟨H0,B0,B,τ,P,No,I,?_⟩;cases e:f τ with
 | ok d =>
  rw[e]at h;intro v H1 B1 fp I1 s1 b1 r1 k1;exact c d v H1 B1 fp e I1 s1 b1 r1 k1 (cI.later h (j9.grow I1 b1 s1))
 |fY C=>rw[e]at h;exact λ H1 B1 I1 s1 b1=>h B1 H1 σ P (j9.grow I1 b1 s1)
 |bad=>rw[e]at h;exact h
def Gn {f:SD->Res Bool}{k:Bool->Fl}{Q:Bool->Hp->Prop}(I:SI K H0 B0 B H σ τ P No)(h:cI K Y H0 B0 B H E ((f τ).qa τ k))
  (c:∀ d H1 B1,f τ=.ok d->SI K H0 B0 B1 H1 σ τ P No->aw H H1->aw B B1->cI K Y H0 B0 B1 H1 E (k d)->Q d H1):kF K Y f σ H Q:=by
 refine⟨H0,B0,B,τ,P,No,I,?_⟩;cases e:f τ with
 |ok d=>rw[e]at h;exact λ H1 B1 I1 s1 b1=>c d H1 B1 e I1 s1 b1 (cI.later h (j9.grow I1 b1 s1))
 |fY C=>rw[e]at h;exact λ H1 B1 I1 s1 b1=>h B1 H1 σ P (j9.grow I1 b1 s1)
 |bad=>rw[e]at h;exact h
variable {c:Expr}
def d8 (f:SD->Res D)(τ:SD):Fl:=(f τ).kc τ λ _=>.nx τ
def qb (he:PE X e (tM X.K Y fe))(hs:swapsWith e none pos.line X.env=pure false:=by rfl):PS X (.Expr e pos) (kj X.K Y (d8 fe)):=
 PS.imp (kX he hs) λ E σ H hq=>ex7 hq λ H0 B0 B τ P I h=>mS I h λ d v H1 B1 fp _ I1 _ _ _ _ h1=>h1 B1 H1 σ P (j9.refl I1)
def dS (c:SD->Res Bool)(a b:SF)(τ:SD):Fl:=(c τ).qa τ λ t=>if t=true then a τ else b τ
def eG {a b:List Stmt}(hc:PT X c (kF X.K Y gc))(ha:mF X a (kj X.K Y g1))(hb:mF X b (kj X.K Y g2)):PS X (.If c a b pos) (kj X.K Y (dS gc g1 g2)):=
 PS.imp (Jk hc ha hb) λ E σ H hq=>ex7 hq λ H0 B0 B τ P I h=>Gn I h λ d H1 B1 _ I1 _ _ h1=>by
  cases d with
  |true=>rw[MO rfl]at h1 ⊢;exact⟨H0,B0,B1,τ,P,I1,h1⟩| false=>rw[MP MH]at h1 ⊢;exact⟨H0,B0,B1,τ,P,I1,h1⟩
def atRest (B H:Hp)(S:Addr->Prop):Hp:=λ a=>by classical exact if S a then H a else B a
def eV {S:Addr->Prop}(h:aw B H):aw B (atRest B H S):=λ a o e=>by
 unfold atRest;split
 ·exact h a o e
 ·exact e
def ib {S:Addr->Prop}(s:S a)(h:H a=some o):atRest B H S a=some o:=by unfold atRest;rw[MO s];exact h
def jG {S:Addr->Prop}(h:aw B H):aw (atRest B H S) H:=λ a o e=>by
 unfold atRest at e;split at e
 ·exact e
 ·exact h a o e
def gE {S:Addr->Prop}(s:¬ S a):atRest B H S a=B a:=by unfold atRest;rw[MP s]
def bu (f:SD->Res D)(τ:SD):Fl:=(f τ).kc τ λ d=>.rt d.a6
def B8(I:SI K H0 B0 B H σ τ P F)(r:Rep K B (· ∈ P) H d v fp)(k:fM H0 B H P F fp):oK K H0 B0 (atRest B H (· ∈ P)) H d.a6 v fp where
 h0:=I.h0
 b0:=I.b0.trans (eV I.bh)
 bh:=jG I.bh
 nb:=λ a n=>by
  by_cases m:a∈P
  ·exact .inr (I.own a m).2.1
  ·rw[gE m]at n;exact I.nb a n
 rep:=r.a6 (eV I.bh) λ a o s h=>ib s h
 nd:=k.nd
 own:=λ a m=>let ⟨a1,a2,a3,a4,_⟩:=k.own a m;⟨by rw[gE a4];exact a1,a2,a3⟩
def bR (he:PE X e (tM X.K Y fe))(hl:Y.ln=false:=by rfl):PS X (.Return (some e) pos) (kj X.K Y (bu fe)):=
 PS.imp (wN he) λ E σ H hq=>ex7 hq λ H0 B0 B τ P I h=>mS I h λ d v H1 B1 fp _ I1 _ _ r1 k1 h1=>(cI.rt hl h1) _ H1 v fp (B8 I1 r1 k1)
def d9 (i:Nat)(τ:SD):Fl:=match τ[i]? with|some (some d)=>.rt d|_=>.bad
def p9 (i:Nat)(hN:X.N[i]?=some x:=by rfl)(hv:wR X.env.scope x:=by first|exact Or.inl rfl|exact Or.inr (Or.inl rfl)|exact Or.inr (Or.inr rfl))(hd:(x == ("__debug__" : Str))=false:=by decide)
  (hcd:(x == ("__classdict__" : Str))=false:=by decide) (hl:Y.ln=false:=by rfl):PS X (.Return (some (.Name x pos')) pos) (kj X.K Y (d9 i)):=by
 refine PS.imp (wN (gP hN hv hd hcd)) λ E σ H hq=>ex7 hq λ H0 B0 B τ P I h=>?_;unfold d9 at h;cases e:τ[i]? with
 |none=>rw[e]at h;exact h.elim
 | some o =>
  cases o with
  |none=>rw[e]at h;exact h.elim
  | some d =>
   rw[e]at h;obtain⟨v,f,h1,h2,h3⟩:=I.rep.get e;refine⟨v,h1,(cI.rt hl h) B H v f ⟨I.h0,I.b0,I.bh,I.nb,h2,I.nd.sublist h3,λ a m=>?_⟩⟩;obtain⟨a1,a2,a3⟩:=I.own a (h3.subset m);exact⟨a1,a2,I.stands (h3.subset m)⟩
def dj.length {B H:Hp}:∀ {τ:SD}{σ:L2.St}{P:List Addr},dj K B H τ σ P->τ.length=σ.length
 |[],_,_,h=>by rw[h.1];rfl
 |none::r,σ,P,h=>by obtain⟨o,t,rfl,h⟩:=h;rw[MQ,MQ,dj.length h]
 |some d::r,σ,P,h=>by obtain⟨v,t,f,g,rfl,_,h,_⟩:=h;rw[MQ,MQ,dj.length h]
def dj.cut {B H:Hp}:∀ {τ:SD}{σ:L2.St}{P:List Addr}{i:Nat},dj K B H τ σ P->i<τ.length->∃ A f C,P=A++f++C/\(∀ d,τ[i]?=some (some d)->∃ v,σ[i]?=some (some v)/\Rep K B No H d v f) /\
  ∀ {B' H':Hp}{d':D}{v':V}{f':List Addr},(∀ d v g,Rep K B No H d v g->(∀ a∈g,a∈A++C)->Rep K B' No H' d v g)->Rep K B' No H' d' v' f'->dj K B' H' (τ.set i (some d')) (σ.set i (some v')) (A++f'++C)
 |[],σ,P,i,h,hi=>absurd hi (OM _)
 | none::r,σ,P,0,h,hi=>by
  obtain⟨o,t,rfl,h⟩:=h;refine⟨[],[],P,rfl,λ d e=>by simp at e,λ {B' H' d' v' f'} hm hr=>⟨v',t,f',P,rfl,hr,?_,rfl⟩⟩
  revert hm
  have key:∀ {τ:SD}{σ:L2.St}{Q:List Addr},dj K B H τ σ Q->(∀ d v g,Rep K B No H d v g->(∀ a∈g,a∈Q)->Rep K B' No H' d v g)->dj K B' H' τ σ Q:=by
   intro τ
   induction τ with
   |nil=>intro σ Q h _;exact h
   | cons o r ih =>
    intro σ Q h hm;cases o with
    |none=>obtain⟨o,t,e,h⟩:=h;exact⟨o,t,e,ih h hm⟩
    | some d =>
     obtain⟨v,t,f,g,e,h1,h2,z⟩:=h;subst z;exact⟨v,t,f,g,e,hm d v f h1 (λ a m=>MW _ m),ih h2 (λ d v g' hr hg=>hm d v g' hr λ a m=>MT _ (hg a m)),rfl⟩
  exact λ hm=>key h hm
 | some d::r,σ,P,0,h,hi=>by
  obtain⟨v,t,f,g,rfl,h1,h2,rfl⟩:=h;refine⟨[],f,g,by simp,λ d' e=>⟨v,rfl,?_⟩,λ {B' H' d' v' f'} hm hr=>⟨v',t,f',g,rfl,hr,?_,rfl⟩⟩
  ·have e:d=d':=by simpa using e
   subst e;exact h1
  ·have key:∀ {τ:SD}{σ:L2.St}{Q:List Addr},dj K B H τ σ Q->(∀ d v g,Rep K B No H d v g->(∀ a∈g,a∈Q)->Rep K B' No H' d v g)->dj K B' H' τ σ Q:=by
    intro τ
    induction τ with
    |nil=>intro σ Q h _;exact h
    | cons o r ih =>
     intro σ Q h hm;cases o with
     |none=>obtain⟨o,t,e,h⟩:=h;exact⟨o,t,e,ih h hm⟩
     | some d =>
      obtain⟨v,t,f,g,e,h1,h2,z⟩:=h;subst z;exact⟨v,t,f,g,e,hm d v f h1 (λ a m=>MW _ m),ih h2 (λ d v g' hr hg=>hm d v g' hr λ a m=>MT _ (hg a m)),rfl⟩
   exact key h2 hm
 | none::r,σ,P,i+1,h,hi=>by
  obtain⟨o,t,rfl,h⟩:=h;obtain⟨A,f,C,e,h1,h2⟩:=dj.cut (i:=i) h (by simpa using hi);exact⟨A,f,C,e,λ d z=>h1 d (by simpa using z),λ hm hr=>⟨o,_,rfl,h2 hm hr⟩⟩
 | some d::r,σ,P,i+1,h,hi=>by
  obtain⟨v,t,f,g,rfl,r1,r2,rfl⟩:=h;obtain⟨A,f',C,e,h1,h2⟩:=dj.cut (i:=i) r2 (by simpa using hi);subst e;refine⟨f++A,f',C,by simp,λ d z=>h1 d (by simpa using z),λ {B' H' d' v' f''} hm hr=>?_⟩;refine⟨v,_,f,A++f''++C,rfl,hm d v f r1 λ a m=>by simp[m],h2 (λ d v g hr hg=>hm d v g hr λ a m=>?_) hr,by simp⟩;have:=hg a m;simp at this ⊢;rcases this with z|z
  ·exact .inr (.inl z)
  ·exact .inr (.inr z)
def SI.put{d':D}{v':V}{f':List Addr}(I:SI K H0 B0 B H σ τ P F)(hi:i<τ.length){A C:List Addr}(eP:P=A++f++C)
  (put:∀ {B' H':Hp}{d':D}{v':V}{f':List Addr},(∀ d v g,Rep K B No H d v g->(∀ a∈g,a∈A++C)->Rep K B' No H' d v g)->Rep K B' No H' d' v' f'->dj K B' H' (τ.set i (some d')) (σ.set i (some v')) (A++f'++C))
  (kp:j7 H H1 f) (r:Rep K B No H1 d' v' f') (nd:f'.Nodup) (own:∀ a∈f',a∈f\/(B a=none/\H0 a=none/\H a=none/\¬ F a)\/(a∉P/\B a=none/\H0 a=none/\¬ F a)) :
  SI K H0 B0 B H1 (σ.set i (some v')) (τ.set i (some d')) (A++f'++C) F:=by
 have nd0:=I.nd;rw[eP]at nd0;have ndA:A.Nodup:=(nd0.sublist (by simp)).sublist (Np A (f++C));have kb:∀ a o,B a=some o->a∉f:=λ a o e m=>by
  have:=(I.own a (by rw[eP];simp[m])).1;rw[e]at this;cases this
 have k0:∀ a o,H0 a=some o->a∉f:=λ a o e m=>by
  have:=(I.own a (by rw[eP];simp[m])).2.1;rw[e]at this;cases this
 have kf:∀ a,F a->a∉f:=λ a e m=>(I.own a (by rw[eP];simp[m])).2.2 e;have notin:∀ a∈f',a∉A/\a∉C:=λ a m=>by
  rcases own a m with q|q|q
  ·rw[Ni,MS]at nd0;obtain⟨n1,n2,n3⟩:=nd0;rw[MS]at n2;exact⟨λ z=>n3 a z a (by simp[q]) rfl,λ z=>n2.2.2 a q a z rfl⟩
  ·exact⟨λ z=>I.stands (a:=a) (by rw[eP];simp[z]) q.2.2.1,λ z=>I.stands (a:=a) (by rw[eP];simp[z]) q.2.2.1⟩
  ·exact⟨λ z=>q.1 (by rw[eP];simp[z]),λ z=>q.1 (by rw[eP];simp[z])⟩
 refine⟨λ a o e=>kp.keep a o (I.bh a o e) (kb a o e),λ a o e=>kp.keep a o (I.h0 a o e) (k0 a o e),I.b0,I.nb,?_,?_,λ a m=>?_,λ a m=>⟨(I.fr a m).1,λ z=>?_⟩⟩
 ·refine put (λ d v g hr hg=>hr.keep kp λ a m z=>?_) r;have h1:=hg a m;rw[Ni,MS]at nd0;obtain⟨n1,n2,n3⟩:=nd0;rw[MS]at n2;rcases M4.mp h1 with q|q
  ·exact n3 a q a (by simp[z]) rfl
  ·exact n2.2.2 a z a q rfl
 ·rw[Ni,MS]at nd0 ⊢;obtain⟨n1,n2,n3⟩:=nd0;rw[MS]at n2;refine⟨n1,MS.mpr ⟨nd,n2.2.1,λ a ha b hb e=>?_⟩,λ a ha b hb e=>?_⟩
  ·subst e;exact(notin a ha).2 hb
  ·subst e;rcases M4.mp hb with q|q
   ·exact(notin a q).1 ha
   ·exact n3 a ha a (by simp[q]) rfl
 ·rcases M4.mp m with q|q
  ·rcases M4.mp q with q|q
   ·exact I.own a (by rw[eP];simp[q])
   ·rcases own a q with q|q|q
    ·exact I.own a (by rw[eP];simp[q])
    ·exact⟨q.1,q.2.1,q.2.2.2⟩
    ·exact⟨q.2.1,q.2.2.1,q.2.2.2⟩
  ·exact I.own a (by rw[eP];simp[q])
 ·obtain⟨o,e⟩:=QA.mp (I.fr a m).2;rw[kp.keep a o e (kf a m)]at z;cases z
def j7.same(h:∀ a∈f,∃ o,H a=some o/\rq o):j7 H H f:=⟨λ _ _ h _=>h,h⟩
def c6 (A f C:List Addr):∀ a∈f,a∈A++f++C:=λ a m=>by simp[m]
def SI.set(i:Nat)(I:SI K H0 B0 B H σ τ P F)(r:Rep K B No H d v fp)(k:fM H0 B H P F fp):∃ P',SI K H0 B0 B H (σ.set i (some v)) (τ.set i (some d)) P' F/\∀ a∈P',a∈P\/a∈fp:=by
 by_cases hi:i<τ.length
 ·obtain⟨A,f,C,e,h1,h2⟩:=I.rep.cut hi;refine⟨_,I.put hi e h2 (j7.same λ a m=>I.rep.own a (by rw[e];exact c6 A f C a m)) r k.nd λ a m=>.inr (.inr ?_),λ a m=>?_⟩
  ·obtain⟨a1,a2,a3,a4,a5⟩:=k.own a m;exact⟨a4,a1,a2,a5⟩
  ·rw[e];simp at m ⊢;rcases m with m|m|m<;>simp[m]
 ·have e1:τ.set i (some d)=τ:=List.set_eq_of_length_le (by omega);have e2:σ.set i (some v)=σ:=List.set_eq_of_length_le (by rw[<-I.rep.length];omega);rw[e1,e2];exact⟨P,I,λ a m=>.inl m⟩
def jn (i:Nat)(τ:SD)(d:D):Fl:=if d.aA=true then .bad else .nx (τ.set i (some d))
def bq (i:Nat)(f:SD->Res D)(τ:SD):Fl:=(f τ).kc τ (jn i τ)
def J0(hN:X.N.Nodup)(hi:X.N[i]?=some x)(hx:Loc X.env.scope x)(he:PE X e (tM X.K Y fe))(hs:swapsWith e (some (.Name x pos')) pos.line X.env=pure false:=by rfl)(hf:X.fn x=true\/X.env.scope.names.lookup x=some .local:=by first|exact .inl rfl|exact .inr rfl) :
  PS X (.Assign [.Name x pos'] e pos) (kj X.K Y (bq i fe)):=
 PS.imp (Bv hN hi hx he hs hf) λ E σ H hq=>ex7 hq λ H0 B0 B τ P I h=>mS I h λ d v H1 B1 fp _ I1 _ _ r1 k1 h1=>by
  unfold jn at h1;split at h1
  ·exact h1.elim
  ·rename_i hb;obtain⟨P',I',_⟩:=I1.set i (r1.gY (by simpa using hb)) k1;exact h1 B1 H1 _ P' ⟨I',aw.refl _,mR.refl _⟩
def b7 (js:List Nat)(τ:SD):SD:=js.foldl (λ t j=>match t[j]? with|some (some d)=>t.set j (some d.aq)|_=>t) τ
def SI.LG (j:Nat)(I:SI K H0 B0 B H σ τ P No)(hd:τ[j]?=some (some d)):∃ B' P',aw B B'/\SI K H0 B0 B' H σ (τ.set j (some d.aq)) P' No:=by
 have hi:j<τ.length:=(MF.mp hd).1;obtain⟨A,f,C,e,h1,h2⟩:=I.rep.cut hi;obtain⟨v,e1,r1⟩:=h1 d hd;have sB:aw B (atRest B H (· ∈ f)):=eV I.bh;have nd0:=I.nd;rw[e]at nd0;have wL:∀ a∈A++C,a∉f:=λ a m z=>by
  rw[Ni,MS]at nd0;obtain⟨n1,n2,n3⟩:=nd0;rw[MS]at n2;rcases M4.mp m with q|q
  ·exact n3 a q a (by simp[z]) rfl
  ·exact n2.2.2 a z a q rfl
 have es:σ.set j (some v)=σ:=by
  refine NS λ k=>?_;by_cases hk:k=j
  ·subst hk;rw[NP (MF.mp e1).1,e1]
  ·rw[NN (NU hk)]
 have rr:=h2 (B':=atRest B H (· ∈ f)) (H':=H) (d':=d.aq) (v':=v) (f':=[]) (λ d v g hr hg=>hr.mono (aw.refl _) sB λ _ x=>x) (r1.aq sB (λ a o s=>s.elim) λ a m o ho=>ib m ho);rw[es]at rr;refine⟨atRest B H (· ∈ f),A++[]++C,sB,jG I.bh,I.h0,I.b0.trans sB,λ a n=>?_,rr,?_,λ a m=>?_,λ a m=>m.elim⟩
 ·by_cases m:a∈f
  ·exact .inr (I.own a (by rw[e];exact c6 A f C a m)).2.1
  ·rw[gE m]at n;exact I.nb a n
 ·rw[Nh];refine nd0.sublist ?_;rw[Ni];exact Qs (ND _) (Nb _ _)
 ·rw[Nh]at m;obtain⟨a1,a2,a3⟩:=I.own a (by rw[e];rcases M4.mp m with q|q<;>simp[q]);exact⟨by rw[gE (wL a m)];exact a1,a2,λ x=>x⟩
def SI.b7:∀ (js:List Nat) {B:Hp}{τ:SD}{P:List Addr},SI K H0 B0 B H σ τ P No->∃ B' P',aw B B'/\SI K H0 B0 B' H σ (DL.b7 js τ) P' No
 |[],B,τ,P,I=>⟨B,P,aw.refl _,I⟩
 | j::js,B,τ,P,I=>by
  unfold DL.b7;rw[QX];cases e:τ[j]? with
  |none=>exact SI.b7 js I
  | some o =>
   cases o with
   |none=>exact SI.b7 js I
   | some d =>
    obtain⟨B1,P1,s1,I1⟩:=I.LG j e;obtain⟨B2,P2,s2,I2⟩:=SI.b7 js I1;exact⟨B2,P2,s1.trans s2,I2⟩
def fR (js:List Nat)(g:SF)(τ:SD):Fl:=g (b7 js τ)
def Ca (js:List Nat)(h:PS X st (kj X.K Y g)):PS X st (kj X.K Y (fR js g)):=PS.imp h λ E σ H hq=>ex7 hq λ H0 B0 B τ P I h=>by
 obtain⟨B',P',s,I'⟩:=I.b7 js;exact⟨H0,B0,B',_,P',I',cI.later h (j9.grow I' s (aw.refl _))⟩
def dI (τ:SD)(i:Nat):Option (List D):=match τ[i]? with|some (some (.lst .own xs))=>some xs|_=>none
def ip(h:dI τ i=some xs):τ[i]?=some (some (.lst .own xs)):=by
 unfold dI at h;split at h
 ·rename_i e;cases h;exact e
 ·cases h
def SI.B9{xs':List D}{gp:List Addr}{vs':List V}(I:SI K H0 B0 B H σ τ P No)(hi:τ[i]?=some (some (.lst .own xs)))(ev:σ[i]?=some (some (.ref a)))
  (k:fM H0 B H P No gp)
  (items:∀ f,H a=some (.lst vs)->ak K B No H xs vs f->∃ f',ak K B No H xs' vs' f'/\(∀ b∈f',b∈f\/b∈gp)/\(f.Nodup->(∀ b∈gp,b∉f)->f'.Nodup)) (hv:H a=some (.lst vs)) :
  ∃ P',j9 K H0 B0 B H B (upd H a (.lst vs')) σ (τ.set i (some (.lst .own xs'))) P':=by
 have hi':i<τ.length:=(MF.mp hi).1;obtain⟨A,f,C,e,h1,h2⟩:=I.rep.cut hi';obtain⟨v,e1,r1⟩:=h1 _ hi;rw[ev]at e1;cases e1;obtain⟨a',ws,g,ea,hq,rl,ef⟩:=r1;cases ea;rw[hv]at hq;cases hq;subst ef;have nd0:=I.nd;rw[e]at nd0;have ndf:(a::g).Nodup:=(nd0.sublist (Np _ _)).sublist (Nb _ _);have gdis:∀ b∈gp,b∉a::g:=λ b m z=>(k.own b m).2.2.2.1 (by rw[e];exact c6 _ _ _ b z);obtain⟨f',r',s',n'⟩:=items g hv rl;obtain⟨na,ng⟩:=MZ.mp ndf;have hna:a∉f':=λ m=>(s' a m).elim na λ z=>gdis a z MD;have es:σ.set i (some (.ref a))=σ:=by
  refine NS λ k=>?_;by_cases hk:k=i
  ·subst hk;rw[NP (MF.mp ev).1,ev]
  ·rw[NN (NU hk)]
 have kp:j7 H (upd H a (.lst vs')) [a]:=⟨λ b o h n=>by rw[aU (by simpa using n)];exact h,λ b m=>by
  have:b=a:=by simpa using m
  subst this;exact⟨_,hv,trivial⟩⟩
 have kpf:j7 H (upd H a (.lst vs')) (a::g):=⟨λ b o h n=>kp.keep b o h (λ z=>n (MK.mpr (.inl (Nl.mp z)))),λ b m=>I.rep.own b (by rw[e];exact c6 _ _ _ b m)⟩;have key:=I.put (i:=i) (H1:=upd H a (.lst vs')) (d':=.lst .own xs') (v':=.ref a) (f':=a::f') hi' e h2 kpf ⟨a,vs',f',rfl,bB,r'.keep kp λ b m=>by
   have:b≠a:=λ z=>hna (z▸m);simpa using this,rfl⟩ (MZ.mpr ⟨hna,n' ng λ b m z=>gdis b m (ME _ z)⟩) λ b m=>?_
 ·rw[es]at key;exact⟨_,key,aw.refl _,λ b o h n=>kp.Ba h n⟩
 ·rcases MK.mp m with q|q
  ·exact .inl (by simp[q])
  ·rcases s' b q with z|z
   ·exact .inl (ME _ z)
   ·obtain⟨a1,a2,a3,a4,a5⟩:=k.own b z;exact .inr (.inr ⟨a4,a1,a2,a5⟩)
end
section
variable {K:PySem.W.Frag}{E:Ends}{c:Expr}
def SI.listAt(I:SI K H0 B0 B H σ τ P F)(h:τ[i]?=some (some (.lst .own xs))):∃ a vs,σ[i]?=some (some (.ref a))/\H a=some (.lst vs)/\xs.length=vs.length:=by
 obtain⟨v,f,h1,h2,h3⟩:=I.rep.get h;obtain⟨a,vs,g,rfl,q,r,z⟩:=h2;exact⟨a,vs,h1,q,r.length⟩
def ic (i:Nat)(f:SD->Res D)(τ:SD):Fl:=match dI τ i with
 |some xs=>(f τ).kc τ λ d=>if d.aA=true then .bad else if xs.length<16777216 then .nx (τ.set i (some (.lst .own (xs++[d])))) else .bad
 |none=>.bad
def yN (i:Nat)(he:PE X e (tM X.K Y fe))(hN:X.N[i]?=some x:=by rfl)(hv:wR X.env.scope x:=by first|exact Or.inl rfl|exact Or.inr (Or.inl rfl)|exact Or.inr (Or.inr rfl))(hd:(x == ("__debug__" : Str))=false:=by decide)(hcd:(x == ("__classdict__" : Str))=false:=by decide)
  (hbase:attributeBase (.Name x p1) "append" X.env (eval (.Name x p1) X.env)=eval (.Name x p1) X.env:=by rfl)
  (hfew:((backTo cpos (starEach [e] X.env)).all (λ x=>!x.1)&&(backToKw cpos (keywordEach [] X.env)).all (λ x=>x.1.isSome)
   && decide ([e].length+([]:List Keyword).length+(if ([]:List Keyword).isEmpty then 0 else 1)<30))=true:=by rfl)
  (hline:(apos.endLine == cpos.line)=true:=by rfl) (hs:starEach [e] X.env=(false,eval e X.env)::starEach [] X.env:=by rfl) (hplain:(backTo cpos (starEach [] X.env)).any (·.1)=false:=by rfl)
  (hsw:swapsWith (.Call (.Attribute (.Name x p1) "append" apos) [e] [] cpos) none pos.line X.env=pure false:=by rfl) :
  PS X (.Expr (.Call (.Attribute (.Name x p1) "append" apos) [e] [] cpos) pos) (kj X.K Y (ic i fe)):=by
 refine PS.imp (kX (yC Ob PySem.F.slot_list_append PySem.F.type_list_append nM (gP hN hv hd hcd) (gm he jC hs) hbase hfew hline hs hplain) hsw) λ E σ H hq=>ex7 hq λ H0 B0 B τ P I h=>?_;unfold ic at h;cases z:dI τ i with
 |none=>rw[z]at h;exact h.elim
 | some xs =>
  rw[z]at h;have hi:=ip z;obtain⟨a,vs,ea,ha,hl⟩:=I.listAt hi;refine⟨.ref a,ea,.inl ⟨rfl,vs,dR.of ha⟩,mS I h λ d v H1 B1 fp _ I1 s1 b1 r1 k1 h1=>?_⟩;split at h1
  ·exact h1.elim
  ·rename_i hb;split at h1
   ·rename_i hz;have ha1:=s1 a _ ha;refine⟨a,vs,v,rfl,rfl,ha1,by rw[<-hl,NH];exact hz,?_⟩;obtain⟨P',I'⟩:=I1.B9 (xs':=xs++[d]) (vs':=vs++[v]) hi ea k1 (λ f _ rl=>⟨f++fp,rl.append (ak.one (r1.gY (by simpa using hb))),λ b m=>M4.mp m,λ nf wL=>MS.mpr ⟨nf,k1.nd,λ a ha b hb e=>wL b hb (e▸ha)⟩⟩) ha1;exact h1 B1 _ σ P' I'
   ·exact h1.elim
def iz (i:Nat)(τ:SD):Fl:=match dI τ i with|some xs=>.nx (τ.set i (some (.lst .own xs.reverse)))|none=>.bad
def ak.reverse {S:Addr->Prop}:∀ {xs:List D}{vs:List V}{f:List Addr},ak K B S H xs vs f->∃ g,ak K B S H xs.reverse vs.reverse g/\f.Perm g
 |[],vs,f,r=>by obtain⟨rfl,rfl⟩:=r;exact⟨[],⟨rfl,rfl⟩,Nz _⟩
 | d::ds,vs,f,r=>by
  obtain⟨v,w,f1,f2,rfl,r1,r2,rfl⟩:=r;obtain⟨g,h1,h2⟩:=ak.reverse r2;refine⟨g++f1,?_,List.perm_append_comm.trans (h2.append_right f1)⟩;rw[PR,PR];exact h1.append (ak.one r1)
def Gq (i:Nat)(hN:X.N[i]?=some x:=by rfl)(hv:wR X.env.scope x:=by first|exact Or.inl rfl|exact Or.inr (Or.inl rfl)|exact Or.inr (Or.inr rfl))(hd:(x == ("__debug__" : Str))=false:=by decide)(hcd:(x == ("__classdict__" : Str))=false:=by decide)
  (hbase:attributeBase (.Name x p1) "reverse" X.env (eval (.Name x p1) X.env)=eval (.Name x p1) X.env:=by rfl) (hline:(apos.endLine == cpos.line)=true:=by rfl)
  (hsw:swapsWith (.Call (.Attribute (.Name x p1) "reverse" apos) [] [] cpos) none pos.line X.env=pure false:=by rfl) :
  PS X (.Expr (.Call (.Attribute (.Name x p1) "reverse" apos) [] [] cpos) pos) (kj X.K Y (iz i)):=by
 refine PS.imp (kX (By Ob PySem.F.slot_list_reverse PySem.F.type_list_reverse xf (gP hN hv hd hcd) hbase hline) hsw) λ E σ H hq=>ex7 hq λ H0 B0 B τ P I h=>?_;unfold iz at h;cases z:dI τ i with
 |none=>rw[z]at h;exact h.elim
 | some xs =>
  rw[z]at h;have hi:=ip z;obtain⟨a,vs,ea,ha,hl⟩:=I.listAt hi;refine⟨.ref a,ea,.inl ⟨rfl,vs,dR.of ha⟩,a,vs,rfl,rfl,ha,?_⟩;obtain⟨P',I'⟩:=I.B9 (xs':=xs.reverse) (vs':=vs.reverse) (gp:=[]) hi ea fM.nil (λ f _ rl=>let ⟨g,h1,h2⟩:=rl.reverse;⟨g,h1,λ b m=>.inl (h2.mem_iff.mpr m),λ nf _=>h2.nodup_iff.mp nf⟩) ha;exact h B _ σ P' I'
structure EO (K:PySem.W.Frag)(J:It)(ds:List D)(B H:Hp):Prop where
 go:∀ B' H' i d,aw B B'->aw B' H'->mR H H'->ds[i]?=some d->J.go i H'
 wQ:∀ B' H' i d x H'',aw B B'->aw B' H'->mR H H'->ds[i]?=some d->J.wQ i H' x H''->aw H' H''/\Rep K B' No H'' d x []
 stop:∀ B' H',aw B B'->aw B' H'->mR H H'->J.stop ds.length H'
def Gp (K:PySem.W.Frag)(J:It)(ds:List D)(fl:Bool)(B H:Hp)(P fp:List Addr):Prop:=
 ∀ Bx:Hp,aw B Bx->aw Bx H->(∀ a∈fp,∀ o,H a=some o->Bx a=some o)->(fl=true->∀ a∈P,∀ o,H a=some o->Bx a=some o)->EO K J (aD ds) Bx H
def Bb (K:PySem.W.Frag)(Y:XY)(f:SD->Res (Bool×List D)):TI:=λ σ H R=>∃ H0 B0 B τ P F,SI K H0 B0 B H σ τ P F/\match f τ with
 |.ok (fl,ds)=>∀ J H' B' fp,SI K H0 B0 B' H' σ τ P F->aw H H'->aw B B'->fM H0 B' H' P F fp->Gp K J ds fl B' H' P fp->R J H'
 |.fY C=>jD K Y H0 B0 B H σ τ P F C
 |.bad=>False
def PI.imp {it:Expr}{t t':TI}(h:PI X tg it t)(hi:∀ σ H R,t' σ H R->t σ H R):PI X tg it t':=λ pins s σ H R I hw=>h pins s σ H R I (hi σ H R hw)
def bx:D->Res (Bool×List D)
 |.lst t xs=>.ok ((D.lst t xs).aA,xs)
 |.tup xs=>.ok ((D.tup xs).aA,xs)
 |_=>.bad
def eY (f:SD->Res D)(τ:SD):Res (Bool×List D):=(f τ).bind bx
def HE{tl:TE}(hl:PE X l tl):PI X tg l (λ σ H R=>tl σ H λ x H1=>(∃ a,x=.ref a/\(∃ xs,dR X.K H1 a xs)/\R (K7 X.K a) H1)\/∃ a,x=.ref a/\(∃ xs,jd X.K H1 a xs)/\R (K8 X.K a) H1):=by
 intro pins s σ H R I h;refine eB (hl pins s σ H _ I h) λ v s1 hq5=>L2.ex5 hq5 λ x H1 I1 r1 q1=>?_;rcases q1 with ⟨a,e,⟨xs,hq⟩,q⟩|⟨a,e,⟨xs,hq⟩,q⟩
 ·subst e;cases r1;obtain⟨its,rv,p,hz⟩:=I1.list hq;refine QL p.isList ?_;refine⟨s1.heap.objs.size,[s1.heap.objs.size],_,_,H1,rfl,I1.kept (t':=s1.toks) λ b o e=>Mz _ e,Ac a _,⟨_,MI _ rfl,rfl,rfl⟩,λ b hb=>?_,q⟩;have e:b=s1.heap.objs.size:=by simpa using hb
  subst e;exact I1.rf (ML _) (I1.hok.fresh (ML _))
 ·subst e;cases r1;obtain⟨its,rv,p,hz⟩:=I1.tuple hq;refine PF (show s1.heap.IsTuple a its.toArray from p) ?_;refine⟨s1.heap.objs.size,[s1.heap.objs.size],_,_,H1,rfl,I1.kept (t':=s1.toks) λ b o e=>Mz _ e,wU a _,⟨_,MI _ rfl,rfl,rfl⟩,λ b hb=>?_,q⟩;have e:b=s1.heap.objs.size:=by simpa using hb
  subst e;exact I1.rf (ML _) (I1.hok.fresh (ML _))
def SI.J2(I:SI K H0 B0 B H σ τ P F)(k:fM H0 B H P F fp):SI K H0 B0 (atRest B H (· ∈ fp)) H σ τ P F/\aw B (atRest B H (· ∈ fp)):=by
 have sB:aw B (atRest B H (· ∈ fp)):=eV I.bh;refine⟨⟨jG I.bh,I.h0,I.b0.trans sB,λ a n=>?_,I.rep.mono (aw.refl _) sB,I.nd,λ a m=>?_,λ a m=>?_⟩,sB⟩
 ·by_cases m:a∈fp
  ·exact .inr (k.own a m).2.1
  ·rw[gE m]at n;exact I.nb a n
 ·obtain⟨a1,a2,a3⟩:=I.own a m;exact⟨by rw[gE λ z=>(k.own a z).2.2.2.1 m];exact a1,a2,a3⟩
 ·obtain⟨a1,a2⟩:=I.fr a m;exact⟨by rw[gE λ z=>(k.own a z).2.2.2.2 m];exact a1,a2⟩
mutual
def Rep.stay {B B' H H':Hp}(sB:aw B B')(im:mR H H'):∀ {d:D}{v:V}{fp:List Addr},fp=[]->Rep K B No H d v fp->Rep K B' No H' d v fp
 |.bJ,_,_,_,h=>h
 |.bl _,_,_,_,h=>h
 |.int _,_,_,_,h=>h
 |.str _,_,_,_,h=>h
 |.exc _,_,_,_,h=>let ⟨⟨a,e,t,tb,u,h1⟩,r⟩:=h;⟨⟨a,e,t,tb,u,im _ _ h1 (λ x=>x)⟩,r⟩
 | .tup xs,v,fp,ef,h=>by
  obtain⟨a,vs,e,q,r⟩:=h;exact⟨a,vs,e,im _ _ q (λ x=>x),ak.stay sB im ef r⟩
 |.lst .own xs,v,fp,ef,h=>by obtain⟨a,vs,f,e,q,r,z⟩:=h;rw[ef]at z;cases z
 |.lst .bor xs,v,fp,ef,h=>let ⟨a,vs,e,q,r,z⟩:=h;⟨a,vs,e,.inr (dZ sB (q.resolve_left λ y=>y.1)),ak.stay sB im rfl r,z⟩
 |.lst .aq xs,v,fp,ef,h=>let ⟨a,vs,e,q,r,z⟩:=h;⟨a,vs,e,dZ sB q,ak.stay sB im rfl r,z⟩
 |.lst (.len _) _,_,_,_,h=>h.elim
 |.dct (.len a) kd ks xs,v,fp,ef,h=>by obtain⟨vs,f,e,q,r,z⟩:=h;rw[ef]at z;cases z
 |.dct .own kd ks xs,v,fp,ef,h=>by obtain⟨a,vs,f,e,q,r,z⟩:=h;rw[ef]at z;cases z
 |.dct .bor kd ks xs,v,fp,ef,h=>let ⟨a,vs,e,q,r,z⟩:=h;⟨a,vs,e,.inr ((q.resolve_left λ y=>y.1).mono sB),ak.stay sB im rfl r,z⟩
 |.dct .aq kd ks xs,v,fp,ef,h=>let ⟨a,vs,e,q,r,z⟩:=h;⟨a,vs,e,q.mono sB,ak.stay sB im rfl r,z⟩
def ak.stay {B B' H H':Hp}(sB:aw B B')(im:mR H H'):∀ {ds:List D}{vs:List V}{fp:List Addr},fp=[]->ak K B No H ds vs fp->ak K B' No H' ds vs fp
 |[],_,_,_,h=>h
 | d::ds,vs,fp,ef,h=>by
  obtain⟨v,r,f,g,e,h1,h2,z⟩:=h;rw[ef]at z;obtain⟨z1,z2⟩:=lN z;exact⟨v,r,f,g,e,Rep.stay sB im z1 h1,ak.stay sB im z2 h2,by rw[ef,z1,z2];rfl⟩
end
def mT(h:List.Sublist f []):f=[]:=List.sublist_nil.mp h
def Cd(q:dR K B a vs)(r:ak K B No H ds vs []):EO K (K7 K a) ds B H where
 go:=λ B' H' i d s1 s2 im e=>by
  obtain⟨v,f,h1,_⟩:=r.get e;exact⟨vs,v,eZ (dZ (s1.trans s2) q),h1⟩
 wQ:=λ B' H' i d x H'' s1 s2 im e y=>by
  obtain⟨rfl,y⟩:=y;obtain⟨v,f,h1,h2,h3⟩:=r.get e;have z:=y vs (eZ (dZ (s1.trans s2) q));rw[h1]at z;cases z;cases mT h3;exact⟨aw.refl _,h2.stay s1 im rfl⟩
 stop:=λ B' H' s1 s2 im=>⟨vs,eZ (dZ (s1.trans s2) q),by rw[r.length];exact ML _⟩
def mV(im:mR H H')(q:jd K H a vs):jd K H' a vs:=by
 rcases q with (q|⟨o,q⟩)|q
 ·exact .inl (.inl (im _ _ q (λ x=>x)))
 ·exact .inl (.inr ⟨o,im _ _ q (λ x=>x)⟩)
 ·exact .inr q
def ES(q:jd K H a vs)(r:ak K B No H ds vs []):EO K (K8 K a) ds B H where
 go:=λ B' H' i d s1 s2 im e=>by
  obtain⟨v,f,h1,_⟩:=r.get e;exact⟨vs,v,mV im q,h1⟩
 wQ:=λ B' H' i d x H'' s1 s2 im e y=>by
  obtain⟨rfl,y⟩:=y;obtain⟨v,f,h1,h2,h3⟩:=r.get e;have z:=y vs (mV im q);rw[h1]at z;cases z;cases mT h3;exact⟨aw.refl _,h2.stay s1 im rfl⟩
 stop:=λ B' H' s1 s2 im=>⟨vs,mV im q,by rw[r.length];exact ML _⟩
def Ao {lo:Int}:EO K (KN lo n) ((List.range n).map λ k:Nat=>D.int (lo+k)) B H where
 go:=λ B' H' i d s1 s2 im e=>by
  have:=(MF.mp e).1;show i<n;simpa using this
 wQ:=λ B' H' i d x H'' s1 s2 im e y=>by
  obtain⟨rfl,rfl⟩:=y;have hi:=(MF.mp e).1;rw[MC,MX]at hi;rw[MR,NC hi]at e;cases e;exact⟨aw.refl _,rfl,rfl⟩
 stop:=λ B' H' s1 s2 im=>by
  show n<=_;rw[MC,MX];exact ML _
def iP {Bx:Hp}(r:Rep K B (· ∈ P) H d v fp)(sB:aw B Bx)(h1:∀ a∈fp,∀ o,H a=some o->Bx a=some o)(h2:d.aA=true->∀ a∈P,∀ o,H a=some o->Bx a=some o):Rep K Bx No H d.aq v []:=by
 by_cases hb:d.aA=true
 ·exact r.aq sB (λ a o s h=>h2 hb a s o h) h1
 ·exact(r.gY (by simpa using hb)).aq sB (λ a o s=>s.elim) h1
def fE(he:PE X e (tM X.K Y fe)):PI X tg e (Bb X.K Y (eY fe)):=by
 refine PI.imp (HE he) λ σ H R hq=>ex8 hq λ H0 B0 B τ P F I h=>⟨H0,B0,B,τ,P,F,I,?_⟩;cases z:fe τ with
 |fY C=>simp only[eY,z,Res.jl]at h;exact h|bad=>simp only[eY,z,Res.jk]at h
 | ok d =>
  simp only[eY,z,Res.aG]at h;intro v H1 B1 fp I1 s1 b1 r1 k1;cases d with
  | lst t xs =>
   simp only[bx]at h;obtain⟨a,vs,g,rfl,q,_⟩:=r1.lst I1;refine .inl ⟨a,rfl,⟨vs,eZ q⟩,h _ H1 _ fp I1 s1 b1 k1 λ Bx sB sH h1 h2=>?_⟩;obtain⟨a',ws,ea,q',rl,_⟩:Rep X.K Bx No H1 (D.lst .aq (aD xs)) (.ref a) []:=iP r1 sB h1 h2;cases ea;exact Cd q' rl
  | tup xs =>
   simp only[bx]at h;obtain⟨a,vs,rfl,q,_⟩:=r1.tp;refine .inr ⟨a,rfl,⟨vs,q⟩,h _ H1 _ fp I1 s1 b1 k1 λ Bx sB sH h1 h2=>?_⟩;obtain⟨a',ws,ea,q',rl⟩:Rep X.K Bx No H1 (D.tup (aD xs)) (.ref a) []:=iP r1 sB h1 h2;cases ea;exact ES (jd.of q') rl
  |_=>exact h.elim
def a7 (f:Nat->Int)(l:List Nat):aD (l.map λ k=>D.int (f k))=l.map λ k=>D.int (f k):=by
 induction l with
 |nil=>rfl|cons a r ih=>rw[MU,aD,ih];rfl
def k9:List D->Res (Bool×List D)
 |[.int j]=>if -1000000000<=j/\j<=1000000000 then .ok (false,(List.range j.toNat).map λ k:Nat=>.int (0+k)) else .bad
 |_=>.bad
def aX (f:SD->Res (List D))(τ:SD):Res (Bool×List D):=(f τ).bind k9
def Ce {fs:SD->Res (List D)}{R:It->Hp->Prop}:Bb X.K Y (aX fs) σ H R->Gd (pC X.K Y fs) σ H R:=by
 rintro⟨H0,B0,B,τ,P,F,I,h⟩;refine⟨H0,B0,B,τ,P,F,I,?_⟩;cases z:fs τ with
 |fY C=>simp only[aX,z,Res.jl]at h;exact h|bad=>simp only[aX,z,Res.jk]at h
 | ok ds =>
  simp only[aX,z,Res.aG]at h;intro vs H1 B1 fp I1 s1 b1 r1 k1;cases y:k9 ds with
  |fY C=>exfalso;unfold k9 at y;split at y<;>first|(split at y<;>cases y)|cases y
  |bad=>rw[y]at h;exact h.elim
  | ok es =>
   rw[y]at h;unfold k9 at y;split at y
   ·split at y
    ·rename_i hc;cases y;obtain⟨v,rfl,rfl,rfl⟩:=iO r1;exact⟨_,rfl,(by omega),(by omega),h _ H1 B1 [] I1 s1 b1 fM.nil λ Bx _ _ _ _=>by rw[a7];exact Ao⟩
    ·cases y
   ·cases y
def dU {a:Expr}{fs:SD->Res (List D)}(hg:Gl X "range")(hm:X.mg "range" = none)(ha:PA X [a] (pC X.K Y fs))(hs:starEach [a] X.env=[(false,eval a X.env)]:=by rfl):PI X tg (.Call (.Name "range" p) [a] [] pos) (Bb X.K Y (aX fs)):=
 PI.imp (zX hg hm ha hs) λ σ H R h=>Ce h
def bD (xs:List D):List D:=xs.mapIdx λ i d=>.tup [.int i,d]
def bW (f:SD->Res (List D))(τ:SD):Res (Bool×List D):=(f τ).bind λ ds=>match ds with|[d]=>(bx d).map λ p=>(p.1,bD p.2)|_=>.bad
def vp (xs:List D):∀ (f:Nat->Nat),aD (xs.mapIdx λ i d=>D.tup [.int (f i),d])=(aD xs).mapIdx λ i d=>D.tup [.int (f i),d]:=by
 induction xs with
 |nil=>intro f;rfl
 | cons a r ih =>
  intro f;rw[List.mapIdx_cons,aD,aD,List.mapIdx_cons];exact N1 _ (ih λ i=>f (i+1))
def gf (xs:List D):aD (bD xs)=bD (aD xs):=vp xs id
def vo {src:Hp->List V->Prop}(r:ak K B No H ds vs [])(q:∀ B' H':Hp,aw B B'->aw B' H'->mR H H'->src H' vs):EO K (KU src) (bD ds) B H where
 go:=λ B' H' i d s1 s2 im e=>by
  have hi:=(MF.mp e).1;unfold bD at hi;rw[PJ,r.length]at hi;exact⟨vs,vs[i],q B' H' s1 s2 im,MA hi⟩
 wQ:=λ B' H' i d x H'' s1 s2 im e y=>by
  obtain⟨p,w,rfl,hp,rfl,hy⟩:=y;have hi:=(MF.mp e).1;unfold bD at hi e;rw[PJ]at hi;rw[List.getElem?_mapIdx,MA hi]at e;cases e;have z:=hy vs (q B' H' s1 s2 im);obtain⟨v,f,h1,h2,h3⟩:=r.get (MA hi);rw[z]at h1;cases h1;cases mT h3;have s:=gC (o:=.tup [.int i,w]) hp;exact⟨s,p,[.int i,w],rfl,bB,.int i,[w],[],[],rfl,⟨rfl,rfl⟩,ak.one ((h2.stay s1 im rfl).mono s (aw.refl _) (λ _ x=>x)),rfl⟩
 stop:=λ B' H' s1 s2 im=>⟨vs,q B' H' s1 s2 im,by unfold bD;rw[PJ,r.length];exact ML _⟩
def Cb {elts:List Expr}{x1:Nat}{tp:Pos}{ta:TA}(hg:Gl X "enumerate")(hm:X.mg "enumerate" = none)(ha:PA X [l] ta)(hs:starEach [l] X.env=[(false,eval l X.env)]:=by rfl) :
  PI X (.Tuple elts x1 tp) (.Call (.Name "enumerate" p) [l] [] pos) (λ σ H R=>ta σ H λ vs H1=>(∃ a xs,vs=[.ref a]/\dR X.K H1 a xs/\R (KU λ H xs=>dR X.K H a xs) H1)\/∃ a xs,vs=[.ref a]/\jd X.K H1 a xs/\R (KU λ H xs=>jd X.K H a xs) H1):=by
 intro pins s σ H R I h;refine Oo (kq I hg hm (by decide +kernel:bootBuiltins "enumerate" = some (.type "enumerate")) ?_);refine Oc (eB (ha pos pins s σ H _ I h) λ us s1 hq5=>L2.ex5 hq5 λ vs H1 I1 r1 q1=>?_) hs rfl;rcases q1 with ⟨a,xs,rfl,hq,q⟩|⟨a,xs,rfl,hq,q⟩
 ·obtain⟨u,rfl,ru⟩:=vals1 r1;cases ru;obtain⟨its,rv,pl,hz⟩:=I1.list hq;refine call_enumerate_list pl.isList λ h' e1 e2 e3 e4=>QK e1 ?_;have I2:Inv X pins σ H1 { s1 with heap:=h' }:=I1.kept (t':=s1.toks) e4;obtain⟨o,c1,c2,c3⟩:=e2;refine⟨_,_,_,_,H1,rfl,I2,rX (src_list a s1.heap.objs.size) (Nat.succ_ne_self _),⟨⟨_,e1⟩,o,c1,c2,c3⟩,λ b hb=>?_,q⟩;rcases MK.mp hb with z|z
  ·subst z;exact I1.rf (OP _) (I1.hok.fresh (OP _))
  ·have z:b=s1.heap.objs.size:=by simpa using z
   subst z;exact I1.rf (ML _) (I1.hok.fresh (ML _))
 ·obtain⟨u,rfl,ru⟩:=vals1 r1;cases ru;obtain⟨its,rv,pl,hz⟩:=I1.tuple hq;refine rm (f9 pl) λ h' e1 e2 e4=>QK e1 ?_;have I2:Inv X pins σ H1 { s1 with heap:=h' }:=I1.kept (t':=s1.toks) e4;obtain⟨o,c1,c2,c3⟩:=e2;refine⟨_,_,_,_,H1,rfl,I2,rX (EJ a s1.heap.objs.size) (Nat.succ_ne_self _),⟨⟨_,e1⟩,o,c1,c2,c3⟩,λ b hb=>?_,q⟩;rcases MK.mp hb with z|z
  ·subst z;exact I1.rf (OP _) (I1.hok.fresh (OP _))
  ·have z:b=s1.heap.objs.size:=by simpa using z
   subst z;exact I1.rf (ML _) (I1.hok.fresh (ML _))
def mU {elts:List Expr}{x1:Nat}{tp:Pos}{fs:SD->Res (List D)}(hg:Gl X "enumerate")(hm:X.mg "enumerate" = none)(ha:PA X [l] (pC X.K Y fs))(hs:starEach [l] X.env=[(false,eval l X.env)]:=by rfl) :
  PI X (.Tuple elts x1 tp) (.Call (.Name "enumerate" p) [l] [] pos) (Bb X.K Y (bW fs)):=by
 refine PI.imp (Cb hg hm ha hs) λ σ H R hq=>ex8 hq λ H0 B0 B τ P F I h=>⟨H0,B0,B,τ,P,F,I,?_⟩;cases z:fs τ with
 |fY C=>simp only[bW,z,Res.jl]at h;exact h|bad=>simp only[bW,z,Res.jk]at h
 | ok ds =>
  simp only[bW,z,Res.aG]at h;intro vs H1 B1 fp I1 s1 b1 r1 k1
  match ds,r1,h with
  | [d],r1,h =>
   obtain⟨v,rfl,r1'⟩:=iO r1;simp only at h;cases d with
   | lst t xs =>
    simp only[bx,Res.BQ]at h;obtain⟨a,vs,g,rfl,q,_⟩:=r1'.lst I1;refine .inl ⟨a,vs,rfl,eZ q,h _ H1 _ fp I1 s1 b1 k1 λ Bx sB sH h1 h2=>?_⟩;obtain⟨a',ws,ea,q',rl,_⟩:Rep X.K Bx No H1 (D.lst .aq (aD xs)) (.ref a) []:=iP r1' sB h1 h2;cases ea;rw[gf];exact vo rl λ B' H' z1 z2 _=>eZ (dZ (z1.trans z2) q')
   | tup xs =>
    simp only[bx,Res.BQ]at h;obtain⟨a,vs,rfl,q,_⟩:=r1'.tp;refine .inr ⟨a,vs,rfl,q,h _ H1 _ fp I1 s1 b1 k1 λ Bx sB sH h1 h2=>?_⟩;obtain⟨a',ws,ea,q',rl⟩:Rep X.K Bx No H1 (D.tup (aD xs)) (.ref a) []:=iP r1' sB h1 h2;cases ea;rw[gf];exact vo rl λ B' H' z1 z2 im=>mV im (jd.of q')
   |_=>exact h.elim
  |[],r1,h=>exact h.elim|_::_::_,r1,h=>exact h.elim
abbrev uW:=D->SD->Option SD
def EU (K:PySem.W.Frag)(g:uW):TG:=λ v σ H Q=>∃ H0 B0 B τ P F d fp,SI K H0 B0 B H σ τ P F/\Rep K B No H d v fp/\fM H0 B H P F fp/\match g d τ with
 |some τ'=>∀ H' σ' P',SI K H0 B0 B H' σ' τ' P' F->H'=H->Q σ' H'
 |none=>False
def gN (i:Nat)(d:D)(τ:SD):Option SD:=some (τ.set i (some d))
def PG.imp{t t':TG}(h:PG X tg t)(hi:∀ v σ H Q,t' v σ H Q->t v σ H Q):PG X tg t':=λ pins s σ H v u Q I r hw=>h pins s σ H v u Q I r (hi v σ H Q hw)
def HD(hN:X.N.Nodup)(hi:X.N[i]?=some x)(hx:Loc X.env.scope x)(hf:X.fn x=true\/X.env.scope.names.lookup x=some .local:=by first|exact .inl rfl|exact .inr rfl):PG X (.Name x pos) (EU X.K (gN i)):=
 PG.imp (yv hN hi hx hf) λ v σ H Q hq=>ex12 hq λ H0 B0 B τ P F d fp I r k h=>by
  obtain⟨P',I',_⟩:=I.set i r k;exact h H _ P' I' rfl
abbrev Cc:=List D->SD->Option SD
def ET (K:PySem.W.Frag)(g:Cc):D6:=λ vs σ H Q=>∃ H0 B0 B τ P F ds fp,SI K H0 B0 B H σ τ P F/\ak K B No H ds vs fp/\fM H0 B H P F fp/\match g ds τ with
 |some τ'=>∀ H' σ' P',SI K H0 B0 B H' σ' τ' P' F->H'=H->Q σ' H'
 |none=>False
def bU (ds:List D)(τ:SD):Option SD:=match ds with|[]=>some τ|_=>none
def aI (i:Nat)(g:Cc)(ds:List D)(τ:SD):Option SD:=match ds with|d::r=>g r (τ.set i (some d))|[]=>none
def Ae.imp {tgs:List Expr}{t t':D6}(h:Ae X tgs t)(hi:∀ v σ H Q,t' v σ H Q->t v σ H Q):Ae X tgs t':=λ pins s σ H v u Q I r hw=>h pins s σ H v u Q I r (hi v σ H Q hw)
def kH:Ae X [] (ET X.K bU):=Ae.imp Eb λ vs σ H Q hq=>ex12 hq λ H0 B0 B τ P F ds fp I r k h=>by
 cases ds with
 |nil=>exact⟨r.1,h H σ P I rfl⟩| cons d ds=>exact h.elim
def du{g:Cc}(hN:X.N.Nodup)(hi:X.N[i]?=some x)(hx:Loc X.env.scope x)(h2:Ae X es (ET X.K g))(hf:X.fn x=true\/X.env.scope.names.lookup x=some .local:=by first|exact .inl rfl|exact .inr rfl)
  (hs:(assignEach (.Name x pos::es) X.env).map (·.2)=assign (.Name x pos) X.env::(assignEach es X.env).map (·.2):=by rfl):Ae X (.Name x pos::es) (ET X.K (aI i g)):=
 Ae.imp (Bo (yv hN hi hx hf) h2 hs) λ vs σ H Q hq=>ex12 hq λ H0 B0 B τ P F ds fp I r k h=>by
  cases ds with
  |nil=>exact h.elim
  | cons d ds =>
   obtain⟨v,w,f1,f2,rfl,r1,r2,rfl⟩:=r;obtain⟨P',I',s'⟩:=I.set i r1 k.left;refine⟨v,w,rfl,H0,B0,B,_,P',F,ds,f2,I',r2,⟨k.right.nd,λ a m=>?_⟩,h⟩;obtain⟨a1,a2,a3,a4,a5⟩:=k.right.own a m;refine⟨a1,a2,a3,λ z=>?_,a5⟩;rcases s' a z with y|y
   ·exact a4 y
   ·exact(MS.mp k.nd).2.2 a y a m rfl
def gT (n:Nat)(g:Cc)(d:D)(τ:SD):Option SD:=match d with|.tup ds=>if ds.length=n then g ds τ else none|_=>none
def oM{k:Nat}{g:Cc}(hc:X.calm=true)(h:Ae X es (ET X.K g))
  (hn:(assignEach es X.env).length=n:=by rfl) (hst:(assignEach es X.env).findIdx? (·.1)=none:=by rfl):PG X (.Tuple es k pos) (EU X.K (gT n g)):=
 PG.imp (GN hc h hn hst) λ v σ H Q hq=>ex12 hq λ H0 B0 B τ P F d fp I r k h=>by
  cases d with
  | tup ds =>
   obtain⟨a,vs,rfl,q,rl⟩:=r;unfold gT at h;by_cases hl:ds.length=n
   ·simp only[hl,OG]at h;exact⟨a,vs,rfl,jd.of q,by rw[<-rl.length];exact hl,H0,B0,B,τ,P,F,ds,fp,I,rl,k,h⟩
   ·simp only[hl,ON]at h
  |_=>exact h.elim
def cD (tg:uW)(body:SF):List D->SF
 |[],τ=>.nx τ
 | d::r,τ=>match tg d τ with
  |none=>.bad
  | some τ'=>match body τ' with
   |.nx t=>cD tg body r t
   |.ct t=>cD tg body r t
   |.bk t=>.nx t
   |o=>o
def bT (js:List Nat)(it:SD->Res (Bool×List D))(tg:uW)(body:SF)(τ:SD):Fl:=match it (b7 js τ) with
 |.ok (false,ds)=>cD tg body (aD ds) (b7 js τ)
 |.ok (true,_)=>.bad
 |.fY C=>.ex C (b7 js τ)
 |.bad=>.bad
def f6 (js:List Nat){iter:Expr}{body:List Stmt}{tgd:uW}{g:SF}(hp:PassesOwn (model X.prog X.w) X.A X.env X.xe)(hc:X.calm=true)(hi:PI X tg iter (Bb X.K Y it))(hg:PG X tg (EU X.K tgd))(hb:mF X body (kj X.K Y g))
  (hs:∀ x,foldedSetIterable iter X.env x=pure x:=by intro _;rfl):PS X (.For tg iter body [] pos) (kj X.K Y (bT js it tgd g)):=by
 refine PS.imp (GW hp hc hi hg hb hs) λ E σ H hq=>ex7 hq λ H0 B0 B τ P I h=>?_;obtain⟨Bf,Pf,sf,If⟩:=I.b7 js;have h:cI X.K Y H0 B0 Bf H E (bT js it tgd g τ):=cI.later h (j9.grow If sf (aw.refl _));unfold bT at h;refine⟨H0,B0,Bf,_,Pf,No,If,?_⟩;cases z:it (b7 js τ) with
 |fY C=>rw[z]at h;exact λ H1 B1 I1 s1 b1=>h B1 H1 σ Pf (j9.grow I1 b1 s1)
 |bad=>rw[z]at h;exact h.elim
 | ok q =>
  obtain⟨fl,ds0⟩:=q;rw[z]at h;intro J H1 B1' fp I1' s1 b1' k1 JA;cases fl with
  |true=>exact h.elim|false=>
  obtain⟨I1,b2⟩:=I1'.J2 k1;have b1:=b1'.trans b2;have J1:=JA _ b2 (jG I1'.bh) (λ a m o h=>ib m h) (λ z=>Bool.noConfusion z);generalize atRest B1' H1 (· ∈ fp)=B1 at I1 b1 J1;have h:cI X.K Y H0 B0 Bf H E (cD tgd g (aD ds0) (b7 js τ)):=h;generalize aD ds0=ds at h J1;have h:cI X.K Y H0 B0 B1 H1 E (cD tgd g ds (b7 js τ)):=cI.later h (j9.grow I1 b1 s1);refine⟨λ i m σ' H'=>m=ds.length-i/\i<=ds.length/\∃ B' τ' P',j9 X.K H0 B0 B1 H1 B' H' σ' τ' P'/\cI X.K Y H0 B0 B' H' E (cD tgd g (ds.drop i) τ'),⟨_,rfl,NV _,B1,_,Pf,j9.refl I1,h⟩,?_⟩;rintro i m σ' H' ⟨rfl,hle,B',τ',P',a,gl⟩;by_cases hlt:i<ds.length
  ·obtain⟨d,hd⟩:∃ d,ds[i]?=some d:=⟨ds[i],MA hlt⟩;have hdrop:ds.drop i=d::ds.drop (i+1):=by
    rw[OI hlt]
    congr 1
    rw[MA hlt]at hd;exact Nq hd
   rw[hdrop]at gl;unfold cD at gl;refine .inr ⟨J1.go B' H' i d a.b a.si.bh a.Ba hd,λ σ2 H2=>∃ B2 τ2 P2,j9 X.K H0 B0 B1 H1 B2 H2 σ2 τ2 P2/\cI X.K Y H0 B0 B2 H2 E (cD tgd g (ds.drop (i+1)) τ2),λ σ2 H2 w=>⟨_,by omega,rfl,hlt,w⟩,λ x H'' y=>?_⟩;obtain⟨sy,ry⟩:=J1.wQ B' H' i d x H'' a.b a.si.bh a.Ba hd y;have Iy:=a.si.grow sy;refine⟨H0,B0,B',τ',P',No,d,[],Iy,ry,fM.nil,?_⟩;cases w:tgd d τ' with
   |none=>rw[w]at gl;exact gl.elim
   | some τ2 =>
    rw[w]at gl;intro H3 σ3 P3 I3 e3;subst e3;have ay:j9 X.K H0 B0 B' H' B' H3 σ3 τ2 P3:=⟨I3,aw.refl _,mR.of sy⟩;refine⟨H0,B0,B',τ2,P3,I3,?_⟩;cases u:g τ2 with
    | nx t =>
     simp only[u]at gl;exact λ B4 H4 σ4 P4 a4=>⟨B4,t,P4,(a.trans ay).trans a4,cI.later gl (ay.trans a4)⟩
    | ct t =>
     simp only[u]at gl;exact λ B4 H4 σ4 P4 a4=>⟨B4,t,P4,(a.trans ay).trans a4,cI.later gl (ay.trans a4)⟩
    | bk t =>
     simp only[u]at gl;exact λ B4 H4 σ4 P4 a4=>gl B4 H4 σ4 P4 (ay.trans a4)
    |rt d=>simp only[u]at gl;exact gl|ex C t=>simp only[u]at gl;exact λ B4 H4 σ4 P4 a4=>gl B4 H4 σ4 P4 (ay.trans a4)
    |bad=>simp only[u]at gl;exact gl
  ·have e:i=ds.length:=by omega
   subst e;rw[List.drop_length]at gl;exact .inl ⟨J1.stop B' H' a.b a.si.bh a.Ba,gl B' H' σ' P' (j9.refl a.si)⟩
def cK (c:SD->Res Bool)(body:SF):Nat->SF
 |0,_=>.bad
 | n+1,τ=>(c τ).qa τ λ b=>if b=true then (match body τ with
   |.nx t=>cK c body n t
   |.ct t=>cK c body n t
   |.bk t=>.nx t
   |o=>o) else .nx τ
def nR (c:SD->Res Bool)(body:SF)(τ:SD):Fl:=by classical exact if h:∃ n,cK c body n τ ≠ .bad then cK c body h.choose τ else .bad
def kG {c:SD->Res Bool}{body:SF}:∀ {n:Nat}{τ:SD},cK c body n τ ≠ .bad->cK c body (n+1) τ=cK c body n τ
 |0,_,h=>absurd rfl h
 | n+1,τ,h=>by
  rw[cK]at h
  conv=>lhs;rw[cK]
  conv=>rhs;rw[cK]
  cases e:c τ with
  |fY C=>rfl|bad=>rfl
  | ok b =>
   rw[e]at h;cases b with
   |false=>rfl
   | true =>
    simp only[Res.qa,OG]at h ⊢;cases u:body τ with
    |nx t=>simp only[u]at h ⊢;exact kG h|ct t=>simp only[u]at h ⊢;exact kG h|bk t=>rfl|rt d=>rfl|ex C t=>rfl|bad=>rfl
def sq {c:SD->Res Bool}{body:SF}(h:cK c body n τ ≠ .bad):∀ {m:Nat},n<=m->cK c body m τ=cK c body n τ:=by
 intro m hm
 induction hm with
 |refl=>rfl|step hm ih=>rw[kG (by rw[ih];exact h),ih]
def Aq {c:SD->Res Bool}{body:SF}(h:cK c body n τ ≠ .bad):nR c body τ=cK c body n τ:=by
 have ex:∃ n,cK c body n τ ≠ .bad:=⟨n,h⟩;unfold nR;rw[dif_pos ex];rcases Nat.le_total n ex.choose with q|q
 ·exact sq h q
 ·exact(sq ex.choose_spec q).symm
def ER {body:List Stmt}{g:SF}(hp:PassesOwn (model X.prog X.w) X.A X.env X.xe)(hc:PT X c (kF X.K Y gc))(hb:mF X body (kj X.K Y g)):PS X (.While c body [] pos) (kj X.K Y (nR gc g)):=by
 refine PS.imp (Bp hp hc hb) λ E σ H hq=>ex7 hq λ H0 B0 B τ P I h=>?_;obtain⟨n,hn⟩:∃ n,cI X.K Y H0 B0 B H E (cK gc g n τ):=by
  unfold nR at h;split at h
  ·exact⟨_,h⟩
  ·exact h.elim
 refine⟨λ m σ' H'=>∃ B' τ' P',SI X.K H0 B0 B' H' σ' τ' P' No/\cI X.K Y H0 B0 B' H' E (cK gc g m τ'),⟨n,B,τ,P,I,hn⟩,?_⟩;rintro m σ' H' ⟨B',τ',P',I',gl⟩;cases m with
 |zero=>exact gl.elim
 | succ m =>
  rw[cK]at gl;refine Gn I' gl λ d H1 B1 _ I1 s1 b1 h1=>?_;cases d with
  |false=>rw[MP MH]at h1 ⊢;exact h1 B1 H1 σ' P' (j9.refl I1)
  | true =>
   rw[MO rfl]at h1 ⊢;refine⟨λ σ2 H2=>∃ B2 τ2 P2,SI X.K H0 B0 B2 H2 σ2 τ2 P2 No/\cI X.K Y H0 B0 B2 H2 E (cK gc g m τ2),λ σ2 H2 w=>⟨m,Qe _,w⟩,H0,B0,B1,τ',P',I1,?_⟩;cases u:g τ' with
   |nx t=>simp only[u]at h1;exact λ B4 H4 σ4 P4 a4=>⟨B4,t,P4,a4.si,cI.later h1 a4⟩
   |ct t=>simp only[u]at h1;exact λ B4 H4 σ4 P4 a4=>⟨B4,t,P4,a4.si,cI.later h1 a4⟩
   |bk t=>simp only[u]at h1;exact h1|rt d=>simp only[u]at h1;exact h1|ex C t=>simp only[u]at h1;exact h1|bad=>simp only[u]at h1;exact h1
end
variable {tgd:uW}
abbrev DF:=List D->Res D
variable {G:DF}
def jz (K:PySem.W.Frag)(G:DF):Sp:=λ vs H Q _=>∃ B0 ds,aw B0 H/\ak K B0 No H ds vs []/\match G ds with
 |.ok d=>∀ B' H' v fp,oK K H B0 B' H' d v fp->Q v H'
 |.fY _=>False
 |.bad=>False
def Res.KW (r:Res D):Res D:=match r with|.fY _=>.bad|r=>r
@[simp] theorem Res.LH (d:D):(Res.ok d).KW=.ok d:=rfl
def eK (G:DF)(ds:List D):Res D:=if av ds=true then (G (aD ds)).KW.map D.aW else (G (aD ds)).KW
def az (G:DF)(fs:SD->Res (List D))(τ:SD):Res D:=(fs τ).bind (eK G)
section
variable {K:PySem.W.Frag}{fs:SD->Res (List D)}
def SI.called {S:Addr->Prop}{fq:List Addr}(I:SI K H0 B0 B H σ τ P F)(k:fM H0 B H P F fp)(hS:∀ a,S a->a∈P)(r:oK K H (atRest B H (λ a=>S a\/a∈fp)) B' H' d v fq) :
  ∃ B'',SI K H0 B0 B'' H' σ τ P F/\aw B B''/\fM H0 B'' H' P F fq/\(∀ a o,B' a=some o->B'' a=some o\/(S a/\a∈P)):=by
 classical
 have sP:∀ a o,B a=some o->a∉P:=λ a o e m=>by
  have:=(I.own a m).1;rw[e]at this;cases this
 have up:∀ a,B' a≠none->B a≠none\/S a\/a∈fp\/H a=none:=λ a n=>by
  rcases r.nb a n with q|q
  ·by_cases hs:S a\/a∈fp
   ·exact .inr (hs.elim .inl λ z=>.inr (.inl z))
   ·rw[gE hs]at q;exact .inl q
  ·exact .inr (.inr (.inr q))
 refine⟨λ a=>if a∈P then none else B' a,?_,λ a o e=>?_,⟨r.nd,λ a m=>?_⟩,λ a o e=>?_⟩
 ·have sB:aw B (λ a=>if a∈P then none else B' a):=λ a o e=>by
   show(if a∈P then none else B' a)=some o;rw[MP (sP a o e)];exact r.b0 a o (eV I.bh a o e)
  refine⟨λ a o e=>?_,I.h0.trans r.h0,I.b0.trans sB,λ a n=>?_,I.rep.mono r.h0 sB,I.nd,λ a m=>?_,λ a m=>?_⟩
  ·have e:(if a∈P then none else B' a)=some o:=e;split at e
   ·cases e
   ·exact r.bh a o e
  ·have n:(if a∈P then none else B' a)≠none:=n;split at n
   ·exact absurd rfl n
   ·rename_i hp;rcases up a n with q|q|q|q
    ·exact I.nb a q
    ·exact absurd (hS a q) hp
    ·exact .inr (k.own a q).2.1
    ·exact .inr (I.h0.free q)
  ·refine⟨?_,(I.own a m).2⟩;show(if a∈P then none else B' a)=none;rw[MO m]
  ·obtain⟨a1,a2⟩:=I.fr a m;refine⟨?_,λ z=>a2 (r.h0.free z)⟩;show(if a∈P then none else B' a)=none;split
   ·rfl
   ·rename_i hp;cases e:B' a with
    |none=>rfl
    | some o =>
     exfalso;rcases up a (by rw[e];exact Oh _) with q|q|q|q
     ·exact q a1
     ·exact hp (hS a q)
     ·exact(k.own a q).2.2.2.2 m
     ·exact a2 q
 ·show(if a∈P then none else B' a)=some o;rw[MP (sP a o e)];exact r.b0 a o (eV I.bh a o e)
 ·obtain⟨a1,a2,a3⟩:=r.own a m;obtain⟨n1,n2,n3,n4⟩:=I.BS a2;refine⟨?_,n2,a3,n3,n4⟩;show(if a∈P then none else B' a)=none;rw[MP n3];exact a1
 ·by_cases hp:a∈P
  ·rcases up a (by rw[e];exact Oh _) with q|q|q|q
   ·obtain⟨o',e'⟩:=QA.mp q;exact absurd hp (sP a o' e')
   ·exact .inr ⟨q,hp⟩
   ·exact absurd hp (k.own a q).2.2.2.1
   ·exact absurd q (I.stands hp)
  ·left;show(if a∈P then none else B' a)=some o;rw[MP hp];exact e
def J3 {k:Nat}(C:kE X.prog X.w X.K X.mg X.base k x ps (jz X.K G))(hr:gB k X.A)(hg:Gl X x)(ha:PA X (e::es) (pC X.K Y fs))(hdb:(x == ("__debug__" : Str))=false:=by decide)
  (he:starEach (e::es) X.env=(false,eval e X.env)::starEach es X.env:=by rfl) (hpl:(backTo pos (starEach es X.env)).any (·.1)=false:=by rfl):PE X (.Call (.Name x p) (e::es) [] pos) (tM X.K Y (az G fs)):=by
 refine PE.imp (Ht C hr hg ha hdb he hpl) λ σ H Q hq=>ex8 hq λ H0 B0 B τ P F I h=>pC.seq I h λ ds vs H1 B1 fp _ I1 s1 b1 r1 k1 h1=>?_;rw[Nh];unfold eK at h1;split at h1
 ·refine⟨atRest B1 H1 (λ a=>a∈P\/a∈fp),aD ds,jG I1.bh,r1.aq (eV I1.bh) (λ a o s h=>ib (.inl s) h) (λ a m o h=>ib (.inr m) h),?_⟩;cases z:G (aD ds) with
  |fY c=>rw[z]at h1;exact h1.elim|bad=>rw[z]at h1;exact h1.elim
  | ok d =>
   rw[z]at h1;intro B' H' v fq r;obtain⟨B2,I2,s2,k2,hb⟩:=I1.called k1 (S:=λ a=>a∈P) (λ a s=>s) r;exact h1 v H' B2 fq I2 r.h0 s2 (r.rep.aW r.bh λ a o e=>(hb a o e).imp id λ z=>z.2) k2
 ·rename_i hb;have hb:av ds=false:=by simpa using hb
  refine⟨atRest B1 H1 (λ a=>False\/a∈fp),aD ds,jG I1.bh,(r1.gY hb).aq (eV I1.bh) (λ a o s=>s.elim) (λ a m o h=>ib (.inr m) h),?_⟩;cases z:G (aD ds) with
  |fY c=>rw[z]at h1;exact h1.elim|bad=>rw[z]at h1;exact h1.elim
  | ok d =>
   rw[z]at h1;intro B' H' v fq r;obtain⟨B2,I2,s2,k2,hb⟩:=I1.called k1 (S:=λ _=>False) (λ a s=>s.elim) r;refine h1 v H' B2 fq I2 r.h0 s2 ?_ k2;have sb:aw B' B2:=λ a o e=>(hb a o e).resolve_right λ z=>z.1;exact r.rep.mono (aw.refl _) sb λ _ x=>x.elim
def Fl.out:Fl->Res D
 |.rt d=>.ok d
 |.nx _=>.ok .bJ
 |.ex C _=>.fY C
 |_=>.bad
def b9 (n N:Nat)(g:SF)(ds:List D):Res D:=if ds.length=n then (g (ds.map some++List.replicate (N-n) none)).out else .bad
def qd:∀ {ds:List D}{vs:List V} (m:Nat),ak K B No H ds vs []->dj K B H (ds.map some++List.replicate m none) (vs.map some++List.replicate m none) []
 | [],vs,m,r=>by
  obtain⟨rfl,_⟩:=r
  induction m with
  |zero=>exact⟨rfl,rfl⟩| succ m ih=>exact⟨none,_,rfl,ih⟩
 | d::ds,vs,m,r=>by
  obtain⟨v,w,f1,f2,rfl,r1,r2,z⟩:=r;obtain⟨rfl,rfl⟩:=lN z;exact⟨v,_,[],[],rfl,r1,qd m r2,rfl⟩
def yO {P:Program}{k:Nat}{g:SF}{f:Addr}{fd:FuncData}(D:EE K x x st f fd)(S:aT N ps (aC st))
  (hbody:∀ (f:Addr) (cdv:Value) (A:Around) (outer:List Env) (s:Shared) (H:Hp),gB k (A.deeper (envOfC x (aC st) s.heap.objs.size f cdv)) ->
   mF (q9 Ai P w K mg base N x (aC st) f cdv A outer s H E0).Gf (eU st) (kj K yJ g)):pN P w K mg base Ai (k+1) f fd ps (jz K (b9 ps.length N.length g)):=by
 refine D.ok S (λ vs H Q E h=>?_) λ cdv A outer s H vs Q E hr h=>?_
 ·obtain⟨B0,ds,_,r,h⟩:=h;rw[<-r.length];unfold b9 at h;by_cases hl:ds.length=ps.length
  ·exact hl
  ·rw[MP hl]at h;exact h.elim
 ·obtain⟨B0,ds,sB,r,h⟩:=h;unfold b9 at h;by_cases hl:ds.length=ps.length
  ·rw[MO hl]at h;have e:L2.start N vs=vs.map some++List.replicate (N.length-ps.length) none:=by
    unfold L2.start;rw[<-r.length,hl]
   refine⟨_,hbody f cdv A outer s H hr,H,B0,B0,ds.map some++List.replicate (N.length-ps.length) none,[],⟨sB,aw.refl _,aw.refl _,λ a n=>.inl n,by rw[e];exact qd _ r,NJ,(λ a m=>by cases m),λ a m=>m.elim⟩,?_⟩;cases z:g (ds.map some++List.replicate (N.length-ps.length) none) with
   |rt d=>rw[z]at h;exact λ B' H' v fp q=>h B' H' v fp q
   | nx t =>
    rw[z]at h;intro B' H' σ' P' a;exact h B' H' .bJ [] ⟨a.si.h0,a.si.b0,a.si.bh,a.si.nb,⟨rfl,rfl⟩,NJ,λ a m=>by cases m⟩
   |bk t=>rw[z]at h;exact h.elim|ct t=>rw[z]at h;exact h.elim|ex C t=>rw[z]at h;exact h.elim|bad=>rw[z]at h;exact h.elim
  ·rw[MP hl]at h;exact h.elim
def HF {P:Program}{k:Nat}{g:SF}(D:lM K mg x st ps)(S:aT N ps (aC st))
  (hbody:∀ (f:Addr) (cdv:Value) (A:Around) (outer:List Env) (s:Shared) (H:Hp),gB k (A.deeper (envOfC x (aC st) s.heap.objs.size f cdv)) ->
   mF (q9 Ai P w K mg base N x (aC st) f cdv A outer s H E0).Gf (eU st) (kj K yJ g)):kE P w K mg base (k+1) x ps (jz K (b9 ps.length N.length g)):=by
 obtain⟨f,fd,F,hm,hb⟩:=D.ex;exact⟨f,fd,hm,F.kp,hb,yO F S hbody⟩
end
mutual
def D.bX:D->Bool
 |.tup xs=>bz xs
 |.lst t xs=>t.lO||bz xs
 |.dct t _ _ vs=>t.lO||bz vs
 |_=>false
def bz:List D->Bool
 |[]=>false
 |d::r=>d.bX||bz r
end
mutual
def vq:∀ d:D,d.pure=true->d.bX=false
 |.bJ,_=>rfl|.bl _,_=>rfl|.int _,_=>rfl|.str _,_=>rfl|.exc _,_=>rfl|.tup xs,h=>jH xs h
 |.lst _ _,h=>by cases h
 |.dct _ _ _ _,h=>by cases h
def jH:∀ xs:List D,aM xs=true->bz xs=false
 |[],_=>rfl
 | d::r,h=>by
  have h:(d.pure&&aM r)=true:=h;rw[Nk]at h;show(d.bX||bz r)=false;rw[vq d h.1,jH r h.2];rfl
end
section
variable {K:PySem.W.Frag}
mutual
def Rep.noOwn {B H:Hp}{S:Addr->Prop}:∀ {d:D}{v:V}{fp:List Addr},d.bX=false->Rep K B S H d v fp->fp=[]
 |.bJ,_,_,_,h=>h.2
 |.bl _,_,_,_,h=>h.2
 |.int _,_,_,_,h=>h.2
 |.str _,_,_,_,h=>h.2
 |.exc _,_,_,_,h=>h.2
 |.tup xs,v,fp,p,h=>let ⟨a,vs,e,q,r⟩:=h;ak.noOwn (ds:=xs) p r
 |.lst .own xs,v,fp,p,h=>by simp[D.bX,Tg.lO]at p
 |.lst .bor xs,v,fp,p,h=>let ⟨a,vs,e,q,r,z⟩:=h;z
 |.lst .aq xs,v,fp,p,h=>let ⟨a,vs,e,q,r,z⟩:=h;z
 |.lst (.len _) _,_,_,_,h=>h.elim
 |.dct (.len a) kd ks xs,v,fp,p,h=>by simp[D.bX,Tg.lO]at p
 |.dct .own kd ks xs,v,fp,p,h=>by simp[D.bX,Tg.lO]at p
 |.dct .bor kd ks xs,v,fp,p,h=>let ⟨a,vs,e,q,r,z⟩:=h;z
 |.dct .aq kd ks xs,v,fp,p,h=>let ⟨a,vs,e,q,r,z⟩:=h;z
def ak.noOwn {B H:Hp}{S:Addr->Prop}:∀ {ds:List D}{vs:List V}{fp:List Addr},bz ds=false->ak K B S H ds vs fp->fp=[]
 |[],_,_,_,h=>h.2
 | d::ds,vs,fp,p,h=>by
  obtain⟨v,r,f,g,e,h1,h2,z⟩:=h;have p:(d.bX||bz ds)=false:=p;rw[OQ]at p;rw[z,Rep.noOwn p.1 h1,ak.noOwn p.2 h2];rfl
end
def dD (τ:SD)(cap:List (Str×Nat)):SD:=cap.map λ p=>((τ[p.2]?).join).map D.aq
def cH (τ:SD)(cap:List (Str×Nat)):Bool:=cap.any λ p=>match (τ[p.2]?).join with|some d=>d.bX|none=>false
def fT (tg:uW)(tt:SD->Res Bool)(elt:SD->Res D):List D->SD->Res (List D)
 |[],_=>.ok []
 | d::r,τ=>match tg d τ with
  |none=>.bad
  |some τ'=>(tt τ').bind λ b=>if b=true then (elt τ').bind λ x=>if x.aA=true then .bad else (fT tg tt elt r τ').bind λ xs=>.ok (x::xs) else fT tg tt elt r τ'
def aR (it:SD->Res (Bool×List D))(tg:uW)(tt:SD->Res Bool)(elt:SD->Res D)(k:Nat)(cap:List (Str×Nat))(τ:SD):Res D:=(it τ).bind λ q=>
 match fT tg tt elt (aD q.2) (List.replicate k none++dD τ cap) with
 |.ok xs=>if xs.length<=16777216 then .ok (.lst .own (if (q.1||cH τ cap)=true then bL xs else xs)) else .bad
 |_=>.bad
def Cf {Bx:Hp}(I:SI K H0 B0 B H σ τ P F)(sB:aw B Bx)(cap:List (Str×Nat))(hx:cH τ cap=true->∀ a∈P,∀ o,H a=some o->Bx a=some o):dj K Bx H (dD τ cap) (pU σ cap) []:=by
 induction cap with
 |nil=>exact⟨rfl,rfl⟩
 | cons p r ih =>
  have ih:=ih λ z=>hx (by unfold cH at z ⊢;rw[OC,z,Bool.or_true]);unfold dD pU at ih ⊢;rw[MU,MU];cases e:(τ[p.2]?).join with
  |none=>exact⟨_,_,rfl,ih⟩
  | some d =>
   have e':τ[p.2]?=some (some d):=by
    cases z:τ[p.2]? with
    |none=>rw[z]at e;cases e|some o=>rw[z]at e;exact N1 some e
   obtain⟨v,f,h1,h2,h3⟩:=I.rep.get e';refine⟨v,_,[],[],?_,?_,ih,rfl⟩
   ·rw[h1];rfl
   ·by_cases ho:d.bX=true
    ·have hc:cH τ (p::r)=true:=by
      unfold cH;rw[OC,e];simp[ho]
     exact h2.aq sB (λ a o s=>s.elim) λ a m o h=>hx hc a (h3.subset m) o h
    ·have hf:=h2.noOwn (by simpa using ho);subst hf;exact h2.aq sB (λ a o s=>s.elim) λ a m=>by cases m
def sr {Bx:Hp}:∀ (k:Nat) {τ:SD}{σ:L2.St},dj K Bx H τ σ []->dj K Bx H (List.replicate k none++τ) (List.replicate k none++σ) []
 |0,_,_,h=>h
 |k+1,_,_,h=>⟨none,_,rfl,sr k h⟩
def SI.HG{o':HO}(I:SI K H0 B0 B H σ τ P F')(hF:F' a)(hH0:H0 a=none)(ha:H a=some o)(mu:rq o):SI K H0 B0 B (upd H a o') σ τ P F':=by
 have kp:j7 H (upd H a o') [a]:=⟨λ b u h n=>by rw[aU (by simpa using n)];exact h,λ b m=>by
  have:b=a:=by simpa using m
  subst this;exact⟨o,ha,mu⟩⟩
 have kr:∀ {τ:SD}{σ:L2.St}{P:List Addr},(∀ b∈P,b≠a)->dj K B H τ σ P->dj K B (upd H a o') τ σ P:=by
  intro τ
  induction τ with
  |nil=>intro σ P _ h;exact h
  | cons q r ih =>
   intro σ P hp h;cases q with
   |none=>obtain⟨x,t,e,h⟩:=h;exact⟨x,t,e,ih hp h⟩
   | some d =>
    obtain⟨v,t,f,g,e,h1,h2,z⟩:=h;subst z;exact⟨v,t,f,g,e,h1.keep kp λ b m=>by
     have:=hp b (MW _ m);simpa using this,ih (λ b m=>hp b (MT _ m)) h2,rfl⟩
 refine⟨λ b u e=>?_,λ b u e=>?_,I.b0,I.nb,kr (λ b m z=>(I.own b m).2.2 (z▸hF)) I.rep,I.nd,I.own,λ b m=>⟨(I.fr b m).1,?_⟩⟩
 ·rw[aU]
  ·exact I.bh b u e
  ·intro z;subst z;rw[(I.fr b hF).1]at e;cases e
 ·rw[aU]
  ·exact I.h0 b u e
  ·intro z;subst z;rw[hH0]at e;cases e
 ·by_cases z:b=a
  ·subst z;rw[bB];exact Oh _
  ·rw[aU z];exact(I.fr b m).2
def aG{r:Res α}{f:α->Res β}{b:β}(h:r.bind f=.ok b):∃ a,r=.ok a/\f a=.ok b:=by
 cases r with
 |ok a=>exact⟨a,rfl,h⟩| fY C=>cases h|bad=>cases h
def As{k:Nat}{fl:Bool}{J:It}(I1:SI K H0 B0 B1 H1 σ τ P F)(k1:fM H0 B1 H1 P F fp)(JA:Gp K J ds fl B1 H1 P fp)
  (h:Goal K Y H0 B0 B1 H1 σ τ P F Q (match fT tgd tt elt (aD ds) (List.replicate k none++dD τ cap) with
   |.ok xs=>if xs.length<=16777216 then .ok (.lst .own (if (fl||cH τ cap)=true then bL xs else xs)) else .bad
   |_=>.bad)):rW (λ _ _ R=>R J H1) (EU K tgd) (kF K yJ tt) (tM K yJ elt) k cap σ H1 Q:=by
 intro acc hacc;cases zc:fT tgd tt elt (aD ds) (List.replicate k none++dD τ cap) with
 |fY C=>rw[zc]at h;exact h.elim|bad=>rw[zc]at h;exact h.elim
 | ok xs =>
  rw[zc]at h;simp only at h;by_cases hxl:xs.length<=16777216
  ·rw[MO hxl]at h
   let S:Addr->Prop:=λ a=>(fl||cH τ cap)=true/\a∈P
   let Bx:Hp:=atRest B1 H1 (λ a=>S a\/a∈fp)
   have sBx:aw B1 Bx:=eV I1.bh;have uBx:aw Bx H1:=jG I1.bh;have J1:EO K J (aD ds) Bx H1:=JA Bx sBx uBx (λ a m o e=>ib (.inr m) e) (λ hf a m o e=>ib (.inl ⟨by rw[hf];rfl,m⟩) e);have c0:dj K Bx H1 (List.replicate k none++dD τ cap) (List.replicate k none++pU σ cap) []:=sr k (Cf I1 sBx cap λ hc a m o e=>ib (.inl ⟨by rw[hc,Bool.or_true],m⟩) e);have sacc:aw H1 (upd H1 acc (.lst [])):=gC hacc;have C0:SI K H1 Bx Bx (upd H1 acc (.lst [])) (List.replicate k none++pU σ cap) (List.replicate k none++dD τ cap) [] (λ a=>a=acc\/a∈([]:List Addr)):=
    ⟨uBx.trans sacc,sacc,aw.refl _,λ a n=>.inl n,c0.mono sacc (aw.refl _),NJ,(λ a m=>by cases m),λ a m=>by
     have:a=acc:=m.elim id λ z=>by cases z
     subst this;exact⟨uBx.free hacc,by rw[bB];exact Oh _⟩⟩
   refine⟨λ i m τv ys H'=>m=(aD ds).length-i/\i<=(aD ds).length/\∃ B' τb Pb es fe rest,SI K H1 Bx B' H' τv τb Pb (λ a=>a=acc\/a∈fe)/\H' acc=some (.lst ys)/\ak K B' No H' es ys fe/\fe.Nodup /\
     (∀ a∈fe,H1 a=none/\a≠acc)/\fT tgd tt elt ((aD ds).drop i) τb=.ok rest/\xs=es++rest/\acc∉fe,⟨_,rfl,NV _,Bx,_,[],[],[],xs,C0,bB,⟨rfl,rfl⟩,NJ,(λ a m=>by cases m),zc,rfl,by simp⟩,?_⟩
   rintro i m τv ys H' ⟨rfl,hle,B',τb,Pb,es,fe,rest,C,ha,re,ndf,own,ec,ex,hna⟩;have im:mR H1 H':=mR.of C.h0;by_cases hlt:i<(aD ds).length
   ·obtain⟨d,hd⟩:∃ d,(aD ds)[i]?=some d:=⟨(aD ds)[i],MA hlt⟩;have hdrop:(aD ds).drop i=d::(aD ds).drop (i+1):=by
     rw[OI hlt]
     congr 1
     rw[MA hlt]at hd;exact Nq hd
    rw[hdrop]at ec;unfold fT at ec;refine .inr ⟨J1.go B' H' i d C.b0 C.bh im hd,λ x H'' y=>?_⟩;obtain⟨sy,ry⟩:=J1.wQ B' H' i d x H'' C.b0 C.bh im hd y;cases w:tgd d τb with
    |none=>rw[w]at ec;cases ec
    | some τ2 =>
     rw[w]at ec;simp only at ec;refine⟨H1,Bx,B',τb,Pb,_,d,[],C.grow sy,ry,fM.nil,?_⟩;rw[w];intro H3 σ3 P3 I3 e3;subst e3;obtain⟨b,eb,ec⟩:=aG ec;refine⟨H1,Bx,B',τ2,P3,_,I3,?_⟩;rw[eb];intro H4 B4 I4 s4 b4;have re4:ak K B4 No H4 es ys fe:=re.mono (sy.trans s4) b4 λ _ x=>x;have ha4:H4 acc=some (.lst ys):=s4 _ _ (sy _ _ ha);cases b with
     | false =>
      rw[MP MH]at ec ⊢;exact⟨_,by omega,rfl,hlt,B4,τ2,P3,es,fe,rest,I4,ha4,re4,ndf,own,ec,ex,hna⟩
     | true =>
      rw[MO rfl]at ec ⊢;obtain⟨x',ex',ec⟩:=aG ec;refine⟨H1,Bx,B4,τ2,P3,_,I4,?_⟩;rw[ex'];intro v H5 B5 fv I5 s5 b5 r5 k5;by_cases hb:x'.aA=true
      ·rw[MO hb]at ec;cases ec
      ·rw[MP hb]at ec;obtain⟨rest',er',ec⟩:=aG ec;cases ec;have hb:x'.aA=false:=by simpa using hb
       have ha5:H5 acc=some (.lst ys):=s5 _ _ ha4;have re5:ak K B5 No H5 es ys fe:=re4.mono s5 b5 λ _ x=>x;have hlen:ys.length<sizeLine:=by
        rw[<-re.length,NH];have:=N1 List.length ex;simp at this;omega
       refine⟨ha5,hlen,_,by omega,rfl,hlt,?_⟩;have Ih:=I5.hold k5;have fdis:∀ a∈fv,a∉fe/\a≠acc:=λ a m=>⟨λ z=>(k5.own a m).2.2.2.2 (.inr z),λ z=>(k5.own a m).2.2.2.2 (.inl z)⟩;have Ih2:SI K H1 Bx B5 H5 σ3 τ2 P3 (λ a=>a=acc\/a∈fe++fv):=Ih.nP λ a m=>by
        rcases m with m|m
        ·exact .inr (.inl m)
        ·rcases M4.mp m with m|m
         ·exact .inr (.inr m)
         ·exact .inl m
       have Iw:=Ih2.HG (o':=.lst (ys++[v])) (.inl rfl) hacc ha5 trivial;have kp:j7 H5 (upd H5 acc (.lst (ys++[v]))) [acc]:=⟨λ b u h n=>by rw[aU (by simpa using n)];exact h,λ b m=>by
        have:b=acc:=by simpa using m
        subst this;exact⟨_,ha5,trivial⟩⟩
       refine⟨B5,τ2,P3,es++[x'],fe++fv,rest',Iw,bB,?_,MS.mpr ⟨ndf,k5.nd,λ a h1 b h2 e=>(fdis b h2).1 (e▸h1)⟩,λ a m=>?_,er',by rw[ex];simp,λ m=>?_⟩
       ·refine ak.append (re5.keep kp λ a m z=>?_) (ak.one ((r5.gY hb).keep kp λ a m z=>?_))
        ·have:a=acc:=by simpa using z
         exact hna (this▸m)
        ·have:a=acc:=by simpa using z
         exact(fdis a m).2 this
       ·rcases M4.mp m with m|m
        ·exact own a m
        ·exact⟨(k5.own a m).2.1,(fdis a m).2⟩
       ·rcases M4.mp m with m|m
        ·exact hna m
        ·exact(fdis acc m).2 rfl
   ·have e:i=(aD ds).length:=by omega
    subst e;rw[List.drop_length]at ec;unfold fT at ec;cases ec;rw[Nh]at ex;subst ex;refine .inl ⟨J1.stop B' H' C.b0 C.bh im,?_⟩;have ro:oK K H1 Bx B' H' (.lst .own xs) (.ref acc) (acc::fe):=⟨C.h0,C.b0,C.bh,C.nb,⟨acc,ys,fe,rfl,ha,re,rfl⟩,MZ.mpr ⟨hna,ndf⟩,λ a m=>by
     rcases MK.mp m with m|m
     ·subst m;exact⟨(C.fr a (.inl rfl)).1,hacc,(C.fr a (.inl rfl)).2⟩
     ·exact⟨(C.fr a (.inr m)).1,(own a m).1,(C.fr a (.inr m)).2⟩⟩
    obtain⟨B2,I2,s2,k2,hb⟩:=I1.called k1 (S:=S) (λ a s=>s.2) ro;by_cases hl:(fl||cH τ cap)=true
    ·rw[MO hl]at h;exact h (.ref acc) H' B2 _ I2 C.h0 s2 (ro.rep.aW ro.bh λ a o e=>(hb a o e).imp id λ z=>z.2) k2
    ·rw[MP hl]at h;have sb:aw B' B2:=λ a o e=>(hb a o e).resolve_right λ z=>hl z.1.1;exact h (.ref acc) H' B2 _ I2 C.h0 s2 (ro.rep.mono (aw.refl _) sb λ _ x=>x.elim) k2
  ·rw[MP hxl]at h;exact h.elim
def su{k:Nat}(I:SI K H0 B0 B H σ τ P F)(h:Goal K Y H0 B0 B H σ τ P F Q (aR it tgd tt elt k cap τ)) :
  rW (Bb K Y it) (EU K tgd) (kF K yJ tt) (tM K yJ elt) k cap σ H Q:=by
 refine⟨H0,B0,B,τ,P,F,I,?_⟩;unfold aR at h;cases z:it τ with
 |fY C=>rw[z]at h;exact h|bad=>rw[z]at h;exact h
 | ok q =>
  obtain⟨fl,ds⟩:=q;rw[z]at h;simp only[Res.aG]at h;intro J H1 B1 fp I1 s1 b1 k1 JA;exact As I1 k1 JA (Goal.later h s1 b1)
variable {elt iter:Expr}{ifs:List Expr}{scope:Scope}{own:List Str}
def i6 (ok:gQ X scope own cap)(hc:X.calm=true)(hi:PI X tg iter (Bb X.K Y it))(Bl:iM X scope own cap tg ifs elt (EU X.K tgd) (kF X.K yJ tt) (tM X.K yJ fe))(hs:∀ x,foldedSetIterable iter X.env x=pure x:=by intro _;rfl) :
  PE X (.ListComp elt [⟨tg,iter,ifs,0⟩] scope pos) (tM X.K Y (aR it tgd tt fe own.length cap)):=
 PE.imp (EI ok hc hi Bl hs) λ σ H Q hq=>ex8 hq λ H0 B0 B τ P F I h=>su I h
def Ar {i:Nat}{y:Str}{py spos:Pos}(hN:X.N.Nodup)(hi':X.N[i]?=some y)(hy:Loc X.env.scope y)(ok:gQ X scope own cap)(hc:X.calm=true)(hi:PI X tg iter (Bb X.K Y it))(Bl:iM X scope own cap tg ifs elt (EU X.K tgd) (kF X.K yJ tt) (tM X.K yJ fe))
  (hsw:swapsWith (.ListComp elt [⟨tg,iter,ifs,0⟩] scope pos) (some (.Name y py)) spos.line X.env=pure true:=by rfl)
  (hf:X.fn y=true\/X.env.scope.names.lookup y=some .local:=by first|exact .inl rfl|exact .inr rfl) (hs:∀ x,foldedSetIterable iter X.env x=pure x:=by intro _;rfl) :
  PS X (.Assign [.Name y py] (.ListComp elt [⟨tg,iter,ifs,0⟩] scope pos) spos) (kj X.K Y (bq i (aR it tgd tt fe own.length cap))):=by
 refine PS.imp (xm hN hi' hy ok hc hi Bl hsw hf hs) λ E σ H hq=>ex7 hq λ H0 B0 B τ P I h=>?_;have key:tM X.K Y (aR it tgd tt fe own.length cap) σ H (λ x H1=>rS i x σ H1 E.nx):=mS I h λ d v H1 B1 fp _ I1 _ _ r1 k1 h1=>by
  unfold jn at h1;split at h1
  ·exact h1.elim
  ·rename_i hb;obtain⟨P',I',_⟩:=I1.set i (r1.gY (by simpa using hb)) k1;exact h1 B1 H1 _ P' ⟨I',aw.refl _,mR.refl _⟩
 obtain⟨H0',B0',B',τ',P',F',I',h'⟩:=key;exact su I' h'
def bw (_:SD):Res Bool:=.ok true
def fj:JS X [] (kF X.K Y bw):=λ pins s σ H Q I ⟨H0,B0,B,τ,P,F,I',h⟩=>EH pins s σ H Q I (h H B I' (aw.refl _) (aw.refl _))
def pH {c:Expr}(h:PT X c (kF X.K Y gc)):JS X [c] (kF X.K Y gc):=EG h
end
section
variable {K:PySem.W.Frag}
def KY:D->String|.bJ=>"NoneType" |.bl _=>"bool" |.int _=>"int" |.str _=>"str" |.tup _=>"tuple" |.lst _ _=>"list" |.dct _ _ _ _=>"dict" |.exc _=>""
def D.isExc:D->Bool|.exc _=>true|_=>false
def ua:eE X (.builtin "isinstance") (λ xs H Q=>∃ x t b,xs=[x,.ty T]/\(mG X.K H x t\/(∃ a vs,x=.ref a/\jd X.K H a vs/\t=.type "tuple")\/(∃ a vs,x=.ref a/\dR X.K H a vs/\t=.type "list"))/\PySem.W.kitOne X.K t (.type T)=some b/\Q (.bl b) H):=by
 intro pins s σ H xs us Q I r h;obtain⟨x,t,b,rfl,ty,e,q⟩:=h;obtain⟨u,v,rfl,ru,rv⟩:=vals2 r;cases rv;rcases ty with ty|⟨a,vs,rfl,hq,rfl⟩|⟨a,vs,rfl,hq,rfl⟩
 ·exact zY I ru ty e λ tk=>⟨.bl b,H,I.tok tk,rfl,q⟩
 ·cases ru;obtain⟨its,_,⟨o,h1,h2,_⟩,_⟩:=I.tuple hq;exact NI PySem.W.kitx_tuple I.tG ⟨o,h1,h2⟩ e (λ z=>nomatch z) λ tk=>⟨.bl b,H,I.tok tk,rfl,q⟩
 ·cases ru;obtain⟨its,_,pl,_⟩:=I.list hq;obtain⟨o,h1,h2,_⟩:=pl.isList;exact NI QH I.tG ⟨o,h1,h2⟩ e (λ z=>nomatch z) λ tk=>⟨.bl b,H,I.tok tk,rfl,q⟩
def Ci(I:SI K H0 B0 B H σ τ P F)(r:Rep K B (· ∈ P) H d v f)(ne:d.isExc=false):mG K H v (.type (KY d))\/(∃ a vs,v=.ref a/\jd K H a vs/\(Value.type (KY d))=.type "tuple")\/(∃ a vs,v=.ref a/\dR K H a vs/\(Value.type (KY d))=.type "list"):=by
 cases d with
 |bJ=>rw[r.1];exact .inl .bJ|bl b=>rw[r.1];exact .inl (.bl b)|int b=>rw[r.1];exact .inl (.int b)|str b=>rw[r.1];exact .inl (.str b)|exc _=>cases ne|tup xs=>obtain⟨a,vs,rfl,q,_⟩:=r;exact .inr (.inl ⟨a,vs,rfl,jd.of q,rfl⟩)
 | lst t xs =>
  obtain⟨a,vs,g,rfl,q,_⟩:=r.lst I;exact .inr (.inr ⟨a,vs,rfl,q,rfl⟩)
 | dct t k ks xs =>
  have:∃ a vs,v=.ref a/\DictAt H a k ks vs:=by
   cases t with
   |len a=>obtain⟨vs,g,e,q,_⟩:=r;exact⟨a,vs,e,q⟩| own=>obtain⟨a,vs,g,e,q,_⟩:=r;exact⟨a,vs,e,q⟩| bor=>obtain⟨a,vs,e,q,_⟩:=r;exact⟨a,vs,e,q.elim (λ y=>y.2) λ y=>y.mono I.bh⟩| aq=>obtain⟨a,vs,e,q,_⟩:=r;exact⟨a,vs,e,q.mono I.bh⟩
  obtain⟨a,vs,rfl,⟨_,kvs,ep,q,_⟩|⟨_,kvs,ep,q,_⟩⟩:=this
  ·exact .inl (.dK q)
  ·exact .inl (.dT q)
def sA:D->Bool|.bl _=>true|_=>false
def uc:D->Bool|.bl _=>true|.int _=>true|_=>false
def ud:D->Bool|.str _=>true|_=>false
def t9:D->Bool|.lst _ _=>true|_=>false
def jI:D->Bool|.tup _=>true|_=>false
def jo:D->Bool|.dct _ _ _ _=>true|_=>false
def nS (T:String)(g:D->Bool):Prop:=∀ (K:PySem.W.Frag) (d:D),d.isExc=false->PySem.W.kitOne K (.type (KY d)) (.type T)=some (g d)
def nT:nS "bool" sA:=λ K d h=>by cases d<;>first|rfl|cases h
def vv:nS "int" uc:=λ K d h=>by cases d<;>first|rfl|cases h
def vt:nS "str" ud:=λ K d h=>by cases d<;>first|rfl|cases h
def sC:nS "list" t9:=λ K d h=>by cases d<;>first|rfl|cases h
def qf:nS "tuple" jI:=λ K d h=>by cases d<;>first|rfl|cases h
def cW (g:D->Bool)(d:D):Res D:=if d.isExc=true then .bad else .ok (.bl (g d))
def iA{g:D->Bool}{ty:Expr}{pt:Pos}(hI:nS T g)(hg:Gl X "isinstance")(hm:X.mg "isinstance" = none)(he:PE X e (tM X.K Y fe))(hgT:Gl X x)(hmT:X.mg x=none)(hbT:bootBuiltins x=some (.type T))
  (hs:starEach [e,.Name x pt] X.env=(false,eval e X.env)::starEach [.Name x pt] X.env:=by rfl) (hs2:starEach [.Name x pt] X.env=(false,eval (.Name x pt) X.env)::starEach [] X.env:=by rfl) (hpl:(backTo pos (starEach [.Name x pt] X.env)).any (·.1)=false:=by rfl) (hn:x ≠ "__name__" :=by decide) (hdb:(x == ("__debug__" : Str))=false:=by decide) :
  PE X (.Call (.Name "isinstance" p) [e,.Name x pt] [] pos) (tM X.K Y (ki (cW g) fe)):=by
 refine PE.imp (pM (ua (T:=T)) hg hm (by decide +kernel) (gm he (gm (Ea hgT hmT hbT (show RelV (.ty T) _ from rfl) hn hdb) jC hs2) hs) (he:=hs) (hpl:=hpl)) λ σ H Q hq=>ex8 hq λ H0 B0 B τ P F I h=>?_;refine tM.seq (g:=cW g) I h λ d v H1 B1 fp _ I1 s1 b1 r1 k1 h1=>?_;unfold cW at h1;split at h1
 ·exact h1.elim
 ·rename_i hx;have hx:d.isExc=false:=by simpa using hx
  exact⟨v,_,_,rfl,Ci I1 r1 hx,hI _ d hx,Out.here h1 I1 ⟨rfl,rfl⟩⟩
def intsOf:List D->Option (List Int)
 |[]=>some []
 |.int i::r=>(intsOf r).map (i :: ·)
 |_::_=>none
def dE (ns:List Int):intsOf (ns.map D.int)=some ns:=by
 induction ns with
 |nil=>rfl|cons n r ih=>rw[MU,intsOf,ih];rfl
def dX:∀ {xs:List D}{ns:List Int},intsOf xs=some ns->xs=ns.map D.int
 |[],ns,h=>by cases h;rfl
 | .int i::r,ns,h=>by
  unfold intsOf at h;cases e:intsOf r with
  |none=>rw[e]at h;cases h|some m=>rw[e]at h;cases h;rw[MU,<-dX e]
 |.bJ::_,_,h=>by cases h
 |.bl _::_,_,h=>by cases h
 |.str _::_,_,h=>by cases h
 |.tup _::_,_,h=>by cases h
 |.lst _ _::_,_,h=>by cases h
 |.dct _ _ _ _::_,_,h=>by cases h
 |.exc _::_,_,h=>by cases h
def dW {S:Addr->Prop}:∀ {ns:List Int}{vs:List V}{f:List Addr},ak K B S H (ns.map D.int) vs f->vs=ns.map V.int/\f=[]
 |[],vs,f,r=>r
 | n::ns,vs,f,r=>by
  obtain⟨v,w,f1,f2,rfl,⟨rfl,rfl⟩,r2,rfl⟩:=r;obtain⟨rfl,rfl⟩:=dW r2;exact⟨rfl,rfl⟩
def iq {S:Addr->Prop}:∀ (ns:List Int),ak K B S H (ns.map D.int) (ns.map V.int) []
 |[]=>⟨rfl,rfl⟩
 |n::ns=>⟨_,_,[],[],rfl,⟨rfl,rfl⟩,iq ns,rfl⟩
def sortI (ns:List Int):List Int:=ns.mergeSort (λ a b=>decide (a<=b))
def sortI_perm (ns:List Int):(sortI ns).Perm ns:=List.mergeSort_perm ns _
def dG (ns:List Int):(sortI ns).Pairwise (· <= ·):=by
 have h:=List.pairwise_mergeSort (le:=λ a b:Int=>decide (a<=b)) (λ a b c h1 h2=>by simp at *;omega) (λ a b=>by simp;omega) ns;exact h.imp λ h=>by simpa using h
def dY:∀ {l m:List Int},l.Perm m->l.Pairwise (· <= ·)->m.Pairwise (· <= ·)->l=m
 |[],m,hp,_,_=>(List.Perm.nil_eq hp)
 | x::r,m,hp,h1,h2=>by
  match m,hp,h2 with
  |[],hp,_=>exact absurd hp.length_eq (by simp)
  | y::r',hp,h2 =>
   obtain⟨a1,a2⟩:=OF.mp h1;obtain⟨b1,b2⟩:=OF.mp h2;have e:x=y:=by
    have m1:x∈y::r':=hp.mem_iff.mp MD;have m2:y∈x::r:=hp.mem_iff.mpr MD;rcases MK.mp m1 with q|q
    ·exact q
    ·rcases MK.mp m2 with q'|q'
     ·exact q'.symm
     ·have:=b1 x q;have:=a1 y q';omega
   subst e;rw[dY ((List.perm_cons _).mp hp) a2 b2]
def cG:List D->Res D
 |[.lst _ xs]=>match intsOf xs with|some ns=>if ns.length<64 then .ok (.lst .own ((sortI ns).map D.int)) else .bad|none=>.bad
 |_=>.bad
def Cg:jV K Y (λ xs H Q=>∃ (a:Addr) (ns:List Int),xs=[.ref a]/\dR K H a (ns.map V.int)/\ns.length<64/\∀ (p:Addr) (ns':List Int),H p=none->ns'.Perm ns->ns'.Pairwise (· <= ·)->Q (.ref p) (upd H p (.lst (ns'.map V.int)))) cG:=by
 intro H0 B0 B H σ τ P F ds vs f Q I r k h;unfold cG at h;split at h
 ·obtain⟨v,rfl,r'⟩:=iO r;obtain⟨a,ws,g,rfl,q,l,s⟩:=r'.lst I;split at h
  ·rename_i ns e;split at h
   ·rename_i hl;have ex:=dX e;subst ex;obtain⟨rfl,rfl⟩:=dW l;refine⟨a,ns,rfl,eZ q,hl,λ p ns' hp h1 h2=>?_⟩;have e2:ns'=sortI ns:=dY (h1.trans (sortI_perm ns).symm) h2 (dG ns);subst e2;exact Out.tX h I (iq _) fM.nil hp
   ·exact h.elim
  ·exact h.elim
 ·exact h.elim
end
def kg:D->Option Key|.int i=>some (.inl i)|.str x=>some (.inr x)|_=>none
def dM:List D->Option (List Key)
 |[]=>some []
 |d::r=>(kg d).bind λ k=>(dM r).map (k :: ·)
def fO:D->Option KT
 |.int i=>some (.inl (.inl i))
 |.str x=>some (.inl (.inr x))
 |.tup ds=>(dM ds).map .inr
 |_=>none
def KT.kind:KT->Bool|.inl _=>false|.inr _=>true
def fL:List KT->List D->KT->Option D
 |k::ks,d::ds,q=>if k=q then some d else fL ks ds q
 |_,_,_=>none
def ph (ks:List KT)(q:KT):Bool:=ks.any λ k=>decide (k=q)
def jX (ks:List KT)(q:KT):List KT:=if ph ks q=true then ks else ks++[q]
def yP:List KT->List D->KT->D->List D
 |k::ks,d::ds,q,x=>(if k=q then x else d)::yP ks ds q x
 |_,ds,_,_=>ds
def jW (ks:List KT)(ds:List D)(q:KT)(d:D):List D:=if ph ks q=true then yP ks ds q d else ds++[d]
section
variable {K:PySem.W.Frag}
def Rep.dc (I:SI K H0 B0 B H σ τ P F){t:Tg}{k:Bool}(r:Rep K B (· ∈ P) H (.dct t k ks xs) v f):∃ a vs g,v=.ref a/\DictAt H a k ks vs/\ak K B (· ∈ P) H xs vs g/\List.Sublist g f:=by
 cases t with
 | len a =>
  obtain⟨vs,g,e,q,r,z⟩:=r;subst z;exact⟨a,vs,g,e,q,r,PV _ _⟩
 | own =>
  obtain⟨a,vs,g,e,q,r,z⟩:=r;subst z;exact⟨a,vs,g,e,q,r,PV _ _⟩
 | bor =>
  obtain⟨a,vs,e,q,r,z⟩:=r;subst z;exact⟨a,vs,[],e,q.elim (λ y=>y.2) λ y=>y.mono I.bh,r,ND _⟩
 | aq =>
  obtain⟨a,vs,e,q,r,z⟩:=r;subst z;exact⟨a,vs,[],e,q.mono I.bh,r.mono (aw.refl _) (aw.refl _) (λ _ x=>x.elim),ND _⟩
def sD {S:Addr->Prop}:∀ {ds:List D}{k:List Key}{vs:List V}{f:List Addr},dM ds=some k->ak K B S H ds vs f->vs=k.map kV
 |[],k,vs,f,h,r=>by cases h;exact r.1
 | d::ds,k,vs,f,h,r=>by
  obtain⟨v,w,f1,f2,rfl,r1,r2,_⟩:=r;unfold dM at h;cases e1:kg d with
  |none=>rw[e1]at h;cases h
  | some q =>
   rw[e1]at h;cases e2:dM ds with
   |none=>rw[e2]at h;cases h
   | some m =>
    rw[e2]at h;cases h;rw[sD e2 r2,MU]
    congr 1
    cases d<;>first|(cases e1;exact r1.1)|cases e1
def ue {S:Addr->Prop}{k:Key}(h:fO d=some (.inl k))(r:Rep K B S H d v f):v=kV k:=by
 cases d with
 |int i=>cases h;exact r.1|str i=>cases h;exact r.1
 | tup ds =>
  have h:(dM ds).map Sum.inr=some (Sum.inl k):=h;cases e:dM ds<;>rw[e]at h<;>cases h
 |_=>cases h
def Ck {S:Addr->Prop}{k:List Key}(h:fO d=some (.inr k))(r:Rep K B S H d v f):∃ b,v=.ref b/\H b=some (.tup (k.map kV)):=by
 cases d with
 | tup ds =>
  have h:(dM ds).map Sum.inr=some (Sum.inr k):=h;cases e:dM ds with
  |none=>rw[e]at h;cases h
  | some m =>
   rw[e]at h;cases h;obtain⟨a,vs,rfl,q,rl⟩:=r;rw[sD e rl]at q;exact⟨a,rfl,q⟩
 |int i=>cases h|str i=>cases h|_=>cases h
def nU {κ:Type}[DecidableEq κ](ι:κ->KT)(inj:∀ a b,ι a=ι b->a=b){S:Addr->Prop}:∀ {kvs:List (κ×V)}{xs:List D}{f:List Addr}{k:κ},ak K B S H xs (kvs.map (·.2)) f ->
  match fL (kvs.map λ p=>ι p.1) xs (ι k) with
  |some d=>∃ v g,lH kvs k=some v/\Rep K B S H d v g/\List.Sublist g f
  |none=>lH kvs k=none
 |[],xs,f,k,r=>by cases xs<;>rfl
 |p::kvs,[],f,k,r=>by obtain⟨h,_⟩:=r;cases h
 | p::kvs,d::ds,f,k,r=>by
  obtain⟨v,w,f1,f2,e,r1,r2,rfl⟩:=r;rw[MU]at e;cases e;rw[MU,fL];by_cases h:p.1=k
  ·rw[MO (N1 ι h)];exact⟨_,f1,ky h,r1,Np _ _⟩
  ·rw[MP λ z=>h (inj _ _ z)];have ih:=nU ι inj (k:=k) r2;split at ih
   ·rename_i d' e';obtain⟨v',g,h1,h2,h3⟩:=ih;exact⟨v',g,by rw[jh h];exact h1,h2,h3.trans (Nb _ _)⟩
   ·rename_i e';rw[jh h];exact ih
def yR{k:Bool}{g:List Addr}{q:KT}{dk:D}{y:V}(hd:DictAt H a k ks vs)(r:ak K B (· ∈ P) H xs vs g)(hk:fO dk=some q)(rk:Rep K B (· ∈ P) H dk y f)(hq:q.kind=k) :
  match fL ks xs q with
  |some d=>∃ v g',lG H a y (some v)/\Rep K B (· ∈ P) H d v g'/\List.Sublist g' g
  |none=>lG H a y none:=by
 rcases hd with ⟨rfl,kvs,ep,ha,rfl,rfl⟩|⟨rfl,kvs,ep,ha,rfl,rfl⟩
 ·cases q with
  |inr q=>cases hq
  | inl q =>
   have ev:=ue hk rk;subst ev;have ih:=nU Sum.inl (λ a b h=>Pe h) (k:=q) r;split at ih
   ·rename_i d e;rw[e];obtain⟨v,g',h1,h2,h3⟩:=ih;exact⟨v,g',h1▸lG.k ⟨ep,ha⟩,h2,h3⟩
   ·rename_i e;rw[e];exact ih▸lG.k ⟨ep,ha⟩
 ·cases q with
  |inl q=>cases hq
  | inr q =>
   obtain⟨b,rfl,hb⟩:=Ck hk rk;have ih:=nU Sum.inr (λ a b h=>Sum.inr.inj h) (k:=q) r;split at ih
   ·rename_i d e;rw[e];obtain⟨v,g',h1,h2,h3⟩:=ih;exact⟨v,g',h1▸lG.t ⟨ep,ha⟩ hb,h2,h3⟩
   ·rename_i e;rw[e];exact ih▸lG.t ⟨ep,ha⟩ hb
def e7 (k:Bool)(_:SD):Res D:=.ok (.dct .own k [] [])
def newDict{k:Bool}{pa:Addr}(h:Out K H0 B0 B H σ τ P F Q (.dct .own k [] []))(I:SI K H0 B0 B H σ τ P F)(hp:H pa=none)(ho:DictAt (upd H pa o) pa k [] []):Q (.ref pa) (upd H pa o):=by
 have s:=gC (o:=o) hp;obtain⟨n1,n2,n3,n4⟩:=I.BS hp;refine h (.ref pa) _ B [pa] (I.grow s) s (aw.refl _) ⟨pa,[],[],rfl,ho,⟨rfl,rfl⟩,rfl⟩ ⟨by simp,λ a m=>?_⟩;have e:a=pa:=by simpa using m
 subst e;exact⟨n1,n2,(by rw[bB];exact Oh _),n3,n4⟩
def EX:PE X (.Dict [] [] pos) (tM X.K Y (e7 true)):=PE.imp BG λ σ H Q ⟨H0,B0,B,τ,P,F,I,h⟩ p hp=>newDict h I hp (.inr ⟨rfl,[],0,bB,rfl,rfl⟩)
def yQ:PE X (.Dict [] [] pos) (tM X.K Y (e7 false)):=PE.imp BI λ σ H Q ⟨H0,B0,B,τ,P,F,I,h⟩ p hp=>newDict h I hp (.inl ⟨rfl,[],0,bB,rfl,rfl⟩)
variable {o i:Expr}{fo fi:SD->Res D}
def ee (dd dk:D):Res D:=match dd with
 | .dct _ k ks vs=>match fO dk with
  |some q=>if q.kind=k then (match fL ks vs q with|some d=>.ok d|none=>.bad) else .bad
  |none=>.bad
 |_=>.bad
def xo (hu:X.A.units+1<cLine)(ho:PE X o (tM X.K Y fo))(hi:PE X i (tM X.K Y fi))(hs:ED i):PE X (.Subscript o i pos) (tM X.K Y (af ee fo fi)):=
 PE.imp (yH hu ho hi hs) λ σ H Q hq=>ex8 hq λ H0 B0 B τ P F I h=>tM.rB I h λ d1 d2 v1 v2 H2 B2 f1 f2 _ _ I2 _ _ r1 r2 k h2=>by
  unfold ee at h2;split at h2
  ·split at h2
   ·rename_i q hk;split at h2
    ·rename_i hq;obtain⟨a,vs,g,rfl,hd,rl,sg⟩:=r1.dc I2;have key:=yR hd rl hk r2 hq;split at key
     ·rename_i d e;rw[e]at h2;obtain⟨v,g',k1,k2,k3⟩:=key;exact⟨a,v,rfl,k1,Out.pZ h2 I2 k2 (k.left.sub (k3.trans sg))⟩
     ·rename_i e;rw[e]at h2;exact h2.elim
    ·exact h2.elim
   ·exact h2.elim
  ·exact h2.elim
def dw (dd dk dz:D):Res D:=match dd with
 | .dct _ k ks vs=>match fO dk with
  |some q=>if q.kind=k then .ok ((fL ks vs q).getD dz) else .bad
  |none=>.bad
 |_=>.bad
def fU (a b c:SD->Res D)(τ:SD):Res D:=(a τ).bind λ x=>if jo x=true then (b τ).bind λ y=>(c τ).bind (dw x y) else .bad
def HH{k:Bool}(h:DictAt H a k ks vs):Lu H a:=by
 rcases h with ⟨_,kvs,ep,h,_⟩|⟨_,kvs,ep,h,_⟩
 ·exact .inl ⟨kvs,ep,.inl h⟩
 ·exact .inr ⟨kvs,ep,.inl h⟩
def EW {f:Expr}{ff:SD->Res D}(hu:X.A.units+1<cLine)(ho:PE X o (tM X.K Y fo))(he:PE X e (tM X.K Y fe))(hf:PE X f (tM X.K Y ff))(m:M2 X o "get" apos e f cpos):PE X (.Call (.Attribute o "get" apos) [e,f] [] cpos) (tM X.K Y (fU fo fe ff)):=by
 refine PE.imp (BH hu ho he hf m) λ σ H Q hq=>ex8 hq λ H0 B0 B τ P F I h=>?_;refine tM.seq (g:=λ x=>if jo x=true then (fe τ).bind λ y=>(ff τ).bind (dw x y) else .bad) I h λ d1 v1 H1 B1 fp1 _ I1 s1 b1 r1 k1 h1=>?_;by_cases hdc:jo d1=true
 ·rw[MO hdc]at h1;cases d1 with
  | dct t k ks xs =>
   obtain⟨a,vs,g,rfl,hd,rl,sg⟩:=r1.dc I1;refine⟨a,rfl,HH hd,?_⟩;have I1h:=I1.hold k1;refine⟨H0,B0,B1,τ,P,_,I1h,?_⟩;cases z:fe τ with
   |fY C=>rw[z]at h1;exact jD.later h1 (aw.refl _) (aw.refl _) λ a x=>.inr x
   |bad=>rw[z]at h1;exact h1
   | ok d2 =>
    rw[z]at h1;intro v2 H2 B2 fp2 I2 s2 b2 r2 k2;have I2h:=I2.hold k2;refine⟨H0,B0,B2,τ,P,_,I2h,?_⟩;cases y:ff τ with
    |fY C=>rw[y]at h1;exact jD.later h1 s2 b2 λ a x=>.inr (.inr x)
    |bad=>rw[y]at h1;exact h1
    | ok d3 =>
     rw[y]at h1;intro v3 H3 B3 fp3 I3 s3 b3 r3 k3;have I4:=I3.nP (F':=F) λ a x=>.inr (.inr x);have h4:Goal X.K Y H0 B0 B3 H3 σ τ P F Q (dw (.dct t k ks xs) d2 d3):=Goal.later h1 (s2.trans s3) (b2.trans b3);have r14:=r1.mono (s2.trans s3) (b2.trans b3) λ _ x=>x;have r24:=r2.mono s3 b3 λ _ x=>x;have k3':fM H0 B3 H3 P F fp3:=⟨k3.nd,λ a m=>let ⟨a1,a2,a3,a4,a5⟩:=k3.own a m;⟨a1,a2,a3,a4,λ z=>a5 (.inr (.inr z))⟩⟩;have k1':fM H0 B3 H3 P F fp1:=⟨k1.nd,λ a m=>let ⟨_,a2,_,a4,a5⟩:=k1.own a m;⟨(I3.fr a (.inr (.inl m))).1,a2,(I3.fr a (.inr (.inl m))).2,a4,a5⟩⟩;simp only[dw]at h4;split at h4
     ·rename_i q hk;split at h4
      ·rename_i hq;obtain⟨a',vs',g',e',hd',rl',sg'⟩:=r14.dc I4;cases e';have key:=yR hd' rl' hk r24 hq;split at key
       ·rename_i d e;rw[e]at h4;obtain⟨v,g'',q1,q2,q3⟩:=key;exact⟨some v,q1,Out.pZ h4 I4 q2 (k1'.sub (q3.trans sg'))⟩
       ·rename_i e;rw[e]at h4;exact⟨none,key,Out.pZ h4 I4 r3 k3'⟩
      ·exact h4.elim
     ·exact h4.elim
  |_=>cases hdc
 ·rw[MP hdc]at h1;exact h1.elim
def Rep.EV {t:Tg}{k:Bool}{S:Addr->Prop}(ht:t.lO=true)(r:Rep K B S H (.dct t k ks xs) v fp) :
  ∃ a vs f,v=.ref a/\DictAt H a k ks vs/\ak K B S H xs vs f/\fp=a::f/\∀ {B' H':Hp}{S':Addr->Prop}{ks':List KT}{xs':List D}{vs':List V}{f':List Addr},DictAt H' a k ks' vs'->ak K B' S' H' xs' vs' f'->Rep K B' S' H' (.dct t k ks' xs') (.ref a) (a::f'):=by
 cases t with
 |own=>obtain⟨a,vs,f,e,q,r,z⟩:=r;exact⟨a,vs,f,e,q,r,z,λ q' r'=>⟨a,_,_,rfl,q',r',rfl⟩⟩| len a=>obtain⟨vs,f,e,q,r,z⟩:=r;exact⟨a,vs,f,e,q,r,z,λ q' r'=>⟨_,_,rfl,q',r',rfl⟩⟩| bor=>cases ht|aq=>cases ht
def dJ (τ:SD)(i:Nat):Option (Tg×Bool×List KT×List D):=match τ[i]? with|some (some (.dct t k ks xs))=>if t.lO=true then some (t,k,ks,xs) else none|_=>none
def qg{i:Nat}{t:Tg}{k:Bool}(h:dJ τ i=some (t,k,ks,xs)):τ[i]?=some (some (.dct t k ks xs))/\t.lO=true:=by
 unfold dJ at h;split at h
 ·rename_i e;split at h
  ·rename_i ht;cases h;exact⟨e,ht⟩
  ·cases h
 ·cases h
def vy {κ:Type}[DecidableEq κ](ι:κ->KT)(inj:∀ a b,ι a=ι b->a=b)(k:κ):∀ kvs:List (κ×V),ph (kvs.map λ p=>ι p.1) (ι k)=kvs.any λ kv=>decide (kv.1=k)
 |[]=>rfl
 | p::r=>by
  have ih:=vy ι inj k r;unfold ph at ih ⊢;rw[MU,OC,OC,ih]
  congr 1
  by_cases h:p.1=k
  ·simp[h]
  ·rw[M6 h,M6 λ z=>h (inj _ _ z)]
def xq {κ:Type}[DecidableEq κ](ι:κ->KT)(inj:∀ a b,ι a=ι b->a=b){kvs:List (κ×V)}{k:κ}(r:ak K B No H xs (kvs.map (·.2)) f)(rv:Rep K B No H d v fp)(hp:ph (kvs.map λ p=>ι p.1) (ι k)=true->d.pure=true) :
  jX (kvs.map λ p=>ι p.1) (ι k)=(putK kvs k v).map (λ p=>ι p.1)/\∃ f',ak K B No H (jW (kvs.map λ p=>ι p.1) xs (ι k) d) ((putK kvs k v).map (·.2)) f'/\(∀ b∈f',b∈f\/b∈fp)/\(f.Nodup->fp.Nodup->(∀ b∈fp,b∉f)->f'.Nodup):=by
 unfold jX jW putK;rw[vy ι inj k kvs]at hp ⊢;by_cases h:(kvs.any λ kv=>decide (kv.1=k))=true
 ·rw[MO h,MO h,MO h];have hpu:=hp h;have hfp:fp=[]:=tW.1 d hpu rv;subst hfp;refine⟨?_,?_⟩
  ·rw[M1];refine M5 λ p _=>?_;show _=ι (if p.1=k then (p.1,v) else p).1;split<;>rfl
  ·have key:∀ {kvs:List (κ×V)}{xs:List D}{f:List Addr},ak K B No H xs (kvs.map (·.2)) f->∃ f',ak K B No H (yP (kvs.map λ p=>ι p.1) xs (ι k) d) ((kvs.map λ kv=>if kv.1=k then (kv.1,v) else kv).map (·.2)) f'/\List.Sublist f' f:=by
    intro kvs
    induction kvs with
    | nil=>intro xs f r; cases xs with
     |nil=>exact⟨f,r,ND _⟩| cons x xs=>obtain⟨_,_,_,_,e,_⟩:=r;cases e
    | cons p kvs ih =>
     intro xs f r;cases xs with
     |nil=>obtain⟨e,_⟩:=r;cases e
     | cons x xs =>
      obtain⟨u,w,f1,f2,e,r1,r2,rfl⟩:=r;rw[MU]at e;cases e;obtain⟨g,h1,h2⟩:=ih r2;rw[MU,MU,MU,yP];by_cases hk:p.1=k
      ·rw[MO hk,MO (N1 ι hk)];exact⟨g,⟨v,_,[],g,rfl,rv,h1,rfl⟩,h2.trans (Nb _ _)⟩
      ·rw[MP hk,MP λ z=>hk (inj _ _ z)];exact⟨f1++g,⟨_,_,f1,g,rfl,r1,h1,rfl⟩,Qs (ND _) h2⟩
   obtain⟨g,h1,h2⟩:=key r;exact⟨g,h1,λ b m=>.inl (h2.subset m),λ n _ _=>n.sublist h2⟩
 ·rw[MP h,MP h,MP h];refine⟨by rw[M7];rfl,f++fp,?_,λ b m=>M4.mp m,λ n1 n2 n3=>MS.mpr ⟨n1,n2,λ a ha b hb e=>n3 b hb (e▸ha)⟩⟩;rw[M7];exact r.append (ak.one rv)
def SI.J4 {i:Nat}{t:Tg}(ht:t.lO=true){k:Bool}{ks':List KT}{xs':List D}{gp:List Addr}{o':HO}(I:SI K H0 B0 B H σ τ P No)(hi:τ[i]?=some (some (.dct t k ks xs)))(ev:σ[i]?=some (some (.ref a)))(kv:fM H0 B H P No gp)(mu:∃ o,H a=some o/\rq o)
  (items:∀ vs f,DictAt H a k ks vs->ak K B No H xs vs f->∃ vs' f',DictAt (upd H a o') a k ks' vs'/\ak K B No H xs' vs' f'/\(∀ b∈f',b∈f\/b∈gp)/\(f.Nodup->(∀ b∈gp,b∉f)->f'.Nodup)) :
  ∃ P',j9 K H0 B0 B H B (upd H a o') σ (τ.set i (some (.dct t k ks' xs'))) P':=by
 have hi':i<τ.length:=(MF.mp hi).1;obtain⟨A,f,C,e,h1,h2⟩:=I.rep.cut hi';obtain⟨v,e1,r1⟩:=h1 _ hi;rw[ev]at e1;cases e1;obtain⟨a',ws,g,ea,hq,rl,ef,back⟩:=r1.EV ht;cases ea;subst ef;have nd0:=I.nd;rw[e]at nd0;have ndf:(a::g).Nodup:=(nd0.sublist (Np _ _)).sublist (Nb _ _);have gdis:∀ b∈gp,b∉a::g:=λ b m z=>(kv.own b m).2.2.2.1 (by rw[e];exact c6 _ _ _ b z);obtain⟨vs',f',dq',r',s',n'⟩:=items ws g hq rl;obtain⟨na,ng⟩:=MZ.mp ndf;have hna:a∉f':=λ m=>(s' a m).elim na λ z=>gdis a z MD;have es:σ.set i (some (.ref a))=σ:=by
  refine NS λ k=>?_;by_cases hk:k=i
  ·subst hk;rw[NP (MF.mp ev).1,ev]
  ·rw[NN (NU hk)]
 have kp:j7 H (upd H a o') [a]:=⟨λ b o h n=>by rw[aU (by simpa using n)];exact h,λ b m=>by
  have:b=a:=by simpa using m
  subst this;exact mu⟩
 have kpf:j7 H (upd H a o') (a::g):=⟨λ b o h n=>kp.keep b o h (λ z=>n (MK.mpr (.inl (Nl.mp z)))),λ b m=>I.rep.own b (by rw[e];exact c6 _ _ _ b m)⟩;have key:=I.put (i:=i) (H1:=upd H a o') (d':=.dct t k ks' xs') (v':=.ref a) (f':=a::f') hi' e h2 kpf (back dq' (r'.keep kp λ b m=>by
   have:b≠a:=λ z=>hna (z▸m);simpa using this)) (MZ.mpr ⟨hna,n' ng λ b m z=>gdis b m (ME _ z)⟩) λ b m=>?_
 ·rw[es]at key;exact⟨_,key,aw.refl _,λ b o h n=>kp.Ba h n⟩
 ·rcases MK.mp m with q|q
  ·exact .inl (by simp[q])
  ·rcases s' b q with z|z
   ·exact .inl (ME _ z)
   ·obtain⟨a1,a2,a3,a4,a5⟩:=kv.own b z;exact .inr (.inr ⟨a4,a1,a2,a5⟩)
def e8 (i:Nat)(fk fv:SD->Res D)(τ:SD):Fl:=(fv τ).kc τ λ d=>match dJ τ i with
 | some (t,k,ks,xs)=>(fk τ).kc τ λ dk=>match fO dk with
  |some q=>if q.kind=k/\d.aA=false/\ks.length<16777216/\(ph ks q=true->d.pure=true) then .nx (τ.set i (some (.dct t k (jX ks q) (jW ks xs q d)))) else .bad
  |none=>.bad
 |none=>.bad
def Cj (i:Nat){ke value:Expr}{fk fv:SD->Res D}(hu:X.A.units+1<cLine)(hk:PE X ke (tM X.K Y fk))(hv:PE X value (tM X.K Y fv))(hN:X.N[i]?=some x:=by rfl)(hvi:wR X.env.scope x:=by first|exact Or.inl rfl|exact Or.inr (Or.inl rfl)|exact Or.inr (Or.inr rfl))(hd:(x == ("__debug__" : Str))=false:=by decide)(hcd:(x == ("__classdict__" : Str))=false:=by decide)
  (hs:swapsWith value (some (.Subscript (.Name x p1) ke pos')) pos.line X.env=pure false:=by rfl):PS X (.Assign [.Subscript (.Name x p1) ke pos'] value pos) (kj X.K Y (e8 i fk fv)):=by
 refine PS.imp (yG hu (gP hN hvi hd hcd) hk hv hs) λ E σ H hq=>ex7 hq λ H0 B0 B τ P I h=>?_;refine mS I h λ d v H1 B1 fp _ I1 s1 b1 r1 k1 h1=>?_;cases z:dJ τ i with
 |none=>rw[z]at h1;exact h1.elim
 | some t =>
  obtain⟨t,k,ks,xs⟩:=t;rw[z]at h1;obtain⟨hi,ht⟩:=qg z;obtain⟨w,f,e1,r2,sf⟩:=I1.rep.get hi;obtain⟨a,ws,g,rfl,dq,rl,ef,_⟩:=r2.EV ht;refine⟨.ref a,e1,?_⟩;refine⟨H0,B0,B1,τ,P,_,I1.hold k1,?_⟩;simp only at h1;cases y:fk τ with
  |fY C=>rw[y]at h1;exact λ H2 B2 I2 s2 b2=>h1 B2 H2 σ P (j9.grow (I2.nP λ _ x=>x.elim) b2 s2)
  |bad=>rw[y]at h1;exact h1
  | ok dk =>
   rw[y]at h1;intro vk H2 B2 fq I2 s2 b2 rk kk;have I3:SI X.K H0 B0 B2 H2 σ τ P No:=I2.nP λ _ x=>x.elim;have h2:=cI.later h1 (j9.grow I3 b2 s2);simp only[Res.kc]at h2;cases hkk:fO dk with
   |none=>rw[hkk]at h2;exact h2.elim
   | some q =>
    rw[hkk]at h2;simp only at h2;split at h2
    ·rename_i hc;obtain⟨c1,c2,c3,c4⟩:=hc;have kv:fM H0 B2 H2 P No fp:=⟨k1.nd,λ a m=>let ⟨_,a2,_,a4,a5⟩:=k1.own a m;⟨(I2.fr a (.inl m)).1,a2,(I2.fr a (.inl m)).2,a4,a5⟩⟩;have rd:=(r1.gY c2).mono s2 b2 λ _ x=>x;have dq2:=dq.mono s2;have rl2:=rl.mono s2 b2 λ _ x=>x;have mu:∃ o,H2 a=some o/\rq o:=by
      rcases dq2 with ⟨_,kvs,ep,q,_⟩|⟨_,kvs,ep,q,_⟩
      ·exact⟨_,q,trivial⟩
      ·exact⟨_,q,trivial⟩
     rcases dq2 with ⟨rfl,kvs,ep,ha,hks,hws⟩|⟨rfl,kvs,ep,ha,hks,hws⟩
     ·cases q with
      |inr q=>cases c1
      | inl q =>
       have ev:=ue hkk rk;subst ev;subst hks hws;have A:∀ en:Nat,∃ P',_:=λ en=>I3.J4 ht (o':=.dK (putK kvs q v) en) (ks':=jX (kvs.map λ p=>Sum.inl p.1) (.inl q)) (xs':=jW (kvs.map λ p=>Sum.inl p.1) xs (.inl q) d) hi e1 kv mu λ vs f hda hr=>by
        rcases hda with ⟨_,kvs',ep',q1,q2,q3⟩|⟨q0,_⟩
        ·rw[ha]at q1;cases q1;subst q3;obtain⟨p1,f',p2,p3,p4⟩:=xq Sum.inl (λ a b h=>Pe h) (k:=q) hr rd c4;exact⟨_,f',.inl ⟨rfl,_,en,bB,p1,rfl⟩,p2,p3,λ n1 n2=>p4 n1 kv.nd n2⟩
        ·cases q0
       exact⟨a,rfl,.inl ⟨kvs,q,⟨ep,ha⟩,rfl,(by rw[NH];simpa using c3),λ en=>let ⟨P',A'⟩:=A en;h2 B2 _ σ P' A'⟩⟩
     ·cases q with
      |inl q=>cases c1
      | inr q =>
       obtain⟨b,rfl,hb⟩:=Ck hkk rk;subst hks hws;have A:∀ en:Nat,∃ P',_:=λ en=>I3.J4 ht (o':=.dT (putK kvs q v) en) (ks':=jX (kvs.map λ p=>Sum.inr p.1) (.inr q)) (xs':=jW (kvs.map λ p=>Sum.inr p.1) xs (.inr q) d) hi e1 kv mu λ vs f hda hr=>by
        rcases hda with ⟨q0,_⟩|⟨_,kvs',ep',q1,q2,q3⟩
        ·cases q0
        ·rw[ha]at q1;cases q1;subst q3;obtain⟨p1,f',p2,p3,p4⟩:=xq Sum.inr (λ a b h=>Sum.inr.inj h) (k:=q) hr rd c4;exact⟨_,f',.inr ⟨rfl,_,en,bB,p1,rfl⟩,p2,p3,λ n1 n2=>p4 n1 kv.nd n2⟩
       exact⟨a,rfl,.inr ⟨kvs,q,b,⟨ep,ha⟩,rfl,hb,(by rw[NH];simpa using c3),λ en=>let ⟨P',A'⟩:=A en;h2 B2 _ σ P' A'⟩⟩
    ·exact h2.elim
end
section
variable {P:Program}{K:PySem.W.Frag}
def EY{k:Nat}(D:lM K mg x st ps):kE P w K mg base k x ps (jz K λ _=>.bad):=by
 obtain⟨f,fd,F,hm,hb⟩:=D.ex;exact⟨f,fd,hm,F.kp,hb,λ vs H Q E h=>by obtain⟨_,_,_,_,h⟩:=h;exact h.elim,λ A outer s H args us vs Q E hr he hbd hv h=>by obtain⟨_,_,_,_,h⟩:=h;exact h.elim⟩
def bA{k m:Nat}{g:SF}(D:lM K mg x st ps)(S:aT N ps (aC st))(hn:ps.length=n)(hm:N.length=m)
  (hbody:∀ (f:Addr) (cdv:Value) (A:Around) (outer:List Env) (s:Shared) (H:Hp),gB k (A.deeper (envOfC x (aC st) s.heap.objs.size f cdv)) ->
   mF (q9 Ai P w K mg base N x (aC st) f cdv A outer s H E0).Gf (eU st) (kj K yJ g)):kE P w K mg base (k+1) x ps (jz K (b9 n m g)):=by
 subst hn hm;exact HF D S hbody
def Cm{k m:Nat}{g:SF}{f:Addr}{fd:FuncData}(D:EE K x x st f fd)(S:aT N ps (aC st))(hn:ps.length=n)(hm:N.length=m)
  (hbody:∀ (f:Addr) (cdv:Value) (A:Around) (outer:List Env) (s:Shared) (H:Hp),gB k (A.deeper (envOfC x (aC st) s.heap.objs.size f cdv)) ->
   mF (q9 Ai P w K mg base N x (aC st) f cdv A outer s H E0).Gf (eU st) (kj K yJ g)):pN P w K mg base Ai (k+1) f fd ps (jz K (b9 n m g)):=by
 subst hn hm;exact yO D S hbody
def HL {h:Heap}{f:Addr}{oc:Value}{od an:Option Addr}{osl:Array (Option Value)}{kV doc pm cdv ct:Value}(KX:K.In h)(G:h.Ns mainGlobals mg)(a:PySem.W.nsIn K mainGlobals x=some (some (.ref f)))
  (l:K.lookup f=some ⟨oc,od,.func (PySem.W.fnOf x x (iL st) (eU st) (aC st) .none kV doc pm an cdv ct),osl⟩) (c:PySem.W.codeIn K cdv x=true) (k:PySem.W.keepIn K (.ref f)=true)
  (hb:∀ (kV doc pm:Value) (an:Option Addr) (cdv ct:Value) (us:List Value),us.length=ps.length->bindArgs (PySem.W.fnOf x x (iL st) (eU st) (aC st) .none kV doc pm an cdv ct) ⟨us,[]⟩=pure (ps.zip us)):lM K mg x st ps:=
 ⟨f,_,xg l c k,PySem.W.mg_of KX G a,(xg l c k).binds hb⟩
def HJ{ns:List Int}(hS:dR K H a (ns.map V.int))(h:G [.lst .aq (ns.map D.int)]=.ok (.bl true)):jz K G [.ref a] H (λ v _=>v=.bl true) λ _ _ _=>False:=by
 refine⟨H,[.lst .aq (ns.map D.int)],aw.refl _,ak.one ⟨a,_,rfl,hS,iq ns,rfl⟩,?_⟩;rw[h];exact λ B' H' v fp r=>r.rep.1
end
def ai (ns:List Int):aM (ns.map D.int)=true:=bP λ d hd=>by obtain⟨n,_,rfl⟩:=MM.mp hd;rfl
@[simp] theorem Jg (ns:List Int):aS (ns.map D.int)=ns.map D.int:=bO _ (ai ns)
@[simp] theorem aN (ns:List Int):aD (ns.map D.int)=ns.map D.int:=cg _ (ai ns)
@[simp] theorem iB (ns:List Int):av (ns.map D.int)=false:=cJ _ (ai ns)
@[simp] theorem Cn (ns:List Int):bz (ns.map D.int)=false:=jH _ (ai ns)
@[simp] theorem HN (ns:List Int):bL (ns.map D.int)=ns.map D.int:=fK _ (ai ns)
@[simp] theorem HS (ns:List Int):cj (ns.map D.int)=ns.map D.int:=jm _ (iB ns)
@[simp] theorem ints_map (ns:List Int):intsOf (ns.map D.int)=some ns:=dE ns
@[simp] theorem HU (τ:SD)(s:SF):(Fl.nx τ).andThen s=s τ:=rfl
@[simp] theorem HM (d:D)(s:SF):(Fl.rt d).andThen s=.rt d:=rfl
@[simp] theorem HR (τ:SD)(s:SF):(Fl.bk τ).andThen s=.bk τ:=rfl
@[simp] theorem HP (τ:SD)(s:SF):(Fl.ct τ).andThen s=.ct τ:=rfl
@[simp] theorem HQ (C:PySem.Addr)(τ:SD)(s:SF):(Fl.ex C τ).andThen s=.ex C τ:=rfl
@[simp] theorem Gu (s:SF):Fl.bad.andThen s=.bad:=rfl
@[simp] theorem iQ (τ:SD)(d:D)(k:D->Fl):(Res.ok d).kc τ k=k d:=rfl
@[simp] theorem J6 (τ:SD)(C:PySem.Addr)(k:D->Fl):(Res.fY C:Res D).kc τ k=.ex C τ:=rfl
@[simp] theorem J5 (τ:SD)(k:D->Fl):(Res.bad:Res D).kc τ k=.bad:=rfl
@[simp] theorem mW (τ:SD)(d:Bool)(k:Bool->Fl):(Res.ok d).qa τ k=k d:=rfl
@[simp] theorem Jh (τ:SD)(C:PySem.Addr)(k:Bool->Fl):(Res.fY C:Res Bool).qa τ k=.ex C τ:=rfl
@[simp] theorem Jf (τ:SD)(k:Bool->Fl):(Res.bad:Res Bool).qa τ k=.bad:=rfl
@[simp] theorem KZ:(Res.bad:Res D).KW=.bad:=rfl
@[simp] theorem LK (d:D):(Fl.rt d).out=.ok d:=rfl
@[simp] theorem LI (τ:SD):(Fl.nx τ).out=.ok .bJ:=rfl
@[simp] theorem LJ (C:PySem.Addr)(τ:SD):(Fl.ex C τ).out=.fY C:=rfl
@[simp] theorem K0:Fl.bad.out=.bad:=rfl
def bH{a b:SD->Res D}{x y:D}(ha:a τ=.ok x)(hb:b τ=.ok y):af g a b τ=g x y:=by unfold af;rw[ha,hb];rfl
def Gr{a:SF}{t:Bool}(h:c τ=.ok t):dS c a b τ=if t=true then a τ else b τ:=by unfold dS;rw[h];rfl
def dH(h:n<=1000000000):k9 [.int n]=.ok (false,(List.range n).map λ k:Nat=>.int k):=by
 have h1 : -1000000000<=(n:Int)/\(n:Int)<=1000000000:=by omega
 simp[k9,h1]
def aH {a:SF}{τ':SD}(h:a τ=.nx τ'):aE a b τ=b τ':=by unfold aE;rw[h];rfl
def uf {a:SF}(Q:Fl->Prop)(τ':SD)(h:a τ=.nx τ')(k:Q (b τ')):Q (aE a b τ):=by rw[aH h];exact k
def a8{e:SD->Res D}(h:e τ=.ok d)(hb:d.aA=false):bq i e τ=.nx (τ.set i (some d)):=by
 unfold bq jn;rw[h,iQ,hb];rfl
def lg{e:SD->Res D}(Q:Fl->Prop)(d:D)(h:e τ=.ok d)(hb:d.aA=false)(k:Q (b (τ.set i (some d)))):Q (aE (bq i e) b τ):=uf Q _ (a8 h hb) k
def sE{e:SD->Res D}(Q:Fl->Prop)(Pd:D->Prop)(hc:∃ t,c τ=.ok t/\(t=true->∃ d,e τ=.ok d/\d.aA=false/\Pd d))(h0:∃ d,τ[i]?=some (some d)/\Pd d)(k:∀ d,Pd d->Q (b (τ.set i (some d)))):Q (aE (dS c (bq i e) aV) b τ):=by
 obtain⟨t,h1,h2⟩:=hc;cases t with
 | true =>
  obtain⟨d,h3,h4,h5⟩:=h2 rfl;refine uf Q (τ.set i (some d)) ?_ (k d h5);unfold dS;rw[h1,mW,MO rfl];exact a8 h3 h4
 | false =>
  obtain⟨d,h3,h5⟩:=h0;have es:τ.set i (some d)=τ:=by
   refine NS λ k=>?_;by_cases hk:k=i
   ·subst hk;rw[NP (MF.mp h3).1,h3]
   ·rw[NN (NU hk)]
  refine uf Q (τ.set i (some d)) ?_ (k d h5);unfold dS;rw[h1,mW,MP MH,es];rfl
def Av{a:SF}(Q:Fl->Prop)(hc:∃ t,c τ=.ok t/\(t=true->∃ d,a τ=.rt d/\Q (.rt d))/\(t=false->Q (b τ))):Q (aE (dS c a aV) b τ):=by
 obtain⟨t,h1,h2,h3⟩:=hc;cases t with
 | true =>
  obtain⟨d,h4,h5⟩:=h2 rfl;have:aE (dS c a aV) b τ=.rt d:=by
   unfold aE dS;rw[h1,mW,MO rfl,h4];rfl
  rw[this];exact h5
 | false =>
  refine uf Q τ ?_ (h3 rfl);unfold dS;rw[h1,mW,MP MH];rfl
def Co{xs:List α}{i:Int}{j:Nat}{v:α}(hi:i=j)(h:xs[j]?=some v):rj xs i=some v:=by subst hi;exact Es h
def yS {tg:uW}{body:SF}(st:Nat->SD):∀ {ds:List D} (i:Nat),(∀ j d,ds[j]?=some d->∃ τ',tg d (st (i+j))=some τ'/\body τ'=.nx (st (i+j+1)))->cD tg body ds (st i)=.nx (st (i+ds.length))
 |[],i,_=>rfl
 | d::r,i,h=>by
  obtain⟨τ',h1,h2⟩:=h 0 d rfl;unfold cD;simp only[Nat.add_zero]at h1 h2;rw[h1];simp only[h2];have ih:=yS st (ds:=r) (i+1) λ j e he=>by
   have:=h (j+1) e (by simpa using he);rw[show i+(j+1)=i+1+j by omega]at this;exact this
  rw[ih,MQ]
  congr 2
  omega
def eL {tg:uW}{body:SF}(Pv:Nat->SD->Prop):∀ {ds:List D} (i:Nat) (τ:SD),Pv i τ->(∀ j d τ,ds[j]?=some d->Pv (i+j) τ->∃ τ' t,tg d τ=some τ'/\(body τ'=.nx t\/body τ'=.ct t)/\Pv (i+j+1) t)->∃ t,cD tg body ds τ=.nx t/\Pv (i+ds.length) t
 |[],i,τ,h0,_=>⟨τ,rfl,h0⟩
 | d::r,i,τ,h0,h=>by
  obtain⟨τ',t,h1,h2,h3⟩:=h 0 d τ rfl h0;have ih:=eL Pv (ds:=r) (i+1) t h3 λ j e τ he hp=>by
   have:=h (j+1) e τ (by simpa using he) (by rw[show i+(j+1)=i+1+j by omega];exact hp);rw[show i+(j+1)=i+1+j by omega]at this;exact this
  obtain⟨u,h4,h5⟩:=ih;refine⟨u,?_,by rw[MQ,show i+(r.length+1)=i+1+r.length by omega];exact h5⟩;unfold cD;rw[h1];rcases h2 with h2|h2<;>(simp only[h2];exact h4)
def sF {tt:SD->Res Bool}{elt:SD->Res D}{caps:SD}(p:D->Bool)(f:D->D):∀ {ds:List D} (o:Option D),(∀ d∈ds,tt (some d::caps)=.ok (p d))->(∀ d∈ds,p d=true->elt (some d::caps)=.ok (f d)/\(f d).aA=false)->fT (gN 0) tt elt ds (o::caps)=.ok ((ds.filter p).map f)
 |[],o,_,_=>rfl
 | d::r,o,ht,he=>by
  have ih:=sF p f (ds:=r) (some d) (λ e m=>ht e (ME _ m)) λ e m=>he e (ME _ m);unfold fT;simp only[gN,List.set_cons_zero];rw[ht d MD];simp only[Res.aG];by_cases hp:p d=true
  ·obtain⟨h1,h2⟩:=he d MD hp;simp only[hp,OG,h1,Res.aG,h2,M9,ON,ih];rw[List.filter_cons_of_pos hp,MU]
  ·simp only[hp,ON,ih,M9];rw[List.filter_cons_of_neg hp]
def Au{caps:SD}(f:D->D)(o:Option D)(he:∀ d∈ds,elt (some d::caps)=.ok (f d)/\(f d).aA=false):fT (gN 0) bw elt ds (o::caps)=.ok (ds.map f):=by
 have:=sF (tt:=bw) (λ _=>true) f o (λ d _=>rfl) λ d m _=>he d m;rw[Qt.mpr λ _ _=>rfl]at this;exact this
def xu(h:G (aD ds)=.ok d)(hp:d.pure=true):eK G ds=.ok d:=by
 unfold eK;rw[h];split
 ·simp[pX d hp]
 ·rfl
def Aw(h:G (aD ds)=.ok d)(hb:av ds=false):eK G ds=.ok d:=by
 unfold eK;rw[h,hb];rfl
def bf{fs:SD->Res (List D)}(ha:fs τ=.ok ds)(h:G (aD ds)=.ok d)(hp:d.pure=true):az G fs τ=.ok d:=by
 unfold az;rw[ha];exact xu h hp
def cN{fs:SD->Res (List D)}(ha:fs τ=.ok ds)(h:G (aD ds)=.ok d)(hb:av ds=false):az G fs τ=.ok d:=by
 unfold az;rw[ha];exact Aw h hb
def nV{cap:List (PySem.Str×Nat)}{fl:Bool}(f:D->D)(hit:it τ=.ok (fl,ds))(he:∀ d∈aD ds,elt (some d::dD τ cap)=.ok (f d)/\(f d).pure=true)(hl:ds.length<=16777216) :
  aR it (gN 0) bw elt 1 cap τ=.ok (.lst .own ((aD ds).map f)):=by
 have hp:aM ((aD ds).map f)=true:=bP λ d m=>by
  obtain⟨x,hx,rfl⟩:=MM.mp m;exact(he x hx).2
 have hl':((aD ds).map f).length<=16777216:=by rw[MC,gn,MC];exact hl
 have hc:fT (gN 0) bw elt (aD ds) (List.replicate 1 none++dD τ cap)=.ok ((aD ds).map f):=Au f none λ d m=>⟨(he d m).1,aP _ (he d m).2⟩;unfold aR;rw[hit,Res.aG];simp only[hc,MO hl',fK _ hp,ite_self]
def yD (n d a:Nat):HT.eS n d (some (a:Int))=min a n:=by
 unfold HT.eS;have h:¬ (a:Int)<0:=by omega
 simp only[h,ON];omega
def xw(xs:List α)(a:Nat):cut xs none (some (a:Int))=xs.take a:=by
 unfold cut;rw[yD,show HT.eS xs.length 0 none=0 from rfl,List.drop_zero,Nat.sub_zero];by_cases h:a<=xs.length
 ·rw[Py h]
 ·rw[Pk (by omega),List.take_of_length_le (ML _),List.take_of_length_le (by omega)]
def fm(h:aM xs=true):(D.lst .own xs).aA=false:=by
 show(false||av xs)=false;rw[cJ xs h];rfl
def di {g:List D->Res D}{f:SD->Res (List D)}(h:f τ=.ok ds):eA g f τ=g ds:=by unfold eA;rw[h];rfl
def aF {f:SD->Res D}{g:SD->Res (List D)}(h1:f τ=.ok d)(h2:g τ=.ok ds):ae f g τ=.ok (d::ds):=by unfold ae;rw[h1,h2];rfl
def br {f:SD->Res D}(h1:f τ=.ok d):ae f ah τ=.ok [d]:=aF h1 rfl
def c9 {e:SD->Res D}(h:e τ=.ok d)(hb:d.aA=false):bu e τ=.rt d:=by unfold bu;rw[h,iQ,vn d hb]
def cB(h:τ[i]?=some (some d))(hp:d.pure=true):aa i τ=.ok d:=by unfold aa;rw[h];simp[rZ d hp]
def cL(h:τ[i]?=some (some (.lst .aq xs)))(hp:aM xs=true):aa i τ=.ok (.lst .aq xs):=by unfold aa;rw[h];simp[D.view,Tg.view,bO xs hp]
def lh(h:τ[i]?=some (some (.lst .own xs)))(hp:aM xs=true):aa i τ=.ok (.lst .bor xs):=by unfold aa;rw[h];simp[D.view,Tg.view,bO xs hp]
end DL
namespace L2
open PySem PySem.Spec PyProof.Rows
variable {a l l1 l2:Addr}{A:Around}{xs:Array Value}{b:Bool}{X:Cx}{prog:Program}{s:Shared}{E:Value->Shared->Prop}{w:World}
structure l6 (a it:Addr)(its:Array Value)(seq:Heap->Prop)(nx:Nat->Obj->Prop):Prop where
 ext:∀ {h h':Heap},seq h->(∀ o,h.get? a=some o->h'.get? a=some o)->seq h'
 item:∀ {P:Program}{w:World}{A:Around}{E:Value->Shared->Prop}{s:Shared}{i:Nat}{x:Value}{Q:Value->Shared->Prop},seq s.heap->(∃ o,s.heap.get? it=some o/\nx i o)->its[i]?=some x ->
  (∀ h',(∃ o,h'.get? it=some o/\nx (i+1) o)->Heap.SameBut it s.heap h'->Q x { s with heap:=h' })->wpAny (model P w) A (Builtin.SmallTypes.nextOf (.ref it)) Q E s
 done:∀ {P:Program}{w:World}{A:Around}{E:Value->Shared->Prop}{s:Shared}{i:Nat}{Q:Value->Shared->Prop},A.handled=none->seq s.heap->(∃ o,s.heap.get? it=some o/\nx i o)->its[i]?=none ->
  (∀ h' e,Heap.ExtBut it s.heap h'->(∃ o,h'.get? e=some o/\o.cls=.type "StopIteration")->E (.ref e) { s with heap:=h' })->wpAny (model P w) A (Builtin.SmallTypes.nextOf (.ref it)) Q E s
abbrev Me (a:Addr)(i:Nat)(o:Obj):Prop:=o.cls=.type "list_iterator" /\ o.data=.fields #[.ref a,.int i 0]
abbrev Mc (a:Addr)(i:Nat)(o:Obj):Prop:=o.cls=.type "tuple_iterator" /\ o.data=.fields #[.ref a,.int i 0]
def Cq (a it:Addr)(its:Array Value):l6 a it its (λ h=>h.IsList a its) (Me a) where
 ext:=λ x k=>x.at k
 item:=λ hs ⟨o,h1,h2,h3⟩ hx hQ=>wpAny_nextOf_list_item ⟨o,h1,h2,h3⟩ hs hx λ h' st sb=>hQ h' st sb
 done:=λ hh hs ⟨o,h1,h2,h3⟩ hx hE=>wpAny_nextOf_list_end hh ⟨o,h1,h2,h3⟩ hs hx hE
def EZ (a it:Addr)(its:Array Value):l6 a it its (λ h=>h.IsTuple a its) (Mc a) where
 ext:=λ ⟨o,h1,h2⟩ k=>⟨o,k o h1,h2⟩
 item:=λ hs ⟨o,h1,h2,h3⟩ hx hQ=>jT ⟨o,h1,h2,h3⟩ hs hx λ h' st sb=>hQ h' st sb
 done:=λ hh hs ⟨o,h1,h2,h3⟩ hx hE=>kD hh ⟨o,h1,h2,h3⟩ hs hx hE
section
variable{z TI TO i1 i2:Addr}{k:Nat}{ys:Array Value}{a b:Value}{seq1 rB:Heap->Prop}{nx1 nx2:Nat->Obj->Prop}
def Ax {x y:Value}{Q:Option Value->Shared->Prop}(S1:l6 l1 i1 xs seq1 nx1)(S2:l6 l2 i2 ys rB nx2)(D:ZipApart z TI TO i1 i2 l1 l2)(hz:IsZip s.heap z TI TO .none)(hI:IsPair s.heap TI (.ref i1) (.ref i2))(hO:IsPair s.heap TO a b)
  (h1:∃ o,s.heap.get? i1=some o/\nx1 k o) (h2:∃ o,s.heap.get? i2=some o/\nx2 k o) (hl1:seq1 s.heap) (hl2:rB s.heap) (hx:xs[k]?=some x) (hy:ys[k]?=some y)
  (hQ:∀ h',IsZip h' z TI TO (rawInt s.heap.objs.size)->IsPair h' TO x y->(∃ o,h'.get? i1=some o/\nx1 (k+1) o)->(∃ o,h'.get? i2=some o/\nx2 (k+1) o)->IsPair h' s.heap.objs.size x y ->
   (∀ c o,c≠z->c≠TO->c≠i1->c≠i2->s.heap.get? c=some o->h'.get? c=some o)->Q (some (.ref s.heap.objs.size)) { s with heap:=h' }):wpAny (model prog w) A (pyNext (.ref z)) Q E s:=by
 have hT:s.TypeIs (.ref z) "zip" :=⟨_,hz,rfl⟩;unfold pyNext;refine My (Oq (Nf (name:=Str.ofString "__next__") hT Qp (Nd Qp hT F.entry_zip_next ?_ (F.args_zip_next_1 _))));show wpAny _ _ (field (.ref z) 2 >>= _) _ _ _;refine My (Nx hz rfl (x:=.bool false) rfl (show wpAny _ _ (field (.ref z) 3 >>= _) _ _ _ from My (Nx hz rfl (x:=.ref TI) rfl (My (N6 hI rfl ?_)))));show wpAny _ _ (Builtin.SmallTypes.ownedTupleIsFree (.ref z) >>= _) _ _ _;refine My ?_;unfold Builtin.SmallTypes.ownedTupleIsFree;refine My (Nx hz rfl (x:=.none) rfl (MB ?_));simp only[OG];refine My (O6 (My (Nx hz rfl (x:=.ref TO) rfl (My (Na hz (by simp) λ g1 hz1 hs1=>?_)))));replace hz1:IsZip g1 z TI TO .ellipsis:=hz1;refine My ?_;simp only[List.zipIdx_cons,List.zipIdx_nil,Px,Qx];refine My (My (QP (show wpAny _ _ (Builtin.SmallTypes.nextOf (.ref i1) >>= _) _ _ _ from My (S1.item (S1.ext hl1 λ o q=>hs1.extBut _ _ D.l1z q) (h1.imp λ o q=>⟨hs1.extBut _ _ D.i1z q.1,q.2⟩) hx λ g2 h12 hs2=>MB ?_))));have hO2:IsPair g2 TO a b:=hs2.extBut _ _ D.TOi1 (hs1.extBut _ _ D.TOz hO);refine My (N6 hO2 rfl (My (Qm hO2 λ g3 hO3 hs3=>?_)));replace hO3:IsPair g3 TO x b:=hO3;refine My (QJ (MB (My (My (QP (show wpAny _ _ (Builtin.SmallTypes.nextOf (.ref i2) >>= _) _ _ _ from My (S2.item (S2.ext hl2 λ o q=>hs3.extBut _ _ D.l2TO (hs2.extBut _ _ D.l2i1 (hs1.extBut _ _ D.l2z q))) (h2.imp λ o q=>⟨hs3.extBut _ _ D.TOi2.symm (hs2.extBut _ _ D.i12.symm (hs1.extBut _ _ D.i2z q.1)),q.2⟩) hy λ g4 h24 hs4=>MB ?_)))))));have hO4:IsPair g4 TO x b:=hs4.extBut _ _ D.TOi2 hO3;refine My (N6 hO4 rfl (My (Qm hO4 λ g5 hO5 hs5=>?_)));replace hO5:IsPair g5 TO x y:=hO5;refine My (QJ (MB (MB (My (N6 hO5 rfl (My (Qz ?_)))))));have sz:g5.objs.size=s.heap.objs.size:=by rw[hs5.1,hs4.1,hs3.1,hs2.1,hs1.1]
 have hz5:IsZip g5 z TI TO .ellipsis:=hs5.extBut _ _ D.TOz.symm (hs4.extBut _ _ D.i2z.symm (hs3.extBut _ _ D.TOz.symm (hs2.extBut _ _ D.i1z.symm hz1)));have kp:∀ c o,c≠z->c≠TO->c≠i1->c≠i2->s.heap.get? c=some o->g5.get? c=some o:=λ c o c1 c2 c3 c4 e=>hs5.extBut _ _ c2 (hs4.extBut _ _ c4 (hs3.extBut _ _ c2 (hs2.extBut _ _ c3 (hs1.extBut _ _ c1 e))));have n1:∃ o,g5.get? i1=some o/\nx1 (k+1) o:=h12.imp λ o q=>⟨hs5.extBut _ _ D.TOi1.symm (hs4.extBut _ _ D.i12 (hs3.extBut _ _ D.TOi1.symm q.1)),q.2⟩;have n2:∃ o,g5.get? i2=some o/\nx2 (k+1) o:=h24.imp λ o q=>⟨hs5.extBut _ _ D.TOi2.symm q.1,q.2⟩;have zlt:z<g5.objs.size:=MJ hz5;show wpAny _ _ (Builtin.SmallTypes.ownedTupleHandOut (.ref z) (.ref g5.objs.size) >>= _) _ _ _;refine My ?_;unfold Builtin.SmallTypes.ownedTupleHandOut;have hz6:IsZip (g5.push { cls:=.type "tuple",data:=.seq #[x,y] }) z TI TO .ellipsis:=Mz _ hz5;refine My (Na hz6 (by simp) λ g7 hz7 hs7=>?_);replace hz7:IsZip g7 z TI TO (rawInt g5.objs.size):=hz7;refine Na hz7 (by simp) λ g8 hz8 hs8=>?_;replace hz8:IsZip g8 z TI TO (rawInt g5.objs.size):=hz8;have up:∀ c o,c≠z->g5.get? c=some o->g8.get? c=some o:=λ c o c1 e=>hs8.extBut _ _ c1 (hs7.extBut _ _ c1 (Mz _ e));have hT8:IsPair g8 g5.objs.size x y:=hs8.extBut _ _ (Ox zlt) (hs7.extBut _ _ (Ox zlt) (MI _ rfl));rw[sz]at hz8 hT8;refine MB ⟨_,rfl,MB ?_⟩;show Q (some (.ref g5.objs.size)) _;rw[sz];exact hQ g8 hz8 (up _ _ D.TOz hO5) (n1.imp λ o q=>⟨up _ o D.i1z q.1,q.2⟩) (n2.imp λ o q=>⟨up _ o D.i2z q.1,q.2⟩) hT8 λ c o c1 c2 c3 c4 e=>up c o c1 (kp c o c1 c2 c3 c4 e)
def Cp {Q:Option Value->Shared->Prop}(hh:A.handled=none)(S1:l6 l1 i1 xs seq1 nx1)(S2:l6 l2 i2 ys rB nx2)(D:ZipApart z TI TO i1 i2 l1 l2)(hz:IsZip s.heap z TI TO .none)(hI:IsPair s.heap TI (.ref i1) (.ref i2))(hO:IsPair s.heap TO a b)
  (h1:∃ o,s.heap.get? i1=some o/\nx1 k o) (h2:∃ o,s.heap.get? i2=some o/\nx2 k o) (hl1:seq1 s.heap) (hl2:rB s.heap) (he:xs[k]?=none\/ys[k]?=none)
  (hQ:∀ h',(∀ c o,c≠z->c≠TO->c≠i1->c≠i2->s.heap.get? c=some o->h'.get? c=some o)->Q none { s with heap:=h' }):wpAny (model prog w) A (pyNext (.ref z)) Q E s:=by
 have hT:s.TypeIs (.ref z) "zip" :=⟨_,hz,rfl⟩;unfold pyNext;refine My (Oq (Nf (name:=Str.ofString "__next__") hT Qp (Nd Qp hT F.entry_zip_next ?_ (F.args_zip_next_1 _))));have fin:∀ (h':Heap) (e:Addr),(∀ c o,c≠z->c≠TO->c≠i1->c≠i2->s.heap.get? c=some o->h'.get? c=some o)->(∃ o,h'.get? e=some o/\o.cls=.type "StopIteration") ->
   wpAny (model prog w) A (do let b <-isInstance (.ref e) (.type "StopIteration");if b=true then pure none else throw (.ref e)) Q E { s with heap:=h' }:=λ h' e kp ⟨o,ho,hc⟩=>My (O1 (T:="StopIteration") (b:=true) ⟨o,ho,hc⟩ isSubtype_stop (MB (hQ h' kp)))
 show wpAny _ _ (field (.ref z) 2 >>= _) _ _ _;refine My (Nx hz rfl (x:=.bool false) rfl (show wpAny _ _ (field (.ref z) 3 >>= _) _ _ _ from My (Nx hz rfl (x:=.ref TI) rfl (My (N6 hI rfl ?_)))));show wpAny _ _ (Builtin.SmallTypes.ownedTupleIsFree (.ref z) >>= _) _ _ _;refine My ?_;unfold Builtin.SmallTypes.ownedTupleIsFree;refine My (Nx hz rfl (x:=.none) rfl (MB ?_));simp only[OG];refine My (O6 (My (Nx hz rfl (x:=.ref TO) rfl (My (Na hz (by simp) λ g1 hz1 hs1=>?_)))));replace hz1:IsZip g1 z TI TO .ellipsis:=hz1;refine My ?_;simp only[List.zipIdx_cons,List.zipIdx_nil,Px,Qx];refine My (My (QP (show wpAny _ _ (Builtin.SmallTypes.nextOf (.ref i1) >>= _) _ _ _ from My ?_)));have b1:=S1.ext hl1 λ o q=>hs1.extBut _ _ D.l1z q;have c1:∃ o,g1.get? i1=some o/\nx1 k o:=h1.imp λ o q=>⟨hs1.extBut _ _ D.i1z q.1,q.2⟩;cases hx:xs[k]? with
 | none =>
  refine S1.done hh b1 c1 hx λ g2 e hs2 ⟨oe,ho,hc⟩=>?_;have hz2:IsZip g2 z TI TO .ellipsis:=hs2 _ _ D.i1z.symm hz1;have hne:e≠z:=λ x=>by subst x;rw[hz2]at ho;cases ho;simp at hc
  refine Na hz2 (by simp) λ g3 _ hs3=>fin g3 e (λ c o c1 _ c3 _ x=>hs3.extBut _ _ c1 (hs2 _ _ c3 (hs1.extBut _ _ c1 x))) ⟨oe,hs3.extBut _ _ hne ho,hc⟩
 | some x =>
  have hy:ys[k]?=none:=he.resolve_left λ q=>by rw[hx]at q;cases q
  refine S1.item b1 c1 hx λ g2 h12 hs2=>MB ?_;have hO2:IsPair g2 TO a b:=hs2.extBut _ _ D.TOi1 (hs1.extBut _ _ D.TOz hO);refine My (N6 hO2 rfl (My (Qm hO2 λ g3 hO3 hs3=>?_)));refine My (QJ (MB (My (My (QP (show wpAny _ _ (Builtin.SmallTypes.nextOf (.ref i2) >>= _) _ _ _ from My (S2.done hh (S2.ext hl2 λ o q=>hs3.extBut _ _ D.l2TO (hs2.extBut _ _ D.l2i1 (hs1.extBut _ _ D.l2z q))) (h2.imp λ o q=>⟨hs3.extBut _ _ D.TOi2.symm (hs2.extBut _ _ D.i12.symm (hs1.extBut _ _ D.i2z q.1)),q.2⟩) hy λ g4 e hs4 ⟨oe,ho,hc⟩=>?_)))))));have hz4:IsZip g4 z TI TO .ellipsis:=hs4 _ _ D.i2z.symm (hs3.extBut _ _ D.TOz.symm (hs2.extBut _ _ D.i1z.symm hz1));have hne:e≠z:=λ x=>by subst x;rw[hz4]at ho;cases ho;simp at hc
  refine Na hz4 (by simp) λ g5 _ hs5=>fin g5 e (λ c o c1 c2 c3 c4 x=>hs5.extBut _ _ c1 (hs4 _ _ c4 (hs3.extBut _ _ c2 (hs2.extBut _ _ c3 (hs1.extBut _ _ c1 x))))) ⟨oe,hs5.extBut _ _ hne ho,hc⟩
end
def vz (b:Bool)(l:Addr):Obj:={ cls:=.type (if b=true then "tuple_iterator" else "list_iterator"),data:=.fields #[.ref l,.int 0 0] }
def pj (b:Bool)(h:Heap)(l:Addr)(xs:Array Value):Prop:=if b=true then h.IsTuple l xs else h.IsList l xs
def Ay{h:Heap}(x:pj b h l xs)(o:Obj):pj b (h.push o) l xs:=by
 cases b
 ·exact Heap.IsList.push x o
 ·obtain⟨u,h1,h2⟩:=x;exact⟨u,Mz _ h1,h2⟩
def zH (b1 b2:Bool)(h:Heap)(l1 l2:Addr):Heap:=((((h.push (vz b1 l1)).push (vz b2 l2)).push { cls:=.type "tuple",data:=.seq #[.ref h.objs.size,.ref (h.objs.size+1)] }).push { cls:=.type "tuple",data:=.seq #[.none,.none] }).push { cls:=.type "zip",data:=.fields #[.none,.bool false,.bool false,.ref (h.objs.size+2),.ref (h.objs.size+3)] }
def jY{Q:Value->Shared->Prop}(h:pj b s.heap l xs)(k:Q (.ref s.heap.objs.size) { s with heap:=s.heap.push (vz b l) }):wpAny (model prog w) A (pyIter (.ref l)) Q E s:=by
 cases b
 ·exact QL h k
 ·exact PF h k
def ug (b1 b2:Bool)(l1 l2:Addr)(xs ys:Array Value) :
  Meets (Builtin.«zip.__new__» ⟨[.type "zip",.ref l1,.ref l2],[]⟩) (λ _ R s=>pj b1 s.heap l1 xs/\pj b2 s.heap l2 ys/\R (.ok (.ret (.ref (s.heap.objs.size+4)))) { s with heap:=zH b1 b2 s.heap l1 l2 }):=
 .of_wp λ prog w A R s h=>by
  obtain⟨hp,g,d,tk,os⟩:=s;obtain⟨hl1,hl2,h⟩:=h;have hsub:=sub_zip;have q1:pj b1 (Shared.heap ⟨hp,g,d,tk,os⟩) l1 xs:=hl1;have q2:pj b2 (Shared.heap ⟨hp.push (vz b1 l1),g,d,tk,os⟩) l2 ys:=Ay hl2 _
  wp_walk using jY q1,jY q2
  refine⟨_,rfl,?_⟩;simp only[Ny];exact h
def vA{b1 b2:Bool}{ys:Array Value}{Q:Value->Shared->Prop}(h1:pj b1 s.heap l1 xs)(h2:pj b2 s.heap l2 ys)
  (h:∀ h',IsZip h' (s.heap.objs.size+4) (s.heap.objs.size+2) (s.heap.objs.size+3) .none->IsPair h' (s.heap.objs.size+2) (.ref s.heap.objs.size) (.ref (s.heap.objs.size+1))->IsPair h' (s.heap.objs.size+3) .none .none->h'.get? s.heap.objs.size=some (vz b1 l1)->h'.get? (s.heap.objs.size+1)=some (vz b2 l2) ->
   (∀ c o,s.heap.get? c=some o->h'.get? c=some o)->Q (.ref (s.heap.objs.size+4)) { s with heap:=h' }):wpAny (model prog w) A (call (.type "zip") [.ref l1,.ref l2]) Q E s:=by
 refine callType_new F.called_zip (by decide) (F.typeCall_zip_2 _ _) (F.newCall_zip_2 _ _) (λ obj=>F.args_object_init_3 obj _ _) F.entry_zip_new (ug b1 b2 l1 l2 xs ys) ⟨h1,h2,?_⟩;have e5:(zH b1 b2 s.heap l1 l2).get? (s.heap.objs.size+4)=some { cls:=.type "zip",data:=.fields #[.none,.bool false,.bool false,.ref (s.heap.objs.size+2),.ref (s.heap.objs.size+3)] }:=by
  have:=MI ((((s.heap.push (vz b1 l1)).push (vz b2 l2)).push { cls:=.type "tuple",data:=.seq #[.ref s.heap.objs.size,.ref (s.heap.objs.size+1)] }).push { cls:=.type "tuple",data:=.seq #[.none,.none] }) (o:={ cls:=.type "zip",data:=.fields #[.none,.bool false,.bool false,.ref (s.heap.objs.size+2),.ref (s.heap.objs.size+3)] }) rfl;simp only[Ny]at this;exact this
 have e4:(zH b1 b2 s.heap l1 l2).get? (s.heap.objs.size+3)=some { cls:=.type "tuple",data:=.seq #[.none,.none] }:=by
  have:=MI (((s.heap.push (vz b1 l1)).push (vz b2 l2)).push { cls:=.type "tuple",data:=.seq #[.ref s.heap.objs.size,.ref (s.heap.objs.size+1)] }) (o:={ cls:=.type "tuple",data:=.seq #[.none,.none] }) rfl;simp only[Ny]at this;exact Mz _ this
 have e3:(zH b1 b2 s.heap l1 l2).get? (s.heap.objs.size+2)=some { cls:=.type "tuple",data:=.seq #[.ref s.heap.objs.size,.ref (s.heap.objs.size+1)] }:=by
  have:=MI ((s.heap.push (vz b1 l1)).push (vz b2 l2)) (o:={ cls:=.type "tuple",data:=.seq #[.ref s.heap.objs.size,.ref (s.heap.objs.size+1)] }) rfl;simp only[Ny]at this;exact Mz _ (Mz _ this)
 have e2:(zH b1 b2 s.heap l1 l2).get? (s.heap.objs.size+1)=some (vz b2 l2):=by
  have:=MI (s.heap.push (vz b1 l1)) (o:=vz b2 l2) rfl;simp only[Ny]at this;exact Mz _ (Mz _ (Mz _ this))
 have e1:(zH b1 b2 s.heap l1 l2).get? s.heap.objs.size=some (vz b1 l1):=Mz _ (Mz _ (Mz _ (Mz _ (MI _ rfl))));exact⟨⟨_,e5,rfl⟩,h _ e5 e3 e4 e1 e2 λ c o x=>Mz _ (Mz _ (Mz _ (Mz _ (Mz _ x))))⟩
def Cr (K:PySem.W.Frag)(b:Bool)(a:Addr)(H:Hp)(xs:List V):Prop:=if b=true then jd K H a xs else dR K H a xs
def J7 (b:Bool)(a:Addr)(i:Nat)(o:Obj):Prop:=if b=true then Mc a i o else Me a i o
def uh (b:Bool)(a it:Addr)(its:Array Value):l6 a it its (λ h=>pj b h a its) (J7 b a):=by
 cases b
 ·exact Cq a it its
 ·exact EZ a it its
def yU{i:Nat}{o:Obj}(h:J7 b a i o):∀ v,o.data ≠ .cell v:=λ v z=>by
 cases b
 ·rw[show o.data=_ from h.2]at z;cases z
 ·rw[show o.data=_ from h.2]at z;cases z
def yW (b:Bool)(a:Addr):J7 b a 0 (vz b a):=by
 cases b
 ·exact⟨rfl,rfl⟩
 ·exact⟨rfl,rfl⟩
def nW{pins:List (Addr×Obj)}{σ:St}{H:Hp}{xs:List V}(I:Inv X pins σ H s)(h:Cr X.K b a H xs):∃ its,Vals xs its/\pj b s.heap a its.toArray:=by
 cases b
 ·obtain⟨its,rv,p,_⟩:=I.list h;exact⟨its,rv,p.isList⟩
 ·obtain⟨its,rv,p,_⟩:=I.tuple h;exact⟨its,rv,f9 p⟩
def yT{pins:List (Addr×Obj)}{σ:St}{H:Hp}{xs ys:List V}(I:Inv X pins σ H s)(h:Cr X.K b a H xs)(h':Cr X.K b a H ys):xs=ys:=by
 cases b
 ·exact I.pO h h'
 ·exact I.nK h h'
def Iz (src1 src2:Hp->List V->Prop):It:=
 ⟨λ i H=>∃ xs x ys y,src1 H xs/\xs[i]?=some x/\src2 H ys/\ys[i]?=some y,λ i H v H'=>∃ p y1 y2,v=.ref p/\H p=none/\H'=upd H p (.tup [y1,y2])/\(∀ xs,src1 H xs->xs[i]?=some y1)/\∀ ys,src2 H ys->ys[i]?=some y2,λ i H=>∃ xs ys,src1 H xs/\src2 H ys/\(xs.length<=i\/ys.length<=i)⟩
def Mv (b1 b2:Bool)(z TI TO i1 i2 l1 l2:Addr)(i:Nat)(h:Heap):Prop:=IsZip h z TI TO .none/\IsPair h TI (.ref i1) (.ref i2)/\(∃ a b,IsPair h TO a b)/\(∃ o,h.get? i1=some o/\J7 b1 l1 i o)/\∃ o,h.get? i2=some o/\J7 b2 l2 i o
def Cs {P:Program}{K:PySem.W.Frag}{elts:List Expr}{x1:Nat}{tp:Pos}{z TI TO i1 i2:Addr}(b1 b2:Bool)(D:ZipApart z TI TO i1 i2 l1 l2) :
  Turn P w K (.Tuple elts x1 tp) (Iz (Cr K b1 l1) (Cr K b2 l2)) [z,TI,TO,i1,i2] z (Mv b1 b2 z TI TO i1 i2 l1 l2) where
 mem:=by simp
 obj:=λ i h st b hb=>by
  obtain⟨h1,h2,⟨u,v,h3⟩,⟨o1,h4,h5⟩,o2,h6,h7⟩:=st;simp only[MK,NQ,or_false]at hb;rcases hb with q|q|q|q|q<;>subst q
  ·exact⟨_,h1,λ v z=>by cases z⟩
  ·exact⟨_,h2,λ v z=>by cases z⟩
  ·exact⟨_,h3,λ v z=>by cases z⟩
  ·exact⟨o1,h4,yU h5⟩
  ·exact⟨o2,h6,yU h7⟩
 keep:=λ i h h' st k=>by
  obtain⟨h1,h2,⟨u,v,h3⟩,⟨o1,h4,h5⟩,o2,h6,h7⟩:=st;exact⟨k z (by simp) _ h1,k TI (by simp) _ h2,⟨u,v,k TO (by simp) _ h3⟩,⟨o1,k i1 (by simp) _ h4,h5⟩,o2,k i2 (by simp) _ h6,h7⟩
 item:=by
  intro X hP hw hK hc i pins s σ H E I hf st hg;obtain⟨xs,x,ys,y,hq1,hx,hq2,hy⟩:=hg;obtain⟨h1,h2,⟨u,v,h3⟩,h4,h5⟩:=st;subst hP hw hK;obtain⟨its1,rv1,sq1⟩:=nW I hq1;obtain⟨its2,rv2,sq2⟩:=nW I hq2;obtain⟨ux,hux,rux⟩:=rv1.get hx;obtain⟨uy,huy,ruy⟩:=rv2.get hy;have zlt:z<s.heap.objs.size:=MJ h1;refine Ax (uh b1 l1 i1 its1.toArray) (uh b2 l2 i2 its2.toArray) D h1 h2 h3 h4 h5 sq1 sq2 (by simpa using hux) (by simpa using huy) λ h' k1 k2 k3 k4 k5 k6=>⟨_,rfl,wpAny_letOwnedTupleGo_zip k1 λ h'' m1 m2=>?_⟩;have m2:Heap.SameBut z h' h'':=m2;have fr:H s.heap.objs.size=none:=I.fresh;have kp:∀ b o,b∉[z,TI,TO,i1,i2]->s.heap.get? b=some o->h''.get? b=some o:=λ b o hb q=>(m2.2 b λ e=>hb (by simp[e])).trans (k6 b o (λ e=>hb (by simp[e])) (λ e=>hb (by simp[e])) (λ e=>hb (by simp[e])) (λ e=>hb (by simp[e])) q);have hTI:IsPair h'' TI (.ref i1) (.ref i2):=(m2.2 TI D.TIz).trans (k6 TI _ D.TIz D.TITO D.TIi1 D.TIi2 h2);have tp:h''.get? s.heap.objs.size=some { cls:=.type "tuple",data:=.seq #[ux,uy] }:=(m2.2 _ (Ox zlt)).trans k5;have ok1:jA X.prog X.w H h'':=λ b o hb=>(I.hok b o hb).stay (λ c v hcb q=>kp c v (λ e=>by
    have n:=(hf c e).1;rcases hcb with e2|e2
    ·subst e2;rw[n]at hb;cases hb
    ·rw[n]at e2;cases e2) q) (λ _ e=>e) λ _ _ e=>e
  have ok2:jA X.prog X.w (upd H s.heap.objs.size (.tup [x,y])) h'':=tV ok1 fr ⟨by show 2<=sizeLine;decide,[ux,uy],.cons rux (.cons ruy .nil),⟨_,tp⟩⟩;have I2:Inv X pins σ (upd H s.heap.objs.size (.tup [x,y])) { s with heap:=h'' }:=by
   refine I.step (t':=s.toks) (g':=s.gens) (d':=s.drawn) (ch:=[z,TI,TO,i1,i2]) (λ b hb=>?_) (λ b o _ _ hb q _=>kp b o hb q) (λ b o _ _ hb q _=>⟨o.slots,kp b o hb q⟩)
    (λ b o _ q n=>by rw[aU (M0 (MJ q))];exact n) (λ b o hb q=>⟨o,kp b o hb q⟩)
    (λ b ys q=>by rw[aU (bC q fr)];exact q) (λ b o v q=>by rw[aU (bC q fr)];exact q) (λ b ps q=>⟨#[],by rw[aU (bC q fr),PH];exact q⟩)
    (λ m hm=>hm.at λ o q=>kp _ o (λ e=>(hf _ e).2.1 rfl) q) ok2 I.bare
   obtain⟨f0,f1,f2,f3,f4,f5⟩:=hf b hb;exact⟨f3,f1,f4,f5⟩
  refine⟨.ref s.heap.objs.size,_,I2,rfl,⟨_,x,y,rfl,fr,rfl,λ ws hw=>by rw[yT I hw hq1];exact hx,λ ws hw=>by rw[yT I hw hq2];exact hy⟩,⟨m1,hTI,⟨ux,uy,(m2.2 TO D.TOz).trans k2⟩,k3.imp λ o q=>⟨(m2.2 i1 D.i1z).trans q.1,q.2⟩,k4.imp λ o q=>⟨(m2.2 i2 D.i2z).trans q.1,q.2⟩⟩,λ b hb=>?_⟩;have lt:b<s.heap.objs.size:=by
   simp only[MK,NQ,or_false]at hb;rcases hb with q|q|q|q|q<;>subst q
   ·exact zlt
   ·exact MJ h2
   ·exact MJ h3
   ·obtain⟨_,q,_⟩:=h4;exact MJ q
   ·obtain⟨_,q,_⟩:=h5;exact MJ q
  rw[aU (M0 lt)];exact(hf b hb).1
 done:=by
  intro X hP hw hK hc i pins s σ H E I hf st hg;obtain⟨xs,ys,hq1,hq2,he⟩:=hg;obtain⟨h1,h2,⟨u,v,h3⟩,h4,h5⟩:=st;subst hP hw hK;obtain⟨its1,rv1,sq1⟩:=nW I hq1;obtain⟨its2,rv2,sq2⟩:=nW I hq2;have e1:=rv1.length;have e2:=rv2.length;refine Cp (I.ok.hd hc) (uh b1 l1 i1 its1.toArray) (uh b2 l2 i2 its2.toArray) D h1 h2 h3 h4 h5 sq1 sq2 (he.imp (λ q=>by simp;omega) λ q=>by simp;omega) λ h' k6=>⟨rfl,?_⟩;have kp:∀ b o,b∉[z,TI,TO,i1,i2]->s.heap.get? b=some o->h'.get? b=some o:=λ b o hb q=>k6 b o (λ e=>hb (by simp[e])) (λ e=>hb (by simp[e])) (λ e=>hb (by simp[e])) (λ e=>hb (by simp[e])) q;have ok1:jA X.prog X.w H h':=λ b o hb=>(I.hok b o hb).stay (λ c v hcb q=>kp c v (λ e=>by
    have n:=(hf c e).1;rcases hcb with e2|e2
    ·subst e2;rw[n]at hb;cases hb
    ·rw[n]at e2;cases e2) q) (λ _ e=>e) λ _ _ e=>e
  refine I.step (t':=s.toks) (g':=s.gens) (d':=s.drawn) (ch:=[z,TI,TO,i1,i2]) (λ b hb=>?_) (λ b o _ _ hb q _=>kp b o hb q) (λ b o _ _ hb q _=>⟨o.slots,kp b o hb q⟩)
   (λ _ _ _ _ n=>n) (λ b o hb q=>⟨o,kp b o hb q⟩) (λ _ _ q=>q) (λ _ _ _ q=>q) (λ b ps q=>⟨#[],by rw[PH];exact q⟩)
   (λ m hm=>hm.at λ o q=>kp _ o (λ e=>(hf _ e).2.1 rfl) q) ok1 I.bare
  obtain⟨f0,f1,f2,f3,f4,f5⟩:=hf b hb;exact⟨f3,f1,f4,f5⟩
 self:=λ _ _ _ _ _ st h=>wpAny_pyIter_zip st.1 h
def yV{h:Heap}(x:pj b h l xs):l<h.objs.size:=by
 cases b
 ·obtain⟨o,e,_⟩:=x;exact MJ e
 ·obtain⟨o,e,_⟩:=x;exact MJ e
def HV{elts:List Expr}{x1:Nat}{tp p pos:Pos}{l m:Expr}{ta:TA}(hg:Gl X "zip")(hm:X.mg "zip" = none)(ha:PA X [l,m] ta)(hs:starEach [l,m] X.env=[(false,eval l X.env),(false,eval m X.env)]:=by rfl)(hs2:starEach [m] X.env=[(false,eval m X.env)]:=by rfl) :
  PI X (.Tuple elts x1 tp) (.Call (.Name "zip" p) [l,m] [] pos) (λ σ H R=>ta σ H λ vs H1=>∃ b1 b2 a1 a2 xs ys,vs=[.ref a1,.ref a2]/\Cr X.K b1 a1 H1 xs/\Cr X.K b2 a2 H1 ys/\R (Iz (Cr X.K b1 a1) (Cr X.K b2 a2)) H1):=by
 intro pins s σ H R I h;refine Oo (kq I hg hm (by decide +kernel:bootBuiltins "zip" = some (.type "zip")) ?_);refine Oc (eB (ha pos pins s σ H _ I h) λ us s1 hq5=>L2.ex5 hq5 λ vs H1 I1 r1 q1=>?_) (by rw[hs,hs2]) (by rw[hs2];rfl);obtain⟨b1,b2,a1,a2,xs,ys,rfl,hq1,hq2,q⟩:=q1;obtain⟨u,u',rfl,ru,ru'⟩:=vals2 r1;cases ru;cases ru';obtain⟨its1,rv1,sq1⟩:=nW I1 hq1;obtain⟨its2,rv2,sq2⟩:=nW I1 hq2;refine vA sq1 sq2 λ h' e1 e2 e3 e4 e5 e6=>wpAny_pyIter_zip e1 ?_;have I2:Inv X pins σ H1 { s1 with heap:=h' }:=I1.kept (t':=s1.toks) e6;refine⟨_,_,_,_,H1,rfl,I2,Cs b1 b2 (zipApart_new (yV sq1) (yV sq2)),⟨e1,e2,⟨_,_,e3⟩,⟨_,e4,yW b1 a1⟩,⟨_,e5,yW b2 a2⟩⟩,λ b hb=>?_,q⟩;have le:s1.heap.objs.size<=b:=by
  simp only[MK,NQ,or_false]at hb;rcases hb with e|e|e|e|e<;>(rw[e];first|exact ML _|exact QS _ _)
 exact I1.rf le (I1.hok.fresh le)
end L2
namespace DL
open PySem PySem.Spec PyProof.Rows L2
section
variable {K:PySem.W.Frag}{Y:XY}{H0 B0 B H:Hp}{σ:L2.St}{τ:SD}{P:List Addr}{F:Addr->Prop}{X:Cx}{pos:Pos}
def lI (xs ys:List D):List D:=List.zipWith (λ x y=>D.tup [x,y]) xs ys
def J8:List D->Res (Bool×List D)
 |[d,e]=>(bx d).bind λ p=>(bx e).bind λ q=>.ok (p.1||q.1,lI p.2 q.2)
 |_=>.bad
def uo (f:SD->Res (List D))(τ:SD):Res (Bool×List D):=(f τ).bind J8
def vC:∀ xs ys:List D,aD (lI xs ys)=lI (aD xs) (aD ys)
 |[],_=>rfl|_::_,[]=>rfl
 | x::xs,y::ys=>by
  show(D.tup [x,y]).aq::aD (lI xs ys)=D.tup [x.aq,y.aq]::lI (aD xs) (aD ys);rw[vC xs ys];rfl
def um (xs ys:List D):(lI xs ys).length=min xs.length ys.length:=by simp[lI]
def Cu {xs ys:List D}{i:Nat}{d:D}(h:(lI xs ys)[i]?=some d):∃ x y,xs[i]?=some x/\ys[i]?=some y/\d=.tup [x,y]:=by
 unfold lI at h;rw[P7]at h;cases hx:xs[i]? with
 |none=>rw[hx]at h;cases h
 | some x =>
  cases hy:ys[i]? with
  |none=>rw[hx,hy]at h;cases h
  | some y =>
   rw[hx,hy]at h;cases h;exact⟨x,y,rfl,rfl,rfl⟩
def E1 {src1 src2:Hp->List V->Prop}{ds es:List D}{vs ws:List V}(r:ak K B No H ds vs [])(r':ak K B No H es ws [])(q:∀ B' H':Hp,aw B B'->aw B' H'->mR H H'->src1 H' vs)(q':∀ B' H':Hp,aw B B'->aw B' H'->mR H H'->src2 H' ws):EO K (Iz src1 src2) (lI ds es) B H where
 go:=λ B' H' i d s1 s2 im e=>by
  obtain⟨x,y,h1,h2,rfl⟩:=Cu e;obtain⟨v,f,a1,_⟩:=r.get h1;obtain⟨w,g,a2,_⟩:=r'.get h2;exact⟨vs,v,ws,w,q B' H' s1 s2 im,a1,q' B' H' s1 s2 im,a2⟩
 wQ:=λ B' H' i d x H'' s1 s2 im e y=>by
  obtain⟨p,w1,w2,rfl,hp,rfl,hy1,hy2⟩:=y;obtain⟨dx,dy,h1,h2,rfl⟩:=Cu e;obtain⟨v,f,a1,a2,a3⟩:=r.get h1;obtain⟨w,g,c1,c2,c3⟩:=r'.get h2;have z1:=hy1 vs (q B' H' s1 s2 im);have z2:=hy2 ws (q' B' H' s1 s2 im);rw[z1]at a1;cases a1;rw[z2]at c1;cases c1;cases mT a3;cases mT c3;have s:=gC (o:=.tup [w1,w2]) hp;exact⟨s,p,[w1,w2],rfl,bB,w1,[w2],[],[],rfl,(a2.stay s1 im rfl).mono s (aw.refl _) (λ _ x=>x),ak.one ((c2.stay s1 im rfl).mono s (aw.refl _) (λ _ x=>x)),rfl⟩
 stop:=λ B' H' s1 s2 im=>⟨vs,ws,q B' H' s1 s2 im,q' B' H' s1 s2 im,by
  have e1:=r.length;have e2:=r'.length;rw[um];omega⟩
def vB {d:D}{fl:Bool}{xs:List D}{v:V}{f:List Addr}(hi:bx d=.ok (fl,xs))(I:SI K H0 B0 B H σ τ P F)(r:Rep K B (· ∈ P) H d v f) :
  ∃ b a vs,v=.ref a/\Cr K b a H vs/\∀ Bx:Hp,aw B Bx->(∀ a∈f,∀ o,H a=some o->Bx a=some o)->(fl=true->∀ a∈P,∀ o,H a=some o->Bx a=some o)->∃ ws,ak K Bx No H (aD xs) ws []/\∀ B' H':Hp,aw Bx B'->aw B' H'->mR H H'->Cr K b a H' ws:=by
 cases d with
 | lst t ys =>
  cases hi;obtain⟨a,vs,g,rfl,q,_⟩:=r.lst I;refine⟨false,a,vs,rfl,q,λ Bx sB h1 h2=>?_⟩;obtain⟨a',ws,ea,q',rl,_⟩:Rep K Bx No H (D.lst .aq (aD xs)) (.ref a) []:=iP r sB h1 h2;cases ea;exact⟨ws,rl,λ B' H' z1 z2 _=>dZ (z1.trans z2) q'⟩
 | tup ys =>
  cases hi;obtain⟨a,vs,rfl,q,_⟩:=r.tp;refine⟨true,a,vs,rfl,q,λ Bx sB h1 h2=>?_⟩;obtain⟨a',ws,ea,q',rl⟩:Rep K Bx No H (D.tup (aD xs)) (.ref a) []:=iP r sB h1 h2;cases ea;exact⟨ws,rl,λ B' H' z1 z2 im=>mV im (jd.of q')⟩
 |_=>cases hi
def Ct {elts:List Expr}{x1:Nat}{tp p:Pos}{l m:Expr}{fs:SD->Res (List D)}(hg:Gl X "zip")(hm:X.mg "zip" = none)(ha:PA X [l,m] (pC X.K Y fs))(hs:starEach [l,m] X.env=[(false,eval l X.env),(false,eval m X.env)]:=by rfl)(hs2:starEach [m] X.env=[(false,eval m X.env)]:=by rfl) :
  PI X (.Tuple elts x1 tp) (.Call (.Name "zip" p) [l,m] [] pos) (Bb X.K Y (uo fs)):=by
 refine PI.imp (HV hg hm ha hs hs2) λ σ H R hq=>ex8 hq λ H0 B0 B τ P F I h=>⟨H0,B0,B,τ,P,F,I,?_⟩;cases z:fs τ with
 |fY C=>simp only[uo,z,Res.jl]at h;exact h|bad=>simp only[uo,z,Res.jk]at h
 | ok ds =>
  simp only[uo,z,Res.aG]at h;intro vs H1 B1 fp I1 s1 b1 r1 k1
  match ds,r1,h with
  | [d,e],r1,h =>
   obtain⟨v,u,f1,f2,rfl,rfl,rd,re⟩:=BY r1;simp only[J8]at h;cases hd:bx d with
   |fY C=>exfalso;cases d<;>cases hd
   |bad=>rw[hd]at h;exact h.elim
   | ok p =>
    obtain⟨g1,xs⟩:=p;rw[hd,Res.aG]at h;cases he:bx e with
    |fY C=>exfalso;cases e<;>cases he
    |bad=>rw[he]at h;exact h.elim
    | ok p =>
     obtain⟨g2,ys⟩:=p;rw[he,Res.aG]at h;obtain⟨c1,a1,vs1,rfl,q1,k2⟩:=vB hd I1 rd;obtain⟨c2,a2,vs2,rfl,q2,k3⟩:=vB he I1 re;refine⟨c1,c2,a1,a2,vs1,vs2,rfl,q1,q2,h _ H1 _ (f1++f2) I1 s1 b1 k1 λ Bx sB sH h1 h2=>?_⟩;obtain⟨w1,rl1,m1⟩:=k2 Bx sB (λ a m=>h1 a (MW _ m)) λ t=>h2 (by rw[t];rfl);obtain⟨w2,rl2,m2⟩:=k3 Bx sB (λ a m=>h1 a (MT _ m)) λ t=>h2 (by rw[t];simp);rw[vC];exact E1 rl1 rl2 m1 m2
  |[],r1,h=>exact h.elim|[_],r1,h=>exact h.elim|_::_::_::_,r1,h=>exact h.elim
end
section
variable {K:PySem.W.Frag}{Y:XY}{H0 B0 B H:Hp}{σ:L2.St}{τ:SD}{P:List Addr}{F:Addr->Prop}{X:Cx}{pos:Pos}{e:Expr}{fe:SD->Res D}
end
end DL
namespace L2
open PySem PySem.Spec PyProof.Rows
section
variable {X:Cx}
end
end L2
namespace DL
open PySem PySem.Spec PyProof.Rows L2
end DL
namespace L2
open PySem PySem.Spec PyProof.Rows
def Cv {P:Program}{w:World}{A:Around}{E:Value->Shared->Prop}{s:Shared}{items:Array Value}{x:Value}{e:Value->Bool}(he:∀ y,y∈items->MeetsSeq.EqGives y x (e y)){j:Nat}(hj:j<items.size)(hit:e items[j]=true)(hno:∀ m (hm:m<items.size),m<j->e items[m]=false)
  {Q:Option PySem.Fin×Unit->Shared->Prop} (hQ:Q (some (.done (.ret (.int j s.toks))),()) { s with toks:=s.toks+1 }):∀ (k i:Nat),i+k=items.size->i<=j ->
  wpAny (model P w) A (forIn (List.range' i k) ((none,()):Option PySem.Fin×Unit) λ (i:Nat) (_:Option PySem.Fin×Unit)=>(match items[i]? with
   | some y=>do
    let b <-eqBool y x
    if b=true then do
      let r <-retInt (i:Int)
      pure (ForInStep.done (some r,()))
     else pure (ForInStep.yield (none,()))
   |_=>pure (ForInStep.yield (none,()):ForInStep (Option PySem.Fin×Unit)):Sem (ForInStep (Option PySem.Fin×Unit)))) Q E s
 |0,i,h1,h2=>by omega
 | k+1,i,h1,h2=>by
  have hi:i<items.size:=by omega
  rw[List.range'_succ,Px];refine My ?_;rw[MV hi];refine My (he _ (Array.getElem_mem hi) P w _ _ _ _ ?_);by_cases q:i=j
  ·subst q;rw[hit];exact My (My (wpAny_mkInt (MB (MB (MB hQ)))))
  ·rw[hno i hi (by omega)];refine MB ?_;exact Cv he hj hit hno hQ k (i+1) (by omega) (by omega)
def pq (t:Addr)(items:Array Value)(x:Value)(e:Value->Bool)(he:∀ y,y∈items->MeetsSeq.EqGives y x (e y))(j:Nat)(hj:j<items.size)(hit:e items[j]=true)(hno:∀ m (hm:m<items.size),m<j->e items[m]=false) :
  Meets (Builtin.«tuple.index» ⟨[.ref t,x],[]⟩) (λ _ R s=>s.heap.IsTuple t items/\R (.ok (.ret (.int j s.toks))) { s with toks:=s.toks+1 }):=
 .of_wp λ prog w A R s h=>by
  obtain⟨⟨o,ho,hc,n,hd⟩,h⟩:=h;unfold Builtin.«tuple.index»;show wpAny _ _ (Builtin.Tuple.tupleItemsOf (.ref t) >>= _) _ _ _;unfold Builtin.Tuple.tupleItemsOf;refine My (My (N6 ho hd (MB ?_)));show wpAny _ _ (forIn [0:min items.size items.size] ((none,()):Option PySem.Fin×Unit) _ >>= _) _ _ _;refine My ?_;rw[Nat.min_self,Std.Legacy.Range.forIn_eq_forIn_range'];have sz:Std.Legacy.Range.size [0:items.size]=items.size:=by simp[Std.Legacy.Range.size]
  rw[sz];refine Cv he hj hit hno ?_ items.size 0 (NT _) (NV _);exact MB ⟨_,rfl,h⟩
section
variable {X:Cx}
def LM:V->List V->Hp->VK->Prop:=λ x vs H Q=>∃ (a:Addr) (ns:List Int) (k:Int) (j:Nat),x=.ref a/\vs=[.int k]/\H a=some (.tup (ns.map V.int))/\ns[j]?=some k/\(∀ m,m<j->ns[m]?≠some k)/\Q (.int j) H
def HW:Jc X "tuple.index" LM:=by
 intro pins s σ H x vs v us Q I rx rv h;obtain⟨a,ns,k,j,rfl,rfl,hH,hj,hno,q⟩:=h;cases rx;obtain⟨u,rfl,ru⟩:=rv.one;obtain⟨t,rfl⟩:=ru;obtain⟨its,r,p,hz⟩:=I.tuple (jd.of hH);have hi:=intsAre_of r;have hl:=r.length;rw[MC]at hl;have hjl:j<its.toArray.size:=by
  have:=(MF.mp hj).1;simp;omega
 have at_:∀ m (hm:m<its.toArray.size),∃ tk,its.toArray[m]=.int (ns.getD m 0) tk:=λ m hm=>by
  have hm':m<ns.length:=by
   simp at hm;omega
  obtain⟨w,hw,rw'⟩:=r.get (i:=m) (x:=.int ns[m]) (by simp[hm']);obtain⟨tk,e⟩:=rw';refine⟨tk,?_⟩;have e2:its[m]?=some its.toArray[m]:=by simp at hm;simp[hm]
  rw[e2]at hw;cases hw;rw[e];simp[hm']
 have gj:ns.getD j 0=k:=by simp[MG,hj]
 refine Qv F.slot_tuple_index (f9 p).typeIs F.entry_tuple_index (F.args_tuple_index_2 _ _) (pq a its.toArray (.int k t) (isInt k) (λ y hy=>eq_isInt k t hi y (by simpa using hy)) j hjl ?_ ?_) ⟨f9 p,?_⟩
 ·obtain⟨tk,e⟩:=at_ j hjl;rw[e,gj];simp[isInt]
 ·intro m hm hmj;obtain⟨tk,e⟩:=at_ m hm;rw[e];have hm':m<ns.length:=by
   simp at hm;omega
  have ne:=hno m hmj;simp[isInt];intro z;apply ne;rw[MA hm'];simpa[MG,hm'] using z
 ·exact⟨.int j,H,I.tok (s.toks+1),⟨_,rfl⟩,q⟩
variable {o e:Expr}{es:List Expr}{to:TE}{t:TA}{name:Str}{apos cpos:Pos}{id:String}{r:V->List V->Hp->VK->Prop}
def J9 (slot:Slot "tuple" name id)(hty:typeOf (.builtin id)=pure (.type "method_descriptor"))(hm:Jc X id r)(ho:PE X o to)(ha:PA X (e::es) t)
  (hbase:attributeBase o name X.env (eval o X.env)=eval o X.env:=by rfl)
  (hfew:((backTo cpos (starEach (e::es) X.env)).all (λ x=>!x.1)&&(backToKw cpos (keywordEach [] X.env)).all (λ x=>x.1.isSome)
   && decide ((e::es).length+([]:List Keyword).length+(if ([]:List Keyword).isEmpty then 0 else 1)<30))=true:=by rfl)
  (hline:(apos.endLine == cpos.line)=true:=by rfl) (hs:starEach (e::es) X.env=(false,eval e X.env)::starEach es X.env:=by rfl) (hplain:(backTo cpos (starEach es X.env)).any (·.1)=false:=by rfl) :
  PE X (.Call (.Attribute o name apos) (e::es) [] cpos) (λ σ H Q=>to σ H λ x H1=>(∃ a xs,x=.ref a/\H1 a=some (.tup xs))/\t σ H1 λ xs H2=>r x xs H2 Q):=by
 intro pins s σ H Q I h;refine wpAny_Call_method_late hbase hfew hline rfl (eB (ho pins s σ H _ I h) λ v s1 ⟨x,H1,I1,r1,ty,q1⟩=>?_);obtain⟨a,xs,rfl,hH⟩:=ty;have r1':=r1;cases r1';obtain⟨_,its,_,n,hg⟩:=(show ck X.prog X.w H1 s1.heap a (.tup xs) from I1.hok a _ hH);refine⟨"tuple",id,PySem.F.plainAttrs_tuple,slot,hty,⟨_,hg,rfl⟩,λ b e=>?_,?_⟩
 ·cases e;exact⟨_,hg,rfl⟩
 ·have hA:=ha cpos pins s1 σ H1 _ I1 q1;rw[hs]at hA ⊢;refine Oz (by show(false||(backTo cpos (starEach es X.env)).any (·.1))=false;rw[hplain]<;>rfl) (Qk ?_);exact eB hA λ us s2 hq5=>L2.ex5 hq5 λ vs H2 I2 r2 q2=>hm pins s2 σ H2 _ vs _ us Q I2 r1 r2 q2
end
end L2
namespace DL
open PySem PySem.Spec PyProof.Rows L2
section
variable {K:PySem.W.Frag}{Y:XY}{X:Cx}{o e:Expr}{fo fe:SD->Res D}{apos cpos:Pos}
def xx (ns:List Int)(k:Int):Option Nat:=ns.findIdx? λ n=>decide (n=k)
def isTup (d:D):Bool:=match d with|.tup _=>true|_=>false
def E2:D->D->Res D
 |.tup xs,.int k=>match intsOf xs with|some ns=>(match xx ns k with|some j=>.ok (.int j)|none=>.bad)|none=>.bad
 |_,_=>.bad
def Cw (a b:SD->Res D)(τ:SD):Res D:=(a τ).bind λ x=>if isTup x=true then (b τ).bind (E2 x) else .bad
def Az {ns:List Int}{k:Int}{j:Nat}(h:xx ns k=some j):ns[j]?=some k/\∀ m,m<j->ns[m]?≠some k:=by
 unfold xx at h;rw[OH]at h;obtain⟨h1,h2,h3⟩:=h;refine⟨by rw[MA h1];simpa using h2,λ m hm z=>?_⟩;have:=h3 m hm;rw[MA (by omega)]at z;cases z;simp at this
def Gv (ho:PE X o (tM X.K Y fo))(he:PE X e (tM X.K Y fe))(hbase:attributeBase o "index" X.env (eval o X.env)=eval o X.env:=by rfl)
  (hfew:((backTo cpos (starEach [e] X.env)).all (λ x=>!x.1)&&(backToKw cpos (keywordEach [] X.env)).all (λ x=>x.1.isSome)
   && decide ([e].length+([]:List Keyword).length+(if ([]:List Keyword).isEmpty then 0 else 1)<30))=true:=by rfl)
  (hline:(apos.endLine == cpos.line)=true:=by rfl) (hs:starEach [e] X.env=(false,eval e X.env)::starEach [] X.env:=by rfl) (hplain:(backTo cpos (starEach [] X.env)).any (·.1)=false:=by rfl) :
  PE X (.Call (.Attribute o "index" apos) [e] [] cpos) (tM X.K Y (Cw fo fe)):=by
 refine PE.imp (J9 PySem.F.slot_tuple_index PySem.F.type_tuple_index HW ho (gm he jC hs) hbase hfew hline hs hplain) λ σ H Q hq=>ex8 hq λ H0 B0 B τ P F I h=>?_;refine tM.seq (g:=λ x=>if isTup x=true then (fe τ).bind (E2 x) else .bad) I h λ d1 v1 H1 B1 fp1 _ I1 s1 b1 r1 k1 h1=>?_;by_cases hdc:isTup d1=true
 ·rw[MO hdc]at h1;cases d1 with
  | tup xs =>
   obtain⟨a,vs,rfl,hq,rl⟩:=r1;refine⟨⟨a,vs,rfl,hq⟩,?_⟩;have I1h:=I1.hold k1;refine⟨H0,B0,B1,τ,P,_,I1h,?_⟩;cases z:fe τ with
   |fY C=>rw[z]at h1;exact jD.later h1 (aw.refl _) (aw.refl _) λ a x=>.inr x
   |bad=>rw[z]at h1;exact h1
   | ok d2 =>
    rw[z]at h1;intro v2 H2 B2 fp2 I2 s2 b2 r2 k2;have I4:=I2.nP (F':=F) λ a x=>.inr x;have h4:Goal X.K Y H0 B0 B2 H2 σ τ P F Q (E2 (.tup xs) d2):=Goal.later h1 s2 b2;cases d2 with
    | int k =>
     simp only[E2]at h4;split at h4
     ·rename_i ns e;split at h4
      ·rename_i j hj;have ex:=dX e;subst ex;obtain⟨rfl,_⟩:=dW rl;obtain⟨rfl,_⟩:=r2;obtain⟨c1,c2⟩:=Az hj;exact⟨a,ns,k,j,rfl,rfl,s2 a _ hq,c1,c2,Out.here h4 I4 ⟨rfl,rfl⟩⟩
      ·exact h4.elim
     ·exact h4.elim
    |_=>exact h4.elim
  |_=>cases hdc
 ·rw[MP hdc]at h1;exact h1.elim
end
end DL
namespace XF
open PySem
def eX (cls:Value)(t:Addr)(tb:Value):Obj:={ cls:=cls,data:=.fields #[.ref t,tb,.none,.none,.bool false,.none] }
def LN (cls:Value)(t:Addr)(tb x:Value):Obj.mapFields (·.setIfInBounds 1 x) (eX cls t tb)=eX cls t x:=rfl
section
variable {M:Model}{A:Around}{E:Value->Shared->Prop}{s:Shared}{B:Heap}{env:Env}{outer:List Env}{L e t:Addr}{cls tb head:Value}{Q:Unit->Shared->Prop}
end
end XF
namespace XF
open PySem PySem.Spec PyProof.Rows L2 DL
section
variable {K:PySem.W.Frag}{Y:XY}{H0 B0 B H:Hp}{σ:L2.St}{τ:SD}{P:List Addr}{F:Addr->Prop}{X:Cx}{pos p:Pos}{e:Expr}{es:List Expr}{fs:SD->Res (List D)}
end
end XF
namespace XF
open PySem
section
variable {prog:Program}{w:World}{A:Around}{E:Value->Shared->Prop}{s:Shared}
end
end XF
namespace XF
open PySem PySem.Spec PyProof.Rows L2 DL
section
variable {X:Cx}{tg:Expr}
end
section
variable {K:PySem.W.Frag}{Y:XY}{X:Cx}{tg elt iter:Expr}{ifs:List Expr}{scope:Scope}{pos:Pos}{own:List Str}{cap:List (Str×Nat)}{it:SD->Res (Bool×List D)}{tgd:uW}{tt:SD->Res Bool}{fe:SD->Res D}
end
end XF
namespace XF
open PySem
section
variable {M:Model}{A:Around}{E:Value->Shared->Prop}{h:Heap}{g:Array GenState}{d:Drawn}{t:Nat}{os:OsState}{e C D:Addr}{oe:Obj}{bm bn:List Value}{Q:Bool->Shared->Prop}
end
end XF
namespace XF
open PySem PySem.Spec PyProof.Rows L2 DL
section
variable {X:Cx}{pins:List (Addr×Obj)}{σ:L2.St}{H:Hp}{e C:Addr}{B:Heap}{s:Shared}
end
end XF
namespace XF
open PySem PySem.W PySem.Spec PyProof.Rows
section
variable {prog:Program}{w:World}{A:Around}{E:Value->Shared->Prop}{s:Shared}{K:Frag}{x C:Addr}{ox:Obj}
end
end XF
namespace XF
open PySem PySem.Spec PyProof.Rows L2 DL
section
variable {K:PySem.W.Frag}{Y:XY}{H0 B0 B H:Hp}{σ:L2.St}{τ:SD}{P:List Addr}{F:Addr->Prop}{X:Cx}{pos p pt:Pos}{e:Expr}{fe:SD->Res D}
end
section
variable {K:PySem.W.Frag}{mg:Str->Option Value}{x y:Str}{C D NE:Addr}{bm bd:List Value}
end
end XF
namespace L2
open PySem PySem.Spec PyProof.Rows
section
variable {X:Cx}
end
end L2
namespace DL
open PySem PySem.Spec PyProof.Rows L2
section
variable {K:PySem.W.Frag}{Y:XY}{H0 B0 B H:Hp}{σ:L2.St}{τ:SD}{P:List Addr}{F:Addr->Prop}{X:Cx}{pos:Pos}{e:Expr}{fe:SD->Res D}
mutual
def D.plain:D->Bool
 |.tup xs=>l7 xs
 |.lst _ _=>false
 |.dct _ _ _ _=>false
 |.exc _=>false
 |_=>true
def l7:List D->Bool
 |[]=>true
 |d::r=>d.plain&&l7 r
end
mutual
def Rep.qh {B' H':Hp}{S S':Addr->Prop}(m:mR H H'):∀ {d:D}{v:V}{f:List Addr},d.plain=true->Rep K B S H d v f->f=[]/\Rep K B' S' H' d v []
 |.bJ,v,f,_,r=>by obtain⟨h1,h2⟩:=r;exact⟨h2,h1,rfl⟩
 |.bl b,v,f,_,r=>by obtain⟨h1,h2⟩:=r;exact⟨h2,h1,rfl⟩
 |.int i,v,f,_,r=>by obtain⟨h1,h2⟩:=r;exact⟨h2,h1,rfl⟩
 |.str x,v,f,_,r=>by obtain⟨h1,h2⟩:=r;exact⟨h2,h1,rfl⟩
 | .tup xs,v,f,p,r=>by
  obtain⟨a,vs,e,h,rl⟩:=r;obtain⟨e2,r2⟩:=ak.qh m (d:=xs) p rl;exact⟨e2,a,vs,e,m a _ h (λ z=>z),r2⟩
 |.lst _ _,_,_,p,_=>by cases p
 |.dct _ _ _ _,_,_,p,_=>by cases p
 |.exc _,_,_,p,_=>by cases p
def ak.qh {B' H':Hp}{S S':Addr->Prop}(m:mR H H'):∀ {d:List D}{v:List V}{f:List Addr},l7 d=true->ak K B S H d v f->f=[]/\ak K B' S' H' d v []
 |[],v,f,_,r=>by obtain⟨h1,h2⟩:=r;exact⟨h2,h1,rfl⟩
 | d::ds,v,f,p,r=>by
  obtain⟨x,w,f1,f2,e,r1,r2,ef⟩:=r;have p:(d.plain&&l7 ds)=true:=p;rw[Nk]at p;obtain⟨e1,q1⟩:=Rep.qh m p.1 r1;obtain⟨e2,q2⟩:=ak.qh m p.2 r2;subst e1 e2;exact⟨ef,x,w,[],[],e,q1,q2,rfl⟩
end
end
end DL
namespace SR
open PySem PySem.Spec PyProof.Rows PySem.W
variable {p:Array Nat}{n:Nat}{α:Type}
def fF {α:Type}(n:Nat)(L:α->Prop):KasT α->Prop
 |.ret a=>L a
 |.ask i j k=>i<n/\j<n/\∀ b,fF n L (k b)
def fF.bind {α β:Type}{n:Nat}{L:α->Prop}{L':β->Prop}{f:α->KasT β}(hf:∀ a,L a->fF n L' (f a)):∀ {t:KasT α},fF n L t->fF n L' (t.bind f)
 |.ret a,x=>by unfold KasT.bind;exact hf a x
 |.ask i j k,x=>by unfold KasT.bind;exact⟨x.1,x.2.1,λ b=>fF.bind hf (x.2.2 b)⟩
def bg {α:Type}(c:Nat->Nat->Bool):KasT α->α
 |.ret a=>a
 |.ask i j k=>bg c (k (c i j))
def fF.run {α:Type}{n:Nat}{L:α->Prop}(c:Nat->Nat->Bool):∀ {t:KasT α},fF n L t->L (bg c t)
 |.ret a,x=>x
 |.ask i j k,x=>show L (bg c (k (c i j))) from fF.run (n:=n) c (x.2.2 (c i j))
def fF.wp {α:Type}{n:Nat}{L:α->Prop}{c:Nat->Nat->Bool}{cmp:Nat->Nat->(Bool->Shared->Prop)->Shared->Prop}{Q:α->Shared->Prop}{s:Shared}(hc:∀ i j C,i<n->j<n->C (c i j) s->cmp i j C s):∀ {t:KasT α},fF n L t->Q (bg c t) s->KasT.kasWp cmp t Q s
 |.ret a,x,h=>by unfold KasT.kasWp;exact h
 |.ask i j k,x,h=>by unfold KasT.kasWp;exact hc i j _ x.1 x.2.1 (fF.wp hc (x.2.2 (c i j)) h)
abbrev Pm (n:Nat)(p:Array Nat):Prop:=p.Perm (List.range n).toArray
def Pm.get(h:Pm n p)(hn:0<n)(i:Nat):p.getD i 0<n:=by
 rw[Nt];cases e:p[i]? with
 |none=>exact hn
 | some x =>
  have m:x∈p:=Array.mem_of_getElem? e;have m':x∈(List.range n).toArray:=h.mem_iff.mp m;have:x∈List.range n:=by simpa using m'
  exact M3.mp this
section
variable(hn:0<n)
include hn
theorem uq {p:Array Nat}(h:Pm n p):∀ f k,fF n (λ _=>True) (kas_asc p f k)
 |0,k=>by unfold kas_asc;exact trivial
 | f+1,k=>by
  unfold kas_asc;refine⟨h.get hn _,h.get hn _,λ b=>?_⟩;cases b
  ·exact uq h f (k+1)
  ·exact trivial
theorem mZ:∀ f {p:Array Nat} k a,Pm n p->fF n (λ r=>Pm n r.1) (kas_desc f p k a)
 |0,p,k,a,h=>by unfold kas_desc;exact h
 | f+1,p,k,a,h=>by
  unfold kas_desc;refine⟨h.get hn _,h.get hn _,λ b=>?_⟩;cases b
  ·refine⟨h.get hn _,h.get hn _,λ b=>?_⟩;cases b
   ·exact mZ f _ _ h
   ·exact h
  ·show fF n _ (if a>0 then kas_desc f (kas_rev p (k-(a+1)) k) (k+1) 0 else kas_desc f p (k+1) 0);split
   ·exact mZ f _ _ ((mirror_perm p _ _ _).trans h)
   ·exact mZ f _ _ h
theorem vD(h:Pm n p)(m r:Nat):fF n (λ r=>Pm n r.2) (kas_tail3 m r p):=by
 have h2:Pm n (kas_rev p 0 m):=(mirror_perm p _ _ _).trans h;unfold kas_tail3;exact fF.bind (L':=λ r:Nat×Array Nat=>Pm n r.2) (λ a _=>(show fF n _ (KasT.ret (a,kas_rev p 0 m)) from h2)) (uq hn h2 _ _)
theorem mY(h:Pm n p)(m r:Nat):fF n (λ r=>Pm n r.2) (kas_descPart m r p):=by
 unfold kas_descPart;refine fF.bind (λ a ha=>?_) (mZ hn _ _ _ h);split
 ·exact vD hn ((mirror_perm a.1 _ _ _).trans ha) _ _
 ·exact vD hn ha _ _
theorem AA(h:Pm n p)(r:Nat):fF n (λ r=>Pm n r.2) (kas_count r p):=by
 unfold kas_count;refine fF.bind (λ a _=>?_) (uq hn h _ _);split
 ·exact h
 ·split
  ·refine⟨h.get hn _,h.get hn _,λ b=>?_⟩;cases b
   ·exact mY hn ((mirror_perm p _ _ _).trans h) _ _
   ·exact h
  ·exact mY hn h _ _
theorem nX {p:Array Nat}(h:Pm n p)(k:Nat):∀ f a b,fF n (λ _=>True) (kas_place p k f a b)
 |0,a,b=>by unfold kas_place;exact trivial
 | f+1,a,b=>by
  unfold kas_place;split
  ·exact trivial
  ·refine⟨h.get hn _,h.get hn _,λ c=>?_⟩;cases c
   ·exact nX h k f _ _
   ·exact nX h k f _ _
theorem yX:∀ f {p:Array Nat} k,Pm n p->fF n (Pm n) (kas_bin f p k)
 |0,p,k,h=>by unfold kas_bin;exact h
 | f+1,p,k,h=>by
  unfold kas_bin;exact fF.bind (λ l _=>yX f _ ((bubble_perm p _ _).trans h)) (nX hn h k _ _ _)
theorem mX:fF n (Pm n) (kas_sort n):=by
 unfold kas_sort;refine fF.bind (λ r hr=>?_) (AA hn (Array.Perm.refl _) n);split
 ·exact yX hn _ _ hr
 ·exact hr
end
def ordered(d:α)(c:Nat->Nat->Bool)(vs:List α):List α:=if vs.length<2 then vs else (bg c (kas_sort vs.length)).toList.map λ i=>vs.getD i d
def m9(d:α)(c:Nat->Nat->Bool)(vs:List α):(ordered d c vs).Perm vs:=by
 unfold ordered;split
 ·exact Nz _
 ·rename_i h;have hp:=Og.mp (fF.run (L:=Pm vs.length) c (mX (n:=vs.length) (by omega)));have hp':(bg c (kas_sort vs.length)).toList.Perm (List.range vs.length):=by simpa using hp
  refine(hp'.map _).trans ?_;have e3:(List.range vs.length).map (λ i=>vs.getD i d)=vs:=by
   refine NY (by simp) λ i h1 h2=>?_;simp;rw[MA h2];rfl
  rw[e3]
def xB(M:Model)(A:Around)(h:Heap)(t:Sem α)(r:α):Prop:=∀ (Q:α->Shared->Prop) (E:Value->Shared->Prop) (s:Shared),(∀ b o,h.get? b=some o->s.heap.get? b=some o)->Q r s->wpAny M A t Q E s
def xA (M:Model)(A:Around)(h:Heap)(ks:List Value)(c:Nat->Nat->Bool):Prop:=2<=ks.length->∃ κ,xB M A h (keyKind' ks.toArray) κ/\∀ i j,i<ks.length->j<ks.length->xB M A h (keyLt' κ (ks.getD i .none) (ks.getD j .none)) (c i j)
section
variable {prog:Program}{w:World}{A:Around}{E:Value->Shared->Prop}{s:Shared}{a:Addr}{vs:List Value}{h:Heap}{P:Fin->Shared->Prop}
def rE (ho:s.heap.get? a=some (seqObj "list" vs.toArray n))(hl:vs.length<64){c:Nat->Nat->Bool}(K:xA (model prog w) A h vs c)(hx:∀ b o,h.get? b=some o->b≠a/\s.heap.get? b=some o)
  (hP:P (.done (.ret .none)) { s with heap:=sortedHeap s.heap a vs (ordered .none c vs).toArray }) :
  wpAny (model prog w) A (Builtin.«list.sort» ⟨[.ref a],[]⟩) P E s:=by
 rw[list_sort_plain];refine My (listItems_at ho rfl ?_);refine My ?_;show wpAny _ _ (updateSeq a λ _=>#[]) _ _ _;refine O8 ho rfl ?_ (by simp[NH];omega) (by simp);have ho1:=Ol (Obj.mapSeq λ _=>(#[]:Array Value)) ho rfl;refine My (seqEpoch_at ho1 rfl ?_);refine My (Qz ?_ (by simp[NH];omega));refine My (QQ ?_ (by simp));refine Od ?_;have ho3:((((s.heap.update a (Obj.mapSeq λ _=>(#[]:Array Value))).push (seqObj "tuple" vs.toArray 0)).push (seqObj "list" #[] 0))).get? a=some (Obj.mapSeq (λ _=>#[]) (seqObj "list" vs.toArray n)):=Mz _ (Mz _ ho1);have hx3:∀ b o,h.get? b=some o->((((s.heap.update a (Obj.mapSeq λ _=>(#[]:Array Value))).push (seqObj "tuple" vs.toArray 0)).push (seqObj "list" #[] 0))).get? b=some o:=λ b o e=>by
  obtain⟨h1,h2⟩:=hx b o e;exact Mz _ (Mz _ ((Of _ _ (NU h1)).trans h2))
 dsimp only;have zs:(vs.toArray.zip vs.toArray).map (λ x=>x.2)=vs.toArray:=by
  apply Array.ext
  ·simp
  ·intro i h1 h2;simp
 have fin:∀ (st:SortSt) (k:Nat->Sem PySem.Fin),failedOf st=none->(arrOf st).map (λ x=>x.2)=(ordered Value.none c vs).toArray->(∀ Q:PySem.Fin->Shared->Prop,∀ s',Q (.done (.ret .none)) s'->wpAny (model prog w) A (k (if ((#[]:Array Value).size == vs.toArray.size)=true then n else n+1)) Q E s') ->
   wpAny (model prog w) A (do let e <-seqEpoch a;Builtin.List.listUpdate (.ref a) λ _=>(arrOf st).map (λ x=>x.2);k e) P E { s with heap:=(((s.heap.update a (Obj.mapSeq λ _=>(#[]:Array Value))).push (seqObj "tuple" vs.toArray 0)).push (seqObj "list" #[] 0)) }:=by
  intro st k hf hp hk;refine My (seqEpoch_at ho3 rfl ?_);refine My ?_;show wpAny _ _ (updateSeq a λ _=>(arrOf st).map (λ x=>x.2)) _ _ _;rw[hp];have hlen:(ordered Value.none c vs).toArray.size=vs.length:=by rw[MN,(m9 _ _ _).length_eq]
  refine O8 ho3 rfl ?_ (by simp) (by simp only[hlen,NH];omega);exact hk _ _ hP
 by_cases h2:vs.toArray.size<2
 ·rw[MO h2];refine My (MB ?_);rw[MO h2];refine My (show wpAny _ _ (pure ((),SortSt.mk' general' (vs.toArray.zip vs.toArray) #[] 7 none)) _ _ _ from MB ?_);refine fin (SortSt.mk' general' (vs.toArray.zip vs.toArray) #[] 7 none) _ rfl ?_ λ Q s' hQ=>?_
  ·show(vs.toArray.zip vs.toArray).map (λ x=>x.2)=_;rw[zs];unfold ordered;rw[MO (by simpa using h2)]
  ·show wpAny _ _ (if _ then _ else ret Value.none) _ _ _;rw[MP (by simp)];exact MB hQ
 ·have h2':2<=vs.length:=by simpa using h2
  obtain⟨κ,k1,k2⟩:=K h2';rw[MP h2];refine My (k1 _ _ _ hx3 ?_);rw[MP h2];have hn:0<vs.length:=by omega
  have run:=kat_run (prog:=prog) (w:=w) (A:=A) (E:=E) (s:={ s with heap:=(((s.heap.update a (Obj.mapSeq λ _=>(#[]:Array Value))).push (seqObj "tuple" vs.toArray 0)).push (seqObj "list" #[] 0)) }) (κ:=κ) (ks:=vs) (vs:=vs) (Q:=λ st s'=>failedOf st=none/\s'={ s with heap:=(((s.heap.update a (Obj.mapSeq λ _=>(#[]:Array Value))).push (seqObj "tuple" vs.toArray 0)).push (seqObj "list" #[] 0)) }/\(arrOf st).map (λ x=>x.2)=(ordered Value.none c vs).toArray) (G:=λ p s'=>p=bg c (kas_sort vs.length)/\s'={ s with heap:=(((s.heap.update a (Obj.mapSeq λ _=>(#[]:Array Value))).push (seqObj "tuple" vs.toArray 0)).push (seqObj "list" #[] 0)) }) rfl h2' hl (λ p st' s' hs he hf hG=>by
   obtain⟨hp,hs'⟩:=hG;refine⟨hf,hs',?_⟩;have e1:(arrOf st').map (λ x=>x.2)=p.map λ i=>vs.getD i .none:=by
    rw[he,Array.map_map];refine Array.map_congr_left λ i hi=>?_;have:=kas_item_eq vs i;show(kas_item (vs.toArray.zip vs.toArray) i).2=_;have e:vs.toArray.zip vs.toArray=pairsOf vs:=rfl;rw[e,this]
   rw[e1,hp];unfold ordered;rw[MP (by omega)];exact Array.toList_inj.mp (by rw[Array.toList_map])) (fF.wp (n:=vs.length) (c:=c) (λ i j C hi hj hC=>k2 i j hi hj _ _ _ hx3 hC) (mX hn) ⟨rfl,rfl⟩)
  refine My (Om run (λ r s' hr=>?_) λ _ _ x=>x);obtain⟨hf,rfl,hp⟩:=hr;refine fin r.2 _ hf hp λ Q s' hQ=>?_;rw[hf];show wpAny _ _ (if _ then _ else ret Value.none) _ _ _;rw[MP (by simp)];exact MB hQ
def xy(hL:s.heap.IsList a vs.toArray)(hl:vs.length<64){c:Nat->Nat->Bool}(K:xA (model prog w) A.in1.in1 s.heap vs c){Q:Value->Shared->Prop}
  (hQ:∀ (h':Heap) (q:Addr),(∀ b o,s.heap.get? b=some o->h'.get? b=some o)->s.heap.objs.size<=q->(∃ e,h'.get? q=some (seqObj "list" (ordered .none c vs).toArray e))->Q (.ref q) { s with heap:=h' }) :
  wpAny (model prog w) A (call (.builtin "sorted") [.ref a]) Q E s:=by
 refine Pq kind_sorted plain_sorted entry_sorted (args_sorted1 _) ?_;unfold Builtin.«sorted»;refine My (m:=checkCount "sorted" 1 1 _) (MB ?_);refine My (collect_list (A:=A.in1) hL ?_ (by rw[NH];omega));have hlt:a<s.heap.objs.size:=by obtain⟨o,ho,_⟩:=hL;exact MJ ho
 generalize hh1:(s.heap.push (seqObj "list" #[] 0)).update s.heap.objs.size (Obj.mapSeq λ x=>x++vs.toArray)=h1;have kp:∀ b o,s.heap.get? b=some o->h1.get? b=some o:=λ b o e=>by
  rw[<-hh1];exact(Of _ _ (NU (M0 (MJ e)))).trans (Mz _ e)
 have hsz:s.heap.objs.size<=h1.objs.size:=by
  obtain⟨o,ho,_⟩:=hL;have e0:(s.heap.push (seqObj "list" #[] 0)).get? s.heap.objs.size=some (seqObj "list" #[] 0):=MI _ rfl;have e1:=Ol (Obj.mapSeq λ x=>x++vs.toArray) e0 rfl;rw[hh1]at e1;exact Ow (MJ e1)
 refine My (QQ ?_ (by rw[NH];omega));have hoL:(h1.push (seqObj "list" vs.toArray 0)).get? h1.objs.size=some (seqObj "list" vs.toArray 0):=MI _ rfl;show wpAny _ _ _ _ _ ({ s with heap:=h1.push (seqObj "list" vs.toArray 0) }:Shared);refine My (Od (Nd slot_list_sort ⟨_,hoL,rfl⟩ entry_list_sort (rE (h:=s.heap) hoL hl K (λ b o e=>⟨M0 (MJ (kp b o e)),Mz _ (kp b o e)⟩) ⟨_,rfl,?_⟩) (args_list_sort _)));refine MB ⟨_,rfl,hQ _ h1.objs.size (λ b o e=>?_) hsz (sortedHeap_at hoL)⟩;have hlt:=MJ (kp b o e);have hne:b≠h1.objs.size:=M0 hlt;have sh:(sortedHeap (h1.push (seqObj "list" vs.toArray 0)) h1.objs.size vs (ordered Value.none c vs).toArray).get? b=(h1.push (seqObj "list" vs.toArray 0)).get? b:=sortedHeap_old hne (by rw[Ny];exact OO hlt);show(sortedHeap (h1.push (seqObj "list" vs.toArray 0)) h1.objs.size vs (ordered Value.none c vs).toArray).get? b=some o;rw[sh];exact Mz _ (kp b o e)
end
section
variable {prog:Program}{w:World}{h:Heap}
end
end SR
namespace L2
open PySem PySem.Spec PyProof.Rows
section
variable {X:Cx}
def vE {f:Nat->V}{g:Nat->Value}:∀ {is:List Nat},(∀ i∈is,RelV (f i) (g i))->Vals (is.map f) (is.map g)
 |[],_=>.nil
 |i::r,h=>.cons (h i MD) (vE λ j m=>h j (ME _ m))
def Vals.getD {ws:List V}{its:List Value}(r:Vals ws its):∀ i,i<ws.length->RelV (ws.getD i .bJ) (its.getD i .none):=λ i hi=>by
 have e:ws[i]?=some (ws[i]):=MA hi;obtain⟨u,hu,ru⟩:=r.get e;rw[MG,MG,e,hu];exact ru
def Vals.ordered {ws:List V}{its:List Value}(r:Vals ws its)(c:Nat->Nat->Bool):Vals (SR.ordered .bJ c ws) (SR.ordered .none c its):=by
 have hl:=r.length;unfold SR.ordered;rw[<-hl];split
 ·exact r
 ·rename_i h;refine vE λ i m=>r.getD i ?_;have hp:=Og.mp (SR.fF.run (L:=SR.Pm ws.length) c (SR.mX (n:=ws.length) (by omega)));have hp':(SR.bg c (PySem.W.kas_sort ws.length)).toList.Perm (List.range ws.length):=by simpa using hp
  exact M3.mp (hp'.mem_iff.mp m)
end
end L2
namespace DL
open PySem PySem.Spec PyProof.Rows L2
section
variable {K:PySem.W.Frag}{Y:XY}{H0 B0 B H:Hp}{σ:L2.St}{τ:SD}{P:List Addr}{F:Addr->Prop}
end
end DL
namespace L2
open PySem PySem.Spec PyProof.Rows
section
variable {X:Cx}
def least (ns:List Int):Int:=ns.getD (argBest (λ i j=>decide (ns.getD i 0<ns.getD j 0)) (ns.length-1)) 0
def Cy:∀ {ns:List Int}{its:List Value},Vals (ns.map V.int) its->∃ xs:Array (Int×Tok),intItems xs=its.toArray/\xs.size=ns.length/\∀ i,numAt xs i=ns.getD i 0:=by
 intro ns its r;have h:∃ ts:List Tok,its=(ns.zip ts).map (λ p=>Value.int p.1 p.2)/\ts.length=ns.length:=by
  induction ns generalizing its with
  |nil=>cases r;exact⟨[],rfl,rfl⟩
  | cons n ns ih =>
   cases r with
   | cons r1 r2 =>
    obtain⟨t,rfl⟩:=r1;obtain⟨ts,rfl,hl⟩:=ih r2;exact⟨t::ts,rfl,by rw[MQ,MQ,hl]⟩
 obtain⟨ts,rfl,hl⟩:=h;refine⟨(ns.zip ts).toArray,?_,by simp[hl],λ i=>?_⟩
 ·unfold intItems;simp
 ·unfold numAt;by_cases hi:i<ns.length
  ·simp[hi,hl]
  ·simp[hi,hl]
def AB (hc:X.calm=true):eE X (.builtin "min") (λ xs H Q=>∃ (a:Addr) (ns:List Int),xs=[.ref a]/\dR X.K H a (ns.map V.int)/\0<ns.length/\Q (.int (least ns)) H):=by
 intro pins s σ H xs us Q I r h;obtain⟨a,ns,rfl,hq,hn,q⟩:=h;obtain⟨u,rfl,ru⟩:=vals1 r;cases ru;obtain⟨its,rv,pl,hz⟩:=I.list hq;obtain⟨ys,e1,e2,e3⟩:=Cy rv;refine min_intList (xs:=ys) (I.ok.hd hc) (by rw[e1];exact pl.isList) (by omega) λ v h' tk hv kp=>?_;obtain⟨t,rfl⟩:=intItems_at hv;have e:numAt ys (argBest (λ i j=>decide (numAt ys i<numAt ys j)) (ys.size-1))=least ns:=by
  unfold least;rw[e3,e2];simp only[e3]
 rw[e];exact⟨.int (least ns),H,I.kept (t':=tk) kp,⟨t,rfl⟩,q⟩
end
end L2
namespace DL
open PySem PySem.Spec PyProof.Rows L2
section
variable {K:PySem.W.Frag}{Y:XY}
def yY:List D->Res D
 |[.lst _ xs]=>match intsOf xs with|some ns=>if 0<ns.length then .ok (.int (least ns)) else .bad|none=>.bad
 |_=>.bad
def HX:jV K Y (λ xs H Q=>∃ (a:Addr) (ns:List Int),xs=[.ref a]/\dR K H a (ns.map V.int)/\0<ns.length/\Q (.int (least ns)) H) yY:=by
 intro H0 B0 B H σ τ P F ds vs f Q I r k h;unfold yY at h;split at h
 ·obtain⟨v,rfl,r'⟩:=iO r;obtain⟨a,ws,g,rfl,q,l,s⟩:=r'.lst I;split at h
  ·rename_i ns e;split at h
   ·rename_i hl;have ex:=dX e;subst ex;obtain⟨rfl,rfl⟩:=dW l;exact⟨a,ns,rfl,eZ q,hl,Out.here h I ⟨rfl,rfl⟩⟩
   ·exact h.elim
  ·exact h.elim
 ·exact h.elim
end
end DL
namespace SR
open PySem PySem.Spec PyProof.Rows PySem.W
section
variable {prog:Program}{w:World}{A:Around}{E:Value->Shared->Prop}{s:Shared}{a:Addr}{vs:List Value}{n:Nat}{f:Value}{kz:List Int}{P:Fin->Shared->Prop}{Base:List Int->Shared->Prop}
end
section
variable {prog:Program}{w:World}{A:Around}{E:Value->Shared->Prop}{s:Shared}{vs:List Value}{l q:Addr}
end
end SR
namespace L2
open PySem PySem.Spec PyProof.Rows
section
variable {X:Cx}{k:Nat}{f l:Addr}{fd:FuncData}{ps:List Str}{sp:Sp}{pins:List (Addr×Obj)}{s:Shared}{σ:St}{H:Hp}{ws:List V}{Q:VK}
end
section
variable {X:Cx}{k:Nat}{ps:List Str}{sp:Sp}
end
end L2
namespace DL
open PySem PySem.Spec PyProof.Rows L2
section
variable {K:PySem.W.Frag}{Y:XY}{H0 B0 B H:Hp}{σ:L2.St}{τ:SD}{P:List Addr}{F:Addr->Prop}{X:Cx}{G:DF}
end
section
variable {K:PySem.W.Frag}{Y:XY}{H0 B0 B H:Hp}{σ:L2.St}{τ:SD}{P:List Addr}{F:Addr->Prop}{X:Cx}{pos p:Pos}{e:Expr}{es:List Expr}{fs:SD->Res (List D)}
end
section
variable {P:Program}{w:World}{K:PySem.W.Frag}{mg:Str->Option Value}{base:Heap}
end
section
variable {Y:XY}{X:Cx}{pos:Pos}{a b c:Expr}{fa fb fc:SD->Res D}
end
end DL
namespace L2
open PySem PySem.Spec PyProof.Rows
end L2
namespace DL
open PySem PySem.Spec PyProof.Rows L2
section
variable {X:Cx}{Y:XY}{o e:Expr}{fo fe:SD->Res D}{apos cpos:Pos}
end
end DL
namespace XF
open PySem PySem.Spec PyProof.Rows L2 DL
end XF
namespace L2
open PySem PySem.Spec PyProof.Rows
section
variable {X:Cx}
section
variable {prog:Program}{w:World}{A:Around}{R:Result->Shared->Prop}{it:Addr}{fp wr:List Addr}{n:Nat}{P:Nat->Value->Prop}{St:Nat->Heap->Prop}{d:Value}
end
def ur {ns:List Int}{its:List Value}(r:Vals (ns.map V.int) its){i:Nat}{v:Value}(h:its.toArray[i]?=some v):∃ t,v=.int (ns.getD i 0) t:=by
 have h:its[i]?=some v:=by simpa using h
 have hl:=r.length;rw[MC]at hl;have hi:i<its.length:=(MF.mp h).1;obtain⟨u,hu,ru⟩:=r.get (show(ns.map V.int)[i]?=some (.int (ns.getD i 0)) by
  rw[MR,MA (by omega:i<ns.length),MG,MA (by omega:i<ns.length)];rfl)
 rw[hu]at h;cases h;obtain⟨t,rfl⟩:=ru;exact⟨t,rfl⟩
def in1_units (A:Around):A.in1.units=A.units+1:=rfl
end
end L2
namespace DL
open PySem PySem.Spec PyProof.Rows L2
section
variable {K:PySem.W.Frag}{Y:XY}{H0 B0 B H:Hp}{σ:L2.St}{τ:SD}{P:List Addr}{F:Addr->Prop}{E:Ends}{X:Cx}{pos:Pos}{e c:Expr}{fe:SD->Res D}{gc:SD->Res Bool}
end
end DL
namespace L2
open PySem PySem.Spec PyProof.Rows
section
variable {X:Cx}
end
end L2
namespace DL
open PySem PySem.Spec PyProof.Rows L2
section
variable {K:PySem.W.Frag}{Y:XY}
end
end DL
namespace L2
open PySem PySem.Spec PyProof.Rows
variable {X:Cx}
end L2
namespace DL
open PySem PySem.Spec PyProof.Rows L2
variable {F:Addr->Prop}{X:Cx}{e elt iter tg:Expr}{B B0 H H0:Hp}{σ:L2.St}{P:List Addr}{es:List Expr}{p pos:Pos}{τ:SD}{fe:SD->Res D}{scope:Scope}{x:Str}{Y:XY}
variable {K:PySem.W.Frag}
section
variable{fs:SD->Res (List D)}
end
section
variable (K:PySem.W.Frag)(H0 B0 B H:Hp)(σ:L2.St)(P:List Addr)(F:Addr->Prop)
end
section
variable{fs:SD->Res (List D)}
end
section
variable{f:SD->Res (D×SD)}
end
section
variable{own:List Str}{it:SD->Res (Bool×List D)}
end
section
def dj.drop:∀ {τ:SD}{σ:L2.St}{P:List Addr}{i:Nat}{d:D},dj K B H τ σ P->τ[i]?=some (some d)->∃ v A f C,σ[i]?=some (some v)/\Rep K B No H d v f/\P=A++f++C/\dj K B H (τ.set i none) σ (A++C)
 |[],_,_,i,_,_,e=>by simp at e
 |none::r,σ,P,0,d,h,e=>by simp at e
 | none::r,σ,P,i+1,d,h,e=>by
  obtain⟨o,t,rfl,h⟩:=h;obtain⟨v,A,f,C,h1,h2,h3,h4⟩:=dj.drop (i:=i) h (by simpa using e);exact⟨v,A,f,C,by simpa using h1,h2,h3,⟨o,t,rfl,h4⟩⟩
 | some d::r,σ,P,0,d',h,e=>by
  obtain⟨v,t,f,g,rfl,h1,h2,rfl⟩:=h;have e:d=d':=by simpa using e
  subst e;exact⟨v,[],f,g,rfl,h1,rfl,⟨some v,t,rfl,h2⟩⟩
 | some d::r,σ,P,i+1,d',h,e=>by
  obtain⟨v,t,f,g,rfl,h1,h2,rfl⟩:=h;obtain⟨w,A,f',C,a1,a2,a3,a4⟩:=dj.drop (i:=i) h2 (by simpa using e);subst a3;exact⟨w,f++A,f',C,by simpa using a1,a2,by simp,⟨v,t,f,A++C,rfl,h1,a4,by simp⟩⟩
end
section
variable{f:SD->Res (D×SD)}
end
section
variable{ifs:List Expr}{own:List Str}{cap:List (Str×Nat)}{it:SD->Res (D×SD)}{tgd:uW}{tt:SD->Res Bool}
end
section
variable{a b:Expr}{fa fb:SD->Res D}{fs:SD->Res (List D)}
def gG{id:String}{r:List V->Hp->VK->Prop}{g:List D->Res D}(hc:eE X (.builtin id) r)(hgd:jV X.K Y r g)(hm:X.mg x=none)(ha:PA X (e::es) (pC X.K Y fs))(hv:bootBuiltins x=some (.builtin id):=by decide +kernel)(hg:Gl X x:=by rfl)(hn:x ≠ "__name__" :=by decide)(hdb:(x == ("__debug__" : Str))=false:=by decide)
  (he:starEach (e::es) X.env=(false,eval e X.env)::starEach es X.env:=by rfl) (hpl:(backTo pos (starEach es X.env)).any (·.1)=false:=by rfl):PE X (.Call (.Name x p) (e::es) [] pos) (tM X.K Y (eA g fs)):=EN hc hgd hg hm hv ha hn hdb he hpl
def qi{id:String}{r:List V->Hp->VK->Prop}{g:List D->Res D}(hc:eE X (.type id) r)(hgd:jV X.K Y r g)(hm:X.mg x=none)(ha:PA X (e::es) (pC X.K Y fs))(hv:bootBuiltins x=some (.type id):=by decide +kernel)(hg:Gl X x:=by rfl)(hn:x ≠ "__name__" :=by decide)(hdb:(x == ("__debug__" : Str))=false:=by decide)
  (he:starEach (e::es) X.env=(false,eval e X.env)::starEach es X.env:=by rfl) (hpl:(backTo pos (starEach es X.env)).any (·.1)=false:=by rfl):PE X (.Call (.Name x p) (e::es) [] pos) (tM X.K Y (eA g fs)):=BZ hc hgd hg hm hv ha hn hdb he hpl
def aY (ha:PE X a (tM X.K Y fa))(hb:PE X b (tM X.K Y fb))(hs:tS b:=by intro _ _;rfl):PE X (.Subscript a b pos) (tM X.K Y (af bG fa fb)):=LB Hk LF ha hb hs
def qj {op:CmpOp}{r:R2}{g:D->D->Res D}(ho:j6 X (compareOp op) r)(hg:pD X.K Y r g)(ha:PE X a (tM X.K Y fa))(hb:PE X b (tM X.K Y fb))(hm:behindInMarks op b=false:=by first|exact tH _|with_unfolding_all rfl):PE X (.Compare a [op] [b] pos) (tM X.K Y (af g fa fb)):=JT ho hg ha hb hm
def bj {op:CmpOp}{r:R2}{g:D->D->Res D}(ho:j6 X (compareOp op) r)(hg:pD X.K Y r g)(ha:PE X a (tM X.K Y fa))(hb:PE X b (tM X.K Y fb))(hm:behindInMarks op b=false:=by first|exact tH _|with_unfolding_all rfl):PT X (.Compare a [op] [b] pos) (kF X.K Y (eT (af g fa fb))):=xn ho hg ha hb hm
def gq (ha:PE X e (tM X.K Y fe))(hs:starEach [e] X.env=(false,eval e X.env)::starEach [] X.env:=by rfl):PA X [e] (pC X.K Y (ae fe ah)):=aK ha cQ hs
def gF (ha:PE X e (tM X.K Y fe))(hb:PE X b (tM X.K Y fb))(hs:starEach [e,b] X.env=(false,eval e X.env)::starEach [b] X.env:=by rfl)(hs2:starEach [b] X.env=(false,eval b X.env)::starEach [] X.env:=by rfl):PA X [e,b] (pC X.K Y (ae fe (ae fb ah))):=aK ha (gq hb hs2) hs
def ba{pos':Pos}(i:Nat)(hN:X.N.Nodup)(he:PE X e (tM X.K Y fe))(hi:X.N[i]?=some x:=by rfl)(hx:Loc X.env.scope x:=by first|exact Or.inl rfl|exact Or.inr rfl)(hs:swapsWith e (some (.Name x pos')) pos.line X.env=pure false:=by rfl)(hf:X.fn x=true\/X.env.scope.names.lookup x=some .local:=by first|exact .inl rfl|exact .inr rfl) :
  PS X (.Assign [.Name x pos'] e pos) (kj X.K Y (bq i fe)):=J0 hN hi hx he hs hf
def bI(i:Nat)(hN:X.N.Nodup)(hi:X.N[i]?=some x:=by rfl)(hx:Loc X.env.scope x:=by first|exact Or.inl rfl|exact Or.inr rfl)(hf:X.fn x=true\/X.env.scope.names.lookup x=some .local:=by first|exact .inl rfl|exact .inr rfl):PG X (.Name x pos) (EU X.K (gN i)):=HD hN hi hx hf
def aO {k m:Nat}{ps:List Str}{G:DF}(C:kE X.prog X.w X.K X.mg X.base k x ps (jz X.K G))(hr:gB m X.A)(ha:PA X (e::es) (pC X.K Y fs))(hk:k<=m:=by first|decide|omega)(hg:Gl X x:=by rfl)(hdb:(x == ("__debug__" : Str))=false:=by decide)
  (he:starEach (e::es) X.env=(false,eval e X.env)::starEach es X.env:=by rfl) (hpl:(backTo pos (starEach es X.env)).any (·.1)=false:=by rfl):PE X (.Call (.Name x p) (e::es) [] pos) (tM X.K Y (az G fs)):=J3 C (hr.mono hk) hg ha hdb he hpl
end
section
variable{ifs:List Expr}{cap:List (Str×Nat)}{it:SD->Res (Bool×List D)}{tgd:uW}{tt:SD->Res Bool}{n:Nat}
def gh {y:Str}{own:List Str}{py spos:Pos}(i:Nat)(hN:X.N.Nodup)(ok:gQ X scope own cap)(hc:X.calm=true)(hi:PI X tg iter (Bb X.K Y it))(Bl:iM X scope own cap tg ifs elt (EU X.K tgd) (kF X.K yJ tt) (tM X.K yJ fe))(hi':X.N[i]?=some y:=by rfl)(hy:Loc X.env.scope y:=by first|exact Or.inl rfl|exact Or.inr rfl)
  (hsw:swapsWith (.ListComp elt [⟨tg,iter,ifs,0⟩] scope pos) (some (.Name y py)) spos.line X.env=pure true:=by rfl)
  (hf:X.fn y=true\/X.env.scope.names.lookup y=some .local:=by first|exact .inl rfl|exact .inr rfl) (hs:∀ x,foldedSetIterable iter X.env x=pure x:=by intro _;rfl) :
  PS X (.Assign [.Name y py] (.ListComp elt [⟨tg,iter,ifs,0⟩] scope pos) spos) (kj X.K Y (bq i (aR it tgd tt fe own.length cap))):=Ar hN hi' hy ok hc hi Bl hsw hf hs
def lJ (l:List Str)(h:l.Nodup:=by decide +kernel):l.Nodup:=h
end
end DL
namespace L2
open PySem
def nc {N P:List Str}{sc:Scope}(h1:sc.kind=.function:=by rfl)(h2:sc.isCoroutine=false:=by rfl)(h3:sc.isGenerator=false:=by rfl)(h4:N.Nodup:=by decide +kernel)(h5:N.take P.length=P:=by rfl)(h6:∀ x∈P,sc.names.lookup x=some .local\/sc.names.lookup x=some .cell:=by decide +kernel)(h7:∀ y∈sc.names,y.2 ≠ .free:=by decide +kernel):aT N P sc:=⟨h1,h2,h3,h4,h5,h6,h7⟩
end L2
namespace L2
open PySem PySem.Spec PyProof.Rows
def vF:∀ {ns ms:List Int},ns.length=ms.length->((List.range ns.length).all λ j=>ns.getD j 0 == ms.getD j 0)=decide (ns=ms):=by
 intro ns ms h;rw[OL,NR,Pj];constructor
 ·intro a;refine NY h λ j h1 h2=>?_;have:=a j (M3.mpr h1);rw[MG,MG,MA h1,MA h2]at this;simpa using this
 ·intro e j _;rw[e];exact Pn _
section
variable {X:Cx}
def Kc (K:PySem.W.Frag)(neg:Bool):R2:=λ x y H Q=>∃ (a b:Addr) (ns ms:List Int),x=.ref a/\y=.ref b/\dR K H a (ns.map V.int)/\dR K H b (ms.map V.int)/\Q (.bl (xor neg (decide (ns=ms)))) H
def yZ {s:Shared}{A:Around}{ns ms:List Int}{i1 i2:List Value}(r1:Vals (ns.map V.int) i1)(r2:Vals (ms.map V.int) i2)(j:Nat)(h1:j<i1.toArray.size)(h2:j<i2.toArray.size):SeqAt.EqAt A s i1.toArray[j] i2.toArray[j] (ns.getD j 0 == ms.getD j 0):=by
 obtain⟨t,e1⟩:=ur r1 (MV h1);obtain⟨t',e2⟩:=ur r2 (MV h2);rw[e1,e2];exact SeqAt.EqAt.int_int (A:=A) (s:=s) (ns.getD j 0) t (ms.getD j 0) t'
def HY (hu:X.A.units+1<cLine):j6 X (compareOp .NotEq) (Kc X.K true):=by
 intro pins s σ H x y v u Q I rx ry h;obtain⟨a,b,ns,ms,rfl,rfl,ha,hb,q⟩:=h;cases rx;cases ry;obtain⟨i1,r1,p1,_⟩:=I.list ha;obtain⟨i2,r2,p2,_⟩:=I.list hb;have l1:=r1.length;have l2:=r2.length;rw[MC]at l1 l2;rw[Bool.true_xor]at q;by_cases hl:ns.length=ms.length
 ·have h:=SeqAt.RcNeAt.lists (A:=X.A) p1.isList p2.isList (by rw[MN,MN];omega) (by omega) (yZ r1 r2);rw[MN,<-l1,vF hl]at h;exact h _ _ _ _ ⟨.bl _,H,I,rfl,q⟩
 ·have h:=SeqAt.RcNeAt.lists_lengths (A:=X.A) p1.isList p2.isList (by rw[MN,MN,<-l1,<-l2];simpa using hl) (by omega);rw[M6 λ z=>hl (N1 List.length z)]at q;exact h _ _ _ _ ⟨.bl true,H,I,rfl,q⟩
end
end L2
namespace DL
open PySem PySem.Spec PyProof.Rows L2
def E3 (neg:Bool)(x y:D):Res D:=match x,y with
 | .lst _ xs,.lst _ ys=>match intsOf xs,intsOf ys with
  |some ns,some ms=>.ok (.bl (xor neg (decide (ns=ms))))
  |_,_=>.bad
 |_,_=>.bad
section
variable {K:PySem.W.Frag}{Y:XY}{X:Cx}{pos p:Pos}{e:Expr}{fe:SD->Res D}
def Ka (neg:Bool):pD K Y (Kc K neg) (E3 neg):=by
 intro H0 B0 B H σ τ P F d1 d2 x y f1 f2 Q I r1 r2 k h;unfold E3 at h;split at h
 ·split at h
  ·rename_i ns ms e1 e2;have ex:=dX e1;have ey:=dX e2;subst ex ey;obtain⟨a,vs,g,rfl,q,l,s⟩:=r1.lst I;obtain⟨b,us,g',rfl,q',l',s'⟩:=r2.lst I;obtain⟨rfl,rfl⟩:=dW l;obtain⟨rfl,rfl⟩:=dW l';exact⟨a,b,ns,ms,rfl,rfl,q,q',Out.here h I ⟨rfl,rfl⟩⟩
  ·exact h.elim
 ·exact h.elim
end
section
variable (K:PySem.W.Frag)(H0 B0 B H:Hp)(σ:L2.St)(F:Addr->Prop)
end
section
variable {K:PySem.W.Frag}{Y:XY}{H0 B0 B H:Hp}{σ:L2.St}{τ:SD}{P:List Addr}{F:Addr->Prop}{X:Cx}{pos p:Pos}{e e2:Expr}{fe fv:SD->Res D}{f g:SD->Res (D×SD)}
end
end DL
namespace SR
open PySem PySem.Spec PyProof.Rows
variable {a b:Addr}{xs ys:Array Value}{h:Heap}{ms ns:List Int}
def lexLt:List Int->List Int->Bool
 |[],[]=>false
 |[],_::_=>true
 |_::_,[]=>false
 |x::r,y::q=>if x=y then lexLt r q else decide (x<y)
section
variable {prog:Program}{w:World}{A:Around}{E:Value->Shared->Prop}{s:Shared}
def entry_eq_loop:entryFor table "list.__eq__.loop" = some Builtin.«list.__eq__.loop» :=entryFor_of_tree (by kernel_rfl)
def plain_eq_loop:plainId "list.__eq__.loop" = true:=by decide +kernel
def nj:∀ {vs:List Value}{ns:List Int},IntsAre vs ns->vs.length=ns.length
 |_,_,.nil=>rfl|_,_,.cons n t r=>by rw[MQ,MQ,nj r]
def y9(hi:IntsAre xs.toList ns){k:Nat}(hk:k<ns.length):∃ t,xs[k]?=some (.int ns[k] t):=by
 have hl:=nj hi;rw[M8]at hl;have hk':k<xs.size:=by omega
 obtain⟨t,e⟩:=IntsAre.int_at hi k xs[k] (by rw[Nr];exact MV hk');refine⟨t,?_⟩;rw[MV hk',e,MG,MA hk];rfl
def E4{n1 n2:Nat}{d1 d2:Option Addr}{s1 s2:Array (Option Value)}(i1:IntsAre xs.toList ns)(i2:IntsAre ys.toList ms)(e1:s.heap.get? a=some ⟨.type "list",d1,.seq xs n1,s1⟩)(e2:s.heap.get? b=some ⟨.type "list",d2,.seq ys n2,s2⟩){R:Result->Shared->Prop} :
  ∀ (m k:Nat),ns.length-k=m->k<=ns.length->k<=ms.length->R (.ok (.ret (.bool (lexLt (ns.drop k) (ms.drop k))))) s->codeAny (model prog w) A (.builtin "list.__eq__.loop" ⟨[.ref a,.ref b,rawInt k,rawInt 0],[]⟩) R s:=by
 have l1:=nj i1;have l2:=nj i2;rw[M8]at l1 l2;intro m
 induction m with
 | zero =>
  intro k hk hk3 hk4 hR;refine N8 entry_eq_loop ?_;rw[NO plain_eq_loop _];unfold Builtin.«list.__eq__.loop»
  wp_walk
  have z1:xs[((k:Int)).toNat]?=none:=by rw[Nj];exact OA (by omega)
  simp only[z1]
  wp_walk
  have dz:ns.drop k=[]:=List.drop_eq_nil_of_le (by omega);rw[dz]at hR;have es:lexLt [] (ms.drop k)=decide (xs.size<ys.size):=by
   cases hd:ms.drop k with
   | nil =>
    have:=List.drop_eq_nil_iff.mp hd;rw[M6 (by omega)];rfl
   | cons y r =>
    have:(ms.drop k).length≠0:=by rw[hd];simp
    rw[Ph]at this;rw[Nc (by omega)];rfl
  rw[es]at hR;exact hR
 | succ m ih =>
  intro k hk hk3 hk4 hR;have hk1:k<ns.length:=by omega
  obtain⟨t,g1⟩:=y9 i1 hk1;refine N8 entry_eq_loop ?_;rw[NO plain_eq_loop _];unfold Builtin.«list.__eq__.loop»
  wp_walk
  rw[OI hk1]at hR;by_cases hk2:k<ms.length
  ·obtain⟨u,g2⟩:=y9 i2 hk2;rw[OI hk2,lexLt]at hR;simp only[Nj,g1,g2];refine My (wpAny_eqBool_int ?_);by_cases e:ns[k]=ms[k]
   ·rw[MO e]at hR;rw[show(ns[k] == ms[k])=true by simpa using e,MO rfl];refine MB ⟨O9 plain_eq_loop _,?_⟩;have:=ih (k+1) (by omega) (by omega) (by omega) hR;exact this
   ·rw[MP e]at hR;rw[show(ns[k] == ms[k])=false by simpa using e,MP MH]
    wp_walk
    simp only[Nj,g1,g2];refine My (lt_int ?_);exact MB hR
  ·have z2:ys[k]?=none:=OA (by omega);simp only[Nj,g1,z2];have dz:ms.drop k=[]:=List.drop_eq_nil_of_le (by omega);rw[dz,lexLt]at hR
   wp_walk
   have es:false=decide (xs.size<ys.size):=(M6 (by omega)).symm;rw[es]at hR;exact hR
def lt_meets{n1 n2:Nat}{d1 d2:Option Addr}{s1 s2:Array (Option Value)}(i1:IntsAre xs.toList ns)(i2:IntsAre ys.toList ms) :
  Meets (Builtin.«list.__lt__» ⟨[.ref a,.ref b],[]⟩) (λ _ R s=>s.heap.get? a=some ⟨.type "list",d1,.seq xs n1,s1⟩/\s.heap.get? b=some ⟨.type "list",d2,.seq ys n2,s2⟩/\R (.ok (.ret (.bool (lexLt ns ms)))) s):=by
 intro prog w A R s ⟨e1,e2,hR⟩;have sub:=AutoSeq1.sub_list_list
 wp_walk
 exact⟨O9 plain_eq_loop _,E4 i1 i2 e1 e2 _ 0 rfl (NV _) (NV _) hR⟩
def Cz{Q:Bool->Shared->Prop}(hl:s.heap.IsList a xs)(hb:s.heap.IsList b ys)(i1:IntsAre xs.toList ns)(i2:IntsAre ys.toList ms)(hu:A.units<cLine)(hQ:Q (lexLt ns ms) s) :
  wpAny (model prog w) A (oneLt' true (.ref a) (.ref b)) Q E s:=by
 rw[oneLt'_eq,MO rfl];have Ta:s.TypeIs (.ref a) "list" :=hl.typeIs;refine My (wpAny_cRoomFor hu ?_);obtain⟨⟨c1,d1,t1,s1⟩,e1,k1,n1,q1⟩:=id hl;obtain⟨⟨c2,d2,t2,s2⟩,e2,k2,n2,q2⟩:=id hb;simp only at k1 q1 k2 q2;subst k1 q1 k2 q2;refine My (wpAny_callSpecialIfBound?_slot Ta F.slot_list_lt (Qv F.slot_list_lt Ta F.entry_list_lt (F.args_list_lt_2 _ _) (lt_meets i1 i2) ⟨e1,e2,?_⟩));exact MB hQ
def nh (h:Heap)(v:Value)(ns:List Int):Prop:=∃ a xs,v=.ref a/\h.IsList a xs/\IntsAre xs.toList ns
def nh.keep {h':Heap}{v:Value}(k:∀ b o,h.get? b=some o->h'.get? b=some o)(x:nh h v ns):nh h' v ns:=by
 obtain⟨a,xs,e,⟨o,ho,r⟩,i⟩:=x;exact⟨a,xs,e,⟨o,k _ _ ho,r⟩,i⟩
def xC {v:Value}{Q:Option Value->Shared->Prop}(hv:nh s.heap v ns)(hQ:Q none s):wpAny (model prog w) A (firstOfTuple' v) Q E s:=by
 obtain⟨a,xs,rfl,hl,_⟩:=hv;show wpAny _ _ (typeOf (.ref a) >>= _) _ _ _;refine My (O5 hl.typeIs ?_);exact MB hQ
def l8 {α:Type}{f:Value->Sem α}{g:Value->α}:∀ (vs:List Value) {Q:List α->Shared->Prop},(∀ v∈vs,∀ Q':α->Shared->Prop,Q' (g v) s->wpAny (model prog w) A (f v) Q' E s)->Q (vs.map g) s->wpAny (model prog w) A (vs.mapM f) Q E s
 |[],Q,_,hQ=>by rw[List.mapM_nil];exact MB hQ
 | v::vs,Q,h,hQ=>by
  rw[List.mapM_cons];exact My (h v MD _ (My (l8 vs (λ u hu=>h u (ME _ hu)) (MB hQ))))
end
section
variable {prog:Program}{w:World}{A:Around}{E:Value->Shared->Prop}{s:Shared}
def xD {vs:List Value}(hv:∀ v∈vs,∃ ns,nh h v ns)(hn:vs≠[]):xB (model prog w) A h (keyKind' vs.toArray) oneType':=by
 intro Q E s k hQ;have hv':∀ v∈vs,∃ ns,nh s.heap v ns:=λ v m=>let ⟨ns,x⟩:=hv v m;⟨ns,x.keep k⟩
 rw[keyKind'_eq];refine My ?_;rw[List.mapM_toArray];refine wpAny_map ?_;refine l8 (g:=λ _=>none) vs (λ v m Q' hQ'=>let ⟨ns,x⟩:=hv' v m;xC x hQ') ?_;obtain⟨v0,vr,rfl⟩:∃ v0 vr,vs=v0::vr:=by
  cases vs with
  |nil=>exact absurd rfl hn|cons a b=>exact⟨a,b,rfl⟩
 simp;refine wpAny_map ?_;rw[oneTypeOnly'_eq,List.mapM_toArray];refine My (wpAny_map (l8 (g:=λ _=>Value.type "list") (v0::vr) (λ v m Q' hQ'=>?_) ?_))
 ·obtain⟨ns,a,xs,rfl,hl,_⟩:=hv' v m;exact O5 hl.typeIs hQ'
 ·have h0:(List.map (λ _=>Value.type "list") (v0::vr)).toArray[0]?=some (Value.type "list"):=by simp
  have ha:((List.map (λ _=>Value.type "list") (v0::vr)).toArray.all λ x=>x == Value.type "list")=true:=by
   simp only[List.all_toArray,List.all_map,Pj];intro _ _;rfl
  rw[h0];simp only[ha,OG];exact MB hQ
end
end SR
namespace SR
open PySem PySem.Spec PyProof.Rows PySem.W
variable {p:Array Nat}{n:Nat}
def ir {α β:Type}(c:Nat->Nat->Bool)(f:α->KasT β):∀ t:KasT α,bg c (t.bind f)=bg c (f (bg c t))
 |.ret a=>rfl|.ask i j k=>ir c f (k (c i j))
structure Ord (n:Nat)(c:Nat->Nat->Bool):Prop where
 tr:∀ i j k,c i j=true->c j k=true->c i k=true
 tot:∀ i j,i<n->j<n->i≠j->c i j=true\/c j i=true
abbrev eO (p:Array Nat)(i:Nat):Nat:=p.getD i 0
def Up (c:Nat->Nat->Bool)(p:Array Nat)(k:Nat):Prop:=∀ i j,i<j->j<k->c (eO p i) (eO p j)=true
def Dn (c:Nat->Nat->Bool)(p:Array Nat)(k:Nat):Prop:=∀ i j,i<j->j<k->c (eO p j) (eO p i)=true
def uu {q:Array Nat}{i j:Nat}(h:p[i]?=q[j]?):eO p i=eO q j:=by
 unfold eO;rw[Nt,Nt,h]
def Pm.size(h:Pm n p):p.size=n:=by
 have:=h.size_eq;simpa using this
def Pm.unlike(h:Pm n p){i j:Nat}(hi:i<n)(hj:j<n)(hn:i≠j):eO p i≠eO p j:=by
 have nd:p.toList.Nodup:=by
  have h':p.toList.Perm (List.range n):=by simpa using Og.mp h
  exact h'.nodup_iff.mpr O2
 have hs:=h.size;have gi:eO p i=p.toList[i]'(by rw[M8];omega):=by
  unfold eO;rw[Nt,MV (by omega)];rfl
 have gj:eO p j=p.toList[j]'(by rw[M8];omega):=by
  unfold eO;rw[Nt,MV (by omega)];rfl
 rw[gi,gj];intro e;exact hn ((List.getElem_inj nd).mp e)
section
variable{c:Nat->Nat->Bool}(o:Ord n c)(hn:0<n)
include o hn
theorem Up.more{k:Nat}(h:Pm n p)(u:Up c p k)(hk:1<=k)(hkn:k<n)(hc:c (eO p k) (eO p (k-1))=false):Up c p (k+1):=by
 have hl:c (eO p (k-1)) (eO p k)=true:=by
  rcases o.tot (eO p (k-1)) (eO p k) (h.get hn _) (h.get hn _) (h.unlike (by omega) hkn (by omega)) with z|z
  ·exact z
  ·rw[hc]at z;cases z
 intro i j hij hj;by_cases e:j=k
 ·subst e;by_cases e2:i=j-1
  ·subst e2;exact hl
  ·exact o.tr _ _ _ (u i (j-1) (by omega) (by omega)) hl
 ·exact u i j hij (by omega)
theorem Dn.more{k:Nat}(u:Dn c p k)(hk:1<=k)(hc:c (eO p k) (eO p (k-1))=true):Dn c p (k+1):=by
 intro i j hij hj;by_cases e:j=k
 ·subst e;by_cases e2:i=j-1
  ·subst e2;exact hc
  ·exact o.tr _ _ _ hc (u i (j-1) (by omega) (by omega))
 ·exact u i j hij (by omega)
theorem xE {p:Array Nat}(h:Pm n p):∀ (f k:Nat),1<=k->k+f<=n->Up c p k->k<=bg c (kas_asc p f k)/\bg c (kas_asc p f k)<=k+f/\Up c p (bg c (kas_asc p f k))/\(bg c (kas_asc p f k)<k+f->c (eO p (bg c (kas_asc p f k))) (eO p (bg c (kas_asc p f k)-1))=true)
 |0,k,hk,hf,u=>⟨ML _,ML _,u,λ z=>absurd z (NG _)⟩
 | f+1,k,hk,hf,u=>by
  have e:bg c (kas_asc p (f+1) k)=bg c (if c (eO p k) (eO p (k-1))=true then KasT.ret k else kas_asc p f (k+1)):=rfl;rw[e];cases hc:c (eO p k) (eO p (k-1)) with
  | true =>
   rw[MO rfl];exact⟨ML _,QS _ _,u,λ _=>hc⟩
  | false =>
   rw[MP MH];obtain⟨a1,a2,a3,a4⟩:=xE h f (k+1) (by omega) (by omega) (u.more o hn h hk (by omega) hc);exact⟨by omega,by omega,a3,λ z=>a4 (by omega)⟩
theorem zb {p:Array Nat}(h:Pm n p):∀ (f k:Nat),1<=k->k+f<=n->Dn c p k->∃ m,bg c (kas_desc f p k 0)=(p,m,0)/\k<=m/\m<=k+f/\Dn c p m
 |0,k,hk,hf,u=>⟨k,rfl,ML _,ML _,u⟩
 | f+1,k,hk,hf,u=>by
  have e:bg c (kas_desc (f+1) p k 0)=bg c (if c (eO p k) (eO p (k-1))=true then (if (0:Nat)>0 then kas_desc f (kas_rev p (k-(0+1)) k) (k+1) 0 else kas_desc f p (k+1) 0) else .ask (eO p (k-1)) (eO p k) λ d=>if d=true then .ret (p,k,0) else kas_desc f p (k+1) (0+1)):=rfl;rw[e];cases hc:c (eO p k) (eO p (k-1)) with
  | true =>
   rw[MO rfl,MP (NG 0)];obtain⟨m,a1,a2,a3,a4⟩:=zb h f (k+1) (by omega) (by omega) (u.more o hn hk hc);exact⟨m,a1,by omega,by omega,a4⟩
  | false =>
   rw[MP MH];have hl:c (eO p (k-1)) (eO p k)=true:=by
    rcases o.tot (eO p (k-1)) (eO p k) (h.get hn _) (h.get hn _) (h.unlike (by omega) (by omega) (by omega)) with z|z
    ·exact z
    ·rw[hc]at z;cases z
   refine⟨k,?_,ML _,by omega,u⟩;show bg c (if c (eO p (k-1)) (eO p k)=true then KasT.ret (p,k,0) else _)=_;rw[MO hl];rfl
theorem HZ(h:Pm n p){m:Nat}(hm:m<=n)(u:Dn c p m):Pm n (kas_rev p 0 m)/\Up c (kas_rev p 0 m) m:=by
 refine⟨(mirror_perm p _ _ _).trans h,λ i j hij hj=>?_⟩;have g:∀ k,k<m->eO (kas_rev p 0 m) k=eO p (m-1-k):=λ k hk=>by
  refine uu ?_;unfold kas_rev;rw[getElem?_mirror_all (by rw[h.size];exact hm),MO ⟨NV _,hk⟩]
  congr 1
  omega
 rw[g i (by omega),g j hj];exact u _ _ (by omega) (by omega)
theorem E5(h:Pm n p){m:Nat}(h1:1<=m)(hm:m<=n)(u:Dn c p m):Pm n (bg c (kas_tail3 m n p)).2/\Up c (bg c (kas_tail3 m n p)).2 (bg c (kas_tail3 m n p)).1/\1<=(bg c (kas_tail3 m n p)).1/\(bg c (kas_tail3 m n p)).1<=n:=by
 obtain⟨q1,q2⟩:=HZ o hn h hm u;obtain⟨a1,a2,a3,_⟩:=xE o hn q1 (n-m) m h1 (by omega) q2;have e:bg c (kas_tail3 m n p)=(bg c (kas_asc (kas_rev p 0 m) (n-m) m),kas_rev p 0 m):=by
  unfold kas_tail3;rw[ir];rfl
 rw[e];exact⟨q1,a3,by show 1<=bg c _;omega,by show bg c _<=n;omega⟩
theorem CA(h:Pm n p):Pm n (bg c (kas_count n p)).2/\Up c (bg c (kas_count n p)).2 (bg c (kas_count n p)).1/\1<=(bg c (kas_count n p)).1/\(bg c (kas_count n p)).1<=n:=by
 have u1:Up c p 1:=λ i j h1 h2=>by omega
 obtain⟨a1,a2,a3,a4⟩:=xE o hn h (n-1) 1 (ML _) (by omega) u1;have e:bg c (kas_count n p)=bg c (if ((bg c (kas_asc p (n-1) 1)) == n)=true then .ret (bg c (kas_asc p (n-1) 1),p) else if bg c (kas_asc p (n-1) 1)>1 then .ask (eO p 0) (eO p (bg c (kas_asc p (n-1) 1)-1)) λ d=>if d=true then .ret (bg c (kas_asc p (n-1) 1),p) else kas_descPart (bg c (kas_asc p (n-1) 1)) n (kas_rev p 0 (bg c (kas_asc p (n-1) 1))) else kas_descPart (bg c (kas_asc p (n-1) 1)) n p):=by
  unfold kas_count;rw[ir]
 rw[e];generalize hm:bg c (kas_asc p (n-1) 1)=m at *;by_cases e1:m=n
 ·rw[MO (by simpa using e1)];exact⟨h,a3,a1,by show m<=n;omega⟩
 ·rw[MP (by simpa using e1)];by_cases e2:m>1
  ·rw[MO e2];have hc:=a3 0 (m-1) (by omega) (by omega);have er:bg c (KasT.ask (eO p 0) (eO p (m-1)) λ d=>if d=true then KasT.ret (m,p) else kas_descPart m n (kas_rev p 0 m))=(m,p):=by
    show bg c (if c (eO p 0) (eO p (m-1))=true then KasT.ret (m,p) else kas_descPart m n (kas_rev p 0 m))=_;rw[MO hc];rfl
   rw[er];exact⟨h,a3,a1,by show m<=n;omega⟩
  ·rw[MP e2];have m1:m=1:=by omega
   subst m1;have hc:=a4 (by omega);have d2:Dn c p 2:=λ i j h1 h2=>by
    have:i=0/\j=1:=by omega
    obtain⟨rfl,rfl⟩:=this;exact hc
   obtain⟨k,b1,b2,b3,b4⟩:=zb o hn h (n-(1+1)) (1+1) (by omega) (by omega) d2;have ed:bg c (kas_descPart 1 n p)=bg c (kas_tail3 k n p):=by
    unfold kas_descPart;rw[ir,b1];rfl
   rw[ed];exact E5 o hn h (by omega) (by omega) b4
theorem qk {p:Array Nat}(h:Pm n p){k:Nat}(hk:k<n)(u:Up c p k):∀ (f l r:Nat),l<=r->r<=k->r-l<=f->(∀ i,i<l->c (eO p i) (eO p k)=true)->(∀ i,r<=i->i<k->c (eO p k) (eO p i)=true) ->
  bg c (kas_place p k f l r)<=k/\(∀ i,i<bg c (kas_place p k f l r)->c (eO p i) (eO p k)=true)/\∀ i,bg c (kas_place p k f l r)<=i->i<k->c (eO p k) (eO p i)=true
 |0,l,r,h1,h2,h3,hl,hr=>⟨by show l<=k;omega,hl,λ i z=>hr i (by have:l<=i:=z;omega)⟩
 | f+1,l,r,h1,h2,h3,hl,hr=>by
  rw[kas_place];by_cases e:l≥r
  ·rw[MO e];exact⟨by show l<=k;omega,hl,λ i z=>hr i (by have:l<=i:=z;omega)⟩
  ·rw[MP e];have em:bg c (KasT.ask (eO p k) (eO p ((l+r)/2)) λ d=>if d=true then kas_place p k f l ((l+r)/2) else kas_place p k f ((l+r)/2+1) r)=bg c (if c (eO p k) (eO p ((l+r)/2))=true then kas_place p k f l ((l+r)/2) else kas_place p k f ((l+r)/2+1) r):=rfl;rw[em];have hm1:l<=(l+r)/2:=by omega
   have hm2:(l+r)/2<r:=by omega
   generalize (l+r)/2=m at *;cases hc:c (eO p k) (eO p m) with
   | true =>
    rw[MO rfl];refine qk h hk u f l m hm1 (by omega) (by omega) hl λ i z1 z2=>?_;by_cases e:i=m
    ·subst e;exact hc
    ·exact o.tr _ _ _ hc (u m i (by omega) z2)
   | false =>
    rw[MP MH];have hl':c (eO p m) (eO p k)=true:=by
     rcases o.tot (eO p m) (eO p k) (h.get hn _) (h.get hn _) (h.unlike (by omega) hk (by omega)) with z|z
     ·exact z
     ·rw[hc]at z;cases z
    refine qk h hk u f (m+1) r (by omega) h2 (by omega) (λ i z=>?_) hr;by_cases e:i=m
    ·subst e;exact hl'
    ·exact o.tr _ _ _ (u i m (by omega) (by omega)) hl'
theorem CB:∀ (f:Nat) {p:Array Nat} (k:Nat),Pm n p->k+f=n->Up c p k->Pm n (bg c (kas_bin f p k))/\Up c (bg c (kas_bin f p k)) n
 |0,p,k,h,hk,u=>⟨h,(show k=n by omega)▸u⟩
 | f+1,p,k,h,hk,u=>by
  obtain⟨a1,a2,a3⟩:=qk o hn h (k:=k) (by omega) u k 0 k (NV _) (ML _) (by omega) (λ i z=>absurd z (OM _)) (λ i z1 z2=>by omega);have e:bg c (kas_bin (f+1) p k)=bg c (kas_bin f (bubble p k (k-bg c (kas_place p k k 0 k))) (k+1)):=by
   rw[kas_bin,ir]
  rw[e];generalize bg c (kas_place p k k 0 k)=l at *;have g:∀ i,eO (bubble p k (k-l)) i=if i=l then eO p k else if l<i/\i<=k then eO p (i-1) else eO p i:=λ i=>by
   have hb:=getElem?_bubble (xs:=p) (src:=k) (by rw[h.size];omega) (k-l) (by omega) i;have e2:k-(k-l)=l:=by omega
   rw[e2]at hb;split
   ·rename_i z;rw[MO z]at hb;exact uu hb
   ·rename_i z;rw[MP z]at hb;split
    ·rename_i z2;rw[MO z2]at hb;exact uu hb
    ·rename_i z2;rw[MP z2]at hb;exact uu hb
  refine CB f (k+1) ((bubble_perm p _ _).trans h) (by omega) λ i j hij hj=>?_;rw[g i,g j];by_cases i1:i=l
  ·rw[MO i1,MP (by omega),MO ⟨by omega,by omega⟩];exact a3 (j-1) (by omega) (by omega)
  ·rw[MP i1];by_cases i2:l<i/\i<=k
   ·rw[MO i2,MP (by omega),MO ⟨by omega,by omega⟩];exact u _ _ (by omega) (by omega)
   ·rw[MP i2];by_cases j1:j=l
    ·rw[MO j1];exact a2 i (by omega)
    ·rw[MP j1];by_cases j2:l<j/\j<=k
     ·rw[MO j2];by_cases e3:i=j-1
      ·omega
      ·exact u _ _ (by omega) (by omega)
     ·rw[MP j2];exact u _ _ hij (by omega)
theorem E6:Pm n (bg c (kas_sort n))/\Up c (bg c (kas_sort n)) n:=by
 obtain⟨a1,a2,a3,a4⟩:=CA o hn (p:=(List.range n).toArray) (Array.Perm.refl _);have e:bg c (kas_sort n)=bg c (if (bg c (kas_count n (List.range n).toArray)).1<n then kas_bin (n-max (bg c (kas_count n (List.range n).toArray)).1 1) (bg c (kas_count n (List.range n).toArray)).2 (max (bg c (kas_count n (List.range n).toArray)).1 1) else .ret (bg c (kas_count n (List.range n).toArray)).2):=by
  unfold kas_sort;rw[ir]
 rw[e];generalize bg c (kas_count n (List.range n).toArray)=r at *;by_cases h:r.1<n
 ·rw[MO h];have em:max r.1 1=r.1:=Pz a3;rw[em];exact CB o hn (n-r.1) r.1 a1 (by omega) a2
 ·rw[MP h];have e2:r.1=n:=by omega
  rw[e2]at a2;exact⟨a1,a2⟩
end
end SR
namespace DL
open PySem PySem.Spec PyProof.Rows L2
section
variable {K:PySem.W.Frag}{Y:XY}{H0 B0 B H:Hp}{σ:L2.St}{τ:SD}{P:List Addr}{F:Addr->Prop}{X:Cx}{pos:Pos}
def SI.Kd {i:Nat}{d:D}(I:SI K H0 B0 B H σ τ P No)(h:τ[i]?=some (some d)):∃ v f P',σ[i]?=some (some v)/\Rep K B No H d v f/\SI K H0 B0 B H σ (τ.set i none) P' No/\fM H0 B H P' No f:=by
 obtain⟨v,A,f,C,h1,h2,h3,h4⟩:=I.rep.drop h;subst h3;have nd:=I.nd;have sb:List.Sublist (A++C) (A++f++C):=by
  rw[Ni];exact(ND A).append (Nb f C)
 have sf:List.Sublist f (A++f++C):=(Nb A f).trans (Np _ _);have wL:∀ a∈f,a∉A++C:=λ a z m=>by
  rw[Ni,MS]at nd;obtain⟨_,n2,n3⟩:=nd;rw[MS]at n2;rcases M4.mp m with q|q
  ·exact n3 a q a (MW _ z) rfl
  ·exact n2.2.2 a z a q rfl
 refine⟨v,f,A++C,h1,h2,⟨I.bh,I.h0,I.b0,I.nb,h4,I.nd.sublist sb,λ a m=>I.own a (sb.subset m),λ a m=>m.elim⟩,I.nd.sublist sf,λ a m=>?_⟩;have q:=I.own a (sf.subset m);exact⟨q.1,q.2.1,I.stands (sf.subset m),wL a m,λ z=>z.elim⟩
def vG (i j:Nat)(τ:SD):Fl:=match dI τ i,τ[j]? with
 |some xs,some (some d)=>if i≠j/\xs.length<16777216 then .nx ((τ.set j none).set i (some (.lst .own (xs++[d])))) else .bad
 |_,_=>.bad
def Ib (i j:Nat){x y:Str}{p1 p2 apos cpos:Pos}(hN:X.N[i]?=some x:=by rfl)(hM:X.N[j]?=some y:=by rfl)(hv:wR X.env.scope x:=by first|exact Or.inl rfl|exact Or.inr (Or.inl rfl)|exact Or.inr (Or.inr rfl))(hw:wR X.env.scope y:=by first|exact Or.inl rfl|exact Or.inr (Or.inl rfl)|exact Or.inr (Or.inr rfl))
  (hd:(x == ("__debug__" : Str))=false:=by decide) (hcd:(x == ("__classdict__" : Str))=false:=by decide) (hd':(y == ("__debug__" : Str))=false:=by decide) (hcd':(y == ("__classdict__" : Str))=false:=by decide)
  (hbase:attributeBase (.Name x p1) "append" X.env (eval (.Name x p1) X.env)=eval (.Name x p1) X.env:=by rfl)
  (hfew:((backTo cpos (starEach [.Name y p2] X.env)).all (λ x=>!x.1)&&(backToKw cpos (keywordEach [] X.env)).all (λ x=>x.1.isSome)
   && decide (([.Name y p2]:List Expr).length+([]:List Keyword).length+(if ([]:List Keyword).isEmpty then 0 else 1)<30))=true:=by rfl)
  (hline:(apos.endLine == cpos.line)=true:=by rfl) (hs:starEach [.Name y p2] X.env=(false,eval (.Name y p2) X.env)::starEach [] X.env:=by rfl) (hplain:(backTo cpos (starEach [] X.env)).any (·.1)=false:=by rfl)
  (hsw:swapsWith (.Call (.Attribute (.Name x p1) "append" apos) [.Name y p2] [] cpos) none pos.line X.env=pure false:=by rfl) :
  PS X (.Expr (.Call (.Attribute (.Name x p1) "append" apos) [.Name y p2] [] cpos) pos) (kj X.K Y (vG i j)):=by
 refine PS.imp (kX (yC Ob PySem.F.slot_list_append PySem.F.type_list_append nM (gP hN hv hd hcd) (gm (gP hM hw hd' hcd') jC hs) hbase hfew hline hs hplain) hsw) λ E σ H hq=>ex7 hq λ H0 B0 B τ P I h=>?_;unfold vG at h;split at h
 ·rename_i xs d z z';split at h
  ·rename_i hc;have hi:=ip z;obtain⟨a,vs,ea,ha,hl⟩:=I.listAt hi;obtain⟨v,f,P',e1,r1,I1,k1⟩:=I.Kd z';have hi1:(τ.set j none)[i]?=some (some (.lst .own xs)):=by rw[NN (NU hc.1)];exact hi
   refine⟨.ref a,ea,.inl ⟨rfl,vs,dR.of ha⟩,v,e1,a,vs,v,rfl,rfl,ha,by rw[<-hl,NH];exact hc.2,?_⟩;obtain⟨P2,I2⟩:=I1.B9 (xs':=xs++[d]) (vs':=vs++[v]) hi1 ea k1 (λ g _ rl=>⟨g++f,rl.append (ak.one r1),λ b m=>M4.mp m,λ nf wL=>MS.mpr ⟨nf,k1.nd,λ a ha b hb e=>wL b hb (e▸ha)⟩⟩) ha;exact h B _ σ P2 I2
  ·exact h.elim
 ·exact h.elim
def sG (j i:Nat)(τ:SD):Fl:=match dI τ i with
 | some xs=>match xs[xs.length-1]? with
  |some d=>if i≠j then .nx ((τ.set i (some (.lst .own xs.dropLast))).set j (some d)) else .bad
  |none=>.bad
 |none=>.bad
def Ia (j i:Nat){x y:Str}{p0 p1 apos cpos:Pos}(hN:X.N.Nodup)(hj:X.N[j]?=some y)(hx:Loc X.env.scope y)(hi:X.N[i]?=some x:=by rfl)(hv:wR X.env.scope x:=by first|exact Or.inl rfl|exact Or.inr (Or.inl rfl)|exact Or.inr (Or.inr rfl))(hd:(x == ("__debug__" : Str))=false:=by decide)(hcd:(x == ("__classdict__" : Str))=false:=by decide)
  (hbase:attributeBase (.Name x p1) "pop" X.env (eval (.Name x p1) X.env)=eval (.Name x p1) X.env:=by rfl) (hline:(apos.endLine == cpos.line)=true:=by rfl)
  (hsw:swapsWith (.Call (.Attribute (.Name x p1) "pop" apos) [] [] cpos) (some (.Name y p0)) pos.line X.env=pure false:=by rfl) (hf:X.fn y=true\/X.env.scope.names.lookup y=some .local:=by first|exact .inl rfl|exact .inr rfl) :
  PS X (.Assign [.Name y p0] (.Call (.Attribute (.Name x p1) "pop" apos) [] [] cpos) pos) (kj X.K Y (sG j i)):=by
 refine PS.imp (Bv hN hj hx (By Ob PySem.F.slot_list_pop PySem.F.type_list_pop Hh (gP hi hv hd hcd) hbase hline) hsw hf) λ E σ H hq=>ex7 hq λ H0 B0 B τ P I h=>?_;unfold sG at h;split at h
 ·rename_i xs z;split at h
  ·rename_i d hd';split at h
   ·rename_i hij;have hi:=ip z;have hi':i<τ.length:=(MF.mp hi).1;obtain⟨A,f,C,eP,g1,g2⟩:=I.rep.cut hi';obtain⟨v',e1,r1⟩:=g1 _ hi;obtain⟨a,vs,g,rfl,ha,rl,ef⟩:=r1;have hl:=rl.length;have hx0:xs≠[]:=λ z=>by rw[z]at hd';cases hd'
    have exs:xs=xs.dropLast++[d]:=by
     have:=List.dropLast_concat_getLast hx0;rw[List.getLast_eq_getElem,<-Nq (hd'.symm.trans (MA (by have:=N4.mpr hx0;omega)))]at this;exact this.symm
    have rl2:=rl;rw[exs]at rl2;obtain⟨us,ws,fa,fb,evs,efg,ra,rb⟩:=rl2.split;obtain⟨v,w0,fv,f0,rfl,rv,⟨rfl,rfl⟩,efb⟩:=rb;rw[Nh]at efb;subst efb;subst evs efg ef;have nd0:=I.nd;rw[eP]at nd0;have ndf:(a::(fa++fb)).Nodup:=(nd0.sublist (Np _ _)).sublist (Nb _ _);have hav:a∉fb:=λ m=>(MZ.mp ndf).1 (MT _ m);have haf:a∉fa:=λ m=>(MZ.mp ndf).1 (MW _ m);have kp:j7 H (upd H a (.lst us)) [a]:=⟨λ b o h n=>by rw[aU (by simpa using n)];exact h,λ b m=>by
     have:b=a:=by simpa using m
     subst this;exact⟨_,ha,trivial⟩⟩
    have es:σ.set i (some (.ref a))=σ:=by
     refine NS λ k=>?_;by_cases hk:k=i
     ·subst hk;rw[NP (MF.mp e1).1,e1]
     ·rw[NN (NU hk)]
    have kpf:j7 H (upd H a (.lst us)) (a::(fa++fb)):=⟨λ b o h n=>kp.keep b o h (λ z=>n (by
     have:b=a:=by simpa using z
     subst this;exact MD)),λ b m=>I.rep.own b (by rw[eP];exact c6 _ _ _ b m)⟩
    have key:=I.put (i:=i) (H1:=upd H a (.lst us)) (d':=.lst .own xs.dropLast) (v':=.ref a) (f':=a::fa) hi' eP g2 kpf ⟨a,us,fa,rfl,bB,ra.keep kp (λ b m z=>haf ((by simpa using z:b=a)▸m)),rfl⟩ (MZ.mpr ⟨haf,(MS.mp (MZ.mp ndf).2).1⟩) (λ b m=>.inl ((MK.mp m).elim (λ z=>z▸MD) λ z=>ME _ (MW _ z)));rw[es]at key;have rv':=rv.keep kp (λ b m z=>hav ((by simpa using z:b=a)▸m));have inP:∀ b∈fb,b∈P:=λ b m=>by rw[eP];exact c6 _ _ _ b (ME _ (MT _ m))
    have kv:fM H0 B (upd H a (.lst us)) (A++a::fa++C) No fb:=⟨(MS.mp (MZ.mp ndf).2).2.1,λ b m=>by
     have q:=I.own b (inP b m);refine⟨q.1,q.2.1,λ z=>?_,λ z=>?_,λ z=>z.elim⟩
     ·by_cases e:b=a
      ·exact hav (e▸m)
      ·rw[aU e]at z;exact I.stands (inP b m) z
     ·have n1:=nd0;rw[Ni,MS]at n1;obtain⟨_,n2,n3⟩:=n1;rw[MS]at n2;have mm:b∈a::(fa++fb):=ME _ (MT _ m);rw[Ni]at z;rcases M4.mp z with z|z
      ·exact n3 b z b (MW _ mm) rfl
      ·rcases M4.mp z with z|z
       ·rcases MK.mp z with e|e
        ·exact hav (e▸m)
        ·exact(MS.mp (MZ.mp ndf).2).2.2 b e b m rfl
       ·exact n2.2.2 b mm b z rfl⟩
    have hlast:(us++[v])[(us++[v]).length-1]?=some v:=by
     rw[MY,N5,Nat.add_sub_cancel,Oe (ML _),Nat.sub_self];rfl
    refine⟨.ref a,e1,.inl ⟨rfl,us++[v],dR.of ha⟩,a,us++[v],v,rfl,rfl,ha,hlast,?_⟩;obtain⟨P2,I2,_⟩:=key.set j rv' kv;rw[List.dropLast_concat];exact h B _ _ P2 ⟨I2,aw.refl _,λ b o h n=>kp.Ba h n⟩
   ·exact h.elim
  ·exact h.elim
 ·exact h.elim
end
end DL
namespace SR
open PySem PySem.Spec PyProof.Rows
variable {h:Heap}{nss:List (List Int)}{vs:List Value}
inductive E7 (h:Heap):List Value->List (List Int)->Prop
 |nil:E7 h [] []
 |cons {v:Value}{ns:List Int}{vs:List Value}{nss:List (List Int)}:nh h v ns->E7 h vs nss->E7 h (v::vs) (ns::nss)
def E7.at(x:E7 h vs nss):∀ i,i<vs.length->nh h (vs.getD i .none) (nss.getD i []):=by
 induction x with
 |nil=>intro i hi;exact absurd hi (OM _)
 | cons a _ ih =>
  intro i hi;cases i with
  |zero=>exact a|succ i=>exact ih i (by rw[MQ]at hi;omega)
def E7.mem(x:E7 h vs nss):∀ v∈vs,∃ ns,nh h v ns:=by
 induction x with
 |nil=>intro v m;cases m
 | cons a _ ih =>
  intro v m;rcases MK.mp m with rfl|m
  ·exact⟨_,a⟩
  ·exact ih v m
abbrev vH (nss:List (List Int))(i j:Nat):Bool:=lexLt (nss.getD i []) (nss.getD j [])
def xF {prog:Program}{w:World}{A:Around}(hv:E7 h vs nss)(hu:A.units<cLine):xA (model prog w) A h vs (vH nss):=by
 intro h2;refine⟨oneType',xD hv.mem (λ z=>by rw[z]at h2;simp at h2),λ i j hi hj=>?_⟩;intro Q E s k hQ;obtain⟨a,xs,e1,l1,i1⟩:=(hv.at i hi).keep k;obtain⟨b,ys,e2,l2,i2⟩:=(hv.at j hj).keep k;rw[keyLt'_oneType,e1,e2];exact Cz l1 l2 i1 i2 hu hQ
end SR
namespace L2
open PySem PySem.Spec PyProof.Rows
section
variable {X:Cx}
def nk:∀ {ns:List Int}{its:List Value},Vals (ns.map V.int) its->IntsAre its ns
 |[],_,.nil=>.nil
 |n::ns,_,.cons r t=>by obtain⟨k,rfl⟩:=r;exact .cons n k (nk t)
inductive pA (K:PySem.W.Frag)(H:Hp):List V->List (List Int)->Prop
 |nil:pA K H [] []
 |cons {b:Addr}{ns:List Int}{ws:List V}{nss:List (List Int)}:dR K H b (ns.map V.int)->pA K H ws nss->pA K H (.ref b::ws) (ns::nss)
def pA.len {K:PySem.W.Frag}{H:Hp}{ws:List V}{nss:List (List Int)}(x:pA K H ws nss):ws.length=nss.length:=by
 induction x with
 |nil=>rfl|cons _ _ ih=>rw[MQ,MQ,ih]
def Inv.Mw {pins:List (Addr×Obj)}{σ:St}{H:Hp}{s:Shared}(I:Inv X pins σ H s){ws:List V}{nss:List (List Int)}(x:pA X.K H ws nss):∀ {its:List Value},Vals ws its->SR.E7 s.heap its nss:=by
 induction x with
 |nil=>intro its r;cases r;exact .nil
 | cons hq _ ih =>
  intro its r;cases r with
  | cons r1 r2 =>
   cases r1;obtain⟨is,rv,pl,_⟩:=I.list hq;exact .cons ⟨_,_,rfl,pl.isList,by simpa using nk rv⟩ (ih r2)
def uv (hu:X.A.units+2<cLine):eE X (.builtin "sorted") (λ xs H Q=>∃ (a:Addr) (ws:List V) (nss:List (List Int)),xs=[.ref a]/\dR X.K H a ws/\pA X.K H ws nss/\nss.length<64/\∀ p:Addr,H p=none->Q (.ref p) (upd H p (.lst (SR.ordered .bJ (SR.vH nss) ws)))):=by
 intro pins s σ H xs us Q I r h;obtain⟨a,ws,nss,rfl,hq,hp,hl,q⟩:=h;obtain⟨u,rfl,ru⟩:=vals1 r;cases ru;obtain⟨its,rv,pl,hz⟩:=I.list hq;have hlen:=rv.length;have hpl:=hp.len;refine SR.xy pl.isList (by omega) (SR.xF (I.Mw hp rv) hu) λ h' p kp hsz he=>?_;obtain⟨e,he⟩:=he;refine⟨.ref p,_,I.laid (t':=s.toks) kp hsz ?_,rfl,q _ (I.hok.fresh hsz)⟩;refine⟨?_,_,e,rv.ordered (SR.vH nss),he⟩;rw[(SR.m9 _ _ _).length_eq];exact hz
end
end L2
namespace DL
open PySem PySem.Spec PyProof.Rows L2
def nq:List D->Option (List (List Int))
 |[]=>some []
 |.lst _ ys::r=>(intsOf ys).bind λ ns=>(nq r).map (ns :: ·)
 |_=>none
def lj:∀ (nss:List (List Int)) (t:List Int->Tg),nq (nss.map λ ns=>D.lst (t ns) (ns.map .int))=some nss
 |[],_=>rfl
 | ns::r,t=>by
  show((intsOf (ns.map D.int)).bind λ ns=>(nq (r.map λ ns=>D.lst (t ns) (ns.map .int))).map (ns :: ·))=_;rw[dE,lj r t];rfl
section
variable {K:PySem.W.Frag}{Y:XY}{H0 B0 B H:Hp}{σ:L2.St}{τ:SD}{P:List Addr}{F:Addr->Prop}{X:Cx}{pos:Pos}
def uw (I:SI K H0 B0 B H σ τ P F):∀ {xs:List D}{nss:List (List Int)}{vs:List V}{f:List Addr},nq xs=some nss->ak K B (· ∈ P) H xs vs f->pA K H vs nss
 | [],nss,vs,f,h,r=>by
  cases h;obtain⟨rfl,_⟩:=r;exact .nil
 | d::xs,nss,vs,f,h,r=>by
  obtain⟨v,w,f1,f2,rfl,r1,r2,rfl⟩:=r;cases d with
  | lst t ys =>
   unfold nq at h;cases e:intsOf ys with
   |none=>rw[e]at h;cases h
   | some ns =>
    rw[e]at h;cases e2:nq xs with
    |none=>rw[e2]at h;cases h
    | some mss =>
     rw[e2]at h;cases h;have ey:=dX e;subst ey;obtain⟨a,us,g,rfl,q,l,_⟩:=r1.lst I;obtain⟨rfl,rfl⟩:=dW l;exact .cons q (uw I e2 r2)
  |_=>cases h
def ak.parts {S:Addr->Prop}:∀ {xs:List D}{vs:List V}{f:List Addr},ak K B S H xs vs f->∃ fs:List (List Addr),fs.length=xs.length/\f=fs.flatten/\∀ i,i<xs.length->Rep K B S H (xs.getD i .bJ) (vs.getD i .bJ) (fs.getD i [])
 | [],vs,f,r=>by
  obtain⟨rfl,rfl⟩:=r;exact⟨[],rfl,rfl,λ i h=>absurd h (OM _)⟩
 | d::xs,vs,f,r=>by
  obtain⟨v,w,f1,f2,rfl,r1,r2,rfl⟩:=r;obtain⟨fs,h1,h2,h3⟩:=ak.parts r2;refine⟨f1::fs,by rw[MQ,MQ,h1],by rw[NF,h2],λ i hi=>?_⟩;cases i with
  |zero=>exact r1|succ i=>exact h3 i (by rw[MQ]at hi;omega)
def zd {S:Addr->Prop}{x:Nat->D}{v:Nat->V}{g:Nat->List Addr}:∀ (q:List Nat),(∀ i∈q,Rep K B S H (x i) (v i) (g i))->ak K B S H (q.map x) (q.map v) (q.map g).flatten
 |[],_=>⟨rfl,rfl⟩
 |i::q,h=>⟨_,_,_,_,rfl,h i MD,zd q λ j m=>h j (ME _ m),by rw[MU,NF]⟩
def ak.sorted {S:Addr->Prop}{xs:List D}{vs:List V}{f:List Addr}(r:ak K B S H xs vs f)(c:Nat->Nat->Bool):∃ g,ak K B S H (SR.ordered .bJ c xs) (SR.ordered .bJ c vs) g/\g.Perm f:=by
 have hl:=r.length;unfold SR.ordered;rw[<-hl];split
 ·exact⟨f,r,Nz _⟩
 ·rename_i h;obtain⟨fs,h1,h2,h3⟩:=r.parts;have hp:=Og.mp (SR.fF.run (L:=SR.Pm xs.length) c (SR.mX (n:=xs.length) (by omega)));have hp':(SR.bg c (PySem.W.kas_sort xs.length)).toList.Perm (List.range xs.length):=by simpa using hp
  refine⟨_,zd (g:=λ i=>fs.getD i []) _ λ i m=>h3 i (M3.mp (hp'.mem_iff.mp m)),?_⟩;rw[h2];refine List.Perm.flatten ((hp'.map _).trans ?_);have e3:(List.range xs.length).map (λ i=>fs.getD i [])=fs:=by
   rw[<-h1];refine NY (by simp) λ i h1 h2=>?_;simp;rw[MA h2];rfl
  rw[e3]
def kJ (i:Nat)(τ:SD):Fl:=match τ[i]? with
 | some (some (.lst .own xs))=>match nq xs with
  |some nss=>if nss.length<64 then .rt (.lst .own (SR.ordered .bJ (SR.vH nss) xs)) else .bad
  |none=>.bad
 |_=>.bad
def AD (i:Nat){x:Str}{p pn pc:Pos}(hu:X.A.units+2<cLine)(hg:Gl X "sorted")(hm:X.mg "sorted" = none)(hN:X.N[i]?=some x:=by rfl)(hv:wR X.env.scope x:=by first|exact Or.inl rfl|exact Or.inr (Or.inl rfl)|exact Or.inr (Or.inr rfl))(hd:(x == ("__debug__" : Str))=false:=by decide)(hcd:(x == ("__classdict__" : Str))=false:=by decide)(hl:Y.ln=false:=by rfl)
  (hs:starEach [.Name x pn] X.env=(false,eval (.Name x pn) X.env)::starEach [] X.env:=by rfl) (hpl:(backTo pc (starEach [] X.env)).any (·.1)=false:=by rfl) :
  PS X (.Return (some (.Call (.Name "sorted" p) [.Name x pn] [] pc)) pos) (kj X.K Y (kJ i)):=by
 refine PS.imp (wN (pM (uv hu) hg hm (by decide +kernel) (gm (gP hN hv hd hcd) jC hs) (he:=hs) (hpl:=hpl))) λ E σ H hq=>ex7 hq λ H0 B0 B τ P I h=>?_;unfold kJ at h;split at h
 ·rename_i xs e;split at h
  ·rename_i nss el;split at h
   ·rename_i hc;obtain⟨v,f,h1,h2,h3⟩:=I.rep.get e;obtain⟨a,vs,g,rfl,ha,rl,rfl⟩:=h2;have rl':ak X.K B (· ∈ P) H xs vs g:=rl.mono (aw.refl _) (aw.refl _) λ _ z=>z.elim;refine⟨.ref a,h1,a,vs,nss,rfl,dR.of ha,uw I el rl',hc,λ p hp=>?_⟩;obtain⟨g',r2,pg⟩:=rl.sorted (SR.vH nss);have s:=gC (o:=.lst (SR.ordered .bJ (SR.vH nss) vs)) hp;have sub:∀ b∈g',b∈P:=λ b m=>h3.subset (ME _ (pg.mem_iff.mp m));have hpn:p∉g':=λ m=>I.stands (sub p m) hp;refine(cI.rt hl h) B _ (.ref p) (p::g') ⟨I.h0.trans s,I.b0,I.bh.trans s,I.nb,⟨p,_,g',rfl,bB,r2.mono s (aw.refl _) (λ _ x=>x),rfl⟩,MZ.mpr ⟨hpn,pg.nodup_iff.mpr (MZ.mp (I.nd.sublist h3)).2⟩,λ b m=>?_⟩;rcases MK.mp m with e|m
    ·subst e;exact⟨I.bh.free hp,I.h0.free hp,by rw[bB];exact Oh _⟩
    ·obtain⟨a1,a2,_⟩:=I.own b (sub b m);exact⟨a1,a2,λ z=>I.stands (sub b m) (s.free z)⟩
   ·exact h.elim
  ·exact h.elim
 ·exact h.elim
end
def xG {α:Type}(d:α){c:Nat->Nat->Bool}{vs:List α}(o:SR.Ord vs.length c):∃ q:List Nat,q.Perm (List.range vs.length)/\SR.ordered d c vs=q.map (λ i=>vs.getD i d)/\q.Pairwise λ i j=>c i j=true:=by
 unfold SR.ordered;split
 ·rename_i h;refine⟨List.range vs.length,Nz _,?_,?_⟩
  ·refine NY (by simp) λ i h1 h2=>?_;simp;rw[MA h1];rfl
  ·match hl:vs.length,h with
   |0,_=>exact List.Pairwise.nil|1,_=>exact PK _ _
 ·rename_i h;obtain⟨p1,p2⟩:=SR.E6 o (by omega);have hp':(SR.bg c (PySem.W.kas_sort vs.length)).toList.Perm (List.range vs.length):=by simpa using Og.mp p1
  refine⟨_,hp',rfl,?_⟩;have hs:=SR.Pm.size p1;rw[N3];intro i j hi hj hij;rw[M8]at hi hj;have:=p2 i j hij (by omega);have g:∀ k (hk:k<(SR.bg c (PySem.W.kas_sort vs.length)).size),SR.eO (SR.bg c (PySem.W.kas_sort vs.length)) k=(SR.bg c (PySem.W.kas_sort vs.length)).toList[k]'(by rw[M8];exact hk):=λ k hk=>by
   show(SR.bg c (PySem.W.kas_sort vs.length)).getD k 0=_;rw[Nt,MV hk];rfl
  rw[g i hi,g j hj]at this;exact this
end DL
namespace DI
open PySem
section
variable {prog:Program}{w:World}{K:Type}[DecidableEq K]{knd:KeyKind prog w K}{A:Around}{E:Value->Shared->Prop}{s:Shared}
end
end DI
namespace L2
open PySem PySem.Spec PyProof.Rows
section
variable {X:Cx}
end
end L2
namespace DL
open PySem PySem.Spec PyProof.Rows L2
def lP:List KT->List D->KT->D->List D
 |k::ks,d::ds,q,x=>if k=q then x::ds else d::lP ks ds q x
 |_,ds,_,_=>ds
def xJ {A g g' C:List Addr}(h:(A++g++C).Nodup)(n:g'.Nodup)(s:∀ x∈g',x∈g):(A++g'++C).Nodup:=by
 rw[Ni,MS]at h ⊢;obtain⟨h1,h2,h3⟩:=h;rw[MS]at h2;obtain⟨h4,h5,h6⟩:=h2;refine⟨h1,MS.mpr ⟨n,h5,λ a ha b hb=>h6 a (s a ha) b hb⟩,λ a ha b hb=>h3 a ha b ?_⟩;rcases M4.mp hb with z|z
 ·exact MW _ (s b z)
 ·exact MT _ z
section
variable {K:PySem.W.Frag}{Y:XY}{H0 B0 B H:Hp}{σ:L2.St}{τ:SD}{P:List Addr}{F:Addr->Prop}{X:Cx}{pos:Pos}
def ak.conv {B' H':Hp}{M:List Addr}(kp:∀ d v h,Rep K B No H d v h->(∀ a∈h,a∈M)->Rep K B' No H' d v h):∀ {ds:List D}{vs:List V}{f:List Addr},ak K B No H ds vs f->(∀ a∈f,a∈M)->ak K B' No H' ds vs f
 |[],_,_,r,_=>r
 | d::ds,vs,f,r,m=>by
  obtain⟨v,w,f1,f2,rfl,r1,r2,rfl⟩:=r;exact⟨v,w,f1,f2,rfl,kp _ _ _ r1 λ a z=>m a (MW _ z),ak.conv kp r2 λ a z=>m a (MT _ z),rfl⟩
def ak.Ic:∀ {kvs:List (Key×V)}{xs:List D}{f:List Addr}{k:Key}{din:D},ak K B No H xs (kvs.map (·.2)) f->fL (kvs.map λ p=>Sum.inl p.1) xs (.inl k)=some din ->
  ∃ w A g C,lH kvs k=some w/\f=A++g++C/\Rep K B No H din w g/\∀ {B' H':Hp}{d':D}{g':List Addr},(∀ d v h,Rep K B No H d v h->(∀ a∈h,a∈A++C)->Rep K B' No H' d v h)->Rep K B' No H' d' w g'->ak K B' No H' (lP (kvs.map λ p=>Sum.inl p.1) xs (.inl k) d') (kvs.map (·.2)) (A++g'++C)
 |[],xs,f,k,din,r,e=>by cases xs<;>cases e
 |p::kvs,[],f,k,din,r,e=>by cases e
 | p::kvs,d::ds,f,k,din,r,e=>by
  obtain⟨v,w,f1,f2,ev,r1,r2,rfl⟩:=r;rw[MU]at ev;cases ev;rw[MU,fL]at e;by_cases h:p.1=k
  ·rw[MO (N1 Sum.inl h)]at e;cases e;refine⟨p.2,[],f1,f2,ky h,rfl,r1,λ {B' H' d' g'} kp r'=>?_⟩;rw[MU,MU,lP,MO (N1 Sum.inl h)];exact⟨p.2,_,g',f2,rfl,r',ak.conv kp r2 (λ a m=>m),rfl⟩
  ·rw[MP λ z=>h (Pe z)]at e;obtain⟨w,A,g,C,h1,h2,h3,h4⟩:=ak.Ic r2 e;subst h2;refine⟨w,f1++A,g,C,by rw[jh h];exact h1,by simp,h3,λ {B' H' d' g'} kp r'=>?_⟩;rw[MU,MU,lP,MP λ z=>h (Pe z)];exact⟨p.2,_,f1,A++g'++C,rfl,kp _ _ _ r1 (λ a m=>MW _ (MW _ m)),h4 (λ d v u r m=>kp d v u r λ a z=>by
    rcases M4.mp (m a z) with q|q
    ·exact MW _ (MT _ q)
    ·exact MT _ q) r',by simp⟩
def nY (i:Nat)(f1 fk fv:SD->Res D)(τ:SD):Fl:=(fv τ).kc τ λ d=>match dJ τ i with
 | some (t,false,ks,xs)=>(f1 τ).kc τ λ d1=>match fO d1 with
  | some (.inl q1)=>match fL ks xs (.inl q1) with
   | some (.dct .own false ks2 ys)=>(fk τ).kc τ λ dk=>match fO dk with
    |some (.inl q)=>if d.pure=true/\ks2.length<16777216 then .nx (τ.set i (some (.dct t false ks (lP ks xs (.inl q1) (.dct .own false (jX ks2 (.inl q)) (jW ks2 ys (.inl q) d)))))) else .bad
    |_=>.bad
   |_=>.bad
  |_=>.bad
 |_=>.bad
def xH {kvs:List (Key×V)}{ep:Nat}{a b:Addr}{o:HO}(n:a≠b)(h:H a=some (.dK kvs ep)):DictAt (upd H b o) a false (kvs.map λ p=>Sum.inl p.1) (kvs.map (·.2)):=.inl ⟨rfl,kvs,ep,by rw[aU n];exact h,rfl,rfl⟩
def SI.Ke {i:Nat}{t:Tg}(ht:t.lO=true){kvs:List (Key×V)}{ep:Nat}{ks2:List KT}{xs ys:List D}{a b:Addr}{q1 q:Key}{d:D}{v:V}(I:SI K H0 B0 B H σ τ P No)(hi:τ[i]?=some (some (.dct t false (kvs.map λ p=>Sum.inl p.1) xs)))(ev:σ[i]?=some (some (.ref a)))(ha:H a=some (.dK kvs ep))
  (hlk:fL (kvs.map λ p=>Sum.inl p.1) xs (.inl q1)=some (.dct .own false ks2 ys)) (hb:lH kvs q1=some (.ref b)) (hp:d.pure=true) (rd:Rep K B No H d v []) :
  ∃ kvs2 ep2,H b=some (.dK kvs2 ep2)/\ks2=kvs2.map (λ p=>Sum.inl p.1)/\∀ en,∃ P',j9 K H0 B0 B H B (upd H b (.dK (putK kvs2 q v) en)) σ (τ.set i (some (.dct t false (kvs.map λ p=>Sum.inl p.1) (lP (kvs.map λ p=>Sum.inl p.1) xs (.inl q1) (.dct .own false (jX ks2 (.inl q)) (jW ks2 ys (.inl q) d)))))) P':=by
 have hi':i<τ.length:=(MF.mp hi).1;obtain⟨A0,f0,C0,eP,g1,g2⟩:=I.rep.cut hi';obtain⟨v',e1,r1⟩:=g1 _ hi;rw[ev]at e1;cases e1;obtain⟨a',ws,g,ea,hq,rl,ef,back'⟩:=r1.EV ht;cases ea;rcases hq with ⟨_,kvs',ep',ha',hks',hws'⟩|⟨q0,_⟩
 rotate_left
 ·cases q0
 rw[ha]at ha';cases ha';subst hws';obtain⟨w,A,gi,C,hv1,hf,rin,back⟩:=ak.Ic rl hlk;rw[hb]at hv1;cases hv1;obtain⟨b',us,gg,eb,dqb,rlb,rfl⟩:=rin;cases eb;rcases dqb with ⟨_,kvs2,ep2,hb2,hks2,hus⟩|⟨q0,_⟩
 rotate_left
 ·cases q0
 subst hf ef hus hks2;refine⟨kvs2,ep2,hb2,rfl,λ en=>?_⟩;have nd0:=I.nd;rw[eP]at nd0;have ndf:(a::(A++b::gg++C)).Nodup:=(nd0.sublist (Np _ _)).sublist (Nb _ _);have hab:a≠b:=λ z=>by
  subst z;exact(MZ.mp ndf).1 (by simp)
 have hbf:b∈a::(A++b::gg++C):=by simp
 obtain⟨p1,f',p2,p3,p4⟩:=xq Sum.inl (λ a b h=>Pe h) (k:=q) (kvs:=kvs2) rlb rd λ _=>hp;have ndg:(b::gg).Nodup:=(((MZ.mp ndf).2.sublist (Np _ _)).sublist (Nb _ _));have sg:∀ x∈f',x∈gg:=λ x m=>(p3 x m).resolve_right (by simp);have nf':(b::f').Nodup:=MZ.mpr ⟨λ m=>(MZ.mp ndg).1 (sg b m),p4 (MZ.mp ndg).2 NJ (λ _ m=>by cases m)⟩;have kp:j7 H (upd H b (.dK (putK kvs2 q v) en)) [b]:=⟨λ x o h n=>by rw[aU (by simpa using n)];exact h,λ x m=>by
  have:x=b:=by simpa using m
  subst this;exact⟨_,hb2,trivial⟩⟩
 have es:σ.set i (some (.ref a))=σ:=by
  refine NS λ k=>?_;by_cases hk:k=i
  ·subst hk;rw[NP (MF.mp ev).1,ev]
  ·rw[NN (NU hk)]
 have kpf:j7 H (upd H b (.dK (putK kvs2 q v) en)) (a::(A++b::gg++C)):=⟨λ x o h n=>kp.keep x o h (λ z=>n (by
  have:x=b:=by simpa using z
  subst this;exact hbf)),λ x m=>I.rep.own x (by rw[eP];exact c6 _ _ _ x m)⟩
 have nbM:∀ x∈A++C,x≠b:=λ x m z=>by
  subst z;have n:=(MZ.mp ndf).2;rw[Ni,MS]at n;obtain⟨_,n2,n3⟩:=n;rcases M4.mp m with y|y
  ·exact n3 x y x (by simp) rfl
  ·rw[MS]at n2;exact n2.2.2 x MD x y rfl
 have rin':Rep K B No (upd H b (.dK (putK kvs2 q v) en)) (.dct .own false (jX (kvs2.map λ p=>Sum.inl p.1) (.inl q)) (jW (kvs2.map λ p=>Sum.inl p.1) ys (.inl q) d)) (.ref b) (b::f'):=
  ⟨b,_,f',rfl,.inl ⟨rfl,_,en,bB,p1,rfl⟩,p2.keep kp (λ x m z=>(MZ.mp nf').1 ((by simpa using z:x=b)▸m)),rfl⟩
 have rn:=back' (xH hab ha) (back (λ d v h r m=>r.keep kp λ x z y=>nbM x (m x z) (by simpa using y)) rin');have key:=I.put (i:=i) (H1:=upd H b (.dK (putK kvs2 q v) en)) hi' eP g2 kpf rn ?_ λ x m=>.inl ?_
 ·rw[es]at key;exact⟨_,key,aw.refl _,λ x o h n=>kp.Ba h n⟩
 ·exact xJ (A:=a::A) ndf nf' λ x m=>(MK.mp m).elim (λ z=>z▸MD) λ z=>ME _ (sg x z)
 ·have:x∈a::A++b::f'++C:=m;simp only[List.cons_append,MK,M4]at this ⊢;rcases this with z|(z|z|z)|z
  ·exact .inl z
  ·exact .inr (.inl (.inl z))
  ·exact .inr (.inl (.inr (.inl z)))
  ·exact .inr (.inl (.inr (.inr (sg x z))))
  ·exact .inr (.inr z)
def ze (i:Nat){x:Str}{p1 p2 pos':Pos}{k1e ke value:Expr}{f1 fk fv:SD->Res D}(hu:X.A.units+1<cLine)(h1e:PE X k1e (tM X.K Y f1))(hk:PE X ke (tM X.K Y fk))(hv:PE X value (tM X.K Y fv))(hs1:ED k1e)(hN:X.N[i]?=some x:=by rfl)(hvi:wR X.env.scope x:=by first|exact Or.inl rfl|exact Or.inr (Or.inl rfl)|exact Or.inr (Or.inr rfl))(hd:(x == ("__debug__" : Str))=false:=by decide)(hcd:(x == ("__classdict__" : Str))=false:=by decide)
  (hs:swapsWith value (some (.Subscript (.Subscript (.Name x p1) k1e p2) ke pos')) pos.line X.env=pure false:=by rfl):PS X (.Assign [.Subscript (.Subscript (.Name x p1) k1e p2) ke pos'] value pos) (kj X.K Y (nY i f1 fk fv)):=by
 refine PS.imp (yG hu (yH hu (gP hN hvi hd hcd) h1e hs1) hk hv hs) λ E σ H hq=>ex7 hq λ H0 B0 B τ P I h=>?_;refine mS I h λ d v H1 B1 fp _ I1 s1 b1 r1 k1 h1=>?_;cases z:dJ τ i with
 |none=>rw[z]at h1;exact h1.elim
 | some t =>
  obtain⟨t,k,ks,xs⟩:=t;rw[z]at h1;cases k with
  |true=>exact h1.elim
  | false =>
   simp only at h1;obtain⟨hi,ht⟩:=qg z;obtain⟨w,f,e1,r2,sf⟩:=I1.rep.get hi;obtain⟨a,ws,g,rfl,dq,rl,ef,_⟩:=r2.EV ht;rcases dq with ⟨_,kvs,ep,ha,hks,hws⟩|⟨q0,_⟩
   rotate_left
   ·cases q0
   subst hks hws;refine⟨.ref a,e1,?_⟩;refine⟨H0,B0,B1,τ,P,_,I1.hold k1,?_⟩;cases y:f1 τ with
   |fY C=>rw[y]at h1;exact λ H2 B2 I2 s2 b2=>h1 B2 H2 σ P (j9.grow (I2.nP λ _ x=>x.elim) b2 s2)
   |bad=>rw[y]at h1;exact h1
   | ok d1 =>
    rw[y]at h1;intro vk1 H2 B2 fq I2 s2 b2 rk1 kk1;simp only[Res.kc]at h1;cases hk1:fO d1 with
    |none=>rw[hk1]at h1;exact h1.elim
    | some q1 =>
     rw[hk1]at h1;cases q1 with
     |inr q1=>exact h1.elim
     | inl q1 =>
      simp only at h1;have ev:=ue hk1 rk1;subst ev;have rl2:=rl.mono s2 b2 λ _ x=>x;have ha2:=s2 _ _ ha;cases hlk:fL (kvs.map λ p=>Sum.inl p.1) xs (.inl q1) with
      |none=>rw[hlk]at h1;exact h1.elim
      | some din =>
       rw[hlk]at h1;split at h1
       ·rename_i ks2 ys heq;cases heq;obtain⟨w,A,gi,C,hv1,hf,⟨b,us,gg,rfl,_,_,_⟩,_⟩:=ak.Ic rl2 hlk;refine⟨a,.ref b,rfl,hv1▸lG.k ⟨ep,ha2⟩,?_⟩;refine⟨H0,B0,B2,τ,P,_,I2,?_⟩;cases y2:fk τ with
        |fY C=>rw[y2]at h1;exact λ H3 B3 I3 s3 b3=>h1 B3 H3 σ P (j9.grow (I3.nP λ _ x=>x.elim) (b2.trans b3) (s2.trans s3))
        |bad=>rw[y2]at h1;exact h1
        | ok dk =>
         rw[y2]at h1;intro vk H3 B3 fr I3 s3 b3 rk kk;have I5:SI X.K H0 B0 B3 H3 σ τ P No:=I3.nP λ _ x=>x.elim;have h2:=cI.later h1 (j9.grow I5 (b2.trans b3) (s2.trans s3));simp only at h2;split at h2
         ·rename_i q hkk;split at h2
          ·rename_i hc;obtain⟨c1,c2⟩:=hc;have ef:=tW.1 d c1 r1;subst ef;have rd:=(r1.gY (aP d c1)).mono (s2.trans s3) (b2.trans b3) λ _ x=>x;have ev:=ue hkk rk;subst ev;obtain⟨kvs2,ep2,hb2,hks2,A'⟩:=I5.Ke ht (q:=q) hi e1 (s3 _ _ ha2) hlk hv1 c1 rd;refine⟨b,rfl,.inl ⟨kvs2,q,⟨ep2,hb2⟩,rfl,?_,λ en=>?_⟩⟩
           ·rw[hks2,MC]at c2;rw[NH];exact c2
           ·obtain⟨P',A''⟩:=A' en;exact h2 B3 _ σ P' A''
          ·exact h2.elim
         ·exact h2.elim
       ·exact h1.elim
end
section
variable {K:PySem.W.Frag}{Y:XY}{H0 B0 B H:Hp}{σ:L2.St}{τ:SD}{P:List Addr}{F:Addr->Prop}{X:Cx}{pos:Pos}
end
end DL
namespace L2
open PySem PySem.Spec PyProof.Rows
section
variable {X:Cx}{p pos apos cpos:Pos}{o:Expr}{to:TE}
def Kg (K:PySem.W.Frag):R2:=λ x y H Q=>∃ a b xs ys nss,x=.ref a/\y=.ref b/\dR K H a xs/\dR K H b ys/\pA K H xs nss/\pA K H ys nss/\Q (.bl false) H
def pA.get {K:PySem.W.Frag}{H:Hp}{xs:List V}{nss:List (List Int)}(x:pA K H xs nss):xs.length=nss.length/\∀ (j:Nat) v,xs[j]?=some v->∃ a,v=.ref a/\dR K H a ((nss.getD j []).map V.int):=by
 induction x with
 |nil=>exact⟨rfl,λ j v e=>by simp at e⟩
 | cons a _ ih =>
  refine⟨by rw[MQ,MQ,ih.1],λ j v e=>?_⟩;cases j with
  | zero =>
   have e:=Nq e;subst e;exact⟨_,rfl,a⟩
  |succ j=>exact ih.2 j v e
def AE {pins:List (Addr×Obj)}{s:Shared}{σ:St}{H:Hp}{p q:Addr}{zs:List Int}{A:Around}(hu:A.units<cLine)(I:Inv X pins σ H s)(hp:dR X.K H p (zs.map V.int))(hq:dR X.K H q (zs.map V.int)):SeqAt.EqAt A s (.ref p) (.ref q) true:=by
 by_cases hpq:p=q
 ·subst hpq;exact SeqAt.EqAt.same _
 ·obtain⟨i1,r1,p1,_⟩:=I.list hp;obtain⟨i2,r2,p2,_⟩:=I.list hq;have l1:=r1.length;have l2:=r2.length;rw[MC]at l1 l2;have h:=SeqAt.RcAt.lists (A:=A) p1.isList p2.isList (by rw[MN,MN];omega) (by omega) (yZ r1 r2);rw[MN,<-l1,vF rfl,Nc rfl]at h;exact SeqAt.EqAt.of_refs hpq h
def Ig (hu:X.A.units+1<cLine):j6 X (compareOp .NotEq) (Kg X.K):=by
 intro pins s σ H x y v u Q I rx ry h;obtain⟨a,b,xs,ys,nss,rfl,rfl,ha,hb,hx,hy,q⟩:=h;cases rx;cases ry;obtain⟨i1,r1,p1,_⟩:=I.list ha;obtain⟨i2,r2,p2,_⟩:=I.list hb;have l1:=r1.length;have l2:=r2.length;obtain⟨n1,g1⟩:=hx.get;obtain⟨n2,g2⟩:=hy.get;have h:=SeqAt.RcNeAt.lists (A:=X.A) (e:=λ _=>true) p1.isList p2.isList (by rw[MN,MN];omega) (by omega) (λ j h1 h2=>by
  have h1':j<xs.length:=by rw[l1];simpa using h1
  have h2':j<ys.length:=by rw[l2];simpa using h2
  obtain⟨u1,e1,q1⟩:=r1.get (MA h1');obtain⟨u2,e2,q2⟩:=r2.get (MA h2');have k1:i1.toArray[j]=u1:=by
   have:i1[j]?=some i1.toArray[j]:=by simpa using MA (l:=i1) (by simpa using h1)
   rw[this]at e1;exact Nq e1
  have k2:i2.toArray[j]=u2:=by
   have:i2[j]?=some i2.toArray[j]:=by simpa using MA (l:=i2) (by simpa using h2)
   rw[this]at e2;exact Nq e2
  obtain⟨c1,z1,s1⟩:=g1 j _ (MA h1');obtain⟨c2,z2,s2⟩:=g2 j _ (MA h2');rw[z1]at q1;rw[z2]at q2;cases q1;cases q2;rw[k1,k2];exact AE (by show X.A.units+1<cLine;exact hu) I s1 s2)
 have hz:((List.range i1.toArray.size).all (λ _=>true))=true:=by simp
 rw[hz]at h;exact h _ _ _ _ ⟨.bl _,H,I,rfl,q⟩
end
end L2
namespace DL
open PySem PySem.Spec PyProof.Rows L2
def Ie {A:Around}{k:Nat}(hr:gB k A):A.units+2<cLine:=Nat.lt_of_le_of_lt (Nat.add_le_add_left (by decide:2<=64) _) hr.units
def E8 (x y:D):Res D:=match x,y with
 | .lst _ xs,.lst _ ys=>match nq xs,nq ys with
  |some a,some b=>if a=b then .ok (.bl false) else .bad
  |_,_=>.bad
 |_,_=>.bad
section
variable {K:PySem.W.Frag}{Y:XY}{H0 B0 B H:Hp}{σ:L2.St}{τ:SD}{P:List Addr}{F:Addr->Prop}{X:Cx}{pos:Pos}
def Kf:pD K Y (Kg K) E8:=by
 intro H0 B0 B H σ τ P F d1 d2 x y f1 f2 Q I r1 r2 k h;unfold E8 at h;split at h
 ·rename_i t xs t' ys;split at h
  ·rename_i a b ea eb;split at h
   ·rename_i e;subst e;obtain⟨p,vs,g,rfl,q,l,s⟩:=r1.lst I;obtain⟨p',vs',g',rfl,q',l',s'⟩:=r2.lst I;exact⟨p,p',vs,vs',a,rfl,rfl,q,q',uw I ea l,uw I eb l',Out.here h I ⟨rfl,rfl⟩⟩
   ·exact h.elim
  ·exact h.elim
 ·exact h.elim
end
end DL
namespace L2
open PySem PySem.Spec PyProof.Rows
open PySem.AutoSeq1 PySem.MeetsSeq PySem.MeetsSeq2 PySem.MeetsSeq3
def CD (a:Addr)(us:Array Value)(n:Nat)(b:Addr)(ws:Array Value)(k:Nat)(dd:Option Addr)(sl:Array (Option Value))(h0:¬ (!us.isEmpty&&Builtin.List.listTooLong (us.size+ws.size))=true)(h1:us.size<=sizeLine)(h2:us.size+ws.size<=sizeLine+1) :
  Meets (Builtin.«list.extend» ⟨[.ref a,.ref b],[]⟩) (λ _ R s=>s.heap.get? a=some { cls:=.type "list",data:=.seq us n }/\s.heap.get? b=some { cls:=.type "list",dict:=dd,data:=.seq ws k,slots:=sl }/\R (.ok (.ret .none)) { s with heap:=s.heap.update a (Obj.mapSeq (· ++ ws)),toks:=s.toks }):=
 .of_wp λ prog w A R s ⟨ha,hb,h⟩=>by
  obtain⟨hp,g,d,tk,os⟩:=s;have e1:=idx_int;have e2:=AutoSeq1.sub_tuple_tuple;have e3:=AutoSeq1.sub_list_list;have e4:=AutoSeq1.sub_tuple_list;have e5:=AutoSeq1.sub_list_tuple;have hz:(us++ws).size<=sizeLine+1:=by rw[Array.size_append];exact h2
  wp_walk using (O8 ha rfl (hz:=h1) (_hz':=hz)),wpAny_loadPart' ha,wpAny_loadPart' hb
  exact⟨_,rfl,h⟩
section
variable {X:Cx}
def Kh (K:PySem.W.Frag):V->List V->Hp->VK->Prop:=λ x vs H Q=>∃ l b xs zs,x=.ref l/\vs=[.ref b]/\H l=some (.lst xs)/\dR K H b zs/\xs.length+zs.length<=sizeLine/\Q .bJ (upd H l (.lst (xs++zs)))
def zg:Jc X "list.extend" (Kh X.K):=by
 intro pins s σ H x vs v us Q I rx rv h;obtain⟨l,b,xs,zs,rfl,rfl,hH,hB,hz,q⟩:=h;cases rx;obtain⟨u,rfl,ru⟩:=rv.one;cases ru;obtain⟨z,its,n,r,hl,e⟩:=I.El hH;obtain⟨its2,r2,⟨⟨c2,d2,k2,s2⟩,n2,e2,c2',d2',k2'⟩,_⟩:=I.list hB;have hl2:=r2.length;simp only at c2' d2' k2';subst c2' d2' k2';have hsz:its.toArray.size+its2.toArray.size<=sizeLine:=by rw[MN,MN];omega
 have hlong:¬ (!its.toArray.isEmpty&&Builtin.List.listTooLong (its.toArray.size+its2.toArray.size))=true:=by
  rw[BB hsz,Bool.and_false];exact MH
 refine Qv F.slot_list_extend ⟨_,e,rfl⟩ F.entry_list_extend (F.args_list_extend_2 _ _) (CD l its.toArray n b its2.toArray n2 none s2 hlong (by rw[MN];omega) (by omega)) ⟨e,e2,?_⟩;refine⟨.bJ,_,I.Er (its':=its++its2) hH e (by simp) (r.append r2) ?_,rfl,q⟩;rw[MY];omega
end
end L2
namespace DL
open PySem PySem.Spec PyProof.Rows L2
section
variable {K:PySem.W.Frag}{Y:XY}{H0 B0 B H:Hp}{σ:L2.St}{τ:SD}{P:List Addr}{F:Addr->Prop}{X:Cx}{pos:Pos}{e:Expr}{fe:SD->Res D}
def CC (i:Nat)(xs:List D)(τ:SD):D->Fl
 |.lst _ ys=>if l7 ys=true/\xs.length+ys.length<=16777216 then .nx (τ.set i (some (.lst .own (xs++ys)))) else .bad
 |_=>.bad
def vI (i:Nat)(f:SD->Res D)(τ:SD):Fl:=match dI τ i with
 |some xs=>(f τ).kc τ (CC i xs τ)
 |none=>.bad
def Ii (i:Nat){x:Str}{p1 apos cpos:Pos}(he:PE X e (tM X.K Y fe))(hN:X.N[i]?=some x:=by rfl)(hv:wR X.env.scope x:=by first|exact Or.inl rfl|exact Or.inr (Or.inl rfl)|exact Or.inr (Or.inr rfl))(hd:(x == ("__debug__" : Str))=false:=by decide)(hcd:(x == ("__classdict__" : Str))=false:=by decide)
  (hbase:attributeBase (.Name x p1) "extend" X.env (eval (.Name x p1) X.env)=eval (.Name x p1) X.env:=by rfl)
  (hfew:((backTo cpos (starEach [e] X.env)).all (λ x=>!x.1)&&(backToKw cpos (keywordEach [] X.env)).all (λ x=>x.1.isSome)
   && decide ([e].length+([]:List Keyword).length+(if ([]:List Keyword).isEmpty then 0 else 1)<30))=true:=by rfl)
  (hline:(apos.endLine == cpos.line)=true:=by rfl) (hs:starEach [e] X.env=(false,eval e X.env)::starEach [] X.env:=by rfl) (hplain:(backTo cpos (starEach [] X.env)).any (·.1)=false:=by rfl)
  (hsw:swapsWith (.Call (.Attribute (.Name x p1) "extend" apos) [e] [] cpos) none pos.line X.env=pure false:=by rfl) :
  PS X (.Expr (.Call (.Attribute (.Name x p1) "extend" apos) [e] [] cpos) pos) (kj X.K Y (vI i fe)):=by
 refine PS.imp (kX (yC Ob PySem.F.slot_list_extend PySem.F.type_list_extend zg (gP hN hv hd hcd) (gm he jC hs) hbase hfew hline hs hplain) hsw) λ E σ H hq=>ex7 hq λ H0 B0 B τ P I h=>?_;unfold vI at h;cases z:dI τ i with
 |none=>rw[z]at h;exact h.elim
 | some xs =>
  rw[z]at h;have hi:=ip z;obtain⟨a,vs,ea,ha,hl⟩:=I.listAt hi;refine⟨.ref a,ea,.inl ⟨rfl,vs,dR.of ha⟩,mS I h λ d v H1 B1 fp _ I1 s1 b1 r1 k1 h1=>?_⟩;have ha1:=s1 a _ ha;unfold CC at h1;split at h1
  ·rename_i ys _;split at h1
   ·rename_i hc;obtain⟨b,ws,g,rfl,q,l,s⟩:=r1.lst I1;have hl2:=l.length;refine⟨a,b,vs,ws,rfl,rfl,ha1,q,by rw[<-hl,<-hl2,NH];exact hc.2,?_⟩;obtain⟨_,rl3⟩:=ak.qh (B':=B1) (S':=No) (mR.refl H1) hc.1 l;obtain⟨P',I'⟩:=I1.B9 (xs':=xs++ys) (vs':=vs++ws) (gp:=[]) hi ea fM.nil (λ g _ rl=>⟨g++[],rl.append rl3,λ b m=>by rw[Nh]at m;exact .inl m,λ nf _=>by rw[Nh];exact nf⟩) ha1;exact h1 B1 _ σ P' I'
   ·exact h1.elim
  ·exact h1.elim
end
section
variable {K:PySem.W.Frag}{Y:XY}{H0 B0 B H:Hp}{σ:L2.St}{τ:SD}{P:List Addr}{F:Addr->Prop}{X:Cx}{pos:Pos}{e:Expr}{fe:SD->Res D}
def CF (i:Nat)(xs:List D)(τ:SD):D->Fl
 |.lst _ ys=>if av ys=false/\bz ys=false/\xs.length+ys.length<=16777216 then .nx (τ.set i (some (.lst .own (xs++ys)))) else .bad
 |_=>.bad
def oN (i:Nat)(f:SD->Res D)(τ:SD):Fl:=match dI τ i with
 |some xs=>(f τ).kc τ (CF i xs τ)
 |none=>.bad
def Ij (i:Nat){x:Str}{p1 apos cpos:Pos}(he:PE X e (tM X.K Y fe))(hN:X.N[i]?=some x:=by rfl)(hv:wR X.env.scope x:=by first|exact Or.inl rfl|exact Or.inr (Or.inl rfl)|exact Or.inr (Or.inr rfl))(hd:(x == ("__debug__" : Str))=false:=by decide)(hcd:(x == ("__classdict__" : Str))=false:=by decide)
  (hbase:attributeBase (.Name x p1) "extend" X.env (eval (.Name x p1) X.env)=eval (.Name x p1) X.env:=by rfl)
  (hfew:((backTo cpos (starEach [e] X.env)).all (λ x=>!x.1)&&(backToKw cpos (keywordEach [] X.env)).all (λ x=>x.1.isSome)
   && decide ([e].length+([]:List Keyword).length+(if ([]:List Keyword).isEmpty then 0 else 1)<30))=true:=by rfl)
  (hline:(apos.endLine == cpos.line)=true:=by rfl) (hs:starEach [e] X.env=(false,eval e X.env)::starEach [] X.env:=by rfl) (hplain:(backTo cpos (starEach [] X.env)).any (·.1)=false:=by rfl)
  (hsw:swapsWith (.Call (.Attribute (.Name x p1) "extend" apos) [e] [] cpos) none pos.line X.env=pure false:=by rfl) :
  PS X (.Expr (.Call (.Attribute (.Name x p1) "extend" apos) [e] [] cpos) pos) (kj X.K Y (oN i fe)):=by
 refine PS.imp (kX (yC Ob PySem.F.slot_list_extend PySem.F.type_list_extend zg (gP hN hv hd hcd) (gm he jC hs) hbase hfew hline hs hplain) hsw) λ E σ H hq=>ex7 hq λ H0 B0 B τ P I h=>?_;unfold oN at h;cases z:dI τ i with
 |none=>rw[z]at h;exact h.elim
 | some xs =>
  rw[z]at h;have hi:=ip z;obtain⟨a,vs,ea,ha,hl⟩:=I.listAt hi;refine⟨.ref a,ea,.inl ⟨rfl,vs,dR.of ha⟩,mS I h λ d v H1 B1 fp _ I1 s1 b1 r1 k1 h1=>?_⟩;have ha1:=s1 a _ ha;unfold CF at h1;split at h1
  ·rename_i ys _;split at h1
   ·rename_i hc;obtain⟨b,ws,g,rfl,q,l,s⟩:=r1.lst I1;have hl2:=l.length;have eg:=ak.noOwn hc.2.1 l;subst eg;refine⟨a,b,vs,ws,rfl,rfl,ha1,q,by rw[<-hl,<-hl2,NH];exact hc.2.2,?_⟩;have rl3:=l.gY hc.1;obtain⟨P',I'⟩:=I1.B9 (xs':=xs++ys) (vs':=vs++ws) (gp:=[]) hi ea fM.nil (λ g _ rl=>⟨g++[],rl.append rl3,λ b m=>by rw[Nh]at m;exact .inl m,λ nf _=>by rw[Nh];exact nf⟩) ha1;exact h1 B1 _ σ P' I'
   ·exact h1.elim
  ·exact h1.elim
end
end DL
namespace HT
open PySem PySem.Spec PyProof.Rows
section
variable {prog:Program}{w:World}{A:Around}{E:Value->Shared->Prop}{s:Shared}
def E9 {t sl:Addr}{items:Array Value}{vl vu:Value}{lo hi:Option Int}{Q:Value->Shared->Prop}(hs:s.heap.IsSliceOf sl vl vu .none)(ht:IsTup s.heap t items)(pl:IsPart vl lo)(pu:IsPart vu hi)
  (h0:eS items.size 0 lo=0) (h1:eS items.size items.size hi=items.size) (h:Q (.ref t) s):wpAny (model prog w) A (getItem (.ref t) (.ref sl)) Q E s:=by
 have ty:s.TypeIs (.ref sl) "slice" :=by
  obtain⟨o,h1,h2,_⟩:=id hs;exact⟨o,h1,h2⟩
 unfold getItem
 try with_reducible refine Od ?_
 first|refine My (MB ?_)|skip
 refine My (wpAny_sequenceKey ht.typeIs (by decide) (My (Nf (name:=Str.ofString "__getitem__") ht.typeIs Oj (Nd Oj ht.typeIs entry_tuple_getitem ?_ (args_tuple_getitem _ _)))));show wpAny _ _ (Builtin.Tuple.tupleItemsOf (.ref t) >>= _) _ _ s;refine My (tupleItemsOf_ ht (My (O5 ty ?_)));rw[MO (by decide)];refine My (jg hs pl pu ?_);rw[h0,h1,Nat.sub_zero];have e:((((0:Nat):Int) == 0&&(1:Int) == 1&&items.size == items.size)=true):=by
  rw[Pn items.size];rfl
 show wpAny _ _ (if ((((0:Nat):Int) == 0&&(1:Int) == 1&&items.size == items.size)=true) then _ else _) _ _ s;rw[MO e];unfold Builtin.Tuple.tupleIsExact;refine My (My (O5 ht.typeIs (MB ?_)));rw[MO (by decide)];exact My (O6 (MB ⟨_,rfl,MB h⟩))
end
end HT
namespace L2
open PySem PySem.Spec PyProof.Rows
section
variable {X:Cx}
def LP (K:PySem.W.Frag):V->Option Int->Option Int->Hp->VK->Prop:=λ x lo hi H Q=>∃ a xs,x=.ref a/\jd K H a xs/\HT.eS xs.length 0 lo=0/\HT.eS xs.length xs.length hi=xs.length/\Q (.ref a) H
def Fb:D4 X (LP X.K):=by
 intro pins s σ H x v vl vu lo hi sl Q I rx hs pl pu h;obtain⟨a,xs,rfl,hx,h0,h1,q⟩:=h;cases rx;obtain⟨its,r,ht,hz⟩:=I.tuple hx;have hlen:its.toArray.size=xs.length:=by rw[MN];exact r.length.symm
 exact⟨"tuple",_,PyProof.Rows.slot_tuple_getitem.lookup,ht.typeIs,HT.E9 hs ht pl pu (by rw[hlen];exact h0) (by rw[hlen];exact h1) ⟨.ref a,H,I,rfl,q⟩⟩
end
end L2
namespace DL
open PySem PySem.Spec PyProof.Rows L2
section
variable {K:PySem.W.Frag}{Y:XY}{X:Cx}{pos:Pos}{e:Expr}{fe:SD->Res D}
def vJ (d:D)(lo hi:Option Int):Res D:=match d with
 |.tup xs=>if HT.eS xs.length 0 lo=0/\HT.eS xs.length xs.length hi=xs.length then .ok (.tup xs) else .ok (.tup (cut xs lo hi))
 |_=>.bad
def vK (f:SD->Res D)(lo hi:SD->Res (Option Int))(τ:SD):Res D:=(f τ).bind λ d=>(lo τ).bind λ l=>(hi τ).bind λ u=>vJ d l u
def CG {lo hi:Option Expr}{fl fh:SD->Res (Option Int)}{p2:Pos}(he:PE X e (tM X.K Y fe))(hl:PO X lo (Je X.K Y fl))(hu:PO X hi (Je X.K Y fh)):PE X (.Subscript e (.Slice lo hi none p2) pos) (tM X.K Y (vK fe fl fh)):=by
 refine PE.imp (u6 (D4.or Fb BC) he hl hu) λ σ H Q hq=>ex8 hq λ H0 B0 B τ P F I h=>?_;refine tM.seq I h λ d v H1 B1 fp _ I1 s1 b1 r1 k1 h1=>?_;refine⟨H0,B0,B1,τ,P,_,I1.hold k1,?_⟩;cases z:fl τ with
 |fY C=>rw[z]at h1;exact jD.later h1 (aw.refl _) (aw.refl _) λ a x=>.inr x
 |bad=>rw[z]at h1;exact h1
 | ok l =>
  rw[z]at h1;intro H2 B2 I2 s2 b2;refine⟨H0,B0,B2,τ,P,_,I2,?_⟩;cases y:fh τ with
  |fY C=>rw[y]at h1;exact jD.later h1 s2 b2 λ a x=>.inr x
  |bad=>rw[y]at h1;exact h1
  | ok u =>
   rw[y]at h1;intro H3 B3 I3 s3 b3;have I4:=I3.nP (F':=F) λ a x=>.inr x;have k4:=k1.Gm (s2.trans s3) I3;have r4:=r1.mono (s2.trans s3) (b2.trans b3) λ _ x=>x;have h4:Goal X.K Y H0 B0 B3 H3 σ τ P F Q (vJ d l u):=Goal.later h1 (s2.trans s3) (b2.trans b3);unfold vJ at h4;split at h4
   ·have r5:=r4;obtain⟨a,vs,rfl,q,l'⟩:=r4.tp;obtain⟨g',l2,s2⟩:=l'.cut l u;split at h4
    ·rename_i hc;rw[l'.length]at hc;exact .inl ⟨a,vs,rfl,q,hc.1,hc.2,Out.pZ h4 I4 r5 k4⟩
    ·rename_i hc;rw[l'.length]at hc;exact .inr ⟨a,vs,rfl,q,hc,λ p hp=>Out.BU h4 I4 l2 (k4.sub s2) hp⟩
   ·exact h4.elim
end
end DL
namespace L2
open PySem PySem.Spec PyProof.Rows
def LQ (a:Addr)(kvs:List (Key×V))(ep:Nat):It:=
 ⟨λ i H=>H a=some (.dK kvs ep)/\i<kvs.length,λ i H x H'=>H'=H/\∃ p,kvs[i]?=some p/\x=kV p.1,λ i H=>H a=some (.dK kvs ep)/\kvs.length<=i⟩
def Kl {P:Program}{w:World}{k:Key}{u:Value}(h:(cT P w).is k u=true):RelV (kV k) u:=by
 rcases cM (show pP k u=true from h) with ⟨i,t,rfl,rfl⟩|⟨x,t,rfl,rfl⟩
 ·exact⟨t,rfl⟩
 ·exact⟨t,rfl⟩
def CI:∀ {kvs:List (Key×V)}{vs:List (Key×Value)},KV kvs vs->∀ {i:Nat}{p:Key×V},kvs[i]?=some p->∃ v,vs[i]?=some (p.1,v)
 |_,_,.nil,i,p,h=>by simp at h
 |_,_,.cons (b:=q) r t,0,p,h=>by cases h;exact⟨q.2,by simp[r.1]⟩
 |_,_,.cons r t,i+1,p,h=>CI t (i:=i) h
def AF {P:Program}{w:World}{K:PySem.W.Frag}{tg:Expr}(a it:Addr)(kvs:List (Key×V))(ep:Nat):Turn P w K tg (LQ a kvs ep) [it] it (λ i h=>h.IsKeyIter it a i kvs.length ep) where
 mem:=by simp
 obj:=λ i h st b hb=>by
  have e:b=it:=by simpa using hb
  subst e;obtain⟨o,e,c,d⟩:=st;exact⟨o,e,λ v z=>by rw[d]at z;cases z⟩
 keep:=λ i h h' st k=>by
  obtain⟨o,e,c,d⟩:=st;exact⟨o,k it (by simp) o e,c,d⟩
 item:=by
  intro X hP hw hK hc i pins s σ H E I hf st hg;subst hP hw hK;obtain⟨ha,hi⟩:=hg;obtain⟨z,y,vs,r,dd⟩:=(show ck X.prog X.w H s.heap a (.dK kvs ep) from I.hok a _ ha);have hl:kvs.length=vs.length:=OB r;obtain⟨v,hv⟩:=CI r (MA hi);obtain⟨f0,f1,f2,f3,f4,f5⟩:=hf it (by simp);rw[hl]at st;refine wpAny_pyNext_dict_item st dd hv λ key h' hk st' sb=>?_;have I1:Inv X pins σ H { s with heap:=h' }:=I.turned (t':=s.toks) (λ b o hb e=>(sb.2 b hb).trans e) f0 f1 f3 f4 f5;obtain⟨o,e,c,d⟩:=id st';rw[<-hl]at st';exact⟨key,rfl,yx (s:={ s with heap:=h' }) e c d (by decide) ⟨kV kvs[i].1,H,I1,Kl hk,⟨rfl,_,MA hi,rfl⟩,st',λ b hb=>(hf b hb).1⟩⟩
 done:=by
  intro X hP hw hK hc i pins s σ H E I hf st hg;subst hP hw hK;obtain⟨ha,hi⟩:=hg;obtain⟨z,y,vs,r,dd⟩:=(show ck X.prog X.w H s.heap a (.dK kvs ep) from I.hok a _ ha);have hl:kvs.length=vs.length:=OB r;obtain⟨f0,f1,f2,f3,f4,f5⟩:=hf it (by simp);rw[hl]at st;exact wpAny_pyNext_dict_end (I.ok.hd hc) st dd (NB (by omega)) λ h' eb=>⟨rfl,I.turned (t':=s.toks) (λ b o hb e=>eb b o hb e) f0 f1 f3 f4 f5⟩
 self:=λ _ _ _ _ _ st h=>wpAny_pyIter_keyiter st h
section
variable {X:Cx}{tg:Expr}
def Fc {l:Expr}{tl:TE}(hl:PE X l tl):PI X tg l (λ σ H R=>tl σ H λ x H1=>∃ a kvs ep,x=.ref a/\H1 a=some (.dK kvs ep)/\R (LQ a kvs ep) H1):=by
 intro pins s σ H R I h;refine eB (hl pins s σ H _ I h) λ v s1 ⟨x,H1,I1,r1,a,kvs,ep,e,ha,q⟩=>?_;subst e;cases r1;obtain⟨z,y,vs,r,dd⟩:=(show ck X.prog X.w H1 s1.heap a (.dK kvs ep) from I1.hok a _ ha);have hl:kvs.length=vs.length:=OB r;refine wpAny_pyIter_dict y dd ?_;refine⟨s1.heap.objs.size,[s1.heap.objs.size],_,_,H1,rfl,I1.kept (t':=s1.toks) λ b o e=>Mz _ e,AF a _ kvs ep,⟨_,MI _ rfl,rfl,by rw[hl];rfl⟩,λ b hb=>?_,q⟩;have e:b=s1.heap.objs.size:=by simpa using hb
 subst e;exact I1.rf (ML _) (I1.hok.fresh (ML _))
end
end L2
namespace DL
open PySem PySem.Spec PyProof.Rows L2
def zh:KT->D
 |.inl (.inl i)=>.int i
 |.inl (.inr x)=>.str x
 |.inr _=>.bJ
def xK (ks:List KT):aM (ks.map zh)=true:=bP λ d m=>by
 obtain⟨k,_,rfl⟩:=MM.mp m
 match k with
 |.inl (.inl i)=>rfl|.inl (.inr x)=>rfl|.inr _=>rfl
def CJ:D->Res (Bool×List D)
 |.dct t false ks vs=>.ok ((D.dct t false ks vs).aA,ks.map zh)
 |_=>.bad
def oO (f:SD->Res D)(τ:SD):Res (Bool×List D):=(f τ).bind CJ
section
variable {K:PySem.W.Frag}{Y:XY}{B H:Hp}{X:Cx}{e:Expr}{fe:SD->Res D}
def CH {a:Addr}{kvs:List (Key×V)}{ep:Nat}(hb:B a=some (.dK kvs ep)):EO K (LQ a kvs ep) ((kvs.map λ p=>(Sum.inl p.1:KT)).map zh) B H where
 go:=λ B' H' i d s1 s2 im e=>by
  have:=(MF.mp e).1;exact⟨s2 _ _ (s1 _ _ hb),by simpa using this⟩
 wQ:=λ B' H' i d x H'' s1 s2 im e y=>by
  obtain⟨rfl,p,hp,rfl⟩:=y;rw[MR,MR,hp]at e;cases e;refine⟨aw.refl _,?_⟩;obtain⟨k,v⟩:=p
  match k with
  |.inl i=>exact⟨rfl,rfl⟩| .inr x=>exact⟨rfl,rfl⟩
 stop:=λ B' H' s1 s2 im=>⟨s2 _ _ (s1 _ _ hb),by rw[MC,MC];exact ML _⟩
def Fd {tg:Expr}(he:PE X e (tM X.K Y fe)):PI X tg e (Bb X.K Y (oO fe)):=by
 refine PI.imp (Fc he) λ σ H R hq=>ex8 hq λ H0 B0 B τ P F I h=>⟨H0,B0,B,τ,P,F,I,?_⟩;cases z:fe τ with
 |fY C=>simp only[oO,z,Res.jl]at h;exact h|bad=>simp only[oO,z,Res.jk]at h
 | ok d =>
  simp only[oO,z,Res.aG]at h;intro v H1 B1 fp I1 s1 b1 r1 k1;cases d with
  | dct t k ks xs =>
   cases k with
   |true=>exact h.elim
   | false =>
    simp only[CJ]at h;obtain⟨a,vs,g,rfl,q,_⟩:=r1.dc I1;rcases q with ⟨_,kvs,ep,ha,hks,hvs⟩|⟨q0,_⟩
    ·refine⟨a,kvs,ep,rfl,ha,h _ H1 _ fp I1 s1 b1 k1 λ Bx sB sH h1 h2=>?_⟩;obtain⟨a',ws,ea,q',rl,_⟩:Rep X.K Bx No H1 (D.dct .aq false ks (aD xs)) (.ref a) []:=iP r1 sB h1 h2;cases ea;rw[cg _ (xK ks),hks];rcases q' with ⟨_,kvs',ep',hb,_⟩|⟨q0,_⟩
     ·have e1:=sH _ _ hb;rw[ha]at e1;cases e1;exact CH hb
     ·cases q0
    ·cases q0
  |_=>exact h.elim
end
end DL
namespace DI
open PySem
variable {d it:Addr}{es:Array DictEntry}{ep i:Nat}{o:Obj}{x y:Value}{Q:Value->Shared->Prop}
variable {prog:Program}{w:World}{A:Around}{E:Value->Shared->Prop}{s:Shared}
def xN{n:Nat}{u v:Value}(ht:IsItemIter s.heap it d i n ep x y)
  (h:∀ h',IsItemIterOut h' it d i n ep u v s.heap.objs.size->h'.get? s.heap.objs.size=some { cls:=.type "tuple",data:=.seq #[u,v] }->(∀ b o,b≠it->s.heap.get? b=some o->h'.get? b=some o)->Q (.ref s.heap.objs.size) { s with heap:=h' }) :
  wpAny (model prog w) A (Builtin.Dict_items.pairFromOwner (.ref it) 6 u v) Q E s:=by
 unfold Builtin.Dict_items.pairFromOwner Builtin.Dict_items.ownedTupleIsFree;have lt:it<s.heap.objs.size:=MJ ht;refine My (Qz ?_);generalize hk:s.heap.push { cls:=.type "tuple",data:=.seq #[u,v] }=k;have tk:k.get? s.heap.objs.size=some { cls:=.type "tuple",data:=.seq #[u,v] }:=by rw[<-hk];exact MI _ rfl
 have ks:∀ b o,s.heap.get? b=some o->k.get? b=some o:=λ b o e=>by rw[<-hk];exact Mz _ e
 have r0:IsItemIter k it d i n ep x y:=ks _ _ ht;refine My (My (Nx r0 rfl (x:=.none) rfl (MB ?_)));simp only[OG];refine My (Nx r0 rfl (x:=x) rfl (My (Nx r0 rfl (x:=y) rfl (My ?_))));refine Na r0 (by simp) λ k1 r1 q1=>My (Na r1 (by simp) λ k2 r2 q2=>My (Na r2 (by simp) λ k3 r3 q3=>My (Na r3 (by simp) λ k4 r4 q4=>?_)));have ex:∀ b o,b≠it->k.get? b=some o->k4.get? b=some o:=λ b o nb e=>OY q4 b o nb (OY q3 b o nb (OY q2 b o nb (OY q1 b o nb e)));exact My (QJ (MB (h k4 r4 (ex _ _ (Ox lt) tk) λ b o nb e=>ex b o nb (ks b o e))))
def xM{Q:Option Value->Shared->Prop}(hi:i<es.size)(ho:s.heap.get? d=some o)(hdat:o.data=.dict es ep)(ht:IsItemIter s.heap it d i es.size ep x y)
  (h:∀ h',IsItemIterOut h' it d (i+1) es.size ep es[i].key es[i].val s.heap.objs.size->h'.get? s.heap.objs.size=some { cls:=.type "tuple",data:=.seq #[es[i].key,es[i].val] } ->
   (∀ b o,b≠it->s.heap.get? b=some o->h'.get? b=some o)->Q (some (.ref s.heap.objs.size)) { s with heap:=h' }) :
  wpAny (model prog w) A (pyNext (.ref it)) Q E s:=by
 have hT:s.TypeIs (.ref it) "dict_itemiterator" :=⟨_,ht,rfl⟩;obtain⟨cl,dd,dt,sl⟩:=o;simp only at hdat;subst hdat;have hw:Builtin.Dict_items.ownsTuple "dict_itemiterator" = true:=by decide
 have n0:¬ ((i:Int)<0):=by omega
 have e0:es[((i:Int)).toNat]?=some es[i]:=by rw[Nj];exact MV hi
 unfold pyNext;refine My (Oq (Nf hT Ot (Nd Ot hT F.entry_dict_itemiterator_next ?_ (P5 _))))
 wp_walk using NK hT,NZ hT
 rw[MP (by simp)]
 wp_walk using NK hT,NZ hT
 simp only[e0];refine My (My (NK hT (MB (My (NZ hT (My ?_))))));refine Na ht (by rw[hw];simp) λ k1 a1 b1=>?_;replace b1:Heap.SameBut it s.heap k1:=b1;have f1:IsItemIter k1 it d (i+1) es.size ep x y:=by
  have e:((i+1:Nat):Int)=(i:Int)+1:=by omega
  unfold IsItemIter;rw[e];exact a1
 have T1:Shared.TypeIs ⟨k1,s.gens,s.drawn,s.toks,s.os⟩ (.ref it) "dict_itemiterator" :=⟨_,f1,rfl⟩;clear a1;have z1:k1.objs.size=s.heap.objs.size:=b1.1;have lt:it<s.heap.objs.size:=MJ ht;refine My (Od (My (NZ T1 (My (NZ T1 ?_)))));rw[MP (by decide)];refine xN f1 λ k2 p1 p2 p3=>MB ⟨_,rfl,MB ?_⟩;rw[z1]at p1 p2 ⊢;exact h k2 p1 p2 λ b o nb e=>p3 b o nb (OY b1 b o nb e)
def AG{Q:Option Value->Shared->Prop}(hh:A.handled=none)(hi:es.size<=i)(ho:s.heap.get? d=some o)(hdat:o.data=.dict es ep)(ht:IsItemIter s.heap it d i es.size ep x y)
  (h:∀ h',Heap.ExtBut it s.heap h'->Q none { s with heap:=h' }):wpAny (model prog w) A (pyNext (.ref it)) Q E s:=by
 have hT:s.TypeIs (.ref it) "dict_itemiterator" :=⟨_,ht,rfl⟩;obtain⟨cl,dd,dt,sl⟩:=o;simp only at hdat;subst hdat;have e0:es[((i:Int)).toNat]?=none:=by rw[Nj];exact OA hi
 unfold pyNext;refine My (Oq (Nf hT Ot (Nd Ot hT F.entry_dict_itemiterator_next ?_ (P5 _))))
 wp_walk using NK hT,NZ hT
 rw[MP (by simp)]
 wp_walk using NK hT,NZ hT
 simp only[e0];refine My (My (NK hT (MB (My ?_))));refine Na ht (by rw[show Builtin.Dict_items.ownsTuple "dict_itemiterator" = true by decide];simp) λ k1 r1 q1=>?_;replace q1:Heap.SameBut it s.heap k1:=q1
 wp_walk
 unfold raiseNew;refine My (QO ?_);rw[show A.in1.handled=none from hh];refine My (MB (wpAny_throw ?_));refine My (O1 (T:="StopIteration") (b:=true) ⟨_,MI _ rfl,rfl⟩ isSubtype_stop (MB ?_));exact h _ ((q1.extBut.push _).push _)
def AH(hn:(d == sysModules)=false)(ho:s.heap.get? d=some o)(hx:o.ExactDict)
  (h:Q (.ref s.heap.objs.size) { s with heap:=s.heap.push { cls:=.type "dict_items",data:=.fields #[.ref d] } }):wpAny (model prog w) A (call (.builtin "dict.items") [.ref d]) Q E s:=by
 have hT:s.TypeIs (.ref d) "dict" :=⟨o,ho,hx.1⟩;refine Nd F.slot_dict_items hT F.entry_dict_items ?_ (F.args_dict_items_1 _)
 wp_walk
 rw[MP (by rw[hx.1];decide)]
 wp_walk
 exact⟨_,rfl,h⟩
def AJ {v:Addr}(hv:s.heap.IsItemsView v d)(ho:s.heap.get? d=some o)(hdat:o.data=.dict es ep)
  (h:∀ h',IsItemIter h' s.heap.objs.size d 0 es.size ep .none .none->(∀ b o,s.heap.get? b=some o->h'.get? b=some o)->Q (.ref s.heap.objs.size) { s with heap:=h' }):wpAny (model prog w) A (pyIter (.ref v)) Q E s:=by
 obtain⟨⟨c1,d1,t1,l1⟩,h1,h2,h3⟩:=id hv;obtain⟨c2,d2,t2,l2⟩:=o;simp only at h2 h3 hdat;subst h2 h3 hdat;refine PX hv.typeIs F.slot_dict_items_iter (Nd F.slot_dict_items_iter hv.typeIs F.entry_dict_items_iter ?_ (F.args_dict_items_iter_1 _))
 wp_walk
 exact⟨_,rfl,"dict_itemiterator",_,⟨_,MI _ rfl,rfl⟩,F.slot_dict_itemiterator_next.lookup,h _ (MI _ rfl) λ b o e=>Mz _ e⟩
def entry_self:entryFor table "dict_itemiterator.__iter__" = some Builtin.«dict_keyiterator.__iter__» :=by
 first|exact entryFor_alias (id':="dict_keyiterator.__iter__") (by kernel_rfl) rfl (by decide +kernel) (by kernel_rfl)|exact entryFor_of_tree (by kernel_rfl)
def AI{n:Nat}(ht:IsItemIter s.heap it d i n ep x y)(h:Q (.ref it) s):wpAny (model prog w) A (pyIter (.ref it)) Q E s:=by
 have hT:s.TypeIs (.ref it) "dict_itemiterator" :=⟨_,ht,rfl⟩;refine PX hT F.slot_dict_itemiterator_iter (Nd F.slot_dict_itemiterator_iter hT entry_self ?_ (F.args_dict_itemiterator_iter_1 _))
 wp_walk
 exact⟨_,rfl,"dict_itemiterator",_,hT,F.slot_dict_itemiterator_next.lookup,h⟩
end DI
namespace L2
open PySem PySem.Spec PyProof.Rows
def LR (a:Addr)(kvs:List (List Key×V))(ep:Nat):It:=
 ⟨λ i H=>H a=some (.dT kvs ep)/\i<kvs.length,λ i H x H'=>∃ p b q,kvs[i]?=some q/\H b=some (.tup (q.1.map kV))/\H p=none/\x=.ref p/\H'=upd H p (.tup [.ref b,q.2]),λ i H=>H a=some (.dT kvs ep)/\kvs.length<=i⟩
def sI {α β:Type}{R:α->β->Prop}:∀ {l:List α}{m:List β},Paired R l m->∀ {i:Nat},i<l.length->∃ p q,l[i]?=some p/\m[i]?=some q/\R p q
 |_,_,.nil,i,h=>absurd h (OM _)
 |_,_,.cons r t,0,h=>⟨_,_,rfl,rfl,r⟩
 |_,_,.cons r t,i+1,h=>sI t (i:=i) (by simpa using h)
def xO {P:Program}{w:World}{K:PySem.W.Frag}{elts:List Expr}{x1:Nat}{tp:Pos}(a it:Addr)(kvs:List (List Key×V))(ep:Nat):Turn P w K (.Tuple elts x1 tp) (LR a kvs ep) [it] it (λ i h=>∃ x y,IsItemIter h it a i kvs.length ep x y) where
 mem:=by simp
 obj:=λ i h st b hb=>by
  have e:b=it:=by simpa using hb
  subst e;obtain⟨x,y,q⟩:=st;exact⟨_,q,λ v z=>by cases z⟩
 keep:=λ i h h' st k=>by
  obtain⟨x,y,q⟩:=st;exact⟨x,y,k it (by simp) _ q⟩
 item:=by
  intro X hP hw hK hc i pins s σ H E I hf st hg;obtain⟨ha,hi⟩:=hg;obtain⟨x,y,st⟩:=st;subst hP hw hK;obtain⟨z,ns,xs,r,o,es,ho,hx,hd,he,_⟩:=(show ck X.prog X.w H s.heap a (.dT kvs ep) from I.hok a _ ha);have hl:kvs.length=xs.length:=OB r;have hs:es.size=kvs.length:=by rw[<-M8,he,MC,hl]
  have hi':i<es.size:=by omega
  obtain⟨f0,f1,f2,f3,f4,f5⟩:=hf it (by simp);obtain⟨q,u,hq,hu,e1,hb,rv⟩:=sI r hi;have hes:es[i]=entryOfKey (tupleKind (cT X.prog X.w)) u:=by
   have e2:es[i]?=some (entryOfKey (tupleKind (cT X.prog X.w)) u):=by rw[<-Nr,he,MR,hu];rfl
   rw[MV hi']at e2;exact Nq e2
  rw[<-hs]at st;have lt:it<s.heap.objs.size:=MJ st;refine DI.xM hi' ho hd st λ h1 k1 k2 k3=>⟨_,rfl,wpAny_letOwnedTupleGo_items k1 λ h2 m1 m2=>?_⟩;have m2:Heap.SameBut it h1 h2:=m2;rw[hes]at k2 m1;have fr:H s.heap.objs.size=none:=I.fresh;have kp:∀ b o,b≠it->s.heap.get? b=some o->h2.get? b=some o:=λ b o nb e=>(m2.2 b nb).trans (k3 b o nb e);have tk:h2.get? s.heap.objs.size=some { cls:=.type "tuple",data:=.seq #[.ref u.2.1,u.2.2] }:=(m2.2 _ (Ox lt)).trans k2;have ok1:jA X.prog X.w H h2:=λ b o hb=>(I.hok b o hb).stay (λ c v hcb q=>kp c v (λ z=>by
    subst z;rcases hcb with z|z
    ·subst z;rw[f0]at hb;cases hb
    ·rw[f0]at z;cases z) q) (λ _ z=>z) λ _ _ z=>z
  have ok2:jA X.prog X.w (upd H s.heap.objs.size (.tup [.ref u.2.1,q.2])) h2:=tV ok1 fr ⟨by show 2<=sizeLine;decide,[.ref u.2.1,u.2.2],.cons rfl (.cons rv .nil),⟨_,tk⟩⟩;have I2:Inv X pins σ (upd H s.heap.objs.size (.tup [.ref u.2.1,q.2])) { s with heap:=h2 }:=by
   refine I.step (g':=s.gens) (d':=s.drawn) (ch:=[it]) (λ b hb=>?_) (λ b o _ _ hb q _=>kp b o (λ z=>hb (by simp[z])) q) (λ b o _ _ hb q _=>⟨o.slots,kp b o (λ z=>hb (by simp[z])) q⟩)
    (λ b o _ q n=>by rw[aU (M0 (MJ q))];exact n) (λ b o hb q=>⟨o,kp b o (λ z=>hb (by simp[z])) q⟩)
    (λ b ys q=>by rw[aU (bC q fr)];exact q) (λ b o v q=>by rw[aU (bC q fr)];exact q) (λ b ps q=>⟨#[],by rw[aU (bC q fr),PH];exact q⟩)
    (λ m hm=>hm.at λ o q=>kp _ o (NU f1) q) ok2 I.bare
   have z:b=it:=by simpa using hb
   subst z;exact⟨f3,f1,f4,f5⟩
  refine⟨.ref s.heap.objs.size,_,I2,rfl,⟨_,u.2.1,q,hq,hb,fr,rfl,rfl⟩,⟨.ref u.2.1,u.2.2,?_⟩,λ b hb=>?_⟩
  ·rw[<-hs];exact m1
  ·have z:b=it:=by simpa using hb
   subst z;rw[aU (M0 lt)];exact f0
 done:=by
  intro X hP hw hK hc i pins s σ H E I hf st hg;obtain⟨ha,hi⟩:=hg;obtain⟨x,y,st⟩:=st;subst hP hw hK;obtain⟨z,ns,xs,r,o,es,ho,hx,hd,he,_⟩:=(show ck X.prog X.w H s.heap a (.dT kvs ep) from I.hok a _ ha);have hl:kvs.length=xs.length:=OB r;have hs:es.size=kvs.length:=by rw[<-M8,he,MC,hl]
  obtain⟨f0,f1,f2,f3,f4,f5⟩:=hf it (by simp);rw[<-hs]at st;exact DI.AG (I.ok.hd hc) (by omega) ho hd st λ h' eb=>⟨rfl,I.turned (t':=s.toks) (λ b o hb e=>eb b o hb e) f0 f1 f3 f4 f5⟩
 self:=λ _ _ _ _ _ ⟨_,_,st⟩ h=>DI.AI st h
section
variable {X:Cx}{elts:List Expr}{x1:Nat}{tp apos cpos:Pos}
def CM {o:Expr}{to:TE}(ho:PE X o to)(hbase:attributeBase o "items" X.env (eval o X.env)=eval o X.env:=by rfl)(hline:(apos.endLine == cpos.line)=true:=by rfl) :
  PI X (.Tuple elts x1 tp) (.Call (.Attribute o "items" apos) [] [] cpos) (λ σ H R=>to σ H λ x H1=>∃ a kvs ep,x=.ref a/\H1 a=some (.dT kvs ep)/\R (LR a kvs ep) H1):=by
 intro pins s σ H R I h;refine wpAny_Call_method0_late hbase hline (eB (ho pins s σ H _ I h) λ v s1 ⟨x,H1,I1,r1,a,kvs,ep,e,ha,q⟩=>?_);subst e;cases r1;obtain⟨h1,h2⟩:=wY (T:="dict") I1 (show RelV (.ref a) (.ref a) from rfl) (.inr (.inr (.inl ⟨rfl,.inr ⟨kvs,ep,ha⟩⟩)));refine⟨"dict","dict.items",PySem.F.plainAttrs_dict,PySem.F.slot_dict_items,PySem.F.type_dict_items,h1,h2,Oz rfl (PySem.evalArgs_none ?_)⟩;obtain⟨z,ns,xs,r,o,es,hob,hx,hd,he,_⟩:=(show ck X.prog X.w H1 s1.heap a (.dT kvs ep) from I1.hok a _ ha);have hl:kvs.length=xs.length:=OB r;have hs:es.size=kvs.length:=by rw[<-M8,he,MC,hl]
 refine DI.AH ns hob hx ?_;refine DI.AJ (v:=s1.heap.objs.size) ⟨_,MI _ rfl,rfl,rfl⟩ (Mz _ hob) hd λ h' k1 k2=>?_;have I2:Inv X pins σ H1 { s1 with heap:=s1.heap.push { cls:=.type "dict_items",data:=.fields #[.ref a] } }:=I1.kept (t':=s1.toks) λ b o e=>Mz _ e;have I3:Inv X pins σ H1 { s1 with heap:=h' }:=I2.kept (t':=s1.toks) λ b o e=>k2 b o e;refine⟨_,[_],_,_,H1,rfl,I3,xO a _ kvs ep,⟨_,_,by rw[<-hs];exact k1⟩,λ b hb=>?_,q⟩;have e:=Nl.mp hb;subst e;exact I2.rf (ML _) (I2.hok.fresh (ML _))
end
end L2
namespace DL
open PySem PySem.Spec PyProof.Rows L2
def zj:Key->D|.inl i=>.int i|.inr x=>.str x
def zk:KT->D|.inr ks=>.tup (ks.map zj)|.inl _=>.bJ
def gR:List KT->List D->List D
 |k::ks,d::ds=>.tup [zk k,d]::gR ks ds
 |_,_=>[]
def CL:D->Res (Bool×List D)
 |.dct t true ks vs=>if aM vs=true then .ok ((D.dct t true ks vs).aA,gR ks vs) else .bad
 |_=>.bad
def kK (f:SD->Res D)(τ:SD):Res (Bool×List D):=(f τ).bind CL
section
variable {K:PySem.W.Frag}{Y:XY}{B H:Hp}{X:Cx}{e:Expr}{fe:SD->Res D}
def ql {S:Addr->Prop}:∀ (ks:List Key),ak K B S H (ks.map zj) (ks.map kV) []
 |[]=>⟨rfl,rfl⟩
 |.inl i::ks=>⟨_,_,[],[],rfl,⟨rfl,rfl⟩,ql ks,rfl⟩
 |.inr x::ks=>⟨_,_,[],[],rfl,⟨rfl,rfl⟩,ql ks,rfl⟩
def xP (ks:List Key):aM (ks.map zj)=true:=bP λ d m=>by
 obtain⟨k,_,rfl⟩:=MM.mp m;cases k<;>rfl
def xQ (k:KT):(zk k).pure=true:=by
 cases k with
 |inl k=>rfl|inr k=>exact xP k
def oQ:∀ (ks:List KT) (vs:List D),aM vs=true->aM (gR ks vs)=true
 |[],vs,_=>by cases vs<;>rfl
 |k::ks,[],_=>rfl
 | k::ks,d::ds,h=>by
  have h:(d.pure&&aM ds)=true:=h;rw[Nk]at h;show((zk k).pure&&(d.pure&&true)&&aM (gR ks ds))=true;rw[xQ,h.1,oQ ks ds h.2];rfl
def lq {S:Addr->Prop}:∀ {kvs:List (List Key×V)}{vs:List D}{f:List Addr},ak K B S H vs (kvs.map (·.2)) f->(gR (kvs.map λ p=>Sum.inr p.1) vs).length=kvs.length/\∀ {i:Nat}{d:D}{q:List Key×V},(gR (kvs.map λ p=>Sum.inr p.1) vs)[i]?=some d->kvs[i]?=some q->∃ x g,vs[i]?=some x/\d=.tup [.tup (q.1.map zj),x]/\Rep K B S H x q.2 g
 | [],vs,f,r=>by
  cases vs with
  |nil=>exact⟨rfl,λ h=>by simp[gR]at h⟩| cons v vs=>obtain⟨_,_,_,_,e,_⟩:=r;cases e
 |p::kvs,[],f,r=>by obtain⟨e,_⟩:=r;cases e
 | p::kvs,x::vs,f,r=>by
  obtain⟨v,w,f1,f2,e,r1,r2,rfl⟩:=r;rw[MU]at e;cases e;obtain⟨h1,h2⟩:=lq r2;refine⟨by rw[MU,gR,MQ,MQ,h1],λ {i d q} hd hq=>?_⟩;cases i with
  |zero=>cases hd;cases hq;exact⟨x,f1,rfl,rfl,r1⟩| succ i=>exact h2 (i:=i) hd hq
def AK {a:Addr}{kvs:List (List Key×V)}{ep:Nat}{vs:List D}(hb:B a=some (.dT kvs ep))(r:ak K B No H vs (kvs.map (·.2)) [])(hp:aM vs=true):EO K (LR a kvs ep) (gR (kvs.map λ p=>Sum.inr p.1) vs) B H where
 go:=λ B' H' i d s1 s2 im e=>by
  have:=(MF.mp e).1;rw[(lq r).1]at this;exact⟨s2 _ _ (s1 _ _ hb),this⟩
 wQ:=λ B' H' i d x H'' s1 s2 im e y=>by
  obtain⟨p,b,q,hq,hbt,hpn,rfl,rfl⟩:=y;obtain⟨x,g,hx,rfl,rx⟩:=(lq r).2 e hq;have sm:aw H' (upd H' p (.tup [.ref b,q.2])):=gC hpn;have px:x.pure=true:=rY hp x (Qj hx);have eg:=tW.1 x px rx;subst eg;refine⟨sm,p,_,rfl,bB,.ref b,[q.2],[],[],rfl,⟨b,_,rfl,sm _ _ hbt,ql _⟩,ak.one ((rx.stay s1 im rfl).mono sm (aw.refl _) λ _ x=>x),rfl⟩
 stop:=λ B' H' s1 s2 im=>⟨s2 _ _ (s1 _ _ hb),by rw[(lq r).1];exact ML _⟩
def CK {elts:List Expr}{x1:Nat}{tp apos cpos:Pos}(he:PE X e (tM X.K Y fe))(hbase:attributeBase e "items" X.env (eval e X.env)=eval e X.env:=by rfl)(hline:(apos.endLine == cpos.line)=true:=by rfl) :
  PI X (.Tuple elts x1 tp) (.Call (.Attribute e "items" apos) [] [] cpos) (Bb X.K Y (kK fe)):=by
 refine PI.imp (CM he hbase hline) λ σ H R hq=>ex8 hq λ H0 B0 B τ P F I h=>⟨H0,B0,B,τ,P,F,I,?_⟩;cases z:fe τ with
 |fY C=>simp only[kK,z,Res.jl]at h;exact h|bad=>simp only[kK,z,Res.jk]at h
 | ok d =>
  simp only[kK,z,Res.aG]at h;intro v H1 B1 fp I1 s1 b1 r1 k1;cases d with
  | dct t k ks xs =>
   cases k with
   |false=>exact h.elim
   | true =>
    simp only[CL]at h;by_cases hp:aM xs=true
    ·rw[MO hp]at h;obtain⟨a,vs,g,rfl,q,_⟩:=r1.dc I1;rcases q with ⟨q0,_⟩|⟨_,kvs,ep,ha,hks,hvs⟩
     ·cases q0
     ·refine⟨a,kvs,ep,rfl,ha,h _ H1 _ fp I1 s1 b1 k1 λ Bx sB sH h1 h2=>?_⟩;obtain⟨a',ws,ea,q',rl,_⟩:Rep X.K Bx No H1 (D.dct .aq true ks (aD xs)) (.ref a) []:=iP r1 sB h1 h2;cases ea;rw[cg _ hp]at rl;rw[cg _ (oQ ks xs hp),hks];rcases q' with ⟨q0,_⟩|⟨_,kvs',ep',hb,_,hvs'⟩
      ·cases q0
      ·have e1:=sH _ _ hb;rw[ha]at e1;cases e1;subst hvs';exact AK hb (rl.mono (aw.refl _) (aw.refl _) λ _ x=>x) hp
    ·rw[MP hp]at h;exact h.elim
  |_=>exact h.elim
end
end DL
namespace SR
open PySem
variable {xs:Array Nat}{led:Bool}{j:Nat}
abbrev uA (xs:Array Nat):Prop:=xs.toList.Pairwise (· < ·)
def pI(h:uA xs){i:Nat}{a b:Nat}(hi:xs[i]?=some a)(hj:xs[j]?=some b)(hij:i<j):a<b:=by
 rw[<-Nr]at hi hj;obtain⟨h1,e1⟩:=MF.mp hi;obtain⟨h2,e2⟩:=MF.mp hj;rw[<-e1,<-e2];exact N3.mp h i j h1 h2 hij
def uz {xs:Array Nat}{j:Nat}(hr:uA xs):∀ (fuel lo hi:Nat),lo<=hi->hi<=xs.size->hi-lo<=fuel->(∀ (i a:Nat),xs[i]?=some a->i<lo->a<j)->(∀ (i a:Nat),xs[i]?=some a->hi<=i->j<=a) ->
  SetTable.below.go xs j fuel lo hi<=xs.size/\(∀ (i a:Nat),xs[i]?=some a->i<SetTable.below.go xs j fuel lo hi->a<j)/\(∀ (i a:Nat),xs[i]?=some a->SetTable.below.go xs j fuel lo hi<=i->j<=a)
 | 0,lo,hi,h1,h2,h3,h4,h5=>by
  have e:lo=hi:=by omega
  subst e;exact⟨h2,h4,h5⟩
 | fuel+1,lo,hi,h1,h2,h3,h4,h5=>by
  unfold SetTable.below.go;by_cases hlt:lo<hi
  ·rw[MO hlt];have hm:(lo+hi)/2<hi:=by omega
   have hm2:lo<=(lo+hi)/2:=by omega
   have hs:(lo+hi)/2<xs.size:=by omega
   have hg:xs[(lo+hi)/2]?=some xs[(lo+hi)/2]:=MV hs;have hd:xs.getD ((lo+hi)/2) j=xs[(lo+hi)/2]:=by rw[Nt,hg];rfl
   show(if xs.getD ((lo+hi)/2) j<j then SetTable.below.go xs j fuel ((lo+hi)/2+1) hi else SetTable.below.go xs j fuel lo ((lo+hi)/2))<=_/\_;by_cases hc:xs.getD ((lo+hi)/2) j<j
   ·simp only[MO hc];refine uz hr fuel _ _ (by omega) h2 (by omega) (λ i a ha hi'=>?_) h5;rcases Nat.lt_or_ge i ((lo+hi)/2) with q|q
    ·have:=pI hr ha hg q;rw[hd]at hc;omega
    ·have e:i=(lo+hi)/2:=by omega
     subst e;rw[hg]at ha;cases ha;rw[hd]at hc;exact hc
   ·simp only[MP hc];refine uz hr fuel _ _ hm2 (by omega) (by omega) h4 (λ i a ha hi'=>?_);rw[hd]at hc;rcases Nat.lt_or_ge ((lo+hi)/2) i with q|q
    ·have:=pI hr hg ha q;omega
    ·have e:i=(lo+hi)/2:=by omega
     subst e;rw[hg]at ha;cases ha;omega
  ·rw[MP hlt];have e:lo=hi:=by omega
   subst e;exact⟨h2,h4,h5⟩
def l9(hr:uA xs)(j:Nat):SetTable.below xs j<=xs.size/\(∀ (i a:Nat),xs[i]?=some a->i<SetTable.below xs j->a<j)/\(∀ (i a:Nat),xs[i]?=some a->SetTable.below xs j<=i->j<=a):=
 uz hr xs.size 0 xs.size (NV _) (ML _) (ML _) (λ _ _ _ h=>absurd h (OM _)) λ i a ha h=>by
  have:=(Array.getElem?_eq_some_iff.mp ha).1;omega
def CO(hr:uA xs)(hn:xs[SetTable.below xs j]?≠some j):uA (SetTable.insertAt xs (SetTable.below xs j) j):=by
 obtain⟨h1,h2,h3⟩:=l9 hr j;unfold uA;rw[SetTable.toList_insertAt];have hr':xs.toList.Pairwise (· < ·):=hr;rw[<-List.take_append_drop (SetTable.below xs j) xs.toList]at hr';obtain⟨p1,p2,p3⟩:=List.pairwise_append.mp hr';have lo:∀ a∈xs.toList.take (SetTable.below xs j),a<j:=λ a ha=>by
  obtain⟨i,hi,e⟩:=List.getElem_of_mem ha;rw[OD]at hi;rw[List.getElem_take]at e;exact h2 i a (by rw[<-Nr,<-e];exact MA (by omega)) (by omega)
 have hi:∀ a∈xs.toList.drop (SetTable.below xs j),j<a:=λ a ha=>by
  obtain⟨i,hi,e⟩:=List.getElem_of_mem ha;rw[Ph]at hi;rw[List.getElem_drop]at e;have hg:xs[SetTable.below xs j+i]?=some a:=by rw[<-Nr,<-e];exact MA (by omega)
  have g:=h3 _ a hg (QS _ _);rcases Nat.lt_or_eq_of_le g with g|g
  ·exact g
  ·subst g;rcases Nat.eq_zero_or_pos i with z|z
   ·subst z;exact absurd hg hn
   ·have hg0:xs[SetTable.below xs j]?=some (xs[SetTable.below xs j]'(by simp at hi;omega)):=MV _;have l:=pI hr hg0 hg (by omega);have g0:=h3 _ _ hg0 (ML _);omega
 refine List.pairwise_append.mpr ⟨p1,OF.mpr ⟨hi,p2⟩,λ a ha b hb=>?_⟩;rcases MK.mp hb with rfl|hb
 ·exact lo a ha
 ·exact QV (lo a ha) (hi b hb)
structure Good (led:Bool)(t:SetTable):Prop where
 led:t.led=led
 rise:uA t.place
 LS:t.dummies = #[]
def xR (led:Bool):Good led (SetTable.fresh 0 0 led):=⟨rfl,List.Pairwise.nil,rfl⟩
def jJ{t:SetTable}(g:Good led t)(n:Nat):Good led (t.standIn n):=⟨g.led,by
 show(Array.range n).toList.Pairwise (· < ·);rw[Array.toList_range];exact PY,rfl⟩
def xT{t:SetTable}(g:Good led t):Good led { t with plain:=false }:=⟨g.led,g.rise,g.LS⟩
def zl (j:Nat):SetTable.has #[] j=false:=by
 unfold SetTable.has;simp
def rF{t:SetTable}(g:Good led t)(j:Nat):t.slot j ≠ .dummy:=by
 unfold SetTable.slot;rw[g.LS,zl];simp only[M9,ON];split<;>simp
def xU {t:SetTable}(h:t.slot j=.empty):t.place[SetTable.below t.place j]?≠some j:=λ e=>by
 unfold SetTable.slot at h;simp only[e,Pn,OG]at h;cases h
def qm {led:Bool}{t:SetTable}(g:Good led t){h:Int}:∀ (fuel:Nat) (p:SetTable.Probe) (j:Nat) (d:Option Nat),p.dummy=none->SetTable.probe.go t (λ _=>h+1) h fuel p=some (.empty j d)->d=none/\t.slot j=.empty
 |0,p,j,d,_,e=>by unfold SetTable.probe.go at e;cases e
 | fuel+1,p,j,d,hp,e=>by
  unfold SetTable.probe.go at e;cases z:t.slot p.j with
  | empty =>
   rw[z]at e;simp only[PZ,SetTable.Met.empty.injEq]at e;exact⟨e.2.symm.trans hp,e.1▸z⟩
  |dummy=>exact absurd z (rF g p.j)
  | live i =>
   rw[z]at e;have hne:(h+1 == h)=false:=by
    rw[OW];omega
   simp only[hne,M9,ON]at e;refine qm g fuel (t.advance p) j d ?_ e;unfold SetTable.advance;split
   ·exact hp
   ·exact hp
def AL{t:SetTable}(g:Good led t){h:Int}{b:Bool}(e:t.freeSlot h=some (j,b)):t.slot j=.empty:=by
 unfold SetTable.freeSlot at e;split at e
 ·rename_i j' d hp;obtain⟨rfl,hs⟩:=qm g _ _ j' d rfl hp;simp only[QR,Option.isSome_none,PZ,Prod.mk.injEq]at e;exact e.1▸hs
 ·cases e
def CN{t:SetTable}(g:Good led t)(h:t.slot j=.empty):Good led (t.put j).1:=by
 refine⟨g.led,CO g.rise (xU h),?_⟩;show(if SetTable.has t.dummies j=true then SetTable.eraseAt t.dummies (SetTable.below t.dummies j) else t.dummies) = #[];rw[g.LS,zl];rfl
def CP{t:SetTable}(g:Good led t)(es:Array (Int×Value))(h:Int)(x:Value):Good led (layNew t es h x).2.1:=by
 unfold layNew;split
 ·rename_i slot b e;show Good led ((t.put slot).1.orStandIn _);have gp:=CN g (AL g e);unfold SetTable.orStandIn;split
  ·exact gp
  ·exact jJ gp _
 ·exact jJ g _
def AM (n:Nat)(f:Nat->Option Nat):(((List.range n).filterMap λ j=>(f j).map (j,·)).map (·.1)).Pairwise (· < ·):=by
 have hs:(((List.range n).filterMap λ j=>(f j).map (j,·)).map (·.1)).Sublist (List.range n):=by
  induction List.range n with
  |nil=>exact List.Sublist.slnil
  | cons a r ih =>
   cases e:f a with
   |none=>rw[List.filterMap_cons_none (by rw[e];rfl)];exact ih.cons a|some b=>rw[List.filterMap_cons_some (b:=(a,b)) (by rw[e];rfl)];exact ih.cons₂ a
 exact List.pairwise_lt_range.sublist hs
def xS{t:SetTable}(g:Good led t)(es:Array (Int×Value))(w:Nat):Good led (relayAll t es w).2.1:=by
 unfold relayAll;split
 ·rename_i t' order e;dsimp only;split
  ·unfold SetTable.relaid SetTable.laid at e;simp only[Option.bind_eq_bind,Option.bind_eq_some_iff]at e;obtain⟨owner,_,e⟩:=e;simp only[Option.pure_def,PZ,Prod.mk.injEq]at e;obtain⟨e,_⟩:=e;subst e;exact⟨g.led,by simpa[uA] using AM _ λ j=>owner.getD j none,rfl⟩
  ·exact jJ g _
 ·exact jJ g _
end SR
namespace SR
open PySem PySem.Spec PyProof.Rows
section
variable {prog:Program}{w:World}{A:Around}{E:Value->Shared->Prop}{s:Shared}{led:Bool}
def i7 (prog:Program)(w:World)(led:Bool)(h:Heap)(a:Addr)(S:Int->Bool)(n:Nat):Prop:=
 ∃ o es ep t,h.get? a=some o/\o.ExactSet/\o.data=.set es ep t/\ElemsOf (intKind prog w) es.toList/\(∀ k,S k=true↔∃ e∈es.toList,(intKind prog w).is k e.2=true)
  /\ es.size<scanBound/\t.fits es.size=true/\es.size=n/\Good led t
def i7.store {h:Heap}{a:Addr}{o:Obj}{es es':Array (Int×Value)}{ep:Nat}{t t':SetTable}{S':Int->Bool}(ho:h.get? a=some o)(hex:o.ExactSet)(hd:o.data=.set es ep t)
  (hel:ElemsOf (intKind prog w) es'.toList) (hmem:∀ k,S' k=true↔∃ e∈es'.toList,(intKind prog w).is k e.2=true) (hb:es'.size<scanBound) (hf:t'.fits es'.size=true) (g:Good led t') :
  (h.update a (Obj.putSet es' t')).get? a=some { o with data:=.set es' (ep+1) t' }/\i7 prog w led (h.update a (Obj.putSet es' t')) a S' es'.size:=by
 obtain⟨hg,_⟩:=SetOf_store (knd:=intKind prog w) ho hex hd hel hmem hb hf;exact⟨hg,_,es',ep+1,t',hg,hex,rfl,hel,hmem,hb,hf,rfl,g⟩
def CQ {gw:Bool->Sem Unit}(hg:∀ (b:Bool) (s₁:Shared) (Q':Unit->Shared->Prop),Q' () s₁->wpAny (model prog w) A (gw b) Q' E s₁)
  {a:Addr}{o:Obj}{es es1:Array (Int×Value)}{ep:Nat}{t t2:SetTable}{S':Int->Bool} (ho:s.heap.get? a=some o) (hex:o.ExactSet) (hd:o.data=.set es ep t)
  (hel1:ElemsOf (intKind prog w) es1.toList) (hmem1:∀ k',S' k'=true↔∃ e∈es1.toList,(intKind prog w).is k' e.2=true)
  (hb1:es1.size<scanBound) (hf2:t2.fits es1.size=true) (g2:Good led t2) {wasDummy:Bool}{R:Option Bool->Shared->Prop}
  (h:∀ h',Heap.SameBut a s.heap h'->i7 prog w led h' a S' es1.size->R (some true) { s with heap:=h' }) :
  wpAny (model prog w) A (do
    storeSet a es1 t2
    if (!wasDummy&&t2.tooFull)=true then do
      gw (relayAll t2 es1 (SetTable.grown es1.size)).2.2
      storeSet a (relayAll t2 es1 (SetTable.grown es1.size)).1 (relayAll t2 es1 (SetTable.grown es1.size)).2.1
      pure (some true)
     else pure (some true)) R E s:=by
 refine My (wpAny_storeSet_of ho hd ?_ (QM hb1));obtain⟨ho1,hS1⟩:=i7.store (prog:=prog) (w:=w) (led:=led) ho hex hd hel1 hmem1 hb1 hf2 g2;have hsb1:=Ov s.heap a (Obj.putSet es1 t2);split
 ·have hp:=relayAll_perm t2 es1 (SetTable.grown es1.size);have hfr:=relayAll_fits t2 es1 (SetTable.grown es1.size);have gr:=xS g2 es1 (SetTable.grown es1.size);have hsz:(relayAll t2 es1 (SetTable.grown es1.size)).1.size=es1.size:=by rw[<-M8,hp.length_eq,M8]
  have hb2:(relayAll t2 es1 (SetTable.grown es1.size)).1.size<scanBound:=by rw[hsz];exact hb1
  refine My (hg _ _ _ (My (wpAny_storeSet_of ho1 rfl ?_ (QM hb2))));obtain⟨_,hS2⟩:=i7.store (prog:=prog) (w:=w) (led:=led) ho1 hex rfl (hel1.perm hp) (λ k'=>(hmem1 k').trans ⟨λ ⟨e,he,q⟩=>⟨e,hp.mem_iff.mpr he,q⟩,λ ⟨e,he,q⟩=>⟨e,hp.mem_iff.mp he,q⟩⟩) hb2 hfr gr;rw[hsz]at hS2;exact MB (h _ (hsb1.trans (Ov _ a _)) hS2)
 ·exact MB (h _ hsb1 hS1)
def Km {a:Addr}{S:Int->Bool}{n:Nat}{k:Int}{x:Value}{Q:Bool->Shared->Prop}(hkey:(intKind prog w).is k x=true)(hsc:x.scannable=true)(hS:i7 prog w led s.heap a S n)(hroom:n+1<scanBound)
  (h:∀ h',Heap.SameBut a s.heap h'->i7 prog w led h' a (λ k'=>S k'||decide (k'=k)) (if S k then n else n+1)->Q (!S k) { s with heap:=h' }) :
  wpAny (model prog w) A (setAddHashed a x ((intKind prog w).hash k)) Q E s:=by
 obtain⟨o,es,ep,t,ho,hex,hd,hel,hmem,hb,hf,hn,g⟩:=hS;have hb1:es.size+1<scanBound:=by rw[hn];exact hroom
 unfold setAddHashed setAddHashedIn;refine Od (My (Ou ho hd hf ?_));dsimp only;rw[byScan_of hsc hb hel];simp only[↓reduceIte];unfold setAddByScan;refine My (My (O6 (My (wpAny_setScan_of hkey ho hd hf hel ?_))));cases hr:List.findIdx? (λ e=>(intKind prog w).is k e.2) es.toList with
 | some j =>
  dsimp only;obtain⟨hj,hpj,_⟩:=OH.mp hr;have hSk:S k=true:=(hmem k).mpr ⟨es.toList[j],Nu hj,hpj⟩;refine MB (MB ?_);have e:s={ s with heap:=s.heap }:=by cases s;rfl
  have:=h s.heap (Heap.SameBut.refl a s.heap) ⟨o,es,ep,t,ho,hex,hd,hel,λ k'=>by
   rw[Bool.or_eq_true,NR,<-hmem k'];exact⟨λ hk=>hk.elim id (λ e=>e▸hSk),.inl⟩,hb,hf,by rw[hSk];exact hn,g⟩
  rw[hSk]at this;rw[e];exact this
 | none =>
  dsimp only;have hSk:S k=false:=by
   cases hk:S k with
   |false=>rfl|true=>obtain⟨e,he,hp⟩:=(hmem k).mp hk;have:=List.findIdx?_eq_none_iff.mp hr e he;rw[hp]at this;exact Bool.noConfusion this
  have hgw:∀ (b:Bool) {s₁:Shared}{Q':Unit->Shared->Prop},Q' () s₁->wpAny (model prog w) A (match b with|true=>rule "set.scan.the-table-gave-way" |false=>pure ()) Q' E s₁:=
   λ b s₁ Q' hq=>by cases b<;>first|exact MB hq|exact O6 hq
  have hperm:=layNew_perm t es ((intKind prog w).hash k) x;have hfits:=layNew_fits t es ((intKind prog w).hash k) x;have g1:=CP g es ((intKind prog w).hash k) x;generalize hL:layNew t es ((intKind prog w).hash k) x=L at hperm hfits g1 ⊢;obtain⟨es1,t1,wasDummy,gave⟩:=L;dsimp only at hperm hfits g1 ⊢;rw[Array.toList_push]at hperm;have hel1:ElemsOf (intKind prog w) es1.toList:=(hel.push hkey hsc).perm hperm;have hmem1:∀ k',(S k'||decide (k'=k))=true↔∃ e∈es1.toList,(intKind prog w).is k' e.2=true:=mem_push_iff hkey hmem hperm;have hsz1:es1.size=n+1:=by rw[<-M8,hperm.length_eq,MY,M8,hn];rfl
  have hb1':es1.size<scanBound:=by rw[hsz1];exact hroom
  refine My (hgw _ ?_);have hend:∀ h',Heap.SameBut a s.heap h'->i7 prog w led h' a (λ k'=>S k'||decide (k'=k)) es1.size->Q true { s with heap:=h' }:=by
   intro h' hsb hS';have:=h h' hsb;rw[hSk]at this;rw[hsz1]at hS';exact this hS'
  split
  ·refine My ?_;rw[hashByValue_scannable 8 hsc];refine MB ?_;refine CQ (led:=led) ?_ ho hex hd hel1 hmem1 hb1' ?_ ?_ ?_
   ·intro b s₁ Q' hq;cases b<;>first|exact MB hq|exact O6 hq
   ·split
    ·exact hfits
    ·exact SetTable.fits_plain_off hfits
   ·split
    ·exact g1
    ·exact xT g1
   ·intro h' hsb hS';dsimp only;exact MB (hend h' hsb hS')
  ·refine My (MB ?_);simp only[↓reduceIte];refine CQ (led:=led) ?_ ho hex hd hel1 hmem1 hb1' hfits g1 ?_
   ·intro b s₁ Q' hq;cases b<;>first|exact MB hq|exact O6 hq
   ·intro h' hsb hS';dsimp only;exact MB (hend h' hsb hS')
def i7.congr {h:Heap}{a:Addr}{S S':Int->Bool}{n n':Nat}(hS:i7 prog w led h a S n)(e:∀ k,S k=S' k)(en:n=n'):i7 prog w led h a S' n':=by
 have:S=S':=funext e;subst this en;exact hS
def i7.keep {h h':Heap}{a:Addr}{S:Int->Bool}{n:Nat}(hS:i7 prog w led h a S n)(hk:∀ o,h.get? a=some o->h'.get? a=some o):i7 prog w led h' a S n:=by
 obtain⟨o,es,ep,t,ho,rest⟩:=hS;exact⟨o,es,ep,t,hk o ho,rest⟩
def Fe (led:Bool){h:Heap}{a:Addr}(ho:h.get? a=some { cls:=.type "set",dict:=none,data:=.set #[] 0 (.fresh 0 0 led) }):i7 prog w led h a (λ _=>false) 0:=
 ⟨_,#[],0,_,ho,⟨rfl,rfl,rfl⟩,rfl,λ e he=>by simp at he,λ k=>by simp,by decide,rfl,rfl,xR led⟩
end
section
variable {prog:Program}{w:World}{A:Around}{R:Result->Shared->Prop}{I:Addr}{fp wr:List Addr}{G:Array GenState->Array GenState->Prop}{n:Nat}{P:Nat->Value->Prop}{St:Nat->Shared->Prop}{led:Bool}
def Ik (W:WalksS prog w A.in1 I fp wr G n P St)(S:Addr)(hSf:S∉fp)(val:Nat->Int)(hval:∀ i v,P i v->∃ t,v=.int (val i) t)(hb:n+1<scanBound) :
  ∀ (k i:Nat) (s:Shared),n-i=k->i<=n->St i s->i7 prog w led s.heap S (λ k'=>(firstMet val i).any (· == k')) (firstMet val i).length ->
   (∀ s',Moved (S::wr) G s s'->i7 prog w led s'.heap S (λ k'=>(firstMet val n).any (· == k')) (firstMet val n).length->R (.ok (.ret .none)) s') ->
   codeAny (model prog w) A (.builtin "set.update.loop" ⟨[.ref S,.ref I],[]⟩) R s:=by
 have hSw:S∉wr:=λ h=>hSf (W.sub _ h);have hsub:∀ b∈wr,b∈S::wr:=λ b hb=>ME _ hb;intro k
 induction k with
 | zero =>
  intro i s hk hi hst hS hR;have hin:i=n:=by omega
  subst hin;refine N8 F.entry_set_update_loop ?_;rw[NO PL _];show wpAny _ A.in1 (pyNext (.ref I) >>= _) _ _ s;refine My (W.done s _ _ hst λ s' hm=>?_);exact MB (hR s' (hm.mono hsub) (hS.keep λ o ho=>hm.heap S _ hSw ho))
 | succ k ih =>
  intro i s hk hi hst hS hR;have hlt:i<n:=by omega
  refine N8 F.entry_set_update_loop ?_;rw[NO PL _];show wpAny _ A.in1 (pyNext (.ref I) >>= _) _ _ s;refine My (W.item i s _ _ hlt hst λ v s' hP hst' hm=>?_);obtain⟨t,rfl⟩:=hval i v hP;have hS':=hS.keep (h':=s'.heap) λ o ho=>hm.heap S _ hSw ho;show wpAny _ A.in1 (holding [Value.int (val i) t] (setAdd S (.int (val i) t)) >>= _) _ _ s';refine My (Od ?_);unfold setAdd;refine Od (My ((intKind prog w).pyHash (k:=val i) (intKind_is _ _ _ _) ?_));have hroom:(firstMet val i).length+1<scanBound:=by have:=firstMet_length_le val i;omega
  refine Km (s:={ s' with toks:=s'.toks+1 }) (intKind_is _ _ _ _) rfl hS' hroom λ h' hsb hS2=>?_;have hSi:i7 prog w led h' S (λ k'=>(firstMet val (i+1)).any (· == k')) (firstMet val (i+1)).length:=hS2.congr (λ k'=>by rw[firstMet_succ,step_any]) (by rw[firstMet_succ,step_length]);refine MB ⟨O9 PL _,ih (i+1) _ (by omega) hlt (W.frame _ s' _ _ hst' (OP _) λ b hb o e=>?_) hSi λ s'' hm'' hS''=>?_⟩
  ·rw[hsb.2 b (λ h:b=S=>hSf (by rw[<-h];exact hb))];exact e
  ·refine hR s'' (Moved.trans W.gtrans ((hm.mono hsub).then_heap (OP _) λ b o hb e=>?_) hm'') hS'';rw[hsb.2 b (λ h:b=S=>hb (by rw[h];exact MD))];exact e
end
variable {T a:Addr}{A:Around}{es:Array (Int×Value)}{h:Heap}{S':Int->Bool}{ep i n slot:Nat}{o:Obj}{Q:Option Value->Shared->Prop}{prog:Program}{s:Shared}{x:Value}{E:Value->Shared->Prop}{w:World}
def rG (w:World):Bool:=!w.params.followText "set-order"
abbrev AN (w:World):Obj:=⟨.type "set",none,.set #[] 0 (.fresh 0 0 (rG w)),#[]⟩
section
def Kn (a:Value){R:Value->Shared->Prop}(h:R (.ref s.heap.objs.size) { s with heap:=s.heap.push (AN w) }):codeAny (model prog w) A (.call (.builtin "set.__new__") ⟨[.type "set",a],[]⟩) (wants R E) s:=by
 have self:=sub_set_self;refine codeAny_of_tree (My (wpAny_of_eq (F.newCall_set_1 a) (MB ⟨O9 F.plain_set_new _,N8 F.entry_set_new ?_⟩)));rw[NO F.plain_set_new _];unfold Builtin.«set.__new__» Builtin.Frozenset.newClass;cases s;dsimp only
 wp_walk
 exact wpAny_askSetting (MB (My (wpAny_alloc (MB (MB h)))))
abbrev Made (prog:Program)(w:World)(s:Shared)(ns:List Int)(n:Nat)(S:Addr)(s':Shared):Prop:=∃ h' tk,s'={ s with heap:=h',toks:=tk }/\i7 prog w (rG w) h' S (λ k=>(firstMet (λ i=>ns.getD i 0) n).any (· == k)) (firstMet (λ i=>ns.getD i 0) n).length/\∀ b o,b≠S->s.heap.get? b=some o->h'.get? b=some o
def Il {l S:Addr}{items:Array Value}{ns:List Int}(hh:A.handled=none)(hl:s.heap.IsList l items)(hi:IntsAre items.toList ns)(hb:items.size+1<scanBound)(hS:s.heap.get? S=some (AN w))(ne:l≠S) :
  codeAny (model prog w) A (.call (.builtin "set.__init__") ⟨[.ref S,.ref l],[]⟩) (wants (λ r s'=>r=.none/\Made prog w s ns items.size S s') E) s:=by
 have hT:s.TypeIs (.ref S) "set" :=⟨_,hS,rfl⟩;refine codeAny_call_builtin F.called_set.init.plain F.entry_set_init (check_set_init_1 hT ?_);obtain⟨⟨c,dc,dt,sl⟩,g1,g2,n,g3⟩:=id hl;simp only at g2 g3;subst g2 g3;have x1:=F.sub_list_set;have x2:=F.sub_list_frozenset;have x3:(Value.type "list" == Value.type "dict")=false:=by decide
 unfold Builtin.«set.__init__» noKeywords Builtin.Frozenset.updateFrom;generalize hI:pyIter=It
 wp_walk
 subst hI;refine QL hl (My (wpAny_runValue ?_));have lS:S<s.heap.objs.size:=MJ hS;have ll:l<s.heap.objs.size:=MJ g1;refine Ik (led:=rG w) ((Walks.list (by simp[hh]) _ l (M0 ll) items).toS) S (by simp[M0 lS,ne.symm]) (λ i=>ns.getD i 0) (λ i v e=>IntsAre.int_at hi i v (by rw[Nr];exact e)) hb (items.size-0) 0 _ (by omega) (NV _)
  ⟨⟨_,MI _ rfl,rfl,rfl⟩,hl.push _⟩ ((Fe (rG w) (Mz _ hS)).congr (λ _=>rfl) rfl) ?_
 rintro⟨h',g',d',tk',os'⟩ hm hG;have e1:g'=s.gens:=hm.gens;have e2:d'=s.drawn:=hm.drawn;have e3:os'=s.os:=hm.os;subst e1 e2 e3;refine MB (MB ⟨rfl,h',tk',rfl,hG,λ b o nb e=>hm.heap b o ?_ (Mz _ e)⟩);simp[nb,M0 (MJ e)]
def xV {l:Addr}{items:Array Value}{ns:List Int}{Q:Value->Shared->Prop}(hh:A.handled=none)(hl:s.heap.IsList l items)(hi:IntsAre items.toList ns)(hb:items.size+1<scanBound)
  (h:∀ (h':Heap) (tk:Nat),i7 prog w (rG w) h' s.heap.objs.size (λ k=>(firstMet (λ i=>ns.getD i 0) items.size).any (· == k)) (firstMet (λ i=>ns.getD i 0) items.size).length->(∀ b o,b<s.heap.objs.size->s.heap.get? b=some o->h'.get? b=some o)->Q (.ref s.heap.objs.size) { s with heap:=h',toks:=tk }) :
  wpAny (model prog w) A (call (.type "set") [.ref l]) Q E s:=by
 have T:=F.called_set;obtain⟨m1,m2,m3⟩:=T.mro;have m4:=T.made;have m5:=T.sub;have m6:=T.notType;have m7:=T.canCreate;have m8:=F.typeCall_set_1 (.ref l);refine wpAny_call (codeAny_of_tree (MB ⟨Code.quiet_builtin _ (by decide +kernel),N8 F.entry_type_call ?_⟩));rw[Around.under_plain (weight_type_call_type "set" [.ref l] []) rfl]
 repeat (any_goals (first|assumption|wp_step))
 refine Qu (Kn (.ref l) (E:=E) (R:=λ x s'=>x=.ref s.heap.objs.size/\s'={ s with heap:=s.heap.push (AN w) }) ⟨rfl,rfl⟩) λ r1 s1 q1=>?_;rcases r1 with e|fl
 ·exact q1
 cases fl with
 | ret x =>
  obtain⟨rfl,rfl⟩:=q1;have gS:(s.heap.push (AN w)).get? s.heap.objs.size=some (AN w):=MI _ rfl;have y1:=T.init.lookup;have y2:=T.init.bind (.ref s.heap.objs.size);have y3:Shared.TypeIs { s with heap:=s.heap.push (AN w) } (.ref s.heap.objs.size) "set" :=⟨_,gS,rfl⟩
  repeat (any_goals (first|assumption|wp_step))
  obtain⟨ol,g1,_⟩:=id hl;refine Qu (Il (E:=E) (ns:=ns) (by simp[hh]) (hl.push _) hi hb gS (M0 (MJ g1))) λ r2 s2 q2=>?_;rcases r2 with e|fl
  ·exact q2
  cases fl with
  | ret x =>
   obtain⟨rfl,h',tk,rfl,hG,hk⟩:=q2
   repeat (any_goals (first|assumption|wp_step))
   exact h _ _ hG λ b o lb e=>hk b o (M0 lb) (Mz _ e)
  |_=>exact q2.elim
 |_=>exact q1.elim
end
def qq:entryFor table "set.__iter__" = some Builtin.«frozenset.__iter__» :=
 entryFor_alias (id':="frozenset.__iter__") (by kernel_rfl) rfl (by decide +kernel) (by kernel_rfl)
def bM:Slot "set_iterator" "__next__" "set_iterator.__next__" :=
 .of (owner:="set_iterator") (n:="__next__") (by rw[typeLookup_type,P8];kernel_rfl) (by decide +kernel) (by decide +kernel) (by decide +kernel)
  (by first|exact .inl (by decide +kernel)|exact .inr (by decide +kernel)) (by rw[QB];kernel_rfl)
def gu:entryFor table "set_iterator.__next__" = some Builtin.«set_iterator.__next__» :=entryFor_of_tree (by kernel_rfl)
def ie (a:Value):argsOk "set_iterator.__next__" ⟨[a],[]⟩:=by unfold argsOk;kernel_rfl
section
def iC {α:Type}:∀ (l:List α) (i:Nat) (h:i<l.length),(l[i]::l.eraseIdx i).Perm l
 |[],i,h=>absurd h (OM _)
 |a::l,0,_=>Nz _
 | a::l,i+1,h=>by
  have hi:i<l.length:=by simpa using h
  have ih:=iC l i hi;show(l[i]::a::l.eraseIdx i).Perm (a::l);exact(List.Perm.swap a l[i] _).trans (List.Perm.cons a ih)
def xW {M:Model}{src:Source}{Q:Nat->Shared->Prop}(hn:n≠0)(h:∀ (i:Nat) d,i<n->Q i { s with drawn:=d }):wpAny M A (choose src n) Q E s:=λ Γ p hΓ=>
 ⟨hn,h _ _ (Nat.mod_lt _ (Nat.pos_of_ne_zero hn))⟩
def vL {M:Model}{α:Type}:∀ (n:Nat) (xs:List α) (s:Shared) (Q:List α->Shared->Prop),xs.length=n->(∀ ys d,ys.Perm xs->Q ys { s with drawn:=d })->wpAny M A (drawOrder n xs) Q E s
 | 0,xs,s,Q,hl,h=>by
  have e:xs=[]:=PM.mp hl;subst e;unfold drawOrder;have:=h [] s.drawn (Nz _);exact MB this
 |n+1,[],s,Q,hl,h=>by simp at hl
 | n+1,x::r,s,Q,hl,h=>by
  unfold drawOrder;refine My (xW (by simp) λ i d hi=>?_);have hg:(x::r)[i]?=some ((x::r)[i]):=MA hi;simp only[hg];refine My (vL n ((x::r).eraseIdx i) _ _ (by rw[QC hi,hl];rfl) λ ys d' hp=>?_);exact MB (h _ d' ((List.Perm.cons _ hp).trans (iC _ _ hi)))
def zm {α:Type}(next:Nat->Nat):∀ (fuel k:Nat) (left:List α) (out:Array α),left.length=fuel->∃ l:List α,l.Perm left/\(pickOrder.go next fuel k left out).toList=out.toList++l
 | 0,k,left,out,hl=>by
  have e:left=[]:=PM.mp hl;subst e;exact⟨[],Nz _,by unfold pickOrder.go;simp⟩
 | fuel+1,k,left,out,hl=>by
  have hpos:0<left.length:=by omega
  have hi:next k%left.length<left.length:=Nat.mod_lt _ hpos
  have hg:left[next k%left.length]?=some (left[next k%left.length]):=MA hi;obtain⟨l,hp,e⟩:=zm next fuel (k+1) (left.eraseIdx (next k%left.length)) (out.push (left[next k%left.length])) (by rw[QC hi,hl];rfl)
  refine⟨left[next k%left.length]::l,(List.Perm.cons _ hp).trans (iC _ _ hi),?_⟩;unfold pickOrder.go;rw[hg];show(pickOrder.go next fuel (k+1) (left.eraseIdx (next k%left.length)) (out.push (left[next k%left.length]))).toList=_;rw[e,Array.toList_push,Ni];rfl
def nZ {α:Type}(next:Nat->Nat)(xs:Array α):(pickOrder next xs).toList.Perm xs.toList:=by
 obtain⟨l,hp,e⟩:=zm next xs.size 0 xs.toList #[] (by simp)
 unfold pickOrder;rw[e];simpa using hp
variable {it:Addr}{t:SetTable}
def nu {M:Model}{Q:Bool->Shared->Prop}(h:Q (M.w.params.followText "set-order") s):wpAny M A setsByText Q E s:=by
 unfold setsByText;exact My (wpAny_askSetting (MB h))
def CS (hby:w.params.followText "set-order" = true)(ho:s.heap.get? a=some o)(hd:o.data=.set es ep t)(hf:t.fits es.size=true){Q:Option (Value×Nat)->Shared->Prop}
  (h:Q (((pickOrder (w.params.setOrder a ep) es)[i]?).map λ e=>(e.2,slot)) s):wpAny (model prog w) A (setNext a slot i ep) Q E s:=by
 unfold setNext;refine My (Ou ho hd hf ?_);dsimp only;refine My (nu ?_);rw[show(model prog w).w.params.followText "set-order" = true from hby];simp only[↓reduceIte,NL,M9];refine My ?_;unfold setWalk;refine My (Ou ho hd hf ?_);dsimp only;refine My (nu ?_);rw[show(model prog w).w.params.followText "set-order" = true from hby];simp only[↓reduceIte];exact My (wpAny_askSetting (MB (MB h)))
def CT (hby:w.params.followText "set-order" = false)(hdr:(!t.plain&&decide (es.size>1))=false)(hled:t.led=true)(ho:s.heap.get? a=some o)(hd:o.data=.set es ep t)(hf:t.fits es.size=true){Q:Option (Value×Nat)->Shared->Prop}
  (h:Q (match es[SetTable.below t.place slot]?,t.place[SetTable.below t.place slot]? with|some (_,x),some j=>some (x,j+1)|_,_=>none) s):wpAny (model prog w) A (setNext a slot i ep) Q E s:=by
 unfold setNext;refine My (Ou ho hd hf ?_);dsimp only;refine My (nu ?_);rw[show(model prog w).w.params.followText "set-order" = false from hby];simp only[M9,↓reduceIte];split
 ·rename_i hx;have hx':(!t.plain&&decide (es.size>1))=true:=hx;rw[hdr]at hx';cases hx'
 ·refine My ?_;show wpAny _ _ (if (!t.led && !es.isEmpty)=true then unsupported "set:maker-not-led" else pure ()) _ _ _;rw[hled,MP (by simp)];exact MB (MB h)
abbrev qo (first:Value)(i:Nat)(a:Addr)(n ep:Nat):Obj:={ cls:=.type "set_iterator",dict:=none,data:=.fields #[first,.int i 0,.ref a,.int n 0,.int ep 0],slots:=#[] }
def sL {nx:Nat}(hit:s.heap.get? it=some (qo (.int slot 0) i a es.size ep))(ho:s.heap.get? a=some o)(hd:o.data=.set es ep t)(hf:t.fits es.size=true)
  (hn:∀ (A':Around) (E':Value->Shared->Prop) (Q':Option (Value×Nat)->Shared->Prop),Q' (some (x,nx)) s->wpAny (model prog w) A' (setNext a slot i ep) Q' E' s)
  (hQ:∀ h',h'.get? it=some (qo (.int nx 0) (i+1) a es.size ep)->Heap.SameBut it s.heap h'->Q (some x) { s with heap:=h' }):wpAny (model prog w) A (pyNext (.ref it)) Q E s:=by
 have hT:s.TypeIs (.ref it) "set_iterator" :=⟨_,hit,rfl⟩;unfold pyNext;refine My (Oq (Nf (name:=Str.ofString "__next__") hT bM (Nd bM hT gu ?_ (ie _))));unfold Builtin.«set_iterator.__next__» slotArgs;simp only[Po,OV,M9,↓reduceIte,NW,NL];refine My (MB ?_);dsimp only;refine My (QD hit rfl ?_);dsimp only;refine My (OZ ho hd hf ?_);simp only[NL,M9,↓reduceIte];rw[Nj,Nj,Nj];refine My (hn _ _ _ ?_);dsimp only;refine My (Na hit (by simp) λ h1 e1 sb1=>?_);refine My (Na (s:={ s with heap:=h1 }) e1 (by simp) λ h2 e2 sb2=>?_);refine MB ⟨_,rfl,MB (hQ h2 ?_ (sb1.trans sb2))⟩;rw[e2];simp[rawInt,qo]
def jZ:isSubtype (.type "StopIteration") (.type "StopIteration")=pure true:=by rw[QB];kernel_rfl
def sJ(hh:A.handled=none)(hit:s.heap.get? it=some (qo (.int slot 0) i a es.size ep))(ho:s.heap.get? a=some o)(hd:o.data=.set es ep t)(hf:t.fits es.size=true)
  (hn:∀ (A':Around) (E':Value->Shared->Prop) (Q':Option (Value×Nat)->Shared->Prop),Q' none s->wpAny (model prog w) A' (setNext a slot i ep) Q' E' s)
  (hQ:∀ h',Heap.ExtBut it s.heap h'->Q none { s with heap:=h' }):wpAny (model prog w) A (pyNext (.ref it)) Q E s:=by
 have hT:s.TypeIs (.ref it) "set_iterator" :=⟨_,hit,rfl⟩;unfold pyNext;refine My (Oq (Nf (name:=Str.ofString "__next__") hT bM (Nd bM hT gu ?_ (ie _))));unfold Builtin.«set_iterator.__next__» slotArgs;simp only[Po,OV,M9,↓reduceIte,NW,NL];refine My (MB ?_);dsimp only;refine My (QD hit rfl ?_);dsimp only;refine My (OZ ho hd hf ?_);simp only[NL,M9,↓reduceIte];rw[Nj,Nj,Nj];refine My (hn _ _ _ ?_);dsimp only;refine My (Qy hit rfl (by simp) ?_);show wpAny _ _ (newExc (.type "StopIteration") [] >>= _) _ _ _;refine My ?_;simp only[newExc,newTuple];refine My (Nm ?_ (by size_fits));refine My (m:=firstArgMember _ _) (wpAny_of_eq (a:=Value.none) (by first|rfl|(simp only[firstArgMember];rfl)) ?_);refine Nm ?_ (by size_fits);simp only[raiseNew];refine My (QO ?_);rw[show A.in1.handled=none from hh];refine My (MB (wpAny_throw ?_));refine My (O1 (T:="StopIteration") (b:=true) ⟨_,MI _ rfl,rfl⟩ jZ ?_);exact MB (hQ _ (((Ov ..).extBut.push _).push _))
def AO {p:Nat}{ps:Array Value}(hit:s.heap.get? it=some (qo (.ref T) i a es.size ep))(ho:s.heap.get? a=some o)(hd:o.data=.set es ep t)(hf:t.fits es.size=true)
  (hp:s.heap.IsTuple T ps) (hpi:ps[i]?=some (.int p 0)) (hx:(es[p]?).map (·.2)=some x)
  (hQ:∀ h',h'.get? it=some (qo (.ref T) (i+1) a es.size ep)->Heap.SameBut it s.heap h'->Q (some x) { s with heap:=h' }):wpAny (model prog w) A (pyNext (.ref it)) Q E s:=by
 have hT:s.TypeIs (.ref it) "set_iterator" :=⟨_,hit,rfl⟩;obtain⟨ot,hot,_,nt,hdt⟩:=hp;unfold pyNext;refine My (Oq (Nf (name:=Str.ofString "__next__") hT bM (Nd bM hT gu ?_ (ie _))));unfold Builtin.«set_iterator.__next__» slotArgs;simp only[Po,OV,M9,↓reduceIte,NW,NL];refine My (MB ?_);dsimp only;refine My (QD hit rfl ?_);dsimp only;refine My (OZ ho hd hf ?_);simp only[NL,M9,↓reduceIte];refine My (N6 hot hdt ?_);dsimp only;rw[Nj,hpi];dsimp only;rw[Nj,Nj];refine My ?_;unfold setNextDrawn;refine My (Ou ho hd hf ?_);simp only[NL,M9,↓reduceIte];cases he:es[p]? with
 |none=>rw[he]at hx;cases hx
 | some e =>
  rw[he]at hx;simp only[Pw,PZ]at hx;subst hx;dsimp only;refine MB ?_;refine My (Na hit (by simp) λ h1 e1 sb1=>?_);refine MB ⟨_,rfl,MB (hQ h1 ?_ sb1)⟩;rw[e1];simp[rawInt,qo]
def AQ{ps:Array Value}(hh:A.handled=none)(hit:s.heap.get? it=some (qo (.ref T) i a es.size ep))(ho:s.heap.get? a=some o)(hd:o.data=.set es ep t)(hf:t.fits es.size=true)
  (hp:s.heap.IsTuple T ps) (hpi:ps[i]?=none)
  (hQ:∀ h',Heap.ExtBut it s.heap h'->Q none { s with heap:=h' }):wpAny (model prog w) A (pyNext (.ref it)) Q E s:=by
 have hT:s.TypeIs (.ref it) "set_iterator" :=⟨_,hit,rfl⟩;obtain⟨ot,hot,_,nt,hdt⟩:=hp;unfold pyNext;refine My (Oq (Nf (name:=Str.ofString "__next__") hT bM (Nd bM hT gu ?_ (ie _))));unfold Builtin.«set_iterator.__next__» slotArgs;simp only[Po,OV,M9,↓reduceIte,NW,NL];refine My (MB ?_);dsimp only;refine My (QD hit rfl ?_);dsimp only;refine My (OZ ho hd hf ?_);simp only[NL,M9,↓reduceIte];refine My (N6 hot hdt ?_);dsimp only;rw[Nj,hpi];dsimp only;refine My (Na hit (by simp) λ h1 e1 sb1=>?_);refine My (Qy (s:={ s with heap:=h1 }) e1 rfl (by simp) ?_);show wpAny _ _ (newExc (.type "StopIteration") [] >>= _) _ _ _;refine My ?_;simp only[newExc,newTuple];refine My (Nm ?_ (by size_fits));refine My (m:=firstArgMember _ _) (wpAny_of_eq (a:=Value.none) (by first|rfl|(simp only[firstArgMember];rfl)) ?_);refine Nm ?_ (by size_fits);simp only[raiseNew];refine My (QO ?_);rw[show A.in1.handled=none from hh];refine My (MB (wpAny_throw ?_));refine My (O1 (T:="StopIteration") (b:=true) ⟨_,MI _ rfl,rfl⟩ jZ ?_);exact MB (hQ _ (((sb1.trans (Ov ..)).extBut.push _).push _))
end
def nv:Slot "set_iterator" "__iter__" "set_iterator.__iter__" :=
 .of (owner:="set_iterator") (n:="__iter__") (by rw[typeLookup_type,P8];kernel_rfl) (by decide +kernel) (by decide +kernel) (by decide +kernel)
  (by first|exact .inl (by decide +kernel)|exact .inr (by decide +kernel)) (by rw[QB];kernel_rfl)
def rH:entryFor table "set_iterator.__iter__" = some Builtin.«dict_keyiterator.__iter__» :=entryFor_alias (id':="dict_keyiterator.__iter__") (by kernel_rfl) rfl (by decide +kernel) (by kernel_rfl)
def uC (a:Value):argsOk "set_iterator.__iter__" ⟨[a],[]⟩:=by unfold argsOk;kernel_rfl
section
variable{I:Addr}{t:SetTable}
def uB {h:s.TypeIs (.ref I) "set_iterator"}{Q:Value->Shared->Prop}(hQ:Q (.ref I) s):wpAny (model prog w) A (pyIter (.ref I)) Q E s:=by
 refine PX h nv (Nd nv h rH ?_ (uC _));show wpAny _ _ (ret (.ref I)) _ _ s;exact MB ⟨_,rfl,"set_iterator",_,h,bM.lookup,hQ⟩
def Ip (hby:w.params.followText "set-order" = true)(hh:A.handled=none)(hne:a≠I)(hd:o.data=.set es ep t)(hf:t.fits es.size=true) :
  Walks prog w A I [I,a] [I] es.size (λ i v=>((pickOrder (w.params.setOrder a ep) es).toList.map (·.2))[i]?=some v) (λ i h=>h.get? I=some (qo (.int (0:Nat) 0) i a es.size ep)/\h.get? a=some o) where
 sub:=λ b hb=>by simp at hb;simp[hb]
 frame:=λ _ _ _ st hk=>⟨hk I (by simp) _ st.1,hk a (by simp) _ st.2⟩
 item:=λ i s Q E hi st hQ=>by
  have hl:=(nZ (w.params.setOrder a ep) es).length_eq;simp only[M8]at hl;have hg:(pickOrder (w.params.setOrder a ep) es)[i]?=some ((pickOrder (w.params.setOrder a ep) es)[i]'(by omega)):=MV _;refine sL (slot:=0) (nx:=0) (x:=((pickOrder (w.params.setOrder a ep) es)[i]'(by omega)).2) st.1 st.2 hd hf (λ A' E' Q' q=>CS hby st.2 hd hf (by rw[hg];exact q)) λ h' e1 sb=>?_;refine hQ _ h' s.toks ?_ ⟨e1,?_⟩ λ b o' hb e=>?_
  ·rw[MR,Nr,hg];rfl
  ·rw[sb.2 a hne];exact st.2
  ·rw[sb.2 b (λ z=>hb (by simp[z]))];exact e
 done:=λ s Q E st hQ=>by
  have hl:=(nZ (w.params.setOrder a ep) es).length_eq;simp only[M8]at hl;refine sJ (slot:=0) hh st.1 st.2 hd hf (λ A' E' Q' q=>CS hby st.2 hd hf (by rw[OA (by omega)];exact q)) λ h' he=>?_;exact hQ h' s.toks λ b o hb e=>he b o (λ h=>hb (by simp[h])) e
 self:=λ _ s _ _ st hQ=>uB (h:=⟨_,st.1,rfl⟩) hQ
def oR (t:SetTable):Nat->Nat
 |0=>0
 |i+1=>t.place.getD i 0+1
def qr (hr:uA t.place):∀ i,i<=t.place.size->SetTable.below t.place (oR t i)=i
 | 0,_=>by
  obtain⟨h1,h2,h3⟩:=l9 hr 0;show SetTable.below t.place 0=0;rcases Nat.eq_zero_or_pos (SetTable.below t.place 0) with z|z
  ·exact z
  ·have:=h2 0 _ (MV (by omega)) z;omega
 | i+1,hi=>by
  have hg:t.place[i]?=some (t.place[i]'(by omega)):=MV _;have hgd:t.place.getD i 0=t.place[i]'(by omega):=by rw[Nt,hg];rfl
  obtain⟨h1,h2,h3⟩:=l9 hr (oR t (i+1));have es:oR t (i+1)=t.place[i]'(by omega)+1:=by show t.place.getD i 0+1=_;rw[hgd]
  rw[es]at h1 h2 h3 ⊢;rcases OR (SetTable.below t.place (t.place[i]'(by omega)+1)) (i+1) with z|z|z
  ·have:=h3 i _ hg (by omega);omega
  ·exact z
  ·have hg':t.place[i+1]?=some (t.place[i+1]'(by omega)):=MV _;have l:=h2 (i+1) _ hg' z;have r:=pI hr hg hg' (by omega);omega
def Im (hby:w.params.followText "set-order" = false)(hdr:(!t.plain&&decide (es.size>1))=false)(g:Good true t)(hh:A.handled=none)(hne:a≠I)(hd:o.data=.set es ep t)(hf:t.fits es.size=true) :
  Walks prog w A I [I,a] [I] es.size (λ i v=>(es.toList.map (·.2))[i]?=some v) (λ i h=>i<=es.size/\h.get? I=some (qo (.int (oR t i:Nat) 0) i a es.size ep)/\h.get? a=some o) where
 sub:=λ b hb=>by simp at hb;simp[hb]
 frame:=λ _ _ _ st hk=>⟨st.1,hk I (by simp) _ st.2.1,hk a (by simp) _ st.2.2⟩
 item:=λ i s Q E hi st hQ=>by
  have hp:t.place.size=es.size:=by
   unfold SetTable.fits at hf;simp only[Nk,OU]at hf;exact hf.1
  have hb:=qr g.rise i (by omega);have hg:es[i]?=some (es[i]'hi):=MV _;have hgp:t.place[i]?=some (t.place[i]'(by omega)):=MV _;have hgd:t.place.getD i 0=t.place[i]'(by omega):=by rw[Nt,hgp];rfl
  refine sL (slot:=oR t i) (nx:=oR t (i+1)) (x:=(es[i]'hi).2) st.2.1 st.2.2 hd hf (λ A' E' Q' q=>CT hby hdr g.led st.2.2 hd hf (by
   rw[hb,hg,hgp];have:oR t (i+1)=t.place[i]'(by omega)+1:=by show t.place.getD i 0+1=_;rw[hgd]
   rw[this]at q;exact q)) λ h' e1 sb=>?_
  refine hQ _ h' s.toks ?_ ⟨hi,e1,?_⟩ λ b o' hb e=>?_
  ·rw[MR,Nr,hg];rfl
  ·rw[sb.2 a hne];exact st.2.2
  ·rw[sb.2 b (λ z=>hb (by simp[z]))];exact e
 done:=λ s Q E st hQ=>by
  have hp:t.place.size=es.size:=by
   unfold SetTable.fits at hf;simp only[Nk,OU]at hf;exact hf.1
  have hb:=qr g.rise es.size (by omega);refine sJ (slot:=oR t es.size) hh st.2.1 st.2.2 hd hf (λ A' E' Q' q=>CT hby hdr g.led st.2.2 hd hf (by rw[hb,OA (ML _)];exact q)) λ h' he=>?_;exact hQ h' s.toks λ b o hb e=>he b o (λ h=>hb (by simp[h])) e
 self:=λ _ s _ _ st hQ=>uB (h:=⟨_,st.2.1,rfl⟩) hQ
def Ff (es:Array (Int×Value))(ps:List Nat):List Value:=ps.map λ p=>((es[p]?).map (·.2)).getD .none
def Io{ps:List Nat}(hps:ps.Perm (List.range es.size))(hh:A.handled=none)(hne:a≠I)(hnT:T≠I)(hd:o.data=.set es ep t)(hf:t.fits es.size=true) :
  Walks prog w A I [I,a,T] [I] es.size (λ i v=>(Ff es ps)[i]?=some v) (λ i h=>h.get? I=some (qo (.ref T) i a es.size ep)/\h.get? a=some o/\h.IsTuple T (ps.map λ p:Nat=>Value.int p 0).toArray) where
 sub:=λ b hb=>by simp at hb;simp[hb]
 frame:=λ _ _ _ st hk=>⟨hk I (by simp) _ st.1,hk a (by simp) _ st.2.1,st.2.2.at λ o e=>hk T (by simp) o e⟩
 item:=λ i s Q E hi st hQ=>by
  have hl:ps.length=es.size:=by rw[hps.length_eq,MX]
  have hpi:ps[i]?=some (ps[i]'(by omega)):=MA _;have hpm:ps[i]'(by omega)<es.size:=M3.mp (hps.mem_iff.mp (Nu _));have hg:es[ps[i]'(by omega)]?=some (es[ps[i]'(by omega)]'hpm):=MV _;refine AO (p:=ps[i]'(by omega)) (x:=(es[ps[i]'(by omega)]'hpm).2) st.1 st.2.1 hd hf st.2.2 (by rw[<-Nr,List.toList_toArray,MR,hpi];rfl) (by rw[hg];rfl) λ h' e1 sb=>?_;refine hQ _ h' s.toks ?_ ⟨e1,?_,?_⟩ λ b o' hb e=>?_
  ·unfold Ff;rw[MR,hpi,Pw,hg];rfl
  ·rw[sb.2 a hne];exact st.2.1
  ·exact st.2.2.at λ o e=>by rw[sb.2 T hnT];exact e
  ·rw[sb.2 b (λ z=>hb (by simp[z]))];exact e
 done:=λ s Q E st hQ=>by
  have hl:ps.length=es.size:=by rw[hps.length_eq,MX]
  refine AQ hh st.1 st.2.1 hd hf st.2.2 (by rw[<-Nr,List.toList_toArray,NB (by rw[MC];omega)]) λ h' he=>?_;exact hQ h' s.toks λ b o hb e=>he b o (λ h=>hb (by simp[h])) e
 self:=λ _ s _ _ st hQ=>uB (h:=⟨_,st.1,rfl⟩) hQ
def AR {ps:List Nat}(hps:ps.Perm (List.range es.size)):(Ff es ps).Perm (es.toList.map (·.2)):=by
 unfold Ff;refine(hps.map _).trans ?_;refine List.Perm.of_eq ?_;refine NY (by simp) λ i h1 h2=>?_;have hi:i<es.size:=by simpa using h1
 simp[hi]
end
def Fg:typeLookup (.type "set") "__len__" = pure (some (.builtin "set.__len__")):=by rw[typeLookup_type,P8];kernel_rfl
section
variable{t:SetTable}
def Iq (ho:s.heap.get? a=some o)(hex:o.ExactSet)(hd:o.data=.set es ep t)(hf:t.fits es.size=true)(g:Good (rG w) t)(hb:es.size<scanBound){Q:Value->Shared->Prop}
  (hQ:∀ (I:Addr) (fp:List Addr) (ord:List Value) (St:Nat->Heap->Prop) (h':Heap) d,(∀ A':Around,A'.handled=none->Walks prog w A' I fp [I] es.size (λ i v=>ord[i]?=some v) St)->ord.Perm (es.toList.map (·.2))->St 0 h' ->
   (∀ b∈fp,b=a\/s.heap.objs.size<=b)->s.heap.objs.size<=I->(∀ b o,s.heap.get? b=some o->h'.get? b=some o)->Q (.ref I) { s with heap:=h',drawn:=d }):wpAny (model prog w) A (pyIter (.ref a)) Q E s:=by
 have hT:s.TypeIs (.ref a) "set" :=⟨o,ho,hex.1⟩;have hal:a<s.heap.objs.size:=MJ ho;have hsl:sizeLine=16777216:=NH;refine PX hT F.slot_set_iter (Nd F.slot_set_iter hT qq ?_ (F.args_set_iter_1 _));unfold Builtin.«frozenset.__iter__» Builtin.Frozenset.slot0 slotArgs;simp only[Po,OV,M9,↓reduceIte,bind_assoc,NW,NL];unfold Builtin.Frozenset.addrOf Builtin.Frozenset.sizeOf;refine My (MB ?_);dsimp only;refine My (MB ?_);refine My (My (OZ ho hd hf (MB ?_)));refine My ?_;unfold setDrawn;refine My (Ou ho hd hf ?_);dsimp only;refine My (nu (MB ?_));have ep_any:∀ (s1:Shared) (Q':Nat->Shared->Prop),s1.heap.get? a=some o->Q' ep s1->wpAny (model prog w) A.in1 (setEpoch a) Q' E s1:=λ s1 Q' h1 q=>by
  unfold setEpoch;exact My (Ou h1 hd hf (MB q))
 cases hby:w.params.followText "set-order" with
 | true =>
  rw[show(model prog w).w.params.followText "set-order" = true from hby];simp only[OV,QY,M9,↓reduceIte];refine My (MB ?_);refine My (ep_any _ _ ho ?_);refine My (Nm (MB ⟨_,rfl,"set_iterator",_,⟨_,MI _ rfl,rfl⟩,bM.lookup,?_⟩));refine hQ s.heap.objs.size [s.heap.objs.size,a] _ _ _ s.drawn (λ A' hh=>Ip (prog:=prog) (I:=s.heap.objs.size) (o:=o) hby hh (M0 hal) hd hf) ((nZ _ es).map _) ⟨MI _ rfl,Mz _ ho⟩ (λ b hbm=>?_) (ML _) λ b o e=>Mz _ e;rcases MK.mp hbm with rfl|hbm
  ·exact .inr (ML _)
  ·rcases MK.mp hbm with rfl|hbm
   ·exact .inl rfl
   ·cases hbm
 | false =>
  rw[show(model prog w).w.params.followText "set-order" = false from hby];have gl:Good true t:=by
   have e:rG w=true:=by unfold rG;rw[hby];rfl
   rw[e]at g;exact g
  cases hdr:(!t.plain&&decide (es.size>1)) with
  | false =>
   refine PB (λ hc=>?_) (λ _=>?_)
   ·have hc':(!false&&(!t.plain&&decide (es.size>1)))=true:=hc;rw[hdr]at hc';cases hc'
   refine My (MB ?_);refine My (ep_any _ _ ho ?_);refine My (Nm (MB ⟨_,rfl,"set_iterator",_,⟨_,MI _ rfl,rfl⟩,bM.lookup,?_⟩));refine hQ s.heap.objs.size [s.heap.objs.size,a] _ _ _ s.drawn (λ A' hh=>Im (prog:=prog) (I:=s.heap.objs.size) (o:=o) hby hdr gl hh (M0 hal) hd hf) (Nz _) ⟨NV _,MI _ rfl,Mz _ ho⟩ (λ b hbm=>?_) (ML _) λ b o e=>Mz _ e;rcases MK.mp hbm with rfl|hbm
   ·exact .inr (ML _)
   ·rcases MK.mp hbm with rfl|hbm
    ·exact .inl rfl
    ·cases hbm
  | true =>
   refine PB (λ _=>?_) (λ hc=>?_)
   ·refine My (vL es.size (List.range es.size) s _ (MX) λ ps d hps=>?_);have hpl:ps.length=es.size:=by rw[hps.length_eq,MX]
    simp only[newTuple];refine My (Nm ?_ ?_)
    ·refine My (ep_any _ _ (Mz _ ho) ?_);refine My (Nm (MB ⟨_,rfl,"set_iterator",_,⟨_,MI _ rfl,rfl⟩,bM.lookup,?_⟩));refine hQ _ [_,a,s.heap.objs.size] _ _ _ d (λ A' hh=>Io (prog:=prog) (w:=w) (o:=o) (T:=s.heap.objs.size) hps hh ?_ ?_ hd hf) (AR hps) ⟨MI _ rfl,Mz _ (Mz _ ho),?_⟩ (λ b hbm=>?_) ?_ λ b o e=>Mz _ (Mz _ e)
     ·rw[Ny];exact M0 (OO hal)
     ·rw[Ny];exact M0 (Qe _)
     ·exact⟨_,Mz _ (MI _ rfl),rfl,0,rfl⟩
     ·rcases MK.mp hbm with rfl|hbm
      ·right;rw[Ny];exact OP _
      ·rcases MK.mp hbm with rfl|hbm
       ·exact .inl rfl
       ·rcases MK.mp hbm with rfl|hbm
        ·exact .inr (ML _)
        ·cases hbm
     ·rw[Ny];exact OP _
    ·show(ps.map λ (i:Nat)=>rawInt i).toArray.size<=sizeLine;rw[MN,MC,hpl];unfold scanBound at hb;omega
   ·exact absurd (show(!false&&(!t.plain&&decide (es.size>1)))=true by rw[hdr];rfl) hc
def CV (hT:s.TypeIs (.ref a) "set"){Q:Bool->Shared->Prop}(h:Q false s):wpAny (model prog w) A (Builtin.List.listLengthHint (.ref a)) Q E s:=by
 unfold Builtin.List.listLengthHint;refine My (wpAny_specialOf hT Fg ?_);generalize hid:("set.__len__" : String)=id0
 wp_delta
 rw[show splitId id0=some ("set","__len__") from by subst hid;decide +kernel];subst hid;refine My (O1 (T:="set") (b:=true) hT (by rw[QB];kernel_rfl) ?_);refine PB (λ hab=>absurd hab (by decide)) (λ _=>?_);refine PB (λ _=>?_) (λ hab=>absurd (by decide +kernel) hab);refine My (O5 hT ?_);exact MB h
def CU {ord:List Value}{acc:Array Value}(h:ItemsOf (λ i v=>ord[i]?=some v) acc n)(hn:ord.length=n):acc.toList=ord:=by
 refine NS λ i=>?_;rcases Nat.lt_or_ge i n with q|q
 ·have hi:i<acc.size:=by rw[h.1];exact q
  have e:acc[i]?=some acc[i]:=MV hi;rw[Nr,e,h.2 i _ e]
 ·rw[NB (by rw[M8,h.1];exact q),NB (by omega)]
def AS (hh:A.handled=none)(ho:s.heap.get? a=some o)(hex:o.ExactSet)(hd:o.data=.set es ep t)(hf:t.fits es.size=true)(g:Good (rG w) t)(hb:es.size<scanBound){Q:List Value->Shared->Prop}
  (hQ:∀ (vs:List Value) (h':Heap) (tk:Nat) d,vs.Perm (es.toList.map (·.2))->(∀ b o,s.heap.get? b=some o->h'.get? b=some o)->s.heap.objs.size<=h'.objs.size->Q vs { s with heap:=h',toks:=tk,drawn:=d }):wpAny (model prog w) A (collect (.ref a)) Q E s:=by
 have hal:a<s.heap.objs.size:=MJ ho;have hn:es.size<=sizeLine:=QM hb;unfold collect;refine My (wpAny_runValue (N8 F.entry_proto_collect ?_));rw[NO F.plain_proto_collect _];show wpAny _ A.in1 (newList [] >>= λ l=>again (.builtin "list.__iadd__" ⟨[l,.ref a],[]⟩)) _ _ s;refine My (Nm ?_);refine MB ⟨O9 P0 _,N8 F.entry_list_iadd ?_⟩;rw[NO P0 _];have ho1:(s.heap.push { cls:=.type "list",data:=.seq ([]:List Value).toArray }).get? a=some o:=Mz _ ho;show wpAny _ A.in1 (Builtin.List.listExtendWith (.ref s.heap.objs.size) (.ref a) (.ref s.heap.objs.size)) _ _ _;unfold Builtin.List.listExtendWith;refine My (O5 (T:="set") ⟨o,ho1,hex.1⟩ ?_);have h1:Builtin.List.listSameRef (.ref s.heap.objs.size) (.ref a)=false:=by simp[Builtin.List.listSameRef,Ox hal]
 have h2:(Value.type "set" == Value.type "list")=false:=by decide
 have h3:(Value.type "set" == Value.type "tuple")=false:=by decide
 simp only[h1,h2,h3,Bool.or_false,M9,ON];refine My (Iq (s:={ s with heap:=s.heap.push { cls:=.type "list",data:=.seq ([]:List Value).toArray } }) ho1 hex hd hf g hb λ I fp ord St hp d W hord hst hfp hI kp=>?_);have hS0:hp.get? s.heap.objs.size=some { cls:=.type "list",data:=.seq ([]:List Value).toArray }:=kp _ _ (MI _ rfl);have hsz:s.heap.objs.size+1<=I:=by
  have:(s.heap.push { cls:=.type "list",data:=.seq ([]:List Value).toArray }).objs.size<=I:=hI;rw[Ny]at this;exact this
 refine My (Od (CV ⟨o,kp _ _ ho1,hex.1⟩ ?_));refine PB (λ _=>?_) (λ hc=>absurd (by decide +kernel) hc);refine My (O6 ?_);refine My ?_;show wpAny _ _ (updateSeq s.heap.objs.size (·.push .none) >>= λ _=>updateSeq s.heap.objs.size (·.pop)) _ _ _;refine My (O8 hS0 rfl ?_);have hS₂:=Ol (Obj.mapSeq (·.push Value.none)) hS0 rfl;refine O8 hS₂ rfl ?_;have hS₃:=Ol (Obj.mapSeq (·.pop)) hS₂ rfl;have oth:∀ b o,b≠s.heap.objs.size->hp.get? b=some o->((hp.update s.heap.objs.size (Obj.mapSeq (·.push Value.none))).update s.heap.objs.size (Obj.mapSeq (·.pop))).get? b=some o:=
  λ b o hb e=>(Of _ _ (NU hb)).trans ((Of _ _ (NU hb)).trans e)
 have WS:=(W A.in1 hh).toS;have hSf:s.heap.objs.size∉fp:=λ hm=>by
  rcases hfp _ hm with z|z
  ·exact absurd z (Ox hal)
  ·have z:(s.heap.push { cls:=.type "list",data:=.seq ([]:List Value).toArray }).objs.size<=s.heap.objs.size:=z;rw[Ny]at z;exact absurd z (Nat.not_succ_le_self _)
 have hol:ord.length=es.size:=by rw[hord.length_eq,MC,M8]
 refine MB ⟨O9 F.plain_extend_loop _,codeAny_extend_loopS WS hn _ hSf _ es.size 0 _ _ _ rfl (NV _)
  (WS.frame 0 ({ s with heap:=hp,drawn:=d }:Shared) _ s.toks hst (ML _) λ b hb o e=>oth b o (λ h=>hSf (h▸hb)) e) hS₃ (ItemsOf.nil _) λ s' acc' c' hm hS' hacc=>?_⟩
 show wpAny _ A (load s.heap.objs.size >>= _) _ _ s';refine My (wpAny_load hS' ?_);refine MB ?_;rw[CU hacc hol];obtain⟨h',g',d',tk',os'⟩:=s';have eg:g'=s.gens:=hm.gens;have ed:d'=d:=hm.drawn;have eo:os'=s.os:=hm.os;subst eg ed eo;refine hQ ord h' tk' _ hord (λ b o' e=>hm.heap b o' (λ z=>?_) (oth b o' (M0 (MJ e)) (kp b o' (Mz _ e)))) (Ow (MJ hS'));rcases MK.mp z with z|z
 ·exact absurd z (M0 (MJ e))
 ·have z:b=I:=by simpa using z
  have l:=Ng (MJ e) (Pc hsz);rw[z]at l;exact absurd l (NG _)
end
def nk:∀ (vs:List Value),(∀ v∈vs,∃ k t,v=.int k t)->∃ ns:List Int,IntsAre vs ns/\ns.length=vs.length/\∀ k,k∈ns↔∃ t,Value.int k t∈vs
 |[],_=>⟨[],.nil,rfl,λ k=>by simp⟩
 | v::vs,h=>by
  obtain⟨k,t,rfl⟩:=h v MD;obtain⟨ns,h1,h2,h3⟩:=nk vs λ v hv=>h v (ME _ hv);refine⟨k::ns,.cons k t h1,by rw[MQ,MQ,h2],λ k'=>?_⟩;constructor
  ·intro m;rcases MK.mp m with rfl|m
   ·exact⟨t,MD⟩
   ·obtain⟨t',q⟩:=(h3 k').mp m;exact⟨t',ME _ q⟩
  ·rintro⟨t',m⟩;rcases MK.mp m with e|m
   ·cases e;exact MD
   ·exact ME _ ((h3 k').mpr ⟨t',m⟩)
section
def CY (hh:A.handled=none){S:Int->Bool}(hS:i7 prog w (rG w) s.heap a S n)(h64:n<64){Q:Value->Shared->Prop}
  (h:∀ (out:Array Value) (ns':List Int) (h':Heap) (tk:Nat) d (q:Addr),IntsAre out.toList ns'->ns'.Pairwise (· <= ·)->(∀ k,k∈ns'↔S k=true)->ns'.length=n->(∀ b o,s.heap.get? b=some o->h'.get? b=some o)->s.heap.objs.size<=q ->
   (∃ e,h'.get? q=some (seqObj "list" out e))->Q (.ref q) { s with heap:=h',toks:=tk,drawn:=d }) :
  wpAny (model prog w) A (call (.builtin "sorted") [.ref a]) Q E s:=by
 obtain⟨o,es,ep,t,ho,hex,hd,hel,hmem,hb,hf,hn,g⟩:=hS;refine Pq kind_sorted plain_sorted entry_sorted (args_sorted1 _) ?_;unfold Builtin.«sorted»;refine My (m:=checkCount "sorted" 1 1 _) (MB ?_);refine My (AS (A:=A.in1) hh ho hex hd hf g hb λ vs h1 tk d hp kp hsz=>?_);have hvl:vs.length=n:=by rw[hp.length_eq,MC,M8,hn]
 obtain⟨ns,hI,hnl,hnm⟩:=nk vs λ v hv=>by
  obtain⟨e,he,rfl⟩:=MM.mp (hp.mem_iff.mp hv);obtain⟨⟨k,hk,_⟩,_⟩:=hel e he;obtain⟨t',q⟩:=QG hk;exact⟨k,t',q⟩
 refine My (QQ ?_ (by rw[hvl,NH];omega));have hoL:(h1.push (seqObj "list" vs.toArray 0)).get? h1.objs.size=some (seqObj "list" vs.toArray 0):=MI _ rfl;show wpAny _ _ _ _ _ ({ s with heap:=h1.push (seqObj "list" vs.toArray 0),toks:=tk,drawn:=d }:Shared);refine My (Od (Nd slot_list_sort ⟨_,hoL,rfl⟩ entry_list_sort (list_sort_tree hoL hI (by omega) λ out ns' a1 a2 a3=>⟨_,rfl,?_⟩) (args_list_sort _)));have ge:∀ b o,s.heap.get? b=some o->b<h1.objs.size:=λ b o e=>MJ (kp b o e);refine MB ⟨_,rfl,h out ns' _ tk d h1.objs.size a1 a3 (λ k=>?_) (by rw[a2.length_eq,hnl,hvl]) (λ b o e=>?_) ?_ (sortedHeap_at hoL)⟩
 ·rw[a2.mem_iff,hnm,hmem];constructor
  ·rintro⟨t',m⟩;obtain⟨e,he,q⟩:=MM.mp (hp.mem_iff.mp m);exact⟨e,he,by rw[q];exact intKind_is _ _ _ _⟩
  ·rintro⟨e,he,q⟩;obtain⟨t',q⟩:=QG q;exact⟨t',hp.mem_iff.mpr (MM.mpr ⟨e,he,q⟩)⟩
 ·have hlt:=ge b o e;have hne:b≠h1.objs.size:=M0 hlt;have sh:(sortedHeap (h1.push (seqObj "list" vs.toArray 0)) h1.objs.size vs out).get? b=(h1.push (seqObj "list" vs.toArray 0)).get? b:=sortedHeap_old hne (by rw[size_push'];exact OO hlt);show(sortedHeap (h1.push (seqObj "list" vs.toArray 0)) h1.objs.size vs out).get? b=some o;rw[sh];exact Mz _ (kp b o e)
 ·exact hsz
end
end SR
namespace L2
open PySem PySem.Spec PyProof.Rows
def vN:∀ (ns acc:List Int),acc.Nodup->(ns.foldl step_dedup acc).Nodup
 |[],acc,h=>h
 | x::r,acc,h=>by
  rw[QX];refine vN r _ ?_;unfold step_dedup;split
  ·exact h
  ·rename_i hx;rw[MS];refine⟨h,MZ.mpr ⟨NQ,NJ⟩,λ a ha b hb z=>hx ?_⟩;have e:b=x:=by simpa using hb
   rw[O3];exact⟨a,ha,by rw[z,e];simp⟩
def Ir (ns:List Int)(k:Int):(dd ns).any (· == k)=true↔k∈dd ns:=by
 rw[O3];constructor
 ·rintro⟨x,hx,e⟩;have e:x=k:=by simpa using e
  exact e▸hx
 ·intro h;exact⟨k,h,by simp⟩
def zo:∀ (d ks:List Int),d.Nodup->(∀ k∈d,k∈ks)->ks.length<=d.length->ks.Perm d
 | [],ks,_,_,hl=>by
  have e:ks=[]:=PM.mp (Nat.le_zero.mp hl);subst e;exact Nz _
 | x::r,ks,hn,hm,hl=>by
  have hx:=hm x MD;have hp:=List.perm_cons_erase hx;have hn':=MZ.mp hn;have ih:=zo r (ks.erase x) hn'.2 (λ k hk=>(List.mem_erase_of_ne (λ z:k=x=>hn'.1 (z▸hk))).mpr (hm k (ME _ hk))) (by
   have:=hp.length_eq;rw[MQ]at this hl;omega)
  exact hp.trans (List.Perm.cons x ih)
def Inv.CW {X:Cx}{pins:List (Addr×Obj)}{σ:L2.St}{H:Hp}{s:Shared}(I:Inv X pins σ H s)(d):Inv X pins σ H { s with drawn:=d }:=
 ⟨I.ok,I.os,I.bare,I.base,I.loc,I.cell,I.free,I.ku,I.pin,I.hok,I.len⟩
section
variable {X:Cx}{x y:Str}{p p2 pos pos2:Pos}{e:Expr}{te:TE}
def uD (hc:X.calm=true)(hg:Gl X x)(hm:X.mg x=none)(hv:bootBuiltins x=some (.builtin "sorted"))(hg2:Gl X y)(hm2:X.mg y=none)(hv2:bootBuiltins y=some (.type "set"))(he:PE X e te)
  (hn:x ≠ "__name__" :=by decide) (hdb:(x == ("__debug__" : Str))=false:=by decide) (hn2:y ≠ "__name__" :=by decide) (hdb2:(y == ("__debug__" : Str))=false:=by decide)
  (hst:starEach [.Call (.Name y p2) [e] [] pos2] X.env=(false,eval (.Call (.Name y p2) [e] [] pos2) X.env)::starEach [] X.env:=by rfl) (hst2:starEach [e] X.env=(false,eval e X.env)::starEach [] X.env:=by rfl) :
  PE X (.Call (.Name x p) [.Call (.Name y p2) [e] [] pos2] [] pos) (λ σ H Q=>Ge te Js σ H λ vs H1=>∃ a ns,vs=[.ref a]/\dR X.K H1 a (ns.map V.int)/\ns.length<64 /\
   ∀ (q:Addr) (ns':List Int),H1 q=none->ns'.Perm (dd ns)->ns'.Pairwise (· <= ·)->Q (.ref q) (upd H1 q (.lst (ns'.map V.int)))):=by
 intro pins s σ H Q I h;refine Oo (kq I hg hm hv ?_ hn hdb);refine Qd (e:=.Call (.Name y p2) [e] [] pos2) (rest:=[]) ?_ hst rfl;rw[hst];show wpAny _ _ (spliced ((false,eval (.Call (.Name y p2) [e] [] pos2) X.env)::[])) _ _ s;refine PD ?_;refine Oo (kq I hg2 hm2 hv2 ?_ hn2 hdb2);refine Oc (e:=e) (rest:=[]) (eB (gm he jC hst2 pos2 pins s σ H _ I h) λ us s1 hq5=>L2.ex5 hq5 λ vs H1 I1 r1 q1=>?_) hst2 rfl;obtain⟨a,ns,rfl,hq,hl,q⟩:=q1;obtain⟨u,rfl,ru⟩:=r1.one;cases ru;obtain⟨its,rv,pl,hz⟩:=I1.list hq;have hlen:=rv.length;rw[MC]at hlen;have hsz:its.toArray.size=ns.length:=by rw[MN,hlen]
 refine SR.xV (I1.ok.hd hc) pl.isList (by simpa using intsAre_of rv) (by show its.toArray.size+1<4096;omega) λ h2 tk2 hs2 kp2=>?_;rw[hsz]at hs2;refine QI ?_;have hdl:(dd ns).length<=ns.length:=PyProof.Rows.firstMet_length_le _ _;refine SR.CY (s:={ s1 with heap:=h2,toks:=tk2 }) (I1.ok.hd hc) hs2 (show(dd ns).length<64 by omega) λ out ns' h3 tk3 d q' a1 a2 a3 a4 k3 g3 a5=>?_;obtain⟨ep,e5⟩:=a5;have hpm:ns'.Perm (dd ns):=zo (dd ns) ns' (vN _ [] NJ) (λ k hk=>(a3 k).mpr ((Ir ns k).mpr hk)) (by rw[a4];exact ML _);have hge:s1.heap.objs.size<=q':=by
  obtain⟨o,es,ep',t,ho,_⟩:=hs2;exact NX (Ow (MJ ho)) g3
 refine⟨.ref q',_,(I1.laid (t':=tk3) (λ b o z=>k3 b o (kp2 b o (MJ z) z)) hge ?_).CW d,rfl,q q' ns' (I1.hok.fresh hge) hpm a2⟩;refine⟨?_,out.toList,ep,ji a1,by rw[Ql];exact e5⟩;rw[MC,a4];exact NX (Ow (show(dd ns).length<64 by omega)) (by decide)
end
end L2
namespace DL
open PySem PySem.Spec PyProof.Rows L2
section
variable {K:PySem.W.Frag}{Y:XY}{X:Cx}{pos pos2 p p2:Pos}{e:Expr}{fe:SD->Res D}{x y:Str}
def qt:D->Res D
 |.lst _ xs=>match intsOf xs with|some ns=>if ns.length<64 then .ok (.lst .own ((sortI (dd ns)).map D.int)) else .bad|none=>.bad
 |_=>.bad
def vM (hc:X.calm=true)(hg:Gl X x)(hm:X.mg x=none)(hv:bootBuiltins x=some (.builtin "sorted"))(hg2:Gl X y)(hm2:X.mg y=none)(hv2:bootBuiltins y=some (.type "set"))(he:PE X e (tM X.K Y fe))
  (hn:x ≠ "__name__" :=by decide) (hdb:(x == ("__debug__" : Str))=false:=by decide) (hn2:y ≠ "__name__" :=by decide) (hdb2:(y == ("__debug__" : Str))=false:=by decide)
  (hst:starEach [.Call (.Name y p2) [e] [] pos2] X.env=(false,eval (.Call (.Name y p2) [e] [] pos2) X.env)::starEach [] X.env:=by rfl) (hst2:starEach [e] X.env=(false,eval e X.env)::starEach [] X.env:=by rfl) :
  PE X (.Call (.Name x p) [.Call (.Name y p2) [e] [] pos2] [] pos) (tM X.K Y (ki qt fe)):=
 PE.imp (uD hc hg hm hv hg2 hm2 hv2 he hn hdb hn2 hdb2 hst hst2) λ σ H Q hq=>ex8 hq λ H0 B0 B τ P F I h=>tM.seq I h λ d v H1 B1 f _ I1 _ _ r1 k h1=>by
  cases d with
  | lst t xs =>
   obtain⟨a,ws,g,rfl,q,l,s⟩:=r1.lst I1;have h3:Goal X.K Y H0 B0 B1 H1 σ τ P F Q (match intsOf xs with|some ns=>if ns.length<64 then .ok (.lst .own ((sortI (dd ns)).map D.int)) else .bad|none=>.bad):=h1;cases e:intsOf xs with
   |none=>rw[e]at h3;exact h3.elim
   | some ns =>
    rw[e]at h3;simp only at h3;split at h3
    ·rename_i hl;have ex:=dX e;subst ex;obtain⟨rfl,rfl⟩:=dW l;refine⟨a,ns,rfl,eZ q,hl,λ p ns' hp h1 h2=>?_⟩;have e2:ns'=sortI (dd ns):=dY (h1.trans (sortI_perm (dd ns)).symm) h2 (dG (dd ns));subst e2;exact Out.tX h3 I1 (iq _) fM.nil hp
    ·exact h3.elim
  |_=>exact h1.elim
end
end DL
namespace SR
open PySem PySem.Spec PyProof.Rows
section
variable {prog:Program}{w:World}{A:Around}{E:Value->Shared->Prop}{s:Shared}{a:Addr}{vs:List Value}
def vO (ht:IsTup s.heap a vs.toArray)(hl:vs.length<64){Q:List Value->Shared->Prop}
  (hQ:∀ h':Heap,(∀ b o,s.heap.get? b=some o->h'.get? b=some o)->s.heap.objs.size<=h'.objs.size->Q vs { s with heap:=h' }):wpAny (model prog w) A (collect (.ref a)) Q E s:=by
 obtain⟨o,ho,hc,n,hd⟩:=ht;have hal:a<s.heap.objs.size:=MJ ho;unfold collect;refine My (wpAny_runValue (N8 F.entry_proto_collect ?_));rw[NO F.plain_proto_collect _];show wpAny _ A.in1 (newList [] >>= λ l=>again (.builtin "list.__iadd__" ⟨[l,.ref a],[]⟩)) _ _ s;refine My (Nm ?_);refine MB ⟨O9 P0 _,N8 F.entry_list_iadd ?_⟩;rw[NO P0 _];have ho1:(s.heap.push { cls:=.type "list",data:=.seq ([]:List Value).toArray }).get? a=some o:=Mz _ ho;have hS0:(s.heap.push { cls:=.type "list",data:=.seq ([]:List Value).toArray }).get? s.heap.objs.size=some { cls:=.type "list",data:=.seq ([]:List Value).toArray }:=MI _ rfl;show wpAny _ A.in1 (Builtin.List.listExtendWith (.ref s.heap.objs.size) (.ref a) (.ref s.heap.objs.size)) _ _ _;unfold Builtin.List.listExtendWith;refine My (O5 (T:="tuple") ⟨o,ho1,hc⟩ ?_);have h3:(Value.type "tuple" == Value.type "tuple")=true:=by decide
 simp only[h3,Bool.or_true,OG];refine My (listItems_at ho1 hd ?_);refine My (listItems_at hS0 rfl ?_);have h4:(([]:List Value).toArray).isEmpty=true:=rfl;simp only[h4,OV,QY,M9,ON];refine My ?_;show wpAny _ _ (updateSeq s.heap.objs.size (· ++ vs.toArray)) _ _ _;refine O8 hS0 rfl ?_ (by simp) (by simp[NH];omega);have hS₂:=Ol (Obj.mapSeq (· ++ vs.toArray)) hS0 rfl;refine MB ?_;show wpAny _ A (load s.heap.objs.size >>= _) _ _ _;refine My (wpAny_load hS₂ ?_);refine MB ?_;have e:((([]:List Value).toArray)++vs.toArray).toList=vs:=by simp
 show Q ((([]:List Value).toArray)++vs.toArray).toList _;rw[e];refine hQ _ (λ b u hb=>?_) ?_
 ·have hne:b≠s.heap.objs.size:=M0 (MJ hb);exact(Of _ _ (NU hne)).trans (Mz _ hb)
 ·exact Ow (MJ hS₂)
def xX {ns:List Int}(ht:IsTup s.heap a vs.toArray)(hI:IntsAre vs ns)(hl:vs.length<64){Q:Value->Shared->Prop}
  (h:∀ (out:Array Value) (ns':List Int) (h':Heap) (q:Addr),IntsAre out.toList ns'->ns'.Perm ns->ns'.Pairwise (· <= ·)->(∀ b o,s.heap.get? b=some o->h'.get? b=some o)->s.heap.objs.size<=q ->
   (∃ e,h'.get? q=some (seqObj "list" out e))->Q (.ref q) { s with heap:=h' }) :
  wpAny (model prog w) A (call (.builtin "sorted") [.ref a]) Q E s:=by
 refine Pq kind_sorted plain_sorted entry_sorted (args_sorted1 _) ?_;unfold Builtin.«sorted»;refine My (m:=checkCount "sorted" 1 1 _) (MB ?_);refine My (vO (A:=A.in1) ht hl λ h1 kp hsz=>?_);refine My (QQ ?_ (by rw[NH];omega));have hoL:(h1.push (seqObj "list" vs.toArray 0)).get? h1.objs.size=some (seqObj "list" vs.toArray 0):=MI _ rfl;show wpAny _ _ _ _ _ ({ s with heap:=h1.push (seqObj "list" vs.toArray 0) }:Shared);refine My (Od (Nd slot_list_sort ⟨_,hoL,rfl⟩ entry_list_sort (list_sort_tree hoL hI (by omega) λ out ns' a1 a2 a3=>⟨_,rfl,?_⟩) (args_list_sort _)));have ge:∀ b o,s.heap.get? b=some o->b<h1.objs.size:=λ b o e=>MJ (kp b o e);refine MB ⟨_,rfl,h out ns' _ h1.objs.size a1 a2 a3 (λ b o e=>?_) hsz (sortedHeap_at hoL)⟩;have hlt:=ge b o e;have hne:b≠h1.objs.size:=M0 hlt;have sh:(sortedHeap (h1.push (seqObj "list" vs.toArray 0)) h1.objs.size vs out).get? b=(h1.push (seqObj "list" vs.toArray 0)).get? b:=sortedHeap_old hne (by rw[Ny];exact OO hlt);show(sortedHeap (h1.push (seqObj "list" vs.toArray 0)) h1.objs.size vs out).get? b=some o;rw[sh];exact Mz _ (kp b o e)
end
end SR
namespace L2
open PySem PySem.Spec PyProof.Rows
section
variable {X:Cx}
def uE:eE X (.builtin "sorted") (λ xs H Q=>∃ (a:Addr) (ns:List Int),xs=[.ref a]/\(dR X.K H a (ns.map V.int)\/jd X.K H a (ns.map V.int))/\ns.length<64/\∀ (p:Addr) (ns':List Int),H p=none->ns'.Perm ns->ns'.Pairwise (· <= ·)->Q (.ref p) (upd H p (.lst (ns'.map V.int)))):=by
 intro pins s σ H xs us Q I r h;obtain⟨a,ns,rfl,hq,hl,q⟩:=h;rcases hq with hq|hq
 ·exact oF pins s σ H _ us Q I r ⟨a,ns,rfl,hq,hl,q⟩
 obtain⟨u,rfl,ru⟩:=vals1 r;cases ru;obtain⟨its,rv,pt,hz⟩:=I.tuple hq;have hi:=intsAre_of rv;have hlen:=rv.length;rw[MC]at hlen;refine SR.xX pt hi (by omega) λ out ns' h' p a1 a2 a3 kp hp he=>?_;obtain⟨e,he⟩:=he;refine⟨.ref p,_,I.laid (t':=s.toks) kp hp ?_,rfl,q _ ns' (I.hok.fresh hp) a2 a3⟩;refine⟨?_,out.toList,e,ji a1,by rw[Ql];exact he⟩;rw[MC,a2.length_eq];exact NX (Ow hl) (by decide)
end
end L2
namespace DL
open PySem PySem.Spec PyProof.Rows L2
section
variable {K:PySem.W.Frag}{Y:XY}
def jq:List D->Res D
 |[.lst _ xs]=>match intsOf xs with|some ns=>if ns.length<64 then .ok (.lst .own ((sortI ns).map D.int)) else .bad|none=>.bad
 |[.tup xs]=>match intsOf xs with|some ns=>if ns.length<64 then .ok (.lst .own ((sortI ns).map D.int)) else .bad|none=>.bad
 |_=>.bad
def AU:jV K Y (λ xs H Q=>∃ (a:Addr) (ns:List Int),xs=[.ref a]/\(dR K H a (ns.map V.int)\/jd K H a (ns.map V.int))/\ns.length<64/\∀ (p:Addr) (ns':List Int),H p=none->ns'.Perm ns->ns'.Pairwise (· <= ·)->Q (.ref p) (upd H p (.lst (ns'.map V.int)))) jq:=by
 intro H0 B0 B H σ τ P F ds vs f Q I r k h;unfold jq at h;split at h
 ·obtain⟨v,rfl,r'⟩:=iO r;obtain⟨a,ws,g,rfl,q,l,s⟩:=r'.lst I;split at h
  ·rename_i ns e;split at h
   ·rename_i hl;have ex:=dX e;subst ex;obtain⟨rfl,rfl⟩:=dW l;refine⟨a,ns,rfl,.inl (eZ q),hl,λ p ns' hp h1 h2=>?_⟩;have e2:ns'=sortI ns:=dY (h1.trans (sortI_perm ns).symm) h2 (dG ns);subst e2;exact Out.tX h I (iq _) fM.nil hp
   ·exact h.elim
  ·exact h.elim
 ·obtain⟨v,rfl,r'⟩:=iO r;obtain⟨a,ws,rfl,q,l⟩:=Rep.tp r';split at h
  ·rename_i ns e;split at h
   ·rename_i hl;have ex:=dX e;subst ex;obtain⟨rfl,rfl⟩:=dW l;refine⟨a,ns,rfl,.inr q,hl,λ p ns' hp h1 h2=>?_⟩;have e2:ns'=sortI ns:=dY (h1.trans (sortI_perm ns).symm) h2 (dG ns);subst e2;exact Out.tX h I (iq _) fM.nil hp
   ·exact h.elim
  ·exact h.elim
 ·exact h.elim
end
end DL
namespace KL
open PySem PySem.Spec PyProof.Rows L2 DL
def top (i:Nat):Stmt:=PySem.Challenge.pw_modulewood_k11_quotients.main.body.getD i (.Pass ⟨0,0,0,0⟩)
structure Txt (mg:Str->Option Value):Prop where
 xZ:mg "bool" = none
 gJ:mg "enumerate" = none
 Gw:mg "int" = none
 bY:mg "isinstance" = none
 iU:mg "len" = none
 uH:mg "list" = none
 vU:mg "max" = none
 vP:mg "min" = none
 gx:mg "range" = none
 Ko:mg "set" = none
 ny:mg "sorted" = none
 Gx:mg "str" = none
 fX:mg "tuple" = none
 Gy:mg "zip" = none
structure Bd where
 P:Program
 w:World
 K:PySem.W.Frag
 mg:Str->Option Value
 base:Heap
abbrev TX (b:Bd):=Txt b.mg
section
variable {b:Bd}
abbrev j3:Stmt:=top 8
def jt:aT ["places","place"] ["places","place"] (aC j3):=nc
abbrev j0 (K:PySem.W.Frag)(mg:Str->Option Value):=lM K mg "require_place" j3 ["places","place"]
def fB:SF:=dS (eT (af (inD true) (aa 1) (aa 0))) cR aV
def bN:DF:=b9 2 2 (fB)
abbrev gU (b:Bd):=kE b.P b.w b.K b.mg b.base 1 "require_place" ["places","place"] (jz b.K (bN))
def n5 (T:TX b)  (F:j0 b.K b.mg):gU b:=bA (k:=0) (g:=fB) F jt rfl rfl λ f cdv A outer s H hr=>by
 have nd:=jt.nd;have hu:=cZ hr;exact aB (eG (bj gZ (EB true) (qv 1) (qv 0))
   (aB k8)
   (bF))
abbrev lY:Stmt:=top 9
def kN:aT ["places","one","other"] ["places","one","other"] (aC lY):=nc
abbrev lV (K:PySem.W.Frag)(mg:Str->Option Value):=lM K mg "require_two" lY ["places","one","other"]
def i8:SF:=aE (d8 (az bN (ae (aa 0) (ae (aa 1) ah)))) (aE (d8 (az bN (ae (aa 0) (ae (aa 2) ah)))) (dS (eT (af iI (aa 1) (aa 2))) cR aV))
def fg:DF:=b9 3 3 (i8)
abbrev lW (b:Bd):=kE b.P b.w b.K b.mg b.base 2 "require_two" ["places","one","other"] (jz b.K (fg))
def qE (T:TX b)(C_require_place:gU b)(F:lV b.K b.mg):lW b:=bA (k:=1) (g:=i8) F kN rfl rfl λ f cdv A outer s H hr=>by
 have nd:=kN.nd;have hu:=cZ hr;exact ao (qb (aO C_require_place hr (gF (qv 0) (qv 1))))
   (ao (qb (aO C_require_place hr (gF (qv 0) (qv 2))))
   (aB (eG (bj fP jE (qv 1) (qv 2))
   (aB k8)
   (bF))))
abbrev lR:Stmt:=top 10
def kQ:aT ["places","some","place"] ["places","some"] (aC lR):=nc
def dB:SF:=d8 (az bN (ae (aa 0) (ae (aa 2) ah)))
abbrev lT (K:PySem.W.Frag)(mg:Str->Option Value):=lM K mg "checked_set" lR ["places","some"]
def i9:SF:=aE (bT [1] (eY (aa 1)) (gN 2) dB) (aE (dS (eT (af iI (eA c5 (ae (aa 1) ah)) (eC (.int 0)))) cR aV) (bu (ki qt (aa 1))))
def cA:DF:=b9 2 3 (i9)
abbrev ja (b:Bd):=kE b.P b.w b.K b.mg b.base 2 "checked_set" ["places","some"] (jz b.K (cA))
def qu (T:TX b)(C_require_place:gU b)(F:lT b.K b.mg):ja b:=bA (k:=1) (g:=i9) F kQ rfl rfl λ f cdv A outer s H hr=>by
 have nd:=kQ.nd;have hu:=cZ hr;exact ao (f6 [1] Nn rfl (fE (qv 1)) (bI 2 nd)
   (aB (qb (aO C_require_place hr (gF (qv 0) (qv 2))))))
   (ao (eG (bj fP jE (gG cF iK T.iU (gq (qv 1))) au)
   (aB k8)
   (bF))
   (aB (bR (vM rfl rfl T.ny (by decide +kernel) rfl T.Ko (by decide +kernel) (qv 1)))))
abbrev C2:Stmt:=top 12
def zp:aT ["one","other"] ["one","other"] (aC C2):=nc
abbrev CZ (K:PySem.W.Frag)(mg:Str->Option Value):=lM K mg "pair" C2 ["one","other"]
def C1:SF:=bu (t7 (eT (af JV (aa 0) (aa 1))) (eA fD (ae (aa 0) (ae (aa 1) ah))) (eA fD (ae (aa 1) (ae (aa 0) ah))))
def jK:DF:=b9 2 2 (C1)
abbrev uF (b:Bd):=kE b.P b.w b.K b.mg b.base 1 "pair" ["one","other"] (jz b.K (jK))
def Fi (T:TX b)  (F:CZ b.K b.mg):uF b:=bA (k:=0) (g:=C1) F zp rfl rfl λ f cdv A outer s H hr=>by
 have nd:=zp.nd;have hu:=cZ hr;exact aB (bR (LD (bj Bs Hv (qv 0) (qv 1)) (mQ (gF (qv 0) (qv 1))) (mQ (gF (qv 1) (qv 0)))))
abbrev nz:Stmt:=top 13
def lX:aT ["net","colours","place","row","ahead","tint"] ["net"] (aC nz):=nc
def fu:SF:=e8 1 (az jK (ae (aa 2) (ae (aa 4) ah))) (aa 5)
def dO:SF:=bT [0,3] (uo (ae (af bG (aa 0) (eC (.int 0))) (ae (aa 3) ah))) (gT 2 (aI 4 (aI 5 bU))) fu
abbrev nA (K:PySem.W.Frag)(mg:Str->Option Value):=lM K mg "colours_of" nz ["net"]
def jM:SF:=aE (bq 1 (e7 true)) (aE (bT [0] (uo (ae (af bG (aa 0) (eC (.int 0))) (ae (af bG (aa 0) (eC (.int 1))) ah))) (gT 2 (aI 2 (aI 3 bU))) dO) (d9 1))
def cz:DF:=b9 1 6 (jM)
abbrev jN (b:Bd):=kE b.P b.w b.K b.mg b.base 2 "colours_of" ["net"] (jz b.K (cz))
def rJ (T:TX b)(C_pair:uF b)(F:nA b.K b.mg):jN b:=bA (k:=1) (g:=jM) F lX rfl rfl λ f cdv A outer s H hr=>by
 have nd:=lX.nd;have hu:=cZ hr;exact ao (ba 1 nd EX)
   (ao (f6 [0] Nn rfl (Ct rfl T.Gy (gF (aY (qv 0) au) (aY (qv 0) au))) (oM rfl (du (i:=2) nd rfl (by walk_at "l") (du (i:=3) nd rfl (by walk_at "l") kH)))
   (aB (f6 [0,3] Nn rfl (Ct rfl T.Gy (gF (aY (qv 0) au) (qv 3))) (oM rfl (du (i:=4) nd rfl (by walk_at "l") (du (i:=5) nd rfl (by walk_at "l") kH)))
   (aB (Cj 1 hu (aO C_pair hr (gF (qv 2) (qv 4))) (qv 5))))))
   (aB (p9 1)))
abbrev qy:Stmt:=top 14
def oS:aT ["places","colours","rising","rows","i","place"] ["places","colours"] (aC qy):=nc
def gz:SD->Res D:=fU (aa 1) (az jK (ae (aa 2) (ae (aa 0) ah))) (eC (.int 0))
def e9:SF:=ic 3 (eA b8 (ae (aR (eY (fN (aa 2) pe (eP (aa 4)))) (gN 0) bw gz 1 [("colours",1),("place",5)]) ah))
abbrev qK (K:PySem.W.Frag)(mg:Str->Option Value):=lM K mg "net_with" qy ["places","colours"]
def jL:SF:=aE (bq 2 (eA jq (ae (aa 0) ah))) (aE (bq 3 (eA dm ah)) (aE (bT [2] (bW (ae (aa 2) ah)) (gT 2 (aI 4 (aI 5 bU))) e9) (bu (eA fD (ae (eA b8 (ae (aa 2) ah)) (ae (eA b8 (ae (aa 3) ah)) ah))))))
def fG:DF:=b9 2 6 (jL)
abbrev qJ (b:Bd):=kE b.P b.w b.K b.mg b.base 2 "net_with" ["places","colours"] (jz b.K (fG))
def vW (T:TX b)(C_pair:uF b)(F:qK b.K b.mg):qJ b:=bA (k:=1) (g:=jL) F oS rfl rfl λ f cdv A outer s H hr=>by
 have nd:=oS.nd;have hu:=cZ hr;exact ao (ba 2 nd (gG uE AU T.ny (gq (qv 0))))
   (ao (ba 3 nd (iw cQ))
   (ao (f6 [2] Nn rfl (mU rfl T.gJ (gq (qv 2))) (oM rfl (du (i:=4) nd rfl (by walk_at "l") (du (i:=5) nd rfl (by walk_at "l") kH)))
   (aB (yN 3 (qi cy ia T.fX (gq (i6 (own:=["ahead"]) (cap:=[("colours",1),("place",5)]) (b6 _ rfl _ rfl (by kernel_rfl)) rfl (fE (t8 (qv 2) tY (mP (qv 4)))) ⟨λ _ _ _ _ _=>bI 0 (lJ ["ahead","colours","place"]),λ _ _ _ _ _=>fj,λ _ _ _ _ _=>EW hu (qv 1) (aO C_pair hr (gF (qv 2) (qv 0))) au ⟨rfl,rfl,rfl,rfl⟩⟩))))))
   (aB (bR (mQ (gF (qi cy ia T.fX (gq (qv 2))) (qi cy ia T.fX (gq (qv 3)))))))))
abbrev v8:Stmt:=top 15
def sN:aT ["net","one","other","ends"] ["net","one","other"] (aC v8):=nc
abbrev v9 (K:PySem.W.Frag)(mg:Str->Option Value):=lM K mg "colour" v8 ["net","one","other"]
def qL:SF:=aE (d8 (az fg (ae (af bG (aa 0) (eC (.int 0))) (ae (aa 1) (ae (aa 2) ah))))) (aE (bq 3 (az jK (ae (aa 1) (ae (aa 2) ah)))) (bu (af bG (af bG (af bG (aa 0) (eC (.int 1))) (Cw (af bG (aa 0) (eC (.int 0))) (af bG (aa 3) (eC (.int 0))))) (Cw (af bG (aa 0) (eC (.int 0))) (af bG (aa 3) (eC (.int 1)))))))
def jv:DF:=b9 3 4 (qL)
abbrev vY (b:Bd):=kE b.P b.w b.K b.mg b.base 3 "colour" ["net","one","other"] (jz b.K (jv))
def AV (T:TX b)(C_require_two:lW b)(C_pair:uF b)(F:v9 b.K b.mg):vY b:=bA (k:=2) (g:=qL) F sN rfl rfl λ f cdv A outer s H hr=>by
 have nd:=sN.nd;have hu:=cZ hr;exact ao (qb (aO C_require_two hr (aK (aY (qv 0) au) (aK (qv 1) (aK (qv 2) cQ)))))
   (ao (ba 3 nd (aO C_pair hr (gF (qv 1) (qv 2))))
   (aB (bR (aY (aY (aY (qv 0) au) (Gv (aY (qv 0) au) (aY (qv 3) au))) (Gv (aY (qv 0) au) (aY (qv 3) au))))))
abbrev sO:Stmt:=top 16
def qz:aT ["net","some"] ["net","some"] (aC sO):=nc
abbrev sR (K:PySem.W.Frag)(mg:Str->Option Value):=lM K mg "part_of" sO ["net","some"]
def n6:SF:=bu (az fG (ae (az cA (ae (af bG (aa 0) (eC (.int 0))) (ae (aa 1) ah))) (ae (az cz (ae (aa 0) ah)) ah)))
def jr:DF:=b9 2 2 (n6)
abbrev sM (b:Bd):=kE b.P b.w b.K b.mg b.base 3 "part_of" ["net","some"] (jz b.K (jr))
def xY (T:TX b)(C_checked_set:ja b)(C_colours_of:jN b)(C_net_with:qJ b)(F:sR b.K b.mg):sM b:=bA (k:=2) (g:=n6) F qz rfl rfl λ f cdv A outer s H hr=>by
 have nd:=qz.nd;have hu:=cZ hr;exact aB (bR (aO C_net_with hr (gF (aO C_checked_set hr (gF (aY (qv 0) au) (qv 1))) (aO C_colours_of hr (gq (qv 0))))))
abbrev oU:Stmt:=top 18
def nC:aT ["net","sights","place","ends","tint"] ["net"] (aC oU):=nc
def eN:SF:=aE (nY 1 (af bG (aa 3) (eC (.int 0))) (af bG (aa 3) (eC (.int 1))) (aa 4)) (nY 1 (af bG (aa 3) (eC (.int 1))) (af bG (aa 3) (eC (.int 0))) (aa 4))
def iF:SF:=e8 1 (aa 2) (e7 false)
abbrev oW (K:PySem.W.Frag)(mg:Str->Option Value):=lM K mg "sights_of" oU ["net"]
def kT:SF:=aE (bq 1 (e7 false)) (aE (bT [0] (eY (af bG (aa 0) (eC (.int 0)))) (gN 2) iF) (aE (bT [0] (kK (az cz (ae (aa 0) ah))) (gT 2 (aI 3 (aI 4 bU))) eN) (d9 1)))
def gI:DF:=b9 1 5 (kT)
abbrev oX (b:Bd):=kE b.P b.w b.K b.mg b.base 3 "sights_of" ["net"] (jz b.K (gI))
def uG (T:TX b)(C_colours_of:jN b)(F:oW b.K b.mg):oX b:=bA (k:=2) (g:=kT) F nC rfl rfl λ f cdv A outer s H hr=>by
 have nd:=nC.nd;have hu:=cZ hr;exact ao (ba 1 nd yQ)
   (ao (f6 [0] Nn rfl (fE (aY (qv 0) au)) (bI 2 nd)
   (aB (Cj 1 hu (qv 2) yQ)))
   (ao (f6 [0] Nn rfl (CK (aO C_colours_of hr (gq (qv 0)))) (oM rfl (du (i:=3) nd rfl (by walk_at "l") (du (i:=4) nd rfl (by walk_at "l") kH)))
   (ao (ze 1 hu (aY (qv 3) au) (aY (qv 3) au) (qv 4) (λ _ _=>rfl))
   (aB (ze 1 hu (aY (qv 3) au) (aY (qv 3) au) (qv 4) (λ _ _=>rfl)))))
   (aB (p9 1))))
abbrev lZ:Stmt:=top 19
def kP:aT ["sight","members","member"] ["sight","members"] (aC lZ):=nc
def bo:SF:=dS (eT (af qX (af ee (aa 0) (aa 2)) (af ee (aa 0) (af bG (aa 1) (eC (.int 0)))))) (d9 2) aV
abbrev lU (K:PySem.W.Frag)(mg:Str->Option Value):=lM K mg "first_apart" lZ ["sight","members"]
def gA:SF:=aE (bT [1] (eY (aa 1)) (gN 2) bo) (bu (eC .bJ))
def dg:DF:=b9 2 3 (gA)
abbrev lQ (b:Bd):=kE b.P b.w b.K b.mg b.base 1 "first_apart" ["sight","members"] (jz b.K (dg))
def qF (T:TX b)  (F:lU b.K b.mg):lQ b:=bA (k:=0) (g:=gA) F kP rfl rfl λ f cdv A outer s H hr=>by
 have nd:=kP.nd;have hu:=cZ hr;exact ao (f6 [1] Nn rfl (fE (qv 1)) (bI 2 nd)
   (aB (eG (bj Bh Hy (xo hu (qv 0) (qv 2) (λ _ _=>rfl)) (xo hu (qv 0) (aY (qv 1) au) (λ _ _=>rfl)))
   (aB (p9 2))
   (bF))))
   (aB (bR r6))
abbrev kR:Stmt:=top 20
def j4:aT ["sights","members","place","other"] ["sights","members"] (aC kR):=nc
def a9:SF:=dS (eT (af (inD true) (aa 2) (aa 1))) (aE (bq 3 (az dg (ae (af ee (aa 0) (aa 2)) (ae (aa 1) ah)))) (dS (eT (af (g9 true) (aa 3) (eC .bJ))) (bu (eA fD (ae (aa 2) (ae (af bG (aa 1) (eC (.int 0))) (ae (aa 3) ah))))) aV)) aV
abbrev kO (K:PySem.W.Frag)(mg:Str->Option Value):=lM K mg "teller_among" kR ["sights","members"]
def fW:SF:=aE (bT [0] (oO (aa 0)) (gN 2) a9) (bu (eC .bJ))
def cS:DF:=b9 2 4 (fW)
abbrev kM (b:Bd):=kE b.P b.w b.K b.mg b.base 2 "teller_among" ["sights","members"] (jz b.K (cS))
def pB (T:TX b)(C_first_apart:lQ b)(F:kO b.K b.mg):kM b:=bA (k:=1) (g:=fW) F j4 rfl rfl λ f cdv A outer s H hr=>by
 have nd:=j4.nd;have hu:=cZ hr;exact ao (f6 [0] Nn rfl (Fd (qv 0)) (bI 2 nd)
   (aB (eG (bj gZ (EB true) (qv 2) (qv 1))
   (ao (ba 3 nd (aO C_first_apart hr (gF (xo hu (qv 0) (qv 2) (λ _ _=>rfl)) (qv 1))))
   (aB (eG (bj D7 HA (qv 3) r6)
   (aB (bR (mQ (aK (qv 2) (aK (aY (qv 1) au) (aK (qv 3) cQ))))))
   (bF))))
   (bF))))
   (aB (bR r6))
abbrev vS:Stmt:=top 21
def sQ:aT ["net","some","members"] ["net","some"] (aC vS):=nc
abbrev vZ (K:PySem.W.Frag)(mg:Str->Option Value):=lM K mg "teller" vS ["net","some"]
def qI:SF:=aE (bq 2 (az cA (ae (af bG (aa 0) (eC (.int 0))) (ae (aa 1) ah)))) (bu (az cS (ae (az gI (ae (aa 0) ah)) (ae (aa 2) ah))))
def kL:DF:=b9 2 3 (qI)
abbrev vR (b:Bd):=kE b.P b.w b.K b.mg b.base 4 "teller" ["net","some"] (jz b.K (kL))
def AW (T:TX b)(C_checked_set:ja b)(C_sights_of:oX b)(C_teller_among:kM b)(F:vZ b.K b.mg):vR b:=bA (k:=3) (g:=qI) F sQ rfl rfl λ f cdv A outer s H hr=>by
 have nd:=sQ.nd;have hu:=cZ hr;exact ao (ba 2 nd (aO C_checked_set hr (gF (aY (qv 0) au) (qv 1))))
   (aB (bR (aO C_teller_among hr (gF (aO C_sights_of hr (gq (qv 0))) (qv 2)))))
abbrev qx:Stmt:=top 22
def oT:aT ["net","some"] ["net","some"] (aC qx):=nc
abbrev qA (K:PySem.W.Frag)(mg:Str->Option Value):=lM K mg "is_group" qx ["net","some"]
def mq:SF:=bu (af (g9 false) (az kL (ae (aa 0) (ae (aa 1) ah))) (eC .bJ))
def iD:DF:=b9 2 2 (mq)
abbrev qC (b:Bd):=kE b.P b.w b.K b.mg b.base 5 "is_group" ["net","some"] (jz b.K (iD))
def vX (T:TX b)(C_teller:vR b)(F:qA b.K b.mg):qC b:=bA (k:=4) (g:=mq) F oT rfl rfl λ f cdv A outer s H hr=>by
 have nd:=oT.nd;have hu:=cZ hr;exact aB (bR (qj wW B7 (aO C_teller hr (gF (qv 0) (qv 1))) r6))
abbrev iS:Stmt:=top 24
def iE:aT ["places","parts","standing","part"] ["places","parts"] (aC iS):=nc
def bE:SF:=aE (dS (eT (af iI (eA c5 (ae (aa 3) ah)) (eC (.int 0)))) cR aV) (vI 2 (aa 3))
abbrev iR (K:PySem.W.Frag)(mg:Str->Option Value):=lM K mg "require_parting" iS ["places","parts"]
def fV:SF:=aE (bq 2 (eA dm ah)) (aE (bT [1] (eY (aa 1)) (gN 3) bE) (dS (eT (af (E3 true) (eA cG (ae (aa 2) ah)) (eA eW (ae (aa 0) ah)))) cR aV))
def c7:DF:=b9 2 4 (fV)
abbrev iT (b:Bd):=kE b.P b.w b.K b.mg b.base 1 "require_parting" ["places","parts"] (jz b.K (c7))
def mf (T:TX b)  (F:iR b.K b.mg):iT b:=bA (k:=0) (g:=fV) F iE rfl rfl λ f cdv A outer s H hr=>by
 have nd:=iE.nd;have hu:=cZ hr;exact ao (ba 2 nd (iw cQ))
   (ao (f6 [1] Nn rfl (fE (qv 1)) (bI 3 nd)
   (ao (eG (bj fP jE (gG cF iK T.iU (gq (qv 3))) au)
   (aB k8)
   (bF))
   (aB (Ii 2 (qv 3)))))
   (aB (eG (xn (HY hu) (Ka true) (gG oF Cg T.ny (gq (qv 2))) (qi mJ BX T.uH (gq (qv 0))) (tH _))
   (aB k8)
   (bF))))
abbrev qB:Stmt:=top 25
def oV:aT ["net","parts","part"] ["net","parts"] (aC qB):=nc
def gy:SD->Res D:=eA yY (ae (aa 0) ah)
def df:SF:=dS (fZ (eT (az iD (ae (aa 0) (ae (aa 2) ah))))) cR aV
abbrev qD (K:PySem.W.Frag)(mg:Str->Option Value):=lM K mg "quotient" qB ["net","parts"]
def mh:SF:=aE (d8 (az c7 (ae (af bG (aa 0) (eC (.int 0))) (ae (aa 1) ah)))) (aE (bT [1] (eY (aa 1)) (gN 2) df) (bu (az jr (ae (aa 0) (ae (aR (eY (aa 1)) (gN 0) bw gy 1 []) ah)))))
def dh:DF:=b9 2 3 (mh)
abbrev qH (b:Bd):=kE b.P b.w b.K b.mg b.base 6 "quotient" ["net","parts"] (jz b.K (dh))
def vV (T:TX b)(C_part_of:sM b)(C_is_group:qC b)(C_require_parting:iT b)(F:qD b.K b.mg):qH b:=bA (k:=5) (g:=mh) F oV rfl rfl λ f cdv A outer s H hr=>by
 have nd:=oV.nd;have hu:=cZ hr;exact ao (qb (aO C_require_parting hr (gF (aY (qv 0) au) (qv 1))))
   (ao (f6 [1] Nn rfl (fE (qv 1)) (bI 2 nd)
   (aB (eG (jF (fQ (aO C_is_group hr (gF (qv 0) (qv 2)))))
   (aB k8)
   (bF))))
   (aB (bR (aO C_part_of hr (gF (qv 0) (i6 (own:=["part"]) (cap:=[]) (b6 _ rfl _ rfl (by kernel_rfl)) rfl (fE (qv 1)) ⟨λ _ _ _ _ _=>bI 0 (lJ ["part"]),λ _ _ _ _ _=>fj,λ _ _ _ _ _=>gG (AB rfl) HX (by exact T.vP) (gq (qv 0))⟩))))))
abbrev s_Lcell:Stmt:=top 27
def sc_Lcell:aT ["_law_script","_law_k"] ["_law_script","_law_k"] (aC s_Lcell):=nc
abbrev E_Lcell (K:PySem.W.Frag)(mg:Str->Option Value):=lM K mg "_law_cell" s_Lcell ["_law_script","_law_k"]
def g_Lcell:SF:=aE (dS (eT (af Jd (aa 1) (eA c5 (ae (aa 0) ah)))) (bu (af bG (aa 0) (aa 1))) aV) (bu (eC (.int 0)))
def G_Lcell:DF:=b9 2 2 (g_Lcell)
abbrev Q_Lcell (b:Bd):=kE b.P b.w b.K b.mg b.base 1 "_law_cell" ["_law_script","_law_k"] (jz b.K (G_Lcell))
def ok_Lcell (T:TX b)  (F:E_Lcell b.K b.mg):Q_Lcell b:=bA (k:=0) (g:=g_Lcell) F sc_Lcell rfl rfl λ f cdv A outer s H hr=>by
 have nd:=sc_Lcell.nd;have hu:=cZ hr;exact ao (eG (bj Bj Hx (qv 1) (gG cF iK T.iU (gq (qv 0))))
   (aB (bR (aY (qv 0) (qv 1))))
   (bF))
   (aB (bR au))
abbrev s_Llike:Stmt:=top 28
def sc_Llike:aT ["_law_found","_law_due","_law_k"] ["_law_found","_law_due"] (aC s_Llike):=nc
def g_Llike_b1 (R_Llike:DF):SF:=dS (fZ (eT (az R_Llike (ae (af bG (aa 0) (aa 2)) (ae (af bG (aa 1) (aa 2)) ah))))) (bu (eC (.bl false))) aV
abbrev E_Llike (K:PySem.W.Frag)(mg:Str->Option Value):=lM K mg "_law_like" s_Llike ["_law_found","_law_due"]
def g_Llike (R_Llike:DF):SF:=aE (dS (eT (af (g9 false) (aa 1) (eC .bJ))) (bu (af (g9 false) (aa 0) (eC .bJ))) aV) (aE (dS (eT (ki (cW sA) (aa 1))) (bu (iy (ki (cW sA) (aa 0)) (af iI (aa 0) (aa 1)))) aV) (aE (dS (eT (ki (cW uc) (aa 1))) (bu (iy (ki (cW uc) (aa 0)) (iy (j8 (ki (cW sA) (aa 0))) (af iI (aa 0) (aa 1))))) aV) (aE (dS (eT (ki (cW ud) (aa 1))) (bu (iy (ki (cW ud) (aa 0)) (af iI (aa 0) (aa 1)))) aV) (aE (dS (gD (eT (ki (cW t9) (aa 1))) (fZ (eT (ki (cW t9) (aa 0))))) (bu (eC (.bl false))) aV) (aE (dS (gD (eT (ki (cW jI) (aa 1))) (fZ (eT (ki (cW jI) (aa 0))))) (bu (eC (.bl false))) aV) (aE (dS (eT (af qX (eA c5 (ae (aa 0) ah)) (eA c5 (ae (aa 1) ah)))) (bu (eC (.bl false))) aV) (aE (bT [] (aX (ae (eA c5 (ae (aa 1) ah)) ah)) (gN 2) ((g_Llike_b1 R_Llike))) (bu (eC (.bl true))))))))))
def G_Llike:Nat->DF
 |0=>λ _=>.bad
 |n+1=>b9 2 3 (g_Llike (G_Llike n))
abbrev Q_Llike (b:Bd):=kE b.P b.w b.K b.mg b.base 5 "_law_like" ["_law_found","_law_due"] (jz b.K (G_Llike 4))
def ok_Llike (T:TX b)  (F:E_Llike b.K b.mg):∀ n:Nat,kE b.P b.w b.K b.mg b.base (n+1) "_law_like" ["_law_found","_law_due"] (jz b.K (G_Llike n))
 |0=>EY F
 | n+1=>bA (k:=n+1) (n:=2) (m:=3) (g:=g_Llike (G_Llike n)) F sc_Llike rfl rfl λ f cdv A outer s H hr=>by
  have C_Llike:=ok_Llike T  F n;have nd:=sc_Llike.nd;have hu:=cZ hr;exact ao (eG (bj wW B7 (qv 1) r6)
   (aB (bR (qj wW B7 (qv 0) r6)))
   (bF))
   (ao (eG (fQ (iA (ty:=.Name "bool" ⟨0,0,0,0⟩) nT rfl T.bY (qv 1) rfl T.xZ (by decide +kernel)))
   (aB (bR (yL (iA (ty:=.Name "bool" ⟨0,0,0,0⟩) nT rfl T.bY (qv 0) rfl T.xZ (by decide +kernel)) (B6 (qj fP jE (qv 0) (qv 1))))))
   (bF))
   (ao (eG (fQ (iA (ty:=.Name "int" ⟨0,0,0,0⟩) vv rfl T.bY (qv 1) rfl T.Gw (by decide +kernel)))
   (aB (bR (yL (iA (ty:=.Name "int" ⟨0,0,0,0⟩) vv rfl T.bY (qv 0) rfl T.Gw (by decide +kernel)) (yL (JX (iA (ty:=.Name "bool" ⟨0,0,0,0⟩) nT rfl T.bY (qv 0) rfl T.xZ (by decide +kernel))) (B6 (qj fP jE (qv 0) (qv 1)))))))
   (bF))
   (ao (eG (fQ (iA (ty:=.Name "str" ⟨0,0,0,0⟩) vt rfl T.bY (qv 1) rfl T.Gx (by decide +kernel)))
   (aB (bR (yL (iA (ty:=.Name "str" ⟨0,0,0,0⟩) vt rfl T.bY (qv 0) rfl T.Gx (by decide +kernel)) (B6 (qj fP jE (qv 0) (qv 1))))))
   (bF))
   (ao (eG (L2.PW.pt (p5 (fQ (iA (ty:=.Name "list" ⟨0,0,0,0⟩) sC rfl T.bY (qv 1) rfl T.uH (by decide +kernel))) (mO (jF (fQ (iA (ty:=.Name "list" ⟨0,0,0,0⟩) sC rfl T.bY (qv 0) rfl T.uH (by decide +kernel)))))))
   (aB (bR o8))
   (bF))
   (ao (eG (L2.PW.pt (p5 (fQ (iA (ty:=.Name "tuple" ⟨0,0,0,0⟩) qf rfl T.bY (qv 1) rfl T.fX (by decide +kernel))) (mO (jF (fQ (iA (ty:=.Name "tuple" ⟨0,0,0,0⟩) qf rfl T.bY (qv 0) rfl T.fX (by decide +kernel)))))))
   (aB (bR o8))
   (bF))
   (ao (eG (bj Bh Hy (gG cF iK T.iU (gq (qv 0))) (gG cF iK T.iU (gq (qv 1))))
   (aB (bR o8))
   (bF))
   (ao (f6 [] Nn rfl (dU rfl T.gx (gq (gG cF iK T.iU (gq (qv 1))))) (bI 2 nd)
   (aB (eG (jF (fQ (aO C_Llike hr (gF (aY (qv 0) (qv 2)) (aY (qv 1) (qv 2))))))
   (aB (bR o8))
   (bF))))
   (aB (bR o8)))))))))
abbrev s_Lmany:Stmt:=top 29
def sc_Lmany:aT ["_law_cell_here"] ["_law_cell_here"] (aC s_Lmany):=nc
abbrev E_Lmany (K:PySem.W.Frag)(mg:Str->Option Value):=lM K mg "_law_many" s_Lmany ["_law_cell_here"]
def g_Lmany:SF:=aE (dS (eT (af iI (af cP (af cV (aa 0) (eC (.int 9))) (eC (.int 8))) (eC (.int 1)))) (bu (af bQ (eC (.int 1)) (af cP (af cV (aa 0) (eC (.int 72))) (eC (.int 24))))) aV) (bu (af bQ (eC (.int 1)) (af cP (aa 0) (eC (.int 9)))))
def G_Lmany:DF:=b9 1 1 (g_Lmany)
abbrev Q_Lmany (b:Bd):=kE b.P b.w b.K b.mg b.base 1 "_law_many" ["_law_cell_here"] (jz b.K (G_Lmany))
def ok_Lmany (T:TX b)  (F:E_Lmany b.K b.mg):Q_Lmany b:=bA (k:=0) (g:=g_Lmany) F sc_Lmany rfl rfl λ f cdv A outer s H hr=>by
 have nd:=sc_Lmany.nd;have hu:=cZ hr;exact ao (eG (bj fP jE (aQ bV cU (aQ cf cX (qv 0) au) au) au)
   (aB (bR (aQ bc cO au (aQ bV cU (aQ cf cX (qv 0) au) au))))
   (bF))
   (aB (bR (aQ bc cO au (aQ bV cU (qv 0) au))))
abbrev s_Lmix:Stmt:=top 30
def sc_Lmix:aT ["_law_script","_law_at","_law_k","_law_many_here"] ["_law_script","_law_at","_law_k"] (aC s_Lmix):=nc
abbrev E_Lmix (K:PySem.W.Frag)(mg:Str->Option Value):=lM K mg "_law_mix" s_Lmix ["_law_script","_law_at","_law_k"]
def g_Lmix:SF:=aE (bq 3 (eA d7 (ae (eC (.int 1)) (ae (af EK (eA c5 (ae (aa 0) ah)) (aa 1)) ah)))) (bu (af cP (af bQ (af bQ (af o9 (az G_Lcell (ae (aa 0) (ae (af bQ (aa 1) (af cP (aa 2) (aa 3))) ah))) (eC (.int 48271))) (af o9 (aa 2) (eC (.int 16807)))) (eC (.int 11))) (eC (.int 2147483647))))
def G_Lmix:DF:=b9 3 4 (g_Lmix)
abbrev Q_Lmix (b:Bd):=kE b.P b.w b.K b.mg b.base 2 "_law_mix" ["_law_script","_law_at","_law_k"] (jz b.K (G_Lmix))
def ok_Lmix (T:TX b)(C_Lcell:Q_Lcell b)(F:E_Lmix b.K b.mg):Q_Lmix b:=bA (k:=1) (g:=g_Lmix) F sc_Lmix rfl rfl λ f cdv A outer s H hr=>by
 have nd:=sc_Lmix.nd;have hu:=cZ hr;exact ao (ba 3 nd (gG (jf rfl) p7 T.vU (gF au (aQ wM BV (gG cF iK T.iU (gq (qv 0))) (qv 1)))))
   (aB (bR (aQ bV cU (aQ bc cO (aQ bc cO (aQ iN oJ (aO C_Lcell hr (gF (qv 0) (aQ bc cO (qv 1) (aQ bV cU (qv 2) (qv 3))))) au) (aQ iN oJ (qv 2) au)) au) au)))
abbrev s_Lplaces:Stmt:=top 31
def sc_Lplaces:aT ["_law_script","_law_at","_law_many_here","_law_head","_law_step","_law_number","_law_places_here","_law_k"] ["_law_script","_law_at","_law_many_here"] (aC s_Lplaces):=nc
def g_Lplaces_b1:SF:=aE (ic 6 (aa 5)) (bq 5 (af bQ (af bQ (aa 5) (eC (.int 1))) (af cP (af cV (aa 4) (af bQ (aa 7) (eC (.int 1)))) (af bG (eA dm (ae (eC (.int 1)) (ae (eC (.int 3)) (ae (af rC (eC (.int 10)) (eC (.int 29))) ah)))) (af cP (aa 4) (eC (.int 3)))))))
abbrev E_Lplaces (K:PySem.W.Frag)(mg:Str->Option Value):=lM K mg "_law_places" s_Lplaces ["_law_script","_law_at","_law_many_here"]
def g_Lplaces:SF:=aE (bq 3 (az G_Lcell (ae (aa 0) (ae (aa 1) ah)))) (aE (bq 4 (az G_Lcell (ae (aa 0) (ae (af bQ (aa 1) (eC (.int 1))) ah)))) (aE (bq 5 (af cP (af cV (aa 3) (eC (.int 2))) (eC (.int 4)))) (aE (dS (eT (af iI (af cP (aa 3) (eC (.int 2))) (eC (.int 1)))) (bq 5 (af cP (af cV (aa 3) (eC (.int 2))) (af rC (eC (.int 10)) (eC (.int 30))))) aV) (aE (bq 6 (eA dm ah)) (aE (bT [] (aX (ae (aa 2) ah)) (gN 7) g_Lplaces_b1) (d9 6))))))
def G_Lplaces:DF:=b9 3 8 (g_Lplaces)
abbrev Q_Lplaces (b:Bd):=kE b.P b.w b.K b.mg b.base 2 "_law_places" ["_law_script","_law_at","_law_many_here"] (jz b.K (G_Lplaces))
def ok_Lplaces (T:TX b)(C_Lcell:Q_Lcell b)(F:E_Lplaces b.K b.mg):Q_Lplaces b:=bA (k:=1) (g:=g_Lplaces) F sc_Lplaces rfl rfl λ f cdv A outer s H hr=>by
 have nd:=sc_Lplaces.nd;have hu:=cZ hr;exact ao (ba 3 nd (aO C_Lcell hr (gF (qv 0) (qv 1))))
   (ao (ba 4 nd (aO C_Lcell hr (gF (qv 0) (aQ bc cO (qv 1) au))))
   (ao (ba 5 nd (aQ bV cU (aQ cf cX (qv 3) au) au))
   (ao (eG (bj fP jE (aQ bV cU (qv 3) au) au)
   (aB (ba 5 nd (aQ bV cU (aQ cf cX (qv 3) au) (aQ tF yK au au))))
   (bF))
   (ao (ba 6 nd (iw cQ))
   (ao (f6 [] Nn rfl (dU rfl T.gx (gq (qv 2))) (bI 7 nd)
   (ao (yN 6 (qv 5))
   (aB (ba 5 nd (aQ bc cO (aQ bc cO (qv 5) au) (aQ bV cU (aQ cf cX (qv 4) (aQ bc cO (qv 7) au)) (aY (iw (aK au (aK au (aK (aQ tF yK au au) cQ)))) (aQ bV cU (qv 4) au))))))))
   (aB (p9 6)))))))
abbrev s_Lshade:Stmt:=top 32
def sc_Lshade:aT ["_law_script","_law_at","_law_k","_law_j","_law_head","_law_blocks","_law_one","_law_other","_law_number","_law_shades"] ["_law_script","_law_at","_law_k","_law_j"] (aC s_Lshade):=nc
abbrev E_Lshade (K:PySem.W.Frag)(mg:Str->Option Value):=lM K mg "_law_shade" s_Lshade ["_law_script","_law_at","_law_k","_law_j"]
def g_Lshade:SF:=aE (bq 4 (az G_Lcell (ae (aa 0) (ae (af bQ (aa 1) (eC (.int 2))) ah)))) (aE (bq 5 (af bQ (eC (.int 1)) (af cP (af cV (aa 4) (eC (.int 4))) (eC (.int 4))))) (aE (bq 6 (af cP (af cV (az G_Lmix (ae (aa 0) (ae (af bQ (aa 1) (eC (.int 4))) (ae (af bQ (eC (.int 300)) (aa 2)) ah)))) (eC (.int 3))) (aa 5))) (aE (bq 7 (af cP (af cV (az G_Lmix (ae (aa 0) (ae (af bQ (aa 1) (eC (.int 4))) (ae (af bQ (eC (.int 300)) (aa 3)) ah)))) (eC (.int 3))) (aa 5))) (aE (bq 8 (af cV (az G_Lmix (ae (aa 0) (ae (af bQ (aa 1) (eC (.int 4))) (ae (af bQ (af cV (af o9 (aa 2) (af EK (aa 2) (eC (.int 1)))) (eC (.int 2))) (aa 3)) ah)))) (eC (.int 5)))) (aE (dS (gD (eT (af Jd (af cP (aa 4) (eC (.int 4))) (eC (.int 2)))) (eT (af qX (aa 6) (aa 7)))) (bq 8 (af cV (az G_Lmix (ae (aa 0) (ae (af bQ (aa 1) (eC (.int 4))) (ae (af bQ (af bQ (eC (.int 400)) (af o9 (eC (.int 4)) (eA d7 (ae (aa 6) (ae (aa 7) ah))))) (eA eF (ae (aa 6) (ae (aa 7) ah)))) ah)))) (eC (.int 5)))) aV) (aE (dS (gD (eT (af iI (af cP (aa 4) (eC (.int 4))) (eC (.int 1)))) (eT (af iI (af bQ (af cV (af o9 (aa 2) (af EK (aa 2) (eC (.int 1)))) (eC (.int 2))) (aa 3)) (af cP (af cV (aa 4) (eC (.int 32))) (eC (.int 36)))))) (bq 8 (af bQ (aa 8) (eC (.int 1)))) aV) (aE (dS (gD (eT (af iI (af cP (aa 4) (eC (.int 4))) (eC (.int 2)))) (eT (af iI (af cP (af cV (aa 4) (eC (.int 4))) (eC (.int 2))) (eC (.int 1))))) (bu (af cP (aa 8) (af rC (eC (.int 10)) (eC (.int 8))))) aV) (aE (bq 9 (eA dm (ae (eC (.int 0)) (ae (af bQ (eC (.int 1)) (af cP (az G_Lcell (ae (aa 0) (ae (af bQ (aa 1) (eC (.int 3))) ah))) (af rC (eC (.int 10)) (eC (.int 30))))) (ae (af cP (af cV (az G_Lcell (ae (aa 0) (ae (af bQ (aa 1) (eC (.int 3))) ah))) (eC (.int 9))) (eC (.int 5))) ah))))) (bu (af bG (aa 9) (af cP (aa 8) (af bQ (eC (.int 2)) (af cP (af cV (aa 4) (eC (.int 16))) (eC (.int 2)))))))))))))))
def G_Lshade:DF:=b9 4 10 (g_Lshade)
abbrev Q_Lshade (b:Bd):=kE b.P b.w b.K b.mg b.base 3 "_law_shade" ["_law_script","_law_at","_law_k","_law_j"] (jz b.K (G_Lshade))
def ok_Lshade (T:TX b)(C_Lcell:Q_Lcell b)(C_Lmix:Q_Lmix b)(F:E_Lshade b.K b.mg):Q_Lshade b:=bA (k:=2) (g:=g_Lshade) F sc_Lshade rfl rfl λ f cdv A outer s H hr=>by
 have nd:=sc_Lshade.nd;have hu:=cZ hr;exact ao (ba 4 nd (aO C_Lcell hr (gF (qv 0) (aQ bc cO (qv 1) au))))
   (ao (ba 5 nd (aQ bc cO au (aQ bV cU (aQ cf cX (qv 4) au) au)))
   (ao (ba 6 nd (aQ bV cU (aQ cf cX (aO C_Lmix hr (aK (qv 0) (aK (aQ bc cO (qv 1) au) (aK (aQ bc cO au (qv 2)) cQ)))) au) (qv 5)))
   (ao (ba 7 nd (aQ bV cU (aQ cf cX (aO C_Lmix hr (aK (qv 0) (aK (aQ bc cO (qv 1) au) (aK (aQ bc cO au (qv 3)) cQ)))) au) (qv 5)))
   (ao (ba 8 nd (aQ cf cX (aO C_Lmix hr (aK (qv 0) (aK (aQ bc cO (qv 1) au) (aK (aQ bc cO (aQ cf cX (aQ iN oJ (qv 2) (aQ wM BV (qv 2) au)) au) (qv 3)) cQ)))) au))
   (ao (eG (L2.PW.pt (p5 (bj Bj Hx (aQ bV cU (qv 4) au) au) (mO (bj Bh Hy (qv 6) (qv 7)))))
   (aB (ba 8 nd (aQ cf cX (aO C_Lmix hr (aK (qv 0) (aK (aQ bc cO (qv 1) au) (aK (aQ bc cO (aQ bc cO au (aQ iN oJ au (gG (jf rfl) p7 T.vU (gF (qv 6) (qv 7))))) (gG (kY rfl) t6 T.vP (gF (qv 6) (qv 7)))) cQ)))) au)))
   (bF))
   (ao (eG (L2.PW.pt (p5 (bj fP jE (aQ bV cU (qv 4) au) au) (mO (bj fP jE (aQ bc cO (aQ cf cX (aQ iN oJ (qv 2) (aQ wM BV (qv 2) au)) au) (qv 3)) (aQ bV cU (aQ cf cX (qv 4) au) au)))))
   (aB (ba 8 nd (aQ bc cO (qv 8) au)))
   (bF))
   (ao (eG (L2.PW.pt (p5 (bj fP jE (aQ bV cU (qv 4) au) au) (mO (bj fP jE (aQ bV cU (aQ cf cX (qv 4) au) au) au))))
   (aB (bR (aQ bV cU (qv 8) (aQ tF yK au au))))
   (bF))
   (ao (ba 9 nd (iw (aK au (aK (aQ bc cO au (aQ bV cU (aO C_Lcell hr (gF (qv 0) (aQ bc cO (qv 1) au))) (aQ tF yK au au))) (aK (aQ bV cU (aQ cf cX (aO C_Lcell hr (gF (qv 0) (aQ bc cO (qv 1) au))) au) au) cQ)))))
   (aB (bR (aY (qv 9) (aQ bV cU (qv 8) (aQ bc cO au (aQ bV cU (aQ cf cX (qv 4) au) au))))))))))))))
abbrev s_Lnet:Stmt:=top 33
def sc_Lnet:aT ["_law_script","_law_at","_law_many_here","_law_rows"] ["_law_script","_law_at","_law_many_here"] (aC s_Lnet):=nc
def g_Lnet_e1:SD->Res D:=az G_Lshade (ae (aa 1) (ae (aa 2) (ae (aa 3) (ae (aa 0) ah))))
def g_Lnet_e2:SD->Res D:=eA b8 (ae (aR (aX (ae (aa 0) ah)) (gN 0) bw g_Lnet_e1 1 [("_law_script",1),("_law_at",2),("_law_k",0)]) ah)
abbrev E_Lnet (K:PySem.W.Frag)(mg:Str->Option Value):=lM K mg "_law_net" s_Lnet ["_law_script","_law_at","_law_many_here"]
def g_Lnet:SF:=aE (bq 3 (aR (aX (ae (aa 2) ah)) (gN 0) bw g_Lnet_e2 1 [("_law_script",0),("_law_at",1)])) (bu (eA fD (ae (eA b8 (ae (az G_Lplaces (ae (aa 0) (ae (aa 1) (ae (aa 2) ah)))) ah)) (ae (eA b8 (ae (aa 3) ah)) ah))))
def G_Lnet:DF:=b9 3 4 (g_Lnet)
abbrev Q_Lnet (b:Bd):=kE b.P b.w b.K b.mg b.base 4 "_law_net" ["_law_script","_law_at","_law_many_here"] (jz b.K (G_Lnet))
def ok_Lnet (T:TX b)(C_Lplaces:Q_Lplaces b)(C_Lshade:Q_Lshade b)(F:E_Lnet b.K b.mg):Q_Lnet b:=bA (k:=3) (g:=g_Lnet) F sc_Lnet rfl rfl λ f cdv A outer s H hr=>by
 have nd:=sc_Lnet.nd;have hu:=cZ hr;exact ao (gh 3 nd (own:=["_law_k"]) (cap:=[("_law_script",0),("_law_at",1)]) (b6 _ rfl _ rfl (by kernel_rfl)) rfl (dU rfl T.gx (gq (qv 2))) ⟨λ _ _ _ _ _=>bI 0 (lJ ["_law_k","_law_script","_law_at"]),λ _ _ _ _ _=>fj,λ _ _ _ _ _=>qi cy ia T.fX (gq (i6 (own:=["_law_j"]) (cap:=[("_law_script",1),("_law_at",2),("_law_k",0)]) (b6 _ rfl _ rfl (by kernel_rfl)) rfl (dU rfl T.gx (gq (qv 0))) ⟨λ _ _ _ _ _=>bI 0 (lJ ["_law_j","_law_script","_law_at","_law_k"]),λ _ _ _ _ _=>fj,λ _ _ _ _ _=>aO C_Lshade hr (aK (qv 1) (aK (qv 2) (aK (qv 3) (aK (qv 0) cQ))))⟩))⟩)
   (aB (bR (mQ (gF (qi cy ia T.fX (gq (aO C_Lplaces hr (aK (qv 0) (aK (qv 1) (aK (qv 2) cQ)))))) (qi cy ia T.fX (gq (qv 3)))))))
abbrev s_Lsplit:Stmt:=top 34
def sc_Lsplit:aT ["_law_net_here","_law_part","_law_k","_law_shade_here","_law_like_here"] ["_law_net_here","_law_part"] (aC s_Lsplit):=nc
def g_Lsplit_c1:SD->Res Bool:=eT (af (inD true) (aa 0) (aa 1))
def g_Lsplit_e2:SD->Res D:=aa 0
def g_Lsplit_c3:SD->Res Bool:=eT (af iI (af bG (af bG (af bG (aa 1) (eC (.int 1))) (eA d7 (ae (aa 2) (ae (aa 0) ah)))) (eA eF (ae (aa 2) (ae (aa 0) ah)))) (aa 3))
def g_Lsplit_e4:SD->Res D:=aa 0
def g_Lsplit_b5:SF:=dS (eT (af (inD true) (aa 2) (aa 1))) (aE (bq 3 (af bG (af bG (af bG (aa 0) (eC (.int 1))) (eA d7 (ae (aa 2) (ae (af bG (aa 1) (eC (.int 0))) ah)))) (eA eF (ae (aa 2) (ae (af bG (aa 1) (eC (.int 0))) ah))))) (aE (bq 4 (aR (eY (aa 1)) (gN 0) g_Lsplit_c3 g_Lsplit_e4 1 [("_law_net_here",0),("_law_k",2),("_law_shade_here",3)])) (dS (eT (af Jd (eA c5 (ae (aa 4) ah)) (eA c5 (ae (aa 1) ah)))) (fR [4] (bu (eA dm (ae (aa 4) (ae (aR (eY (aa 1)) (gN 0) g_Lsplit_c1 g_Lsplit_e2 1 [("_law_like_here",4)]) ah))))) aV))) aV
abbrev E_Lsplit (K:PySem.W.Frag)(mg:Str->Option Value):=lM K mg "_law_split" s_Lsplit ["_law_net_here","_law_part"]
def g_Lsplit:SF:=aE (bT [] (aX (ae (eA c5 (ae (af bG (aa 0) (eC (.int 0))) ah)) ah)) (gN 2) g_Lsplit_b5) (bu (eA dm (ae (aa 1) ah)))
def G_Lsplit:DF:=b9 2 5 (g_Lsplit)
abbrev Q_Lsplit (b:Bd):=kE b.P b.w b.K b.mg b.base 1 "_law_split" ["_law_net_here","_law_part"] (jz b.K (G_Lsplit))
def ok_Lsplit (T:TX b)  (F:E_Lsplit b.K b.mg):Q_Lsplit b:=bA (k:=0) (g:=g_Lsplit) F sc_Lsplit rfl rfl λ f cdv A outer s H hr=>by
 have nd:=sc_Lsplit.nd;have hu:=cZ hr;exact ao (f6 [] Nn rfl (dU rfl T.gx (gq (gG cF iK T.iU (gq (aY (qv 0) au))))) (bI 2 nd)
   (aB (eG (bj gZ (EB true) (qv 2) (qv 1))
   (ao (ba 3 nd (aY (aY (aY (qv 0) au) (gG (jf rfl) p7 T.vU (gF (qv 2) (aY (qv 1) au)))) (gG (kY rfl) t6 T.vP (gF (qv 2) (aY (qv 1) au)))))
   (ao (ba 4 nd (i6 (own:=["_law_j"]) (cap:=[("_law_net_here",0),("_law_k",2),("_law_shade_here",3)]) (b6 _ rfl _ rfl (by kernel_rfl)) rfl (fE (qv 1)) ⟨λ _ _ _ _ _=>bI 0 (lJ ["_law_j","_law_net_here","_law_k","_law_shade_here"]),λ _ _ _ _ _=>pH (bj fP jE (aY (aY (aY (qv 1) au) (gG (jf rfl) p7 T.vU (gF (qv 2) (qv 0)))) (gG (kY rfl) t6 T.vP (gF (qv 2) (qv 0)))) (qv 3)),λ _ _ _ _ _=>qv 0⟩))
   (aB (eG (bj Bj Hx (gG cF iK T.iU (gq (qv 4))) (gG cF iK T.iU (gq (qv 1))))
   (aB (Ca [4] (bR (iw (gF (qv 4) (i6 (own:=["_law_j"]) (cap:=[("_law_like_here",4)]) (b6 _ rfl _ rfl (by kernel_rfl)) rfl (fE (qv 1)) ⟨λ _ _ _ _ _=>bI 0 (lJ ["_law_j","_law_like_here"]),λ _ _ _ _ _=>pH (bj gZ (EB true) (qv 0) (qv 1)),λ _ _ _ _ _=>qv 0⟩))))))
   (bF)))))
   (bF))))
   (aB (bR (iw (gq (qv 1)))))
abbrev s_Lrefined:Stmt:=top 35
def sc_Lrefined:aT ["_law_net_here","_law_parts_here","_law_done","_law_waiting","_law_part","_law_some"] ["_law_net_here","_law_parts_here"] (aC s_Lrefined):=nc
def g_Lrefined_w1:SD->Res Bool:=eT (af JV (eA c5 (ae (aa 3) ah)) (eC (.int 0)))
def g_Lrefined_b2:SF:=aE (sG 4 3) (aE (bq 5 (az G_Lsplit (ae (aa 0) (ae (aa 4) ah)))) (dS (eT (af iI (eA c5 (ae (aa 5) ah)) (eC (.int 1)))) (ic 2 (aa 4)) (fR [5] (oN 3 (aa 5)))))
def g_Lrefined_c3:SD->Res Bool:=eT (af JV (eA c5 (ae (aa 0) ah)) (eC (.int 0)))
def g_Lrefined_e4:SD->Res D:=aa 0
abbrev E_Lrefined (K:PySem.W.Frag)(mg:Str->Option Value):=lM K mg "_law_refined" s_Lrefined ["_law_net_here","_law_parts_here"]
def g_Lrefined:SF:=aE (bq 2 (eA dm ah)) (aE (bq 3 (aR (eY (aa 1)) (gN 0) g_Lrefined_c3 g_Lrefined_e4 1 [])) (aE (nR g_Lrefined_w1 g_Lrefined_b2) (kJ 2)))
def G_Lrefined:DF:=b9 2 6 (g_Lrefined)
abbrev Q_Lrefined (b:Bd):=kE b.P b.w b.K b.mg b.base 2 "_law_refined" ["_law_net_here","_law_parts_here"] (jz b.K (G_Lrefined))
def ok_Lrefined (T:TX b)(C_Lsplit:Q_Lsplit b)(F:E_Lrefined b.K b.mg):Q_Lrefined b:=bA (k:=1) (g:=g_Lrefined) F sc_Lrefined rfl rfl λ f cdv A outer s H hr=>by
 have nd:=sc_Lrefined.nd;have hu:=cZ hr;exact ao (ba 2 nd (iw cQ))
   (ao (gh 3 nd (own:=["_law_part"]) (cap:=[]) (b6 _ rfl _ rfl (by kernel_rfl)) rfl (fE (qv 1)) ⟨λ _ _ _ _ _=>bI 0 (lJ ["_law_part"]),λ _ _ _ _ _=>pH (bj Bs Hv (gG cF iK T.iU (gq (qv 0))) au),λ _ _ _ _ _=>qv 0⟩)
   (ao (ER Nn (bj Bs Hv (gG cF iK T.iU (gq (qv 3))) au)
   (ao (Ia 4 3 nd rfl (by walk_at "l"))
   (ao (ba 5 nd (aO C_Lsplit hr (gF (qv 0) (qv 4))))
   (aB (eG (bj fP jE (gG cF iK T.iU (gq (qv 5))) au)
   (aB (yN 2 (qv 4)))
   (aB (Ca [5] (Ij 3 (qv 5)))))))))
   (aB (AD 2 (Ie hr) rfl T.ny))))
abbrev s_Lparts:Stmt:=top 36
def sc_Lparts:aT ["_law_net_here","_law_number","_law_many_here","_law_rest","_law_ways","_law_parts_here"] ["_law_net_here","_law_number"] (aC s_Lparts):=nc
def g_Lparts_c1:SD->Res Bool:=eT (af iI (af cP (af cV (aa 1) (af bQ (eC (.int 1)) (af o9 (aa 0) (aa 0)))) (aa 2)) (aa 3))
def g_Lparts_e2:SD->Res D:=aa 0
def g_Lparts_e3:SD->Res D:=aR (aX (ae (aa 1) ah)) (gN 0) g_Lparts_c1 g_Lparts_e2 1 [("_law_rest",2),("_law_ways",3),("_law_j",0)]
def g_Lparts_e4:SD->Res D:=aa 0
def g_Lparts_e5:SD->Res D:=eA dm (ae (aa 0) ah)
abbrev E_Lparts (K:PySem.W.Frag)(mg:Str->Option Value):=lM K mg "_law_parts" s_Lparts ["_law_net_here","_law_number"]
def g_Lparts:SF:=aE (bq 2 (eA c5 (ae (af bG (aa 0) (eC (.int 0))) ah))) (aE (bq 3 (af cV (aa 1) (eC (.int 6)))) (aE (dS (eT (af iI (af cP (aa 1) (eC (.int 6))) (eC (.int 0)))) (bu (aR (aX (ae (aa 2) ah)) (gN 0) bw g_Lparts_e5 1 [])) aV) (aE (dS (eT (af iI (af cP (aa 1) (eC (.int 6))) (eC (.int 1)))) (bu (eA dm (ae (aR (aX (ae (aa 2) ah)) (gN 0) bw g_Lparts_e4 1 []) ah))) aV) (aE (bq 4 (af bQ (eC (.int 2)) (af cP (aa 1) (eC (.int 2))))) (aE (bq 5 (aR (aX (ae (aa 4) ah)) (gN 0) bw g_Lparts_e3 1 [("_law_many_here",2),("_law_rest",3),("_law_ways",4)])) (fR [5] (bu (az G_Lrefined (ae (aa 0) (ae (aa 5) ah))))))))))
def G_Lparts:DF:=b9 2 6 (g_Lparts)
abbrev Q_Lparts (b:Bd):=kE b.P b.w b.K b.mg b.base 3 "_law_parts" ["_law_net_here","_law_number"] (jz b.K (G_Lparts))
def ok_Lparts (T:TX b)(C_Lrefined:Q_Lrefined b)(F:E_Lparts b.K b.mg):Q_Lparts b:=bA (k:=2) (g:=g_Lparts) F sc_Lparts rfl rfl λ f cdv A outer s H hr=>by
 have nd:=sc_Lparts.nd;have hu:=cZ hr;exact ao (ba 2 nd (gG cF iK T.iU (gq (aY (qv 0) au))))
   (ao (ba 3 nd (aQ cf cX (qv 1) au))
   (ao (eG (bj fP jE (aQ bV cU (qv 1) au) au)
   (aB (bR (i6 (own:=["_law_k"]) (cap:=[]) (b6 _ rfl _ rfl (by kernel_rfl)) rfl (dU rfl T.gx (gq (qv 2))) ⟨λ _ _ _ _ _=>bI 0 (lJ ["_law_k"]),λ _ _ _ _ _=>fj,λ _ _ _ _ _=>iw (gq (qv 0))⟩)))
   (bF))
   (ao (eG (bj fP jE (aQ bV cU (qv 1) au) au)
   (aB (bR (iw (gq (i6 (own:=["_law_k"]) (cap:=[]) (b6 _ rfl _ rfl (by kernel_rfl)) rfl (dU rfl T.gx (gq (qv 2))) ⟨λ _ _ _ _ _=>bI 0 (lJ ["_law_k"]),λ _ _ _ _ _=>fj,λ _ _ _ _ _=>qv 0⟩)))))
   (bF))
   (ao (ba 4 nd (aQ bc cO au (aQ bV cU (qv 1) au)))
   (ao (gh 5 nd (own:=["_law_j"]) (cap:=[("_law_many_here",2),("_law_rest",3),("_law_ways",4)]) (b6 _ rfl _ rfl (by kernel_rfl)) rfl (dU rfl T.gx (gq (qv 4))) ⟨λ _ _ _ _ _=>bI 0 (lJ ["_law_j","_law_many_here","_law_rest","_law_ways"]),λ _ _ _ _ _=>fj,λ _ _ _ _ _=>i6 (own:=["_law_k"]) (cap:=[("_law_rest",2),("_law_ways",3),("_law_j",0)]) (b6 _ rfl _ rfl (by kernel_rfl)) rfl (dU rfl T.gx (gq (qv 1))) ⟨λ _ _ _ _ _=>bI 0 (lJ ["_law_k","_law_rest","_law_ways","_law_j"]),λ _ _ _ _ _=>pH (bj fP jE (aQ bV cU (aQ cf cX (qv 1) (aQ bc cO au (aQ iN oJ (qv 0) (qv 0)))) (qv 2)) (qv 3)),λ _ _ _ _ _=>qv 0⟩⟩)
   (aB (Ca [5] (bR (aO C_Lrefined hr (gF (qv 0) (qv 5)))))))))))
abbrev s_Lquotient:Stmt:=top 37
def sc_Lquotient:aT ["_law_net_here","_law_parts_here","_law_rows","_law_heads","_law_k","_law_one"] ["_law_net_here","_law_parts_here"] (aC s_Lquotient):=nc
def g_Lquotient_e1:SD->Res D:=af bG (af bG (aa 1) (eC (.int 0))) (aa 0)
def g_Lquotient_e2:SD->Res D:=af bG (af bG (af bG (aa 1) (eC (.int 1))) (eA d7 (ae (aa 2) (ae (aa 0) ah)))) (eA eF (ae (aa 2) (ae (aa 0) ah)))
def g_Lquotient_b3:SF:=ic 2 (eA b8 (ae (aR (eY (fN (aa 3) pe (eP (aa 4)))) (gN 0) bw g_Lquotient_e2 1 [("_law_net_here",0),("_law_one",5)]) ah))
def g_Lquotient_e4:SD->Res D:=af bG (aa 0) (eC (.int 0))
abbrev E_Lquotient (K:PySem.W.Frag)(mg:Str->Option Value):=lM K mg "_law_quotient" s_Lquotient ["_law_net_here","_law_parts_here"]
def g_Lquotient:SF:=aE (bq 2 (eA dm ah)) (aE (bq 3 (aR (eY (aa 1)) (gN 0) bw g_Lquotient_e4 1 [])) (aE (bT [3] (bW (ae (aa 3) ah)) (gT 2 (aI 4 (aI 5 bU))) g_Lquotient_b3) (bu (eA fD (ae (eA b8 (ae (aR (eY (aa 3)) (gN 0) bw g_Lquotient_e1 1 [("_law_net_here",0)]) ah)) (ae (eA b8 (ae (aa 2) ah)) ah))))))
def G_Lquotient:DF:=b9 2 6 (g_Lquotient)
abbrev Q_Lquotient (b:Bd):=kE b.P b.w b.K b.mg b.base 1 "_law_quotient" ["_law_net_here","_law_parts_here"] (jz b.K (G_Lquotient))
def ok_Lquotient (T:TX b)  (F:E_Lquotient b.K b.mg):Q_Lquotient b:=bA (k:=0) (g:=g_Lquotient) F sc_Lquotient rfl rfl λ f cdv A outer s H hr=>by
 have nd:=sc_Lquotient.nd;have hu:=cZ hr;exact ao (ba 2 nd (iw cQ))
   (ao (gh 3 nd (own:=["_law_part"]) (cap:=[]) (b6 _ rfl _ rfl (by kernel_rfl)) rfl (fE (qv 1)) ⟨λ _ _ _ _ _=>bI 0 (lJ ["_law_part"]),λ _ _ _ _ _=>fj,λ _ _ _ _ _=>aY (qv 0) au⟩)
   (ao (f6 [3] Nn rfl (mU rfl T.gJ (gq (qv 3))) (oM rfl (du (i:=4) nd rfl (by walk_at "l") (du (i:=5) nd rfl (by walk_at "l") kH)))
   (aB (yN 2 (qi cy ia T.fX (gq (i6 (own:=["_law_other"]) (cap:=[("_law_net_here",0),("_law_one",5)]) (b6 _ rfl _ rfl (by kernel_rfl)) rfl (fE (t8 (qv 3) tY (mP (qv 4)))) ⟨λ _ _ _ _ _=>bI 0 (lJ ["_law_other","_law_net_here","_law_one"]),λ _ _ _ _ _=>fj,λ _ _ _ _ _=>aY (aY (aY (qv 1) au) (gG (jf rfl) p7 T.vU (gF (qv 2) (qv 0)))) (gG (kY rfl) t6 T.vP (gF (qv 2) (qv 0)))⟩))))))
   (aB (bR (mQ (gF (qi cy ia T.fX (gq (i6 (own:=["_law_one"]) (cap:=[("_law_net_here",0)]) (b6 _ rfl _ rfl (by kernel_rfl)) rfl (fE (qv 3)) ⟨λ _ _ _ _ _=>bI 0 (lJ ["_law_one","_law_net_here"]),λ _ _ _ _ _=>fj,λ _ _ _ _ _=>aY (aY (qv 1) au) (qv 0)⟩))) (qi cy ia T.fX (gq (qv 2)))))))))
abbrev s_Lhanded:Stmt:=top 38
def sc_Lhanded:aT ["_law_net_here","_law_parts_here","_law_number","_law_rows","_law_k","_law_part","_law_row"] ["_law_net_here","_law_parts_here","_law_number"] (aC s_Lhanded):=nc
def g_Lhanded_e1:SD->Res D:=af bG (af bG (aa 1) (eC (.int 0))) (aa 0)
def g_Lhanded_b2:SF:=aE (bq 6 (aR (eY (aa 5)) (gN 0) bw g_Lhanded_e1 1 [("_law_net_here",0)])) (aE (dS (eT (af iI (af cP (af cV (aa 2) (af bQ (eC (.int 1)) (aa 4))) (eC (.int 2))) (eC (.int 1)))) (iz 6) aV) (vG 3 6))
abbrev E_Lhanded (K:PySem.W.Frag)(mg:Str->Option Value):=lM K mg "_law_handed" s_Lhanded ["_law_net_here","_law_parts_here","_law_number"]
def g_Lhanded:SF:=aE (bq 3 (eA dm ah)) (aE (bT [1] (bW (ae (aa 1) ah)) (gT 2 (aI 4 (aI 5 bU))) g_Lhanded_b2) (aE (dS (eT (af iI (af cP (af cV (aa 2) (eC (.int 3))) (eC (.int 2))) (eC (.int 1)))) (iz 3) aV) (d9 3)))
def G_Lhanded:DF:=b9 3 7 (g_Lhanded)
abbrev Q_Lhanded (b:Bd):=kE b.P b.w b.K b.mg b.base 1 "_law_handed" ["_law_net_here","_law_parts_here","_law_number"] (jz b.K (G_Lhanded))
def ok_Lhanded (T:TX b)  (F:E_Lhanded b.K b.mg):Q_Lhanded b:=bA (k:=0) (g:=g_Lhanded) F sc_Lhanded rfl rfl λ f cdv A outer s H hr=>by
 have nd:=sc_Lhanded.nd;have hu:=cZ hr;exact ao (ba 3 nd (iw cQ))
   (ao (f6 [1] Nn rfl (mU rfl T.gJ (gq (qv 1))) (oM rfl (du (i:=4) nd rfl (by walk_at "l") (du (i:=5) nd rfl (by walk_at "l") kH)))
   (ao (gh 6 nd (own:=["_law_j"]) (cap:=[("_law_net_here",0)]) (b6 _ rfl _ rfl (by kernel_rfl)) rfl (fE (qv 5)) ⟨λ _ _ _ _ _=>bI 0 (lJ ["_law_j","_law_net_here"]),λ _ _ _ _ _=>fj,λ _ _ _ _ _=>aY (aY (qv 1) au) (qv 0)⟩)
   (ao (eG (bj fP jE (aQ bV cU (aQ cf cX (qv 2) (aQ bc cO au (qv 4))) au) au)
   (aB (Gq 6))
   (bF))
   (aB (Ib 3 6)))))
   (ao (eG (bj fP jE (aQ bV cU (aQ cf cX (qv 2) au) au) au)
   (aB (Gq 3))
   (bF))
   (aB (p9 3))))
abbrev s_Lalike:Stmt:=top 39
def sc_Lalike:aT ["_law_net_here","_law_parts_here","_law_due","_law_k","_law_part","_law_j","_law_one","_law_other"] ["_law_net_here","_law_parts_here","_law_due"] (aC s_Lalike):=nc
def g_Lalike_b1:SF:=aE (bq 6 (af bG (af bG (aa 0) (eC (.int 0))) (af bG (aa 4) (ki i0 (eC (.int 1)))))) (aE (bq 7 (af bG (af bG (aa 0) (eC (.int 0))) (af bG (af bG (aa 1) (aa 5)) (ki i0 (eC (.int 1)))))) (dS (fZ (eT (az (G_Llike 4) (ae (az jv (ae (aa 0) (ae (aa 6) (ae (aa 7) ah)))) (ae (af bG (af bG (af bG (aa 2) (eC (.int 1))) (aa 3)) (aa 5)) ah))))) (bu (eC (.bl false))) aV))
def g_Lalike_b2:SF:=bT [] (aX (ae (aa 3) ah)) (gN 5) g_Lalike_b1
abbrev E_Lalike (K:PySem.W.Frag)(mg:Str->Option Value):=lM K mg "_law_alike" s_Lalike ["_law_net_here","_law_parts_here","_law_due"]
def g_Lalike:SF:=aE (bT [1] (bW (ae (aa 1) ah)) (gT 2 (aI 3 (aI 4 bU))) g_Lalike_b2) (bu (eC (.bl true)))
def G_Lalike:DF:=b9 3 8 (g_Lalike)
abbrev Q_Lalike (b:Bd):=kE b.P b.w b.K b.mg b.base 6 "_law_alike" ["_law_net_here","_law_parts_here","_law_due"] (jz b.K (G_Lalike))
def ok_Lalike (T:TX b)(C_colour:vY b)(C_Llike:Q_Llike b)(F:E_Lalike b.K b.mg):Q_Lalike b:=bA (k:=5) (g:=g_Lalike) F sc_Lalike rfl rfl λ f cdv A outer s H hr=>by
 have nd:=sc_Lalike.nd;have hu:=cZ hr;exact ao (f6 [1] Nn rfl (mU rfl T.gJ (gq (qv 1))) (oM rfl (du (i:=3) nd rfl (by walk_at "l") (du (i:=4) nd rfl (by walk_at "l") kH)))
   (aB (f6 [] Nn rfl (dU rfl T.gx (gq (qv 3))) (bI 5 nd)
   (ao (ba 6 nd (aY (aY (qv 0) au) (aY (qv 4) (Gk au))))
   (ao (ba 7 nd (aY (aY (qv 0) au) (aY (aY (qv 1) (qv 5)) (Gk au))))
   (aB (eG (jF (fQ (aO C_Llike hr (gF (aO C_colour hr (aK (qv 0) (aK (qv 6) (aK (qv 7) cQ)))) (aY (aY (aY (qv 2) au) (qv 3)) (qv 5))))))
   (aB (bR o8))
   (bF))))))))
   (aB (bR o8))
abbrev nB:Stmt:=top 40
def C3:aT ["_law_script","_law_net_here","_law_k","_law_cell_here","_law_number","_law_parts_here","_law_due","_law_handed_here","_law_told","_law_singles"] ["_law_script"] (aC nB):=nc
def qG:SD->Res D:=eA dm (ae (aa 0) ah)
def ju:SF:=aE (bq 4 (af cP (af bQ (af o9 (aa 3) (eC (.int 16807))) (af o9 (aa 2) (eC (.int 48271)))) (eC (.int 2147483647)))) (aE (bq 5 (az G_Lparts (ae (aa 1) (ae (aa 4) ah)))) (aE (bq 6 (az G_Lquotient (ae (aa 1) (ae (aa 5) ah)))) (aE (bq 7 (az G_Lhanded (ae (aa 1) (ae (aa 5) (ae (af cV (aa 4) (eC (.int 5))) ah))))) (aE (bq 8 (az dh (ae (aa 1) (ae (aa 7) ah)))) (aE (dS (sd (fZ (eT (az (G_Llike 4) (ae (aa 8) (ae (aa 6) ah))))) (eT (af E8 (aa 7) (az G_Lhanded (ae (aa 1) (ae (aa 5) (ae (af cV (aa 4) (eC (.int 5))) ah))))))) (bu (eC (.bl false))) aV) (aE (dS (fZ (eT (az G_Lalike (ae (aa 1) (ae (aa 5) (ae (aa 6) ah)))))) (bu (eC (.bl false))) aV) (aE (bq 9 (aR (eY (af bG (aa 6) (eC (.int 0)))) (gN 0) bw qG 1 [])) (aE (dS (fZ (eT (az (G_Llike 4) (ae (az dh (ae (aa 6) (ae (aa 9) ah))) (ae (aa 6) ah))))) (bu (eC (.bl false))) aV) (dS (fZ (eT (az (G_Llike 4) (ae (az dh (ae (aa 6) (ae (eA dm (ae (eA eW (ae (af bG (aa 6) (eC (.int 0))) ah)) ah)) ah))) (ae (eA fD (ae (vK (af bG (aa 6) (eC (.int 0))) pe (eP (eC (.int 1)))) (ae (eA fD (ae (eA fD ah) ah)) ah))) ah))))) (bu (eC (.bl false))) aV)))))))))
def C4:SF:=aE (bq 1 (az G_Lnet (ae (aa 0) (ae (eC (.int 1)) (ae (az G_Lmany (ae (az G_Lcell (ae (aa 0) (ae (eC (.int 0)) ah))) ah)) ah))))) (aE (bT [0] (bW (ae (af bQ (eA dm (ae (eC (.int 2)) (ae (eC (.int 27)) ah))) (fN (aa 0) (eP (eC (.int 2))) (eP (eC (.int 8))))) ah)) (gT 2 (aI 2 (aI 3 bU))) ju) (bu (eC (.bl true))))
def vQ:DF:=b9 1 10 (C4)
def Iu {f:Addr}{fd:FuncData}(T:TX b)(C_quotient:qH b)(C_Lcell:Q_Lcell b)(C_Llike:Q_Llike b)(C_Lmany:Q_Lmany b)(C_Lnet:Q_Lnet b)(C_Lparts:Q_Lparts b)(C_Lquotient:Q_Lquotient b)(C_Lhanded:Q_Lhanded b)(C_Lalike:Q_Lalike b)(F:EE b.K "law" "law" nB f fd):pN b.P b.w b.K b.mg b.base Ai 7 f fd ["_law_script"] (jz b.K (vQ)):=Cm (k:=6) (n:=1) (m:=10) (g:=C4) F C3 rfl rfl λ f cdv A outer s H hr=>by
 have nd:=C3.nd;have hu:=cZ hr;exact ao (ba 1 nd (aO C_Lnet hr (aK (qv 0) (aK au (aK (aO C_Lmany hr (gq (aO C_Lcell hr (gF (qv 0) au)))) cQ)))))
   (ao (f6 [0] Nn rfl (mU rfl T.gJ (gq (aQ bc cO (iw (gF au au)) (t8 (qv 0) (mP au) (mP au))))) (oM rfl (du (i:=2) nd rfl (by walk_at "l") (du (i:=3) nd rfl (by walk_at "l") kH)))
   (ao (ba 4 nd (aQ bV cU (aQ bc cO (aQ iN oJ (qv 3) au) (aQ iN oJ (qv 2) au)) au))
   (ao (ba 5 nd (aO C_Lparts hr (gF (qv 1) (qv 4))))
   (ao (ba 6 nd (aO C_Lquotient hr (gF (qv 1) (qv 5))))
   (ao (ba 7 nd (aO C_Lhanded hr (aK (qv 1) (aK (qv 5) (aK (aQ cf cX (qv 4) au) cQ)))))
   (ao (ba 8 nd (aO C_quotient hr (gF (qv 1) (qv 7))))
   (ao (eG (L2.PW.pt (JZ (jF (fQ (aO C_Llike hr (gF (qv 8) (qv 6))))) (HC (xn (Ig hu) Kf (qv 7) (aO C_Lhanded hr (aK (qv 1) (aK (qv 5) (aK (aQ cf cX (qv 4) au) cQ)))) (tH _)))))
   (aB (bR o8))
   (bF))
   (ao (eG (jF (fQ (aO C_Lalike hr (aK (qv 1) (aK (qv 5) (aK (qv 6) cQ))))))
   (aB (bR o8))
   (bF))
   (ao (gh 9 nd (own:=["_law_place"]) (cap:=[]) (b6 _ rfl _ rfl (by kernel_rfl)) rfl (fE (aY (qv 6) au)) ⟨λ _ _ _ _ _=>bI 0 (lJ ["_law_place"]),λ _ _ _ _ _=>fj,λ _ _ _ _ _=>iw (gq (qv 0))⟩)
   (ao (eG (jF (fQ (aO C_Llike hr (gF (aO C_quotient hr (gF (qv 6) (qv 9))) (qv 6)))))
   (aB (bR o8))
   (bF))
   (aB (eG (jF (fQ (aO C_Llike hr (gF (aO C_quotient hr (gF (qv 6) (iw (gq (qi mJ BX T.uH (gq (aY (qv 6) au))))))) (mQ (gF (CG (aY (qv 6) au) tY (mP au)) (mQ (gq (mQ cQ)))))))))
   (aB (bR o8))
   (bF)))))))))))))
   (aB (bR o8)))
end
end KL
namespace M
def cell (ns:List Int)(k:Int):Int:=ns.getD k.toNat 0
def many (c:Int):Int:=if c/9%8=1 then 1+c/72%24 else 1+c%9
def wa (c:Int):1<=many c/\many c<=24:=by
 unfold many;split<;>omega
def x6 (i j:Int):Int:=if j>i then j else i
def mix (ns:List Int)(at_ k:Int):Int:=(cell ns (at_+k%x6 1 ((ns.length:Int)-at_))*48271+k*16807+11)%2147483647
def C5 (ns:List Int)(a k:Int):0<=mix ns a k:=N9 _ (by decide)
def LU (big:Int)(ns:List Int)(a:Int):Int:=if cell ns a%2=1 then cell ns a/2%big else cell ns a/2%4
def gap (ns:List Int)(a:Int):Int:=([1,3,100000000000000000000000000000]:List Int).getD (cell ns (a+1)%3).toNat 0
def place (big:Int)(ns:List Int)(a:Int):Nat->Int
 |0=>LU big ns a
 |k+1=>place big ns a k+1+cell ns (a+1)/((k:Int)+1)%gap ns a
def x8 (big:Int)(ns:List Int)(a:Int):place big ns a 0=if cell ns a%2=1 then cell ns a/2%big else cell ns a/2%4:=rfl
def places (big:Int)(ns:List Int)(a:Int)(n:Nat):List Int:=(List.range n).map (place big ns a)
def zr (ns:List Int)(a:Int):0<gap ns a:=by
 unfold gap;have h1:0<=cell ns (a+1)%3:=N9 _ (by decide);have h2:cell ns (a+1)%3<3:=QE _ (by decide);have h:cell ns (a+1)%3=0\/cell ns (a+1)%3=1\/cell ns (a+1)%3=2:=by omega
 rcases h with h|h|h<;>rw[h]<;>decide
def place_lt {big:Int}(ns:List Int)(a:Int)(k:Nat):place big ns a k<place big ns a (k+1):=by
 show place big ns a k<place big ns a k+1+cell ns (a+1)/((k:Int)+1)%gap ns a;have h:0<=cell ns (a+1)/((k:Int)+1)%gap ns a:=N9 _ (by have:=zr ns a;omega);omega
def qM {big:Int}(ns:List Int)(a:Int):∀ {j k:Nat},j<k->place big ns a j<place big ns a k
 | j,k+1,h=>by
  have h2:=place_lt (big:=big) ns a k;by_cases e:j=k
  ·subst e;exact h2
  ·exact Int.lt_trans (qM ns a (by omega)) h2
def places_len (big:Int)(ns:List Int)(a:Int)(n:Nat):(places big ns a n).length=n:=by simp[places]
end M
namespace N2
def keyOf (o t:Int):Int×Int:=if o>t then (o,t) else (t,o)
abbrev oY:=Int×Int×Int
def ig (t:oY):Int×Int:=keyOf t.1 t.2.1
def col (ts:List oY)(k:Int×Int):Int:=((ts.find? λ t=>decide (ig t=k)).map (·.2.2)).getD 0
def zq:∀ {ts:List oY}{t:oY},(ts.map ig).Nodup->t∈ts->col ts (ig t)=t.2.2
 |[],_,_,h=>by cases h
 | a::r,t,hn,h=>by
  have hn':(ig a::r.map ig).Nodup:=hn;obtain⟨h1,h2⟩:=MZ.mp hn';by_cases e:ig a=ig t
  ·rcases MK.mp h with q|q
   ·subst q;simp[col]
   ·exact absurd (MM.mpr ⟨t,q,e.symm⟩) h1
  ·have q:t∈r:=(MK.mp h).resolve_left λ z=>e (by rw[z]);have ih:=zq h2 q;unfold col at ih ⊢;rw[List.find?_cons_of_neg (by simpa using e)];exact ih
def rowsOf (ps:List Int)(ts:List oY):List (List Int):=(List.range ps.length).map λ i=>(ps.take i).map λ q=>col ts (keyOf (ps.getD i 0) q)
structure Dr where
 pl:Nat->Int
 sh:Nat->Nat->Int
 dr:Nat->Nat->Int
 mono:∀ {j k:Nat},j<k->pl j<pl k
 nn:∀ k j:Nat,0<=sh k j
def places (d:Dr)(n:Nat):List Int:=(List.range n).map d.pl
def rows (d:Dr)(n:Nat):List (List Int):=(List.range n).map λ k=>(List.range k).map λ j=>d.sh k j
def places_len (d:Dr)(n:Nat):(places d n).length=n:=by simp[places]
def rK (d:Dr)(n:Nat):(places d n).Pairwise (· < ·):=by
 unfold places;rw[OS];exact List.pairwise_lt_range.imp λ h=>d.mono h
def sU:∀ {l l':List Int},l.Perm l'->l.Pairwise (· <= ·)->l'.Pairwise (· < ·)->l=l'
 |[],l',hp,_,_=>(List.Perm.nil_eq hp)
 | x::r,l',hp,h1,h2=>by
  match l',hp,h2 with
  |[],hp,_=>exact absurd hp.length_eq (by simp)
  | y::r',hp,h2 =>
   obtain⟨a1,a2⟩:=OF.mp h1;obtain⟨b1,b2⟩:=OF.mp h2;have e:x=y:=by
    have m1:x∈y::r':=hp.mem_iff.mp MD;have m2:y∈x::r:=hp.mem_iff.mpr MD;rcases MK.mp m1 with q|q
    ·exact q
    ·rcases MK.mp m2 with q'|q'
     ·exact q'.symm
     ·have:=b1 x q;have:=a1 y q';omega
   subst e;rw[sU ((List.perm_cons _).mp hp) a2 b2]
end N2
namespace KL
open DL XF
variable {d x:D}{a b i:Int}{ds xs:List D}{ps qs:List Int}{j n:Nat}{τ τ':SD}{c:SD->Res Bool}{f g:SD->Res D}{body:SF}{tg:uW}
def mul_r {j:Int}(h : -(2^64)<j/\j<2^64):jU i j:=.inl (.inr h)
def GB {j:Int}(h : -(2^64)<i/\i<2^64):jU i j:=.inl (.inl h)
def big:Int:=10^30
def zu:0<big:=by decide
def Kr:rC (.int 10) (.int 30)=.ok (.int big):=by rfl
def Kp (τ:SD):af rC (eC (.int 10)) (eC (.int 30)) τ=.ok (.int big):=by
 simp only[af,eC,Res.aG,Kr]
def mr (ps:List Int)(rows:List (List Int)):D:=.tup [.tup (ps.map .int),.tup (rows.map λ r=>.tup (r.map .int))]
def iu (rows:List (List Int)):aM (rows.map λ r=>D.tup (r.map .int))=true:=bP λ d m=>by obtain⟨r,_,rfl⟩:=MM.mp m;exact ai r
def gK (ps:List Int)(rows:List (List Int)):(mr ps rows).pure=true:=by
 simp[mr,D.pure,aM,ai,iu]
def iH(h:f τ=.ok (.int a))(hb:0<b):af cP f (eC (.int b)) τ=.ok (.int (a%b)):=by
 rw[bH h (show eC (.int b) τ=.ok (.int b) from rfl)];simp[pG,hb]
def jO(h:f τ=.ok (.int a))(hb:0<b/\b<1073741824):af cV f (eC (.int b)) τ=.ok (.int (a/b)):=by
 rw[bH h (show eC (.int b) τ=.ok (.int b) from rfl)];simp[pG,L2.iX,hb]
def gW(h:f τ=.ok (.int a))(h2:g τ=.ok (.int b)):eT (af iI f g) τ=.ok (decide (a=b)):=by
 unfold eT;rw[bH h h2];show Res.ok (xor false (decide (a=b)))=_;rw[Bool.false_xor]
def yd(h:f τ=.ok (.int a))(h2:g τ=.ok (.int b)):eT (af qX f g) τ=.ok (!decide (a=b)):=by
 unfold eT;rw[bH h h2];show Res.ok (xor true (decide (a=b)))=_;rw[Bool.true_xor]
def yc(h:f τ=.ok (.int a))(h2:g τ=.ok (.int b)):eT (af JV f g) τ=.ok (decide (b<a)):=by
 unfold eT;rw[bH h h2];rfl
def C7(h:f τ=.ok (.int a))(h2:g τ=.ok (.int b)):eT (af Jd f g) τ=.ok (decide (a<b)):=by
 unfold eT;rw[bH h h2];rfl
def Kq {f g:SD->Res Bool}{a b:Bool}(h:f τ=.ok a)(h2:g τ=.ok b):sd f g τ=.ok (a||b):=by
 unfold sd;rw[h];cases a
 ·exact h2
 ·rfl
def bZ {N:Nat}{g:SF}(hl:ds.length=n)(ht:ds.map some++List.replicate (N-n) none=τ)(h:g τ=.rt d):b9 n N g ds=.ok d:=by
 unfold b9;rw[MO hl,ht,h];rfl
def f7{y:D}{r:Res D}(h1:f τ=.ok x)(h2:g τ=.ok y)(h3:bG x y=r):af bG f g τ=r:=(bH h1 h2).trans h3
def iY(hi:i=j)(h:xs[j]?=some d):bG (.tup xs) (.int i)=.ok d:=by
 simp[bG,Co hi h]
def my {t:Tg}(hi:i=j)(h:xs[j]?=some d):bG (.lst t xs) (.int i)=.ok d:=by
 simp[bG,Co hi h]
def uI {i:Nat}(h1:τ[i]?=some (some (.lst .own xs)))(h2:f τ=.ok d)(hp:d.aA=false)(hl:xs.length<16777216):ic i f τ=.nx (τ.set i (some (.lst .own (xs++[d])))):=by
 unfold ic;have e:dI τ i=some xs:=by unfold dI;rw[h1]
 rw[e];simp[h2,hp,hl]
def iG{t:Tg}(h:f τ=.ok (.lst t xs)):eA c5 (ae f ah) τ=.ok (.int xs.length):=by
 rw[di (br h)];rfl
def ya {N:Nat}{g:SF}{t:SD}(hl:ds.length=n)(ht:ds.map some++List.replicate (N-n) none=τ)(h:g τ=.nx t):b9 n N g ds=.ok .bJ:=by
 unfold b9;rw[MO hl,ht,h];rfl
def nD{b:Bool}(h:f τ=.ok (.bl b)):eT f τ=.ok b:=by
 unfold eT;rw[h];rfl
def lK{a b:SF}(h:c τ=.ok false):dS c a b τ=b τ:=by rw[Gr h];rfl
def rL{a b:SF}(h:c τ=.ok true):dS c a b τ=a τ:=by rw[Gr h];rfl
def nG(h:f τ=.ok d):d8 f τ=.nx τ:=by
 unfold d8;rw[h];rfl
def GA {f g:SD->Res Bool}(h:f τ=.ok false):gD f g τ=.ok false:=by unfold gD;rw[h];rfl
def Gz {f g:SD->Res Bool}{b:Bool}(h:f τ=.ok true)(h2:g τ=.ok b):gD f g τ=.ok b:=by unfold gD;rw[h,Res.aG,MO rfl,h2]
def mw {f:SD->Res Bool}{b:Bool}(h:f τ=.ok b):fZ f τ=.ok (!b):=by unfold fZ;rw[h];rfl
def sV{a b s:SF}(h:c τ=.ok true)(h2:a τ=.rt d):aE (dS c a b) s τ=.rt d:=by
 unfold aE;rw[rL h,h2];rfl
def c8{a s:SF}(h:c τ=.ok false):aE (dS c a aV) s τ=s τ:=by
 refine aH ?_;rw[lK h];rfl
def x9(h:f τ=.ok (.bl true)):iy f g τ=g τ:=by unfold iy;rw[h];rfl
def yb {a b:SF}(h:a τ=.rt d):aE a b τ=.rt d:=by
 unfold aE;rw[h];rfl
def jb(h:f τ=.ok (.int a))(h2:g τ=.ok (.int b)):af bQ f g τ=.ok (.int (a+b)):=by rw[bH h h2];rfl
def Fj (xs:List Int)(a b:Option Int):DL.cut (xs.map D.int) a b=(DL.cut xs a b).map D.int:=by
 unfold DL.cut;simp[List.map_drop,List.map_take]
def uK {j:Int}(h:0<j):cP (.int i) (.int j)=.ok (.int (i%j)):=by
 show(if (0:Int)<j then _ else _)=_;exact MO h
def zt (i:Int):cP (.int i) (.int big)=.ok (.int (i%big)):=uK zu
def eq_self (i:Int):iI (.int i) (.int i)=.ok (.bl true):=by
 show Res.ok (D.bl (xor false (decide (i=i))))=_;rw[Nc rfl];rfl
def uJ (o t:Int):jK [.int o,.int t]=.ok (.tup [.int (N2.keyOf o t).1,.int (N2.keyOf o t).2]):=by
 unfold N2.keyOf;refine bZ rfl rfl (c9 ?_ rfl);unfold t7;rw[yc (a:=o) (b:=t) rfl rfl];by_cases h:o>t
 ·rw[Nc h,MO h];rfl
 ·rw[M6 h,MP h];rfl
def wd (n:Nat)(i:Int):G_Llike (n+1) [.int i,.int i]=.ok (.bl true):=by
 refine bZ (τ:=[some (.int i),some (.int i),none]) rfl rfl ?_;unfold g_Llike;rw[c8 rfl,c8 rfl];refine sV rfl (c9 ?_ rfl);rw[x9 rfl,x9 rfl,bH (x:=.int i) (y:=.int i) rfl rfl];exact eq_self i
def C8 (n:Nat)(s:PySem.Str):G_Llike (n+1) [.str s,.str s]=.ok (.bl true):=by
 refine bZ (τ:=[some (.str s),some (.str s),none]) rfl rfl ?_;unfold g_Llike;rw[c8 rfl,c8 rfl,c8 rfl];refine sV rfl (c9 ?_ rfl);rw[x9 rfl,bH (x:=.str s) (y:=.str s) rfl rfl];have e:(s == s)=true:=Pn s
 first
  |(show Res.ok (D.bl (xor false (decide (s=s))))=_;rw[Nc rfl];rfl)
  |(show Res.ok (D.bl (xor false (s == s)))=_;rw[e];rfl)
  |simp[iI,cY,tZ]
abbrev S (ns:List Int):D:=.lst .aq (ns.map D.int)
def cell_out {ns:List Int}{k:Int}(h1:¬ k<ns.length):M.cell ns k=0:=by
 unfold M.cell;rw[MG,NB (by omega)];rfl
def zv {ns:List Int}{i:Nat}(h:i<ns.length):(ns.map D.int)[i]?=some (.int (ns.getD i 0)):=by
 rw[MR,MA h,MG,MA h];rfl
def nE (ns:List Int){k:Int}(h:0<=k):G_Lcell [S ns,.int k]=.ok (.int (M.cell ns k)):=by
 refine bZ (τ:=[some (S ns),some (.int k)]) rfl rfl ?_;have v0:aa 0 [some (S ns),some (.int k)]=.ok (S ns):=cL rfl (ai ns);have l0:=iG v0;rw[MC]at l0;have t:=C7 (f:=aa 1) (a:=k) rfl l0;unfold g_Lcell;by_cases h1:k<ns.length
 ·rw[Nc h1]at t;exact sV t (c9 (f7 v0 (y:=.int k) rfl (my (j:=k.toNat) (by omega) (zv (by omega)))) rfl)
 ·rw[M6 h1]at t;rw[c8 t,cell_out h1];rfl
def Fo (c:Int):G_Lmany [.int c]=.ok (.int (M.many c)):=by
 refine bZ (τ:=[some (.int c)]) rfl rfl ?_;have t:=gW (τ:=[some (.int c)]) (iH (jO (f:=aa 0) (a:=c) rfl (by decide:(0:Int)<9/\(9:Int)<1073741824)) (by decide:(0:Int)<8)) (g:=eC (.int 1)) (b:=1) rfl;unfold g_Lmany M.many;by_cases h1:c/9%8=1
 ·rw[Nc h1]at t;rw[MO h1];exact sV t (c9 (jb (f:=eC (.int 1)) (a:=1) rfl (iH (jO (f:=aa 0) (a:=c) rfl (by decide:(0:Int)<72/\(72:Int)<1073741824)) (by decide:(0:Int)<24))) rfl)
 ·rw[M6 h1]at t;rw[c8 t,MP h1];exact c9 (jb (f:=eC (.int 1)) (a:=1) rfl (iH (f:=aa 0) (a:=c) rfl (by decide:(0:Int)<9))) rfl
def C6 (ns:List Int)(a:Int)(n i:Nat):SD:=[some (S ns),some (.int a),some (.int n),some (.int (M.cell ns a)),some (.int (M.cell ns (a+1))),some (.int (M.place big ns a i)),some (.lst .own ((M.places big ns a i).map D.int)),if i=0 then none else some (.int ((i:Int)-1))]
def we (ns:List Int)(a:Int)(i:Nat):M.places big ns a (i+1)=M.places big ns a i++[M.place big ns a i]:=by
 unfold M.places;rw[PC,M7];rfl
def Iv (ns:List Int)(a:Int):bG (.lst .own [.int 1,.int 3,.int (10^29)]) (.int (M.cell ns (a+1)%3))=.ok (.int (M.gap ns a)):=by
 unfold M.gap;have h:M.cell ns (a+1)%3=0\/M.cell ns (a+1)%3=1\/M.cell ns (a+1)%3=2:=by omega
 rcases h with h|h|h<;>rw[h]<;>rfl
def wc (ns:List Int){i:Nat}(hi:i<64)(o:Option D):g_Lplaces_b1 [some (S ns),some (.int a),some (.int n),some (.int (M.cell ns a)),some (.int (M.cell ns (a+1))),some (.int (M.place big ns a i)),some (.lst .own ((M.places big ns a i).map D.int)),some (.int (i:Int))]=.nx (C6 ns a n (i+1)):=by
 unfold g_Lplaces_b1;rw[aH (uI (i:=6) (xs:=(M.places big ns a i).map D.int) (d:=.int (M.place big ns a i)) rfl rfl rfl (by rw[MC,M.places_len];omega))];show bq 5 _ [some (S ns),some (.int a),some (.int n),some (.int (M.cell ns a)),some (.int (M.cell ns (a+1))),some (.int (M.place big ns a i)),some (.lst .own ((M.places big ns a i).map D.int++[.int (M.place big ns a i)])),some (.int (i:Int))]=_;generalize hτ:[some (S ns),some (.int a),some (.int n),some (.int (M.cell ns a)),some (.int (M.cell ns (a+1))),some (.int (M.place big ns a i)),some (.lst .own ((M.places big ns a i).map D.int++[.int (M.place big ns a i)])),some (.int (i:Int))]=τ;have v4:aa 4 τ=.ok (.int (M.cell ns (a+1))):=by rw[<-hτ];rfl
 have v5:aa 5 τ=.ok (.int (M.place big ns a i)):=by rw[<-hτ];rfl
 have v7:aa 7 τ=.ok (.int (i:Int)):=by rw[<-hτ];rfl
 have q1:af cV (aa 4) (af bQ (aa 7) (eC (.int 1))) τ=.ok (.int (M.cell ns (a+1)/((i:Int)+1))):=by
  rw[bH v4 (jb v7 (g:=eC (.int 1)) (b:=1) rfl)];show(if (0:Int)<(i:Int)+1/\(i:Int)+1<1073741824 then _ else _)=_;exact MO (by omega)
 have q2:af bG (eA dm (ae (eC (.int 1)) (ae (eC (.int 3)) (ae (af rC (eC (.int 10)) (eC (.int 29))) ah)))) (af cP (aa 4) (eC (.int 3))) τ=.ok (.int (M.gap ns a)):=
  f7 (x:=.lst .own [.int 1,.int 3,.int (10^29)]) rfl (iH v4 (by decide:(0:Int)<3)) (Iv ns a)
 rw[a8 (jb (jb v5 (g:=eC (.int 1)) (b:=1) rfl) ((bH q1 q2).trans (uK (M.zr ns a)))) rfl,<-hτ];unfold C6;rw[we,M7,MP (Nat.succ_ne_zero i)];have e:(((i+1:Nat):Int)-1)=i:=by omega
 rw[e];rfl
def wb (ns:List Int)(hn:n<=64):cD (gN 7) g_Lplaces_b1 ((List.range n).map λ k:Nat=>D.int (k:Int)) (C6 ns a n 0)=.nx (C6 ns a n n):=by
 have key:=yS (tg:=gN 7) (body:=g_Lplaces_b1) (C6 ns a n) (ds:=(List.range n).map λ k:Nat=>D.int (k:Int)) 0 λ j d hd=>by
  have hj:j<n:=by
   have:=(MF.mp hd).1;simpa using this
  have ed:d=.int (j:Int):=by
   rw[MR,NC hj]at hd;exact(Nq hd).symm
  subst ed;rw[NT];exact⟨_,rfl,wc ns (by omega) none⟩
 rw[MC,MX,NT]at key;exact key
def AY (ns:List Int):(dS (eT (af iI (af cP (aa 3) (eC (.int 2))) (eC (.int 1)))) (bq 5 (af cP (af cV (aa 3) (eC (.int 2))) (af rC (eC (.int 10)) (eC (.int 30))))) aV) [some (S ns),some (.int a),some (.int n),some (.int (M.cell ns a)),some (.int (M.cell ns (a+1))),some (.int (M.cell ns a/2%4)),none,none]=.nx [some (S ns),some (.int a),some (.int n),some (.int (M.cell ns a)),some (.int (M.cell ns (a+1))),some (.int (M.place big ns a 0)),none,none]:=by
 have e3:=M.x8 big ns a;rw[e3];have t:=gW (τ:=[some (S ns),some (.int a),some (.int n),some (.int (M.cell ns a)),some (.int (M.cell ns (a+1))),some (.int (M.cell ns a/2%4)),none,none]) (iH (f:=aa 3) (a:=M.cell ns a) rfl (by decide:(0:Int)<2)) (g:=eC (.int 1)) (b:=1) rfl;by_cases h1:M.cell ns a%2=1
 ·rw[Nc h1]at t;rw[MO h1,rL t];exact a8 ((bH (jO (f:=aa 3) (a:=M.cell ns a) rfl (by decide:(0:Int)<2/\(2:Int)<1073741824)) (Kp _)).trans (zt _)) rfl
 ·rw[M6 h1]at t;rw[MP h1,lK t];rfl
def AX (ns:List Int)(hn:n<=64):bT [] (aX (ae (aa 2) ah)) (gN 7) g_Lplaces_b1 (C6 ns a n 0)=.nx (C6 ns a n n):=by
 have hi:aX (ae (aa 2) ah) (C6 ns a n 0)=.ok (false,(List.range n).map λ k:Nat=>D.int (k:Int)):=by
  unfold aX;rw[br (d:=.int n) rfl,Res.aG,dH (by omega)]
 unfold bT;rw[show b7 [] (C6 ns a n 0)=C6 ns a n 0 from rfl,hi];have:aD ((List.range n).map λ k:Nat=>D.int (k:Int))=(List.range n).map λ k:Nat=>D.int (k:Int):=a7 _ _;simp only[this];exact wb ns (a:=a) hn
def places_eq (ns:List Int)(ha:0<=a)(hn:n<=64):G_Lplaces [S ns,.int a,.int n]=.ok (.lst .own ((M.places big ns a n).map D.int)):=by
 refine bZ (τ:=[some (S ns),some (.int a),some (.int n),none,none,none,none,none]) rfl rfl ?_;have cc:∀ {τ:SD}{f:SD->Res D}{k:Int},τ[0]?=some (some (S ns))->f τ=.ok (.int k)->0<=k->az G_Lcell (ae (aa 0) (ae f ah)) τ=.ok (.int (M.cell ns k)):=λ h hf hk=>
  cN (ds:=[S ns,.int _]) (aF (cL h (ai ns)) (br hf)) (by simpa[aD,D.aq] using nE ns hk) (by simp[av,D.aA])
 unfold g_Lplaces;rw[aH (a8 (cc (f:=aa 1) rfl rfl ha) rfl)];rw[aH (a8 (cc rfl (jb (f:=aa 1) (a:=a) rfl (g:=eC (.int 1)) (b:=1) rfl) (by omega)) rfl)];rw[aH (a8 (iH (jO (f:=aa 3) (a:=M.cell ns a) rfl (by decide:(0:Int)<2/\(2:Int)<1073741824)) (by decide:(0:Int)<4)) rfl)];show aE _ _ [some (S ns),some (.int a),some (.int n),some (.int (M.cell ns a)),some (.int (M.cell ns (a+1))),some (.int (M.cell ns a/2%4)),none,none]=_;rw[aH (AY ns)];rw[aH (a8 (d:=.lst .own []) rfl rfl)];show aE _ _ (C6 ns a n 0)=_;exact(aH (AX ns (a:=a) hn)).trans rfl
def C9 (x:Int):0<M.x6 1 x:=by
 unfold M.x6;split<;>omega
def uL (ns:List Int){k:Int}(ha:0<=a)(hk:0<=k):G_Lmix [S ns,.int a,.int k]=.ok (.int (M.mix ns a k)):=by
 have h1:=C9 ((ns.length:Int)-a);have h2:0<=a+k%M.x6 1 ((ns.length:Int)-a):=Int.add_nonneg ha (N9 _ (by omega));have c1:jU (M.cell ns (a+k%M.x6 1 ((ns.length:Int)-a))) 48271:=mul_r (by decide);have c2:jU k 16807:=mul_r (by decide);have e:=nE ns h2;unfold M.x6 at *;simp[G_Lmix,g_Lmix,b9,aE,dS,bq,bu,d9,aV,d8,ic,iz,fR,e8,bT,cR,eT,af,aa,eC,eA,ki,iy,j8,t7,fN,eP,pe,eY,aX,bW,az,eK,fU,e7,aR,ae,ah,fZ,gD,sd,bw,c5,d7,eF,eW,b8,fD,dm,bx,bD,rD,pG,L2.iX,L2.je,bQ,iI,qX,tZ,cY,g9,rA,i0,D.view,aS,Tg.view,D.aq,aD,D.aA,av,D.bX,bz,D.aW,bL,Tg.aW,jn,D.a6,cj,Tg.a6,D.pure,aM,dI,dJ,gN,gT,aI,bU,cW,D.isExc,sA,uc,ud,t9,jI,jo,b7,dD,cH,cG,cutD,ee,dw,fO,kg,dM,KT.kind,bG,a7,h1,e,c1,c2,M.mix,M.x6]
def Dc {x y z:Int}(h0:0<=i)(h1:i<3)(hx:0<=x)(hy:0<=y)(hz:0<=z):∃ v,0<=v/\L2.rj [D.int x,D.int y,D.int z] i=some (.int v):=by
 have h:i=0\/i=1\/i=2:=by omega
 rcases h with h|h|h
 ·exact⟨x,hx,by rw[h];rfl⟩
 ·exact⟨y,hy,by rw[h];rfl⟩
 ·exact⟨z,hz,by rw[h];rfl⟩
def Mg (d:D):Prop:=∃ v:Int,0<=v/\d=.int v
def rM (r:Fl):Prop:=∃ v:Int,0<=v/\r=.rt (.int v)
def qN (ns:List Int){k j:Int}(ha:0<=a)(hk:0<=k)(hk2:k<=24)(hj:0<=j)(hj2:j<=24):∃ v,0<=v/\G_Lshade [S ns,.int a,.int k,.int j]=.ok (.int v):=by
 have e2:=nE ns (show 0<=a+2 by omega);have e3:=nE ns (show 0<=a+3 by omega);have ha4:0<=a+4:=by omega
 have m1:=uL ns ha4 (show 0<=300+k by omega);have m2:=uL ns ha4 (show 0<=300+j by omega);have hkk:0<=k*(k-1)/2:=by
  have:0<=k*(k-1):=by
   by_cases h:k=0
   ·rw[h];decide
   ·exact Int.mul_nonneg hk (by omega)
  omega
 have m3:=uL ns ha4 (show 0<=k*(k-1)/2+j by omega);have n3:=M.C5 ns (a+4) (k*(k-1)/2+j);have c1:jU k (k-1):=GB (by omega);have m4:=λ {x:Int} (h:0<=x)=>uL ns ha4 h;have n4:=M.C5 ns (a+4);generalize hcell:M.cell ns (a+2)=hd at *;generalize M.cell ns (a+3)=c3 at *;generalize M.mix ns (a+4) (300+k)=x1 at *;generalize M.mix ns (a+4) (300+j)=x2 at *;generalize M.mix ns (a+4) (k*(k-1)/2+j)=x3 at *;have hb:0<1+hd/4%4:=by omega
 have ho0:0<=x1/3%(1+hd/4%4):=N9 _ (by omega);have ht0:0<=x2/3%(1+hd/4%4):=N9 _ (by omega)
 suffices h:rM (g_Lshade [some (S ns),some (.int a),some (.int k),some (.int j),none,none,none,none,none,none]) by
  obtain⟨v,hv,e⟩:=h;refine⟨v,hv,?_⟩;simp[G_Lshade,b9,List.replicate,e]
 unfold g_Lshade;refine lg rM (.int hd) (by simp[b9,aE,dS,bq,bu,d9,aV,d8,ic,iz,fR,e8,bT,cR,eT,af,aa,eC,eA,ki,iy,j8,t7,fN,eP,pe,eY,aX,bW,az,eK,fU,e7,aR,ae,ah,fZ,gD,sd,bw,c5,d7,eF,eW,b8,fD,dm,bx,bD,rD,pG,L2.iX,L2.je,bQ,iI,qX,tZ,cY,g9,rA,i0,D.view,aS,Tg.view,D.aq,aD,D.aA,av,D.bX,bz,D.aW,bL,Tg.aW,jn,D.a6,cj,Tg.a6,D.pure,aM,dI,dJ,gN,gT,aI,bU,cW,D.isExc,sA,uc,ud,t9,jI,jo,b7,dD,cH,cG,cutD,ee,dw,fO,kg,dM,KT.kind,bG,a7,e2]) rfl ?_;refine lg rM (.int (1+hd/4%4)) (by simp[b9,aE,dS,bq,bu,d9,aV,d8,ic,iz,fR,e8,bT,cR,eT,af,aa,eC,eA,ki,iy,j8,t7,fN,eP,pe,eY,aX,bW,az,eK,fU,e7,aR,ae,ah,fZ,gD,sd,bw,c5,d7,eF,eW,b8,fD,dm,bx,bD,rD,pG,L2.iX,L2.je,bQ,iI,qX,tZ,cY,g9,rA,i0,D.view,aS,Tg.view,D.aq,aD,D.aA,av,D.bX,bz,D.aW,bL,Tg.aW,jn,D.a6,cj,Tg.a6,D.pure,aM,dI,dJ,gN,gT,aI,bU,cW,D.isExc,sA,uc,ud,t9,jI,jo,b7,dD,cH,cG,cutD,ee,dw,fO,kg,dM,KT.kind,bG,a7]) rfl ?_;refine lg rM (.int (x1/3%(1+hd/4%4))) (by simp[b9,aE,dS,bq,bu,d9,aV,d8,ic,iz,fR,e8,bT,cR,eT,af,aa,eC,eA,ki,iy,j8,t7,fN,eP,pe,eY,aX,bW,az,eK,fU,e7,aR,ae,ah,fZ,gD,sd,bw,c5,d7,eF,eW,b8,fD,dm,bx,bD,rD,pG,L2.iX,L2.je,bQ,iI,qX,tZ,cY,g9,rA,i0,D.view,aS,Tg.view,D.aq,aD,D.aA,av,D.bX,bz,D.aW,bL,Tg.aW,jn,D.a6,cj,Tg.a6,D.pure,aM,dI,dJ,gN,gT,aI,bU,cW,D.isExc,sA,uc,ud,t9,jI,jo,b7,dD,cH,cG,cutD,ee,dw,fO,kg,dM,KT.kind,bG,a7,m1,hb]) rfl ?_;refine lg rM (.int (x2/3%(1+hd/4%4))) (by simp[b9,aE,dS,bq,bu,d9,aV,d8,ic,iz,fR,e8,bT,cR,eT,af,aa,eC,eA,ki,iy,j8,t7,fN,eP,pe,eY,aX,bW,az,eK,fU,e7,aR,ae,ah,fZ,gD,sd,bw,c5,d7,eF,eW,b8,fD,dm,bx,bD,rD,pG,L2.iX,L2.je,bQ,iI,qX,tZ,cY,g9,rA,i0,D.view,aS,Tg.view,D.aq,aD,D.aA,av,D.bX,bz,D.aW,bL,Tg.aW,jn,D.a6,cj,Tg.a6,D.pure,aM,dI,dJ,gN,gT,aI,bU,cW,D.isExc,sA,uc,ud,t9,jI,jo,b7,dD,cH,cG,cutD,ee,dw,fO,kg,dM,KT.kind,bG,a7,m2,hb]) rfl ?_;generalize x1/3%(1+hd/4%4)=one at *;generalize x2/3%(1+hd/4%4)=other at *;refine lg rM (.int (x3/5)) (by simp[b9,aE,dS,bq,bu,d9,aV,d8,ic,iz,fR,e8,bT,cR,eT,af,aa,eC,eA,ki,iy,j8,t7,fN,eP,pe,eY,aX,bW,az,eK,fU,e7,aR,ae,ah,fZ,gD,sd,bw,c5,d7,eF,eW,b8,fD,dm,bx,bD,rD,pG,L2.iX,L2.je,bQ,iI,qX,tZ,cY,g9,rA,i0,D.view,aS,Tg.view,D.aq,aD,D.aA,av,D.bX,bz,D.aW,bL,Tg.aW,jn,D.a6,cj,Tg.a6,D.pure,aM,dI,dJ,gN,gT,aI,bU,cW,D.isExc,sA,uc,ud,t9,jI,jo,b7,dD,cH,cG,cutD,ee,dw,fO,kg,dM,KT.kind,bG,a7,m3,c1]) rfl ?_;refine sE rM Mg ⟨decide (hd%4<2) && !decide (one=other),by by_cases q:hd%4<2<;>simp[b9,aE,dS,bq,bu,d9,aV,d8,ic,iz,fR,e8,bT,cR,eT,af,aa,eC,eA,ki,iy,j8,t7,fN,eP,pe,eY,aX,bW,az,eK,fU,e7,aR,ae,ah,fZ,gD,sd,bw,c5,d7,eF,eW,b8,fD,dm,bx,bD,rD,pG,L2.iX,L2.je,bQ,iI,qX,tZ,cY,g9,rA,i0,D.view,aS,Tg.view,D.aq,aD,D.aA,av,D.bX,bz,D.aW,bL,Tg.aW,jn,D.a6,cj,Tg.a6,D.pure,aM,dI,dJ,gN,gT,aI,bU,cW,D.isExc,sA,uc,ud,t9,jI,jo,b7,dD,cH,cG,cutD,ee,dw,fO,kg,dM,KT.kind,bG,a7,q],λ _=>?_⟩ ⟨.int (x3/5),rfl,_,by omega,rfl⟩ ?_
 ·have hx:0<=400+4*(if other>one then other else one)+(if other<one then other else one):=by split<;>split<;>omega
  have c2:jU 4 (if other>one then other else one):=GB (by decide);refine⟨.int (M.mix ns (a+4) (400+4*(if other>one then other else one)+(if other<one then other else one))/5),by simp[b9,aE,dS,bq,bu,d9,aV,d8,ic,iz,fR,e8,bT,cR,eT,af,aa,eC,eA,ki,iy,j8,t7,fN,eP,pe,eY,aX,bW,az,eK,fU,e7,aR,ae,ah,fZ,gD,sd,bw,c5,d7,eF,eW,b8,fD,dm,bx,bD,rD,pG,L2.iX,L2.je,bQ,iI,qX,tZ,cY,g9,rA,i0,D.view,aS,Tg.view,D.aq,aD,D.aA,av,D.bX,bz,D.aW,bL,Tg.aW,jn,D.a6,cj,Tg.a6,D.pure,aM,dI,dJ,gN,gT,aI,bU,cW,D.isExc,sA,uc,ud,t9,jI,jo,b7,dD,cH,cG,cutD,ee,dw,fO,kg,dM,KT.kind,bG,a7,m4 hx,c2],rfl,_,?_,rfl⟩;have:=n4 (400+4*(if other>one then other else one)+(if other<one then other else one));omega
 ·rintro _ ⟨v1,hv1,rfl⟩;refine sE rM Mg ⟨decide (hd%4=1)&&decide (k*(k-1)/2+j=hd/32%36),by by_cases q:hd%4=1<;>simp[b9,aE,dS,bq,bu,d9,aV,d8,ic,iz,fR,e8,bT,cR,eT,af,aa,eC,eA,ki,iy,j8,t7,fN,eP,pe,eY,aX,bW,az,eK,fU,e7,aR,ae,ah,fZ,gD,sd,bw,c5,d7,eF,eW,b8,fD,dm,bx,bD,rD,pG,L2.iX,L2.je,bQ,iI,qX,tZ,cY,g9,rA,i0,D.view,aS,Tg.view,D.aq,aD,D.aA,av,D.bX,bz,D.aW,bL,Tg.aW,jn,D.a6,cj,Tg.a6,D.pure,aM,dI,dJ,gN,gT,aI,bU,cW,D.isExc,sA,uc,ud,t9,jI,jo,b7,dD,cH,cG,cutD,ee,dw,fO,kg,dM,KT.kind,bG,a7,q,c1],λ _=>⟨.int (v1+1),by simp[b9,aE,dS,bq,bu,d9,aV,d8,ic,iz,fR,e8,bT,cR,eT,af,aa,eC,eA,ki,iy,j8,t7,fN,eP,pe,eY,aX,bW,az,eK,fU,e7,aR,ae,ah,fZ,gD,sd,bw,c5,d7,eF,eW,b8,fD,dm,bx,bD,rD,pG,L2.iX,L2.je,bQ,iI,qX,tZ,cY,g9,rA,i0,D.view,aS,Tg.view,D.aq,aD,D.aA,av,D.bX,bz,D.aW,bL,Tg.aW,jn,D.a6,cj,Tg.a6,D.pure,aM,dI,dJ,gN,gT,aI,bU,cW,D.isExc,sA,uc,ud,t9,jI,jo,b7,dD,cH,cG,cutD,ee,dw,fO,kg,dM,KT.kind,bG,a7],rfl,_,by omega,rfl⟩⟩ ⟨.int v1,rfl,_,hv1,rfl⟩ ?_;rintro _ ⟨v2,hv2,rfl⟩;refine Av rM ⟨decide (hd%4=2)&&decide (hd/4%2=1),by by_cases q:hd%4=2<;>simp[b9,aE,dS,bq,bu,d9,aV,d8,ic,iz,fR,e8,bT,cR,eT,af,aa,eC,eA,ki,iy,j8,t7,fN,eP,pe,eY,aX,bW,az,eK,fU,e7,aR,ae,ah,fZ,gD,sd,bw,c5,d7,eF,eW,b8,fD,dm,bx,bD,rD,pG,L2.iX,L2.je,bQ,iI,qX,tZ,cY,g9,rA,i0,D.view,aS,Tg.view,D.aq,aD,D.aA,av,D.bX,bz,D.aW,bL,Tg.aW,jn,D.a6,cj,Tg.a6,D.pure,aM,dI,dJ,gN,gT,aI,bU,cW,D.isExc,sA,uc,ud,t9,jI,jo,b7,dD,cH,cG,cutD,ee,dw,fO,kg,dM,KT.kind,bG,a7,q],λ _=>⟨.int (v2%100000000),by simp[b9,aE,dS,bq,bu,d9,aV,d8,ic,iz,fR,e8,bT,cR,eT,af,aa,eC,eA,ki,iy,j8,t7,fN,eP,pe,eY,aX,bW,az,eK,fU,e7,aR,ae,ah,fZ,gD,sd,bw,c5,d7,eF,eW,b8,fD,dm,bx,bD,rD,pG,L2.iX,L2.je,bQ,iI,qX,tZ,cY,g9,rA,i0,D.view,aS,Tg.view,D.aq,aD,D.aA,av,D.bX,bz,D.aW,bL,Tg.aW,jn,D.a6,cj,Tg.a6,D.pure,aM,dI,dJ,gN,gT,aI,bU,cW,D.isExc,sA,uc,ud,t9,jI,jo,b7,dD,cH,cG,cutD,ee,dw,fO,kg,dM,KT.kind,bG,a7],_,N9 _ (by decide),rfl⟩,λ _=>?_⟩;have big0:0<=c3%big:=N9 _ (by have:=zu;omega);refine lg rM (.lst .own [.int 0,.int (1+c3%big),.int (c3/9%5)]) ?_ rfl ?_
  ·have q1:af bQ (eC (.int 1)) (af cP (az G_Lcell (ae (aa 0) (ae (af bQ (aa 1) (eC (.int 3))) ah))) (af rC (eC (.int 10)) (eC (.int 30)))) [some (S ns),some (.int a),some (.int k),some (.int j),some (.int hd),some (.int (1+hd/4%4)),some (.int one),some (.int other),some (.int v2),none]=.ok (.int (1+c3%big)):=
    bH (x:=.int 1) rfl ((bH (x:=.int c3) (by simp[b9,aE,dS,bq,bu,d9,aV,d8,ic,iz,fR,e8,bT,cR,eT,af,aa,eC,eA,ki,iy,j8,t7,fN,eP,pe,eY,aX,bW,az,eK,fU,e7,aR,ae,ah,fZ,gD,sd,bw,c5,d7,eF,eW,b8,fD,dm,bx,bD,rD,pG,L2.iX,L2.je,bQ,iI,qX,tZ,cY,g9,rA,i0,D.view,aS,Tg.view,D.aq,aD,D.aA,av,D.bX,bz,D.aW,bL,Tg.aW,jn,D.a6,cj,Tg.a6,D.pure,aM,dI,dJ,gN,gT,aI,bU,cW,D.isExc,sA,uc,ud,t9,jI,jo,b7,dD,cH,cG,cutD,ee,dw,fO,kg,dM,KT.kind,bG,a7,e3]) (Kp _)).trans (zt _))
   simp only[eA,ae,List.set_cons_succ,List.set_cons_zero];rw[q1];simp[b9,aE,dS,bq,bu,d9,aV,d8,ic,iz,fR,e8,bT,cR,eT,af,aa,eC,eA,ki,iy,j8,t7,fN,eP,pe,eY,aX,bW,az,eK,fU,e7,aR,ae,ah,fZ,gD,sd,bw,c5,d7,eF,eW,b8,fD,dm,bx,bD,rD,pG,L2.iX,L2.je,bQ,iI,qX,tZ,cY,g9,rA,i0,D.view,aS,Tg.view,D.aq,aD,D.aA,av,D.bX,bz,D.aW,bL,Tg.aW,jn,D.a6,cj,Tg.a6,D.pure,aM,dI,dJ,gN,gT,aI,bU,cW,D.isExc,sA,uc,ud,t9,jI,jo,b7,dD,cH,cG,cutD,ee,dw,fO,kg,dM,KT.kind,bG,a7,e3]
  ·have hm:0<2+hd/16%2:=by omega
   obtain⟨v,hv,e⟩:=Dc (x:=0) (y:=1+c3%big) (z:=c3/9%5) (i:=v2%(2+hd/16%2)) (N9 _ (by omega)) (by have:=QE v2 hm;omega) (by decide) (by omega) (by omega);exact⟨v,hv,by simp[b9,aE,dS,bq,bu,d9,aV,d8,ic,iz,fR,e8,bT,cR,eT,af,aa,eC,eA,ki,iy,j8,t7,fN,eP,pe,eY,aX,bW,az,eK,fU,e7,aR,ae,ah,fZ,gD,sd,bw,c5,d7,eF,eW,b8,fD,dm,bx,bD,rD,pG,L2.iX,L2.je,bQ,iI,qX,tZ,cY,g9,rA,i0,D.view,aS,Tg.view,D.aq,aD,D.aA,av,D.bX,bz,D.aW,bL,Tg.aW,jn,D.a6,cj,Tg.a6,D.pure,aM,dI,dJ,gN,gT,aI,bU,cW,D.isExc,sA,uc,ud,t9,jI,jo,b7,dD,cH,cG,cutD,ee,dw,fO,kg,dM,KT.kind,bG,a7,hm,e]⟩
def sh (ns:List Int)(k j:Nat):Int:=by
 classical
 exact if h:k<=24/\j<=24 then (qN ns (a:=1) (k:=k) (j:=j) (by decide) (by omega) (by omega) (by omega) (by omega)).choose else 0
def Ks (ns:List Int)(k j:Nat):0<=sh ns k j:=by
 unfold sh;split
 ·rename_i h;exact(qN ns (a:=1) (k:=k) (j:=j) (by decide) (by omega) (by omega) (by omega) (by omega)).choose_spec.1
 ·exact QZ 0
def Ku (ns:List Int){k:Nat}(hk:k<=24)(hj:j<=24):G_Lshade [S ns,.int 1,.int k,.int j]=.ok (.int (sh ns k j)):=by
 unfold sh;rw[dif_pos ⟨hk,hj⟩];exact(qN ns (a:=1) (k:=k) (j:=j) (by decide) (by omega) (by omega) (by omega) (by omega)).choose_spec.2
def dN (ns:List Int):N2.Dr where
 pl:=M.place big ns 1
 sh:=sh ns
 dr:=λ k j=>M.mix ns 1 ((k:Int)*24+(j:Int))
 mono:=λ h=>M.qM ns 1 h
 nn:=Ks ns
def wg(h:d∈(List.range n).map λ k:Nat=>D.int (k:Int)):∃ k:Nat,k<n/\d=.int k:=by
 obtain⟨k,hk,rfl⟩:=MM.mp h;exact⟨k,M3.mp hk,rfl⟩
def natOf:D->Nat|.int i=>i.toNat|_=>0
def Fp (ns:List Int){k:Nat}(hk:k<24):g_Lnet_e2 [some (.int k),some (S ns),some (.int 1)]=.ok (.tup (((List.range k).map λ j=>(dN ns).sh k j).map D.int)):=by
 have hr:=dH (n:=k) (by omega);have hc:=nV (it:=aX (ae (aa 0) ah)) (elt:=g_Lnet_e1) (cap:=[("_law_script",1),("_law_at",2),("_law_k",0)]) (τ:=[some (.int k),some (S ns),some (.int 1)]) (fl:=false) (ds:=(List.range k).map λ k:Nat=>D.int (k:Int)) (λ d=>.int ((dN ns).sh k (natOf d)))
  (by simp [aX,ae,ah,aa,D.view,hr]) (λ d hd=>by
   rw[a7]at hd;obtain⟨j,hj,rfl⟩:=wg hd;refine⟨?_,rfl⟩;have e:=Ku ns (k:=k) (j:=j) (by omega) (by omega);simp[g_Lnet_e1,b9,aE,dS,bq,bu,d9,aV,d8,ic,iz,fR,e8,bT,cR,eT,af,aa,eC,eA,ki,iy,j8,t7,fN,eP,pe,eY,aX,bW,az,eK,fU,e7,aR,ae,ah,fZ,gD,sd,bw,c5,d7,eF,eW,b8,fD,dm,bx,bD,rD,pG,L2.iX,L2.je,bQ,iI,qX,tZ,cY,g9,rA,i0,D.view,aS,Tg.view,D.aq,aD,D.aA,av,D.bX,bz,D.aW,bL,Tg.aW,jn,D.a6,cj,Tg.a6,D.pure,aM,dI,dJ,gN,gT,aI,bU,cW,D.isExc,sA,uc,ud,t9,jI,jo,b7,dD,cH,cG,cutD,ee,dw,fO,kg,dM,KT.kind,bG,a7,e,natOf,dN]) (by simp;omega)
 unfold g_Lnet_e2;simp only[eA,ae,ah,hc,Res.aG,b8,a7];simp[natOf]
def IA (ns:List Int)(hn:n<=24):G_Lnet [S ns,.int 1,.int n]=.ok (mr (N2.places (dN ns) n) (N2.rows (dN ns) n)):=by
 have hr:=dH (n:=n) (by omega);have hp:=places_eq ns (a:=1) (n:=n) (by decide) (by omega);have hc:=nV (it:=aX (ae (aa 2) ah)) (elt:=g_Lnet_e2) (cap:=[("_law_script",0),("_law_at",1)]) (τ:=[some (S ns),some (.int 1),some (.int n),none]) (fl:=false) (ds:=(List.range n).map λ k:Nat=>D.int (k:Int)) (λ d=>.tup (((List.range (natOf d)).map λ j=>(dN ns).sh (natOf d) j).map D.int))
  (by simp [aX,ae,ah,aa,D.view,hr]) (λ d hd=>by
   rw[a7]at hd;obtain⟨k,hk,rfl⟩:=wg hd;refine⟨?_,ai _⟩;have e:=Fp ns (k:=k) (by omega);simpa[dD,D.aq,natOf] using e) (by simp;omega)
 rw[a7]at hc;have hpu:aM (((List.range n).map λ k:Nat=>D.int (k:Int)).map λ d=>D.tup (((List.range (natOf d)).map λ j=>(dN ns).sh (natOf d) j).map D.int))=true:=bP λ d m=>by
  obtain⟨x,_,rfl⟩:=MM.mp m;exact ai _
 suffices h:g_Lnet [some (S ns),some (.int 1),some (.int n),none]=.rt (mr (N2.places (dN ns) n) (N2.rows (dN ns) n)) by
  simp[G_Lnet,b9,List.replicate,h]
 unfold g_Lnet;have z:mr (N2.places (dN ns) n) (N2.rows (dN ns) n)=.tup [.tup ((M.places big ns 1 n).map D.int),.tup (((List.range n).map λ k:Nat=>D.int (k:Int)).map λ d=>D.tup (((List.range (natOf d)).map λ j=>(dN ns).sh (natOf d) j).map D.int))]:=by
  unfold mr N2.rows;simp[M1,natOf,Function.comp_def];rfl
 have hnp:=gK (N2.places (dN ns) n) (N2.rows (dN ns) n);rw[z]at hnp ⊢;generalize (((List.range n).map λ k:Nat=>D.int (k:Int)).map λ d=>D.tup (((List.range (natOf d)).map λ j=>(dN ns).sh (natOf d) j).map D.int))=R at *;rw[aH (a8 hc (fm hpu))];have q1:az G_Lplaces (ae (aa 0) (ae (aa 1) (ae (aa 2) ah))) [some (S ns),some (.int 1),some (.int n),some (.lst .own R)]=.ok (.lst .own ((M.places big ns 1 n).map D.int)):=cN (ds:=[S ns,.int 1,.int n]) (by simp[ae,ah,aa,D.view,Tg.view]) (by simpa[aD,D.aq] using hp) (by simp[av,D.aA]);have q2:aa 3 [some (S ns),some (.int 1),some (.int n),some (.lst .own R)]=.ok (.lst .bor R):=lh rfl hpu;exact c9 ((di (aF ((di (br q1)).trans rfl) (br ((di (br q2)).trans rfl)))).trans (by simp[fD])) (aP _ hnp)
def intOf:D->Int|.int i=>i|_=>0
def kt (k:Int×Int):KT:=.inr [.inl k.1,.inl k.2]
def ye {a b:Int×Int}:kt a=kt b↔a=b:=by
 constructor
 ·intro h;cases a;cases b;simp only[kt,Sum.inr.injEq,List.cons.injEq,Sum.inl.injEq,and_true]at h;obtain⟨h1,h2⟩:=h;subst h1 h2;rfl
 ·intro h;rw[h]
def dQ (ts:List N2.oY):List KT:=ts.map λ t=>kt (N2.ig t)
def dP (ts:List N2.oY):List D:=ts.map λ t=>D.int t.2.2
def lu (ts:List N2.oY):aM (dP ts)=true:=bP λ d m=>by obtain⟨t,_,rfl⟩:=MM.mp m;rfl
def zw:∀ (ts:List N2.oY) (k:Int×Int),fL (dQ ts) (dP ts) (kt k)=(ts.find? λ t=>decide (N2.ig t=k)).map λ t=>D.int t.2.2
 |[],_=>rfl
 | t::r,k=>by
  have ih:=zw r k;show(if kt (N2.ig t)=kt k then some (D.int t.2.2) else fL (dQ r) (dP r) (kt k))=_;by_cases h:N2.ig t=k
  ·rw[MO (ye.mpr h),List.find?_cons_of_pos (by simpa using h)];rfl
  ·rw[MP λ z=>h (ye.mp z),List.find?_cons_of_neg (by simpa using h),ih]
def De (ts:List N2.oY)(k:Int×Int):(fL (dQ ts) (dP ts) (kt k)).getD (.int 0)=.int (N2.col ts k):=by
 rw[zw];unfold N2.col;cases ts.find? λ t=>decide (N2.ig t=k)<;>rfl
def has_none {ts:List N2.oY}{k:Int×Int}(h:k∉ts.map N2.ig):ph (dQ ts) (kt k)=false:=by
 unfold ph dQ;rw[PQ];intro x hx z;obtain⟨t,ht,rfl⟩:=MM.mp hx;exact h (MM.mpr ⟨t,ht,ye.mp (by simpa using z)⟩)
def Ji (a b:Int):fO (.tup [.int a,.int b])=some (kt (a,b)):=rfl
def IC (ts:List N2.oY)(p q:Int):gz [some (.int q),some (.dct .aq true (dQ ts) (dP ts)),some (.int p)]=.ok (.int (N2.col ts (N2.keyOf p q))):=by
 unfold gz fU;have v:aa 1 [some (.int q),some (.dct .aq true (dQ ts) (dP ts)),some (.int p)]=.ok (.dct .aq true (dQ ts) (dP ts)):=by
  show Res.ok (D.dct .aq true (dQ ts) (aS (dP ts)))=_;rw[bO _ (lu ts)]
 have c:az jK (ae (aa 2) (ae (aa 0) ah)) [some (.int q),some (.dct .aq true (dQ ts) (dP ts)),some (.int p)]=.ok (.tup [.int (N2.keyOf p q).1,.int (N2.keyOf p q).2]):=
  cN (ds:=[.int p,.int q]) (aF rfl (br rfl)) (uJ p q) rfl
 rw[v,Res.aG,MO (show jo (D.dct .aq true (dQ ts) (dP ts))=true from rfl),c,Res.aG];show(if (kt (N2.keyOf p q)).kind=true then Res.ok ((fL (dQ ts) (dP ts) (kt (N2.keyOf p q))).getD (.int 0)) else .bad)=_;rw[MO (show(kt (N2.keyOf p q)).kind=true from rfl),De]
def n8 (X:D)(ps:List Int)(ts:List N2.oY)(acc:List (List Int))(a b:Option D):SD:=[some X,some (.dct .aq true (dQ ts) (dP ts)),some (.lst .aq (ps.map .int)),some (.lst .own (acc.map λ r=>.tup (r.map .int))),a,b]
def Fq (X:D)(ps:List Int)(ts:List N2.oY)(acc:List (List Int)){i:Nat}{p:Int}(hi:i<=ps.length)(hl:ps.length<=24)(ha:acc.length<=24) :
  e9 (n8 X ps ts acc (some (.int i)) (some (.int p)))=.nx (n8 X ps ts (acc++[(ps.take i).map λ q=>N2.col ts (N2.keyOf p q)]) (some (.int i)) (some (.int p))):=by
 have hc:=nV (it:=eY (fN (aa 2) pe (eP (aa 4)))) (elt:=gz) (cap:=[("colours",1),("place",5)]) (τ:=n8 X ps ts acc (some (.int i)) (some (.int p))) (fl:=false) (ds:=(ps.take i).map D.int) (λ d=>.int (N2.col ts (N2.keyOf p (intOf d))))
  (by
   have z:fN (aa 2) pe (eP (aa 4)) (n8 X ps ts acc (some (.int i)) (some (.int p)))=.ok (.lst .own ((ps.take i).map D.int)):=by
    unfold fN;rw[cL (xs:=ps.map .int) rfl (ai _)];show cutD (.lst .aq (ps.map .int)) none (some (i:Int))=_;simp[cutD,xw,List.map_take]
   unfold eY;rw[z];show Res.ok ((D.lst .own ((ps.take i).map D.int)).aA,_)=_;rw[fm (ai _)])
  (λ d hd=>by
   rw[aN]at hd;obtain⟨q,hq,rfl⟩:=MM.mp hd;refine⟨?_,rfl⟩;have e:=IC ts p q;have:dD (n8 X ps ts acc (some (.int i)) (some (.int p))) [("colours",1),("place",5)]=[some (.dct .aq true (dQ ts) (dP ts)),some (.int p)]:=by
    show [some (D.dct .aq true (dQ ts) (aD (dP ts))),some (.int p)]=_;rw[cg _ (lu ts)]
   rw[this];exact e) (by rw[MC,OD];omega)
 unfold e9;rw[uI (xs:=acc.map λ r=>.tup (r.map .int)) (d:=.tup (((ps.take i).map λ q=>N2.col ts (N2.keyOf p q)).map .int)) rfl ?_ (aP _ (ai _)) (by rw[MC];omega)]
 ·unfold n8;rw[M7];rfl
 ·rw[di (br hc)];show Res.ok (D.tup _)=_;rw[aN,M1,M1];rfl
def IG (X:D)(ps:List Int)(ts:List N2.oY)(hv:X.view=X)(hX:jq [X]=.ok (.lst .own (ps.map .int)))(hl:ps.length<=24):fG [X,.dct .aq true (dQ ts) (dP ts)]=.ok (mr ps (N2.rowsOf ps ts)):=by
 refine bZ rfl rfl ?_;show jL [some X,some (.dct .aq true (dQ ts) (dP ts)),none,none,none,none]=_;unfold jL;have q1:eA jq (ae (aa 0) ah) [some X,some (.dct .aq true (dQ ts) (dP ts)),none,none,none,none]=.ok (.lst .own (ps.map .int)):=by
  have v0:aa 0 [some X,some (.dct .aq true (dQ ts) (dP ts)),none,none,none,none]=.ok X:=by
   show Res.ok X.view=_;rw[hv]
  rw[di (br v0)];exact hX
 rw[aH (a8 q1 (fm (ai _))),aH (a8 (d:=.lst .own []) rfl rfl)];have key:∃ a b,bT [2] (bW (ae (aa 2) ah)) (gT 2 (aI 4 (aI 5 bU))) e9 [some X,some (.dct .aq true (dQ ts) (dP ts)),some (.lst .own (ps.map .int)),some (.lst .own []),none,none]=.nx (n8 X ps ts (N2.rowsOf ps ts) a b):=by
  obtain⟨t,h1,a,b,h2⟩:=eL (tg:=gT 2 (aI 4 (aI 5 bU))) (body:=e9) (λ i t=>∃ a b,t=n8 X ps ts ((List.range i).map λ i=>(ps.take i).map λ q=>N2.col ts (N2.keyOf (ps.getD i 0) q)) a b) (ds:=bD (ps.map D.int)) 0 (n8 X ps ts [] none none) ⟨none,none,rfl⟩ (λ k x t hx hp=>by
   obtain⟨q3,q4,rfl⟩:=hp;rw[NT];have hk:k<ps.length:=by
    have:=(MF.mp hx).1;simpa[bD] using this
   have ex:x=.tup [.int k,.int (ps.getD k 0)]:=by
    simp[bD,hk]at hx;rw[<-hx];simp[hk]
   subst ex;have e:=Fq X ps ts ((List.range k).map λ i=>(ps.take i).map λ q=>N2.col ts (N2.keyOf (ps.getD i 0) q)) (i:=k) (p:=ps.getD k 0) (by omega) hl (by simp;omega);refine⟨_,_,rfl,.inl e,some (.int k),some (.int (ps.getD k 0)),?_⟩;rw[PC,M7];rfl)
  have hlen:(bD (ps.map D.int)).length=ps.length:=by simp[bD]
  rw[hlen,NT]at h2;refine⟨a,b,?_⟩;unfold N2.rowsOf;rw[<-h2,<-h1];unfold bT;have hf:b7 [2] [some X,some (.dct .aq true (dQ ts) (dP ts)),some (.lst .own (ps.map .int)),some (.lst .own []),none,none]=n8 X ps ts [] none none:=by
   show [some X,some (.dct .aq true (dQ ts) (dP ts)),some (.lst .aq (aD (ps.map .int))),some (.lst .own []),none,none]=_;rw[aN];rfl
  rw[hf];have hi:bW (ae (aa 2) ah) (n8 X ps ts [] none none)=.ok (false,bD (ps.map D.int)):=by
   unfold bW;rw[br (cL (xs:=ps.map .int) rfl (ai ps)),Res.aG];simp[bx,D.aA,Res.map]
  rw[hi];have:aD (bD (ps.map D.int))=bD (ps.map D.int):=by rw[gf,aN]
  simp only[this]
 obtain⟨a,b,key⟩:=key;show aE _ _ [some X,some (.dct .aq true (dQ ts) (dP ts)),some (.lst .own (ps.map .int)),some (.lst .own []),none,none]=_;rw[aH key];have v2:aa 2 (n8 X ps ts (N2.rowsOf ps ts) a b)=.ok (.lst .aq (ps.map .int)):=cL rfl (ai ps);have v3:aa 3 (n8 X ps ts (N2.rowsOf ps ts) a b)=.ok (.lst .bor ((N2.rowsOf ps ts).map λ r=>.tup (r.map .int))):=lh rfl (iu _);exact c9 ((di (aF ((di (br v2)).trans rfl) (br ((di (br v3)).trans rfl)))).trans rfl) (aP _ (gK ps (N2.rowsOf ps ts)))
def IB {t:Tg}(hp:qs.Perm ps)(hs:ps.Pairwise (· < ·))(hl:qs.length<64):jq [.lst t (qs.map .int)]=.ok (.lst .own (ps.map .int)):=by
 show(match intsOf (qs.map D.int) with|some ns=>if ns.length<64 then Res.ok (D.lst .own ((sortI ns).map D.int)) else .bad|none=>.bad)=_;rw[dE];show(if qs.length<64 then Res.ok (D.lst .own ((sortI qs).map D.int)) else .bad)=_;rw[MO hl,N2.sU ((sortI_perm qs).trans hp) (dG qs) hs]
def IE (qs:List Int):(D.lst .aq (qs.map .int)).view=.lst .aq (qs.map .int):=by
 show D.lst .aq (aS (qs.map .int))=_;rw[bO _ (ai qs)]
def IF(ts:List N2.oY)(hp:qs.Perm ps)(hs:ps.Pairwise (· < ·))(hl:ps.length<=24):fG [.lst .aq (qs.map .int),.dct .aq true (dQ ts) (dP ts)]=.ok (mr ps (N2.rowsOf ps ts)):=
 IG _ ps ts (IE qs) (IB hp hs (by rw[hp.length_eq];omega)) hl
def Dd {i:Nat}{fk fv:SD->Res D}{k:Bool}{ks:List KT}{dk:D}{q:KT}(hv:fv τ=.ok d)(ho:τ[i]?=some (some (.dct .own k ks xs)))(hk:fk τ=.ok dk)(hq:fO dk=some q)(hc:q.kind=k/\d.aA=false/\ks.length<16777216)(hn:ph ks q=false) :
  e8 i fk fv τ=.nx (τ.set i (some (.dct .own k (ks++[q]) (xs++[d])))):=by
 unfold e8;have e:dJ τ i=some (.own,k,ks,xs):=by unfold dJ;rw[ho];rfl
 rw[hv,iQ,e];show(fk τ).kc τ _=_;rw[hk,iQ,hq];show(if q.kind=k/\d.aA=false/\ks.length<16777216/\(ph ks q=true->d.pure=true) then _ else _)=_;rw[MO ⟨hc.1,hc.2.1,hc.2.2,λ z=>absurd (hn.symm.trans z) MH⟩];unfold jX jW;rw[hn];rfl
def jP{r:List D}{t:SD}(h1:tg x τ=some τ')(h2:body τ'=.nx t):cD tg body (x::r) τ=cD tg body r t:=by
 show(match tg x τ with|none=>Fl.bad|some τ'=>match body τ' with|.nx t=>cD tg body r t|.ct t=>cD tg body r t|.bk t=>.nx t|o=>o)=_;rw[h1];show(match body τ' with|.nx t=>cD tg body r t|.ct t=>cD tg body r t|.bk t=>Fl.nx t|o=>o)=_;rw[h2]
def uM{r:List D}(h1:tg x τ=some τ')(h2:body τ'=.rt d):cD tg body (x::r) τ=.rt d:=by
 show(match tg x τ with|none=>Fl.bad|some τ'=>match body τ' with|.nx t=>cD tg body r t|.ct t=>cD tg body r t|.bk t=>.nx t|o=>o)=_;rw[h1];show(match body τ' with|.nx t=>cD tg body r t|.ct t=>cD tg body r t|.bk t=>Fl.nx t|o=>o)=_;rw[h2]
def ID (b:Bool)(x:Int)(t:Tg)(qs:List Int):inD b (.int x) (.lst t (qs.map .int))=.ok (.bl (if b then !decide (x∈qs) else decide (x∈qs))):=by
 have h1:(qs.map D.int).all D.flat=true:=Pj.mpr λ d m=>by
  obtain⟨q,_,rfl⟩:=MM.mp m;rfl
 have h2:nQ (.int x) (qs.map D.int)=decide (x∈qs):=by
  unfold nQ;rw[OL,O3,NR];constructor
  ·rintro⟨y,hy,e⟩;obtain⟨z,hz,rfl⟩:=MM.mp hy;have e:z=x:=by first|exact PU e|exact eq_of_beq e|simpa[Hz] using e
   rw[<-e];exact hz
  ·intro h;exact⟨.int x,MM.mpr ⟨x,h,rfl⟩,by first|exact Nc rfl|exact Pn x|simp[Hz]⟩
 show(if (D.int x).flat=true/\(qs.map D.int).all D.flat=true then Res.ok (D.bl (if b then !nQ (.int x) (qs.map .int) else nQ (.int x) (qs.map .int))) else .bad)=_;rw[MO ⟨rfl,h1⟩,h2]
def n9{x:Int}{t:Tg}(h1:f τ=.ok (.int x))(h2:g τ=.ok (.lst t (qs.map .int))):eT (af (inD true) f g) τ=.ok (!decide (x∈qs)):=nD ((bH h1 h2).trans (ID true x t qs))
def gX (f:Nat->Nat->Int)(k:Nat):List Int:=(List.range k).map λ j=>f k j
def dC (f:Nat->Nat->Int)(n:Nat):List (List Int):=(List.range n).map (gX f)
def nF (ps:List Int)(f:Nat->Nat->Int):D:=mr ps (dC f ps.length)
def aL (ps:List Int)(f:Nat->Nat->Int):(nF ps f).pure=true:=gK _ _
abbrev aJ (ps:List Int)(k:Nat):Int:=ps.getD k 0
def mC (ps:List Int)(f:Nat->Nat->Int)(k m:Nat):List N2.oY:=(List.range m).map λ j=>(aJ ps k,aJ ps j,f k j)
def cC (ps:List Int)(f:Nat->Nat->Int):Nat->List N2.oY
 |0=>[]
 |n+1=>cC ps f n++mC ps f n n
def sW (ps:List Int)(f:Nat->Nat->Int)(k m:Nat):mC ps f k (m+1)=mC ps f k m++[(aJ ps k,aJ ps m,f k m)]:=by
 unfold mC;rw[PC,M7];rfl
def wj (ps:List Int)(f:Nat->Nat->Int)(k m:Nat):(mC ps f k m).length=m:=by unfold mC;rw[MC,MX]
def sX (ps:List Int)(f:Nat->Nat->Int):∀ n,(cC ps f n).length<=n*n
 |0=>ML _
 | n+1=>by
  have:=sX ps f n;show(cC ps f n++mC ps f n n).length<=_;rw[MY,wj,Nat.add_mul,Nat.mul_add];omega
def fJ(hs:ps.Pairwise (· < ·)){k:Nat}(h:j<k)(hk:k<ps.length):aJ ps j<aJ ps k:=by
 have:=N3.mp hs j k (by omega) hk h;unfold aJ;rw[MG,MG,MA hk,MA (by omega)];exact this
def mz(h:b<a):N2.keyOf a b=(a,b):=by unfold N2.keyOf;rw[MO h]
def oj {ps:List Int}{f:Nat->Nat->Int}{t:N2.oY}:∀ {n:Nat},t∈cC ps f n↔∃ k j,j<k/\k<n/\t=(aJ ps k,aJ ps j,f k j)
 | 0=>by
  constructor
  ·intro h;cases h
  ·rintro⟨k,j,_,h,_⟩;omega
 | n+1=>by
  show t∈cC ps f n++mC ps f n n↔_;rw[M4,oj];constructor
  ·rintro (⟨k,j,h1,h2,e⟩|h)
   ·exact⟨k,j,h1,by omega,e⟩
   ·obtain⟨j,hj,e⟩:=MM.mp h;exact⟨n,j,M3.mp hj,by omega,e.symm⟩
  ·rintro⟨k,j,h1,h2,e⟩;by_cases h:k=n
   ·subst h;exact .inr (MM.mpr ⟨j,M3.mpr h1,e.symm⟩)
   ·exact .inl ⟨k,j,h1,by omega,e⟩
def zy(hs:ps.Pairwise (· < ·))(f:Nat->Nat->Int){k:Nat}(hj:j<k)(hk:k<ps.length):N2.keyOf (aJ ps k) (aJ ps j)∉(cC ps f k++mC ps f k j).map N2.ig:=by
 rw[mz (fJ hs hj hk)];intro h;obtain⟨t,ht,e⟩:=MM.mp h;rcases M4.mp ht with ht|ht
 ·obtain⟨k',j',h1,h2,rfl⟩:=oj.mp ht;unfold N2.ig at e;simp only at e;rw[mz (fJ hs h1 (by omega))]at e;have e1:aJ ps k'=aJ ps k:=N1 Prod.fst e;have:=fJ hs h2 hk;omega
 ·obtain⟨j',hj',rfl⟩:=MM.mp ht;have hj':=M3.mp hj';unfold N2.ig at e;simp only at e;rw[mz (fJ hs (QV hj' hj) hk)]at e;have e1:aJ ps j'=aJ ps j:=N1 Prod.snd e;have:=fJ hs hj' (QV hj hk);omega
def oh{f:Nat->Nat->Int}{e:SD->Res D}(h:e τ=.ok (nF ps f)):af bG e (eC (.int 0)) τ=.ok (.tup (ps.map .int)):=f7 h (y:=.int 0) rfl (iY (j:=0) rfl rfl)
def Kv{f:Nat->Nat->Int}{e:SD->Res D}(h:e τ=.ok (nF ps f)):af bG e (eC (.int 1)) τ=.ok (.tup ((dC f ps.length).map λ r=>.tup (r.map .int))):=f7 h (y:=.int 1) rfl (iY (j:=1) rfl rfl)
def uN(h:j<ps.length):(ps.map D.int)[j]?=some (.int (aJ ps j)):=zv h
def Di {f:Nat->Nat->Int}{k:Nat}(h:k<n):((dC f n).map λ r=>D.tup (r.map .int))[k]?=some (.tup ((gX f k).map .int)):=by
 unfold dC;rw[MR,MR,NC h];rfl
def Dg {f:Nat->Nat->Int}{k:Nat}(h:j<k):((gX f k).map D.int)[j]?=some (.int (f k j)):=by
 unfold gX;rw[MR,MR,NC h];rfl
def kh (ps:List Int)(f:Nat->Nat->Int)(ts:List N2.oY)(a b c d:Option D):SD:=[some (nF ps f),some (.dct .own true (dQ ts) (dP ts)),a,b,c,d]
def Fw{f:Nat->Nat->Int}{ts:List N2.oY}{x y z:Int}{b:Option D}(hk:N2.keyOf x y∉ts.map N2.ig)(hl:ts.length<=1000) :
  fu (kh ps f ts (some (.int x)) b (some (.int y)) (some (.int z)))=.nx (kh ps f (ts++[(x,y,z)]) (some (.int x)) b (some (.int y)) (some (.int z))):=by
 unfold fu;have c2:az jK (ae (aa 2) (ae (aa 4) ah)) (kh ps f ts (some (.int x)) b (some (.int y)) (some (.int z)))=.ok (.tup [.int (N2.keyOf x y).1,.int (N2.keyOf x y).2]):=cN (ds:=[.int x,.int y]) (aF rfl (br rfl)) (uJ x y) rfl;rw[Dd (d:=.int z) (q:=kt (N2.keyOf x y)) (k:=true) (ks:=dQ ts) (xs:=dP ts) rfl rfl c2 rfl ⟨rfl,rfl,by unfold dQ;rw[MC];omega⟩ (has_none hk)];unfold kh dQ dP;rw[M7,M7];rfl
def Fv{f:Nat->Nat->Int}{k:Nat}(hk:k<=ps.length):lI (ps.map D.int) ((gX f k).map D.int)=(List.range k).map λ j=>D.tup [.int (aJ ps j),.int (f k j)]:=by
 refine NS λ i=>?_;by_cases h:i<k
 ·rw[MR,NC h];unfold lI;rw[P7,uN (by omega),Dg h];rfl
 ·rw[NB (by rw[um,MC,MC];unfold gX;rw[MC,MX];omega),NB (by rw[MC,MX];omega)]
def zip_rows{f:Nat->Nat->Int}:lI (ps.map D.int) ((dC f ps.length).map λ r=>.tup (r.map .int))=(List.range ps.length).map λ k=>D.tup [.int (aJ ps k),.tup ((gX f k).map .int)]:=by
 refine NS λ i=>?_;by_cases h:i<ps.length
 ·rw[MR,NC h];unfold lI;rw[P7,uN h,Di h];rfl
 ·rw[NB (by rw[um,MC,MC];omega),NB (by rw[MC,MX];omega)]
def Ft{f:Nat->Nat->Int}(k:Nat):aM ((List.range k).map λ j=>D.tup [.int (aJ ps j),.int (f k j)])=true:=bP λ d m=>by
 obtain⟨j,_,rfl⟩:=MM.mp m;rfl
def Dh{f:Nat->Nat->Int}(n:Nat):aM ((List.range n).map λ k=>D.tup [.int (aJ ps k),.tup ((gX f k).map .int)])=true:=bP λ d m=>by
 obtain⟨k,_,rfl⟩:=MM.mp m;show(true&&((aM ((gX f k).map .int))&&true))=true;rw[ai];rfl
def Df{ys:List D}{y:D}(h1:f τ=.ok x)(h2:g τ=.ok y)(hx:bx x=.ok (false,xs))(hy:bx y=.ok (false,ys)):uo (ae f (ae g ah)) τ=.ok (false,lI xs ys):=by
 unfold uo;rw[aF h1 (br h2),Res.aG];show((bx x).bind λ p=>(bx y).bind λ q=>Res.ok (p.1||q.1,lI p.2 q.2))=_;rw[hx,Res.aG,hy,Res.aG];rfl
def ly(h:aM xs=true):bx (.tup xs)=.ok (false,xs):=by
 show Res.ok (av xs,xs)=_;rw[cJ _ h]
def zx {t:Tg}(ht:t=.aq\/t=.own)(h:aM xs=true):bx (.lst t xs)=.ok (false,xs):=by
 show Res.ok ((D.lst t xs).aA,xs)=_;rcases ht with rfl|rfl
 ·show Res.ok ((false||av xs),xs)=_;rw[cJ _ h];rfl
 ·rw[fm h]
def jQ {zs:List Nat}{it:SD->Res (Bool×List D)}(h1:b7 zs τ=τ')(h2:it τ'=.ok (false,ds))(h3:aM ds=true):bT zs it tg body τ=cD tg body ds τ':=by
 unfold bT;rw[h1,h2];show cD tg body (aD ds) τ'=_;rw[cg _ h3]
def II{f:Nat->Nat->Int}(hs:ps.Pairwise (· < ·))(hl:ps.length<=24){k:Nat}(hk:k<ps.length)(c d:Option D) :
  ∃ c' d',dO (kh ps f (cC ps f k) (some (.int (aJ ps k))) (some (.tup ((gX f k).map .int))) c d)=.nx (kh ps f (cC ps f (k+1)) (some (.int (aJ ps k))) (some (.tup ((gX f k).map .int))) c' d'):=by
 have tl:=sX ps f k;have kk:k*k<=576:=Nat.mul_le_mul (show k<=24 by omega) (show k<=24 by omega);have v0:aa 0 (kh ps f (cC ps f k) (some (.int (aJ ps k))) (some (.tup ((gX f k).map .int))) c d)=.ok (nF ps f):=cB rfl (aL _ _);have v3:aa 3 (kh ps f (cC ps f k) (some (.int (aJ ps k))) (some (.tup ((gX f k).map .int))) c d)=.ok (.tup ((gX f k).map .int)):=cB rfl (ai _);obtain⟨t,h1,c',d',h2⟩:=eL (tg:=gT 2 (aI 4 (aI 5 bU))) (body:=fu) (λ i t=>∃ c' d',t=kh ps f (cC ps f k++mC ps f k i) (some (.int (aJ ps k))) (some (.tup ((gX f k).map .int))) c' d') (ds:=(List.range k).map λ j=>D.tup [.int (aJ ps j),.int (f k j)]) 0 (kh ps f (cC ps f k) (some (.int (aJ ps k))) (some (.tup ((gX f k).map .int))) c d) ⟨c,d,by rw[show mC ps f k 0=[] from rfl,Nh]⟩ (λ j x t hx hp=>by
  obtain⟨c1,d1,rfl⟩:=hp;rw[NT];have hj:j<k:=by
   have:=(MF.mp hx).1;simpa using this
  rw[MR,NC hj]at hx;cases hx;refine⟨_,_,rfl,.inl (Fw (ts:=cC ps f k++mC ps f k j) (zy hs f hj hk) (by rw[MY,wj];omega)),some (.int (aJ ps j)),some (.int (f k j)),?_⟩;rw[sW,Ni])
 rw[MC,MX,NT]at h2;refine⟨c',d',?_⟩;unfold dO;rw[jQ (τ':=kh ps f (cC ps f k) (some (.int (aJ ps k))) (some (.tup ((gX f k).map .int))) c d) (ds:=(List.range k).map λ j=>D.tup [.int (aJ ps j),.int (f k j)]) ?_ ?_ (Ft k),h1,h2]
 ·rfl
 ·show [some (nF ps f).aq,_,_,some (D.tup ((gX f k).map .int)).aq,c,d]=_;rw[bb _ (aL _ _),bb _ (show(D.tup ((gX f k).map .int)).pure=true from ai _)];rfl
 ·rw[Df (oh v0) v3 (ly (ai _)) (ly (ai _)),Fv (by omega)]
def qO{f:Nat->Nat->Int}(hs:ps.Pairwise (· < ·))(hl:ps.length<=24):cz [nF ps f]=.ok (.dct .own true (dQ (cC ps f ps.length)) (dP (cC ps f ps.length))):=by
 have v0:aa 0 (kh ps f [] none none none none)=.ok (nF ps f):=cB rfl (aL _ _);obtain⟨t,h1,a,b,c',d',h2⟩:=eL (tg:=gT 2 (aI 2 (aI 3 bU))) (body:=dO) (λ i t=>∃ a b c d,t=kh ps f (cC ps f i) a b c d) (ds:=(List.range ps.length).map λ k=>D.tup [.int (aJ ps k),.tup ((gX f k).map .int)]) 0 (kh ps f [] none none none none) ⟨none,none,none,none,rfl⟩ (λ k x t hx hp=>by
  obtain⟨a,b,c1,d1,rfl⟩:=hp;rw[NT];have hk:k<ps.length:=by
   have:=(MF.mp hx).1;simpa using this
  rw[MR,NC hk]at hx;cases hx;obtain⟨c',d',e⟩:=II (f:=f) hs hl hk c1 d1;exact⟨_,_,rfl,.inl e,_,_,c',d',rfl⟩)
 rw[MC,MX,NT]at h2;have hf:bT [0] (uo (ae (af bG (aa 0) (eC (.int 0))) (ae (af bG (aa 0) (eC (.int 1))) ah))) (gT 2 (aI 2 (aI 3 bU))) dO (kh ps f [] none none none none)=.nx (kh ps f (cC ps f ps.length) a b c' d'):=by
  rw[jQ (τ':=kh ps f [] none none none none) (ds:=(List.range ps.length).map λ k=>D.tup [.int (aJ ps k),.tup ((gX f k).map .int)]) ?_ ?_ (Dh _),h1,h2]
  ·show [some (nF ps f).aq,_,_,_,_,_]=_;rw[bb _ (aL _ _)];rfl
  ·rw[Df (oh v0) (Kv v0) (ly (ai _)) (ly (iu _)),zip_rows]
 refine bZ (τ:=[some (nF ps f),none,none,none,none,none]) rfl rfl ?_;unfold jM;rw[aH (a8 (d:=.dct .own true [] []) rfl rfl)];show aE _ _ (kh ps f [] none none none none)=_;rw[aH hf];rfl
end KL
namespace PG
variable (c:Nat->Nat->Int)
def jR (n:Nat)(T:List Nat):Prop:=∀ k,k<n->k∉T->∀ i∈T,∀ j∈T,c k i=c k j
variable {c}
def sY:∀ {l m:List Nat},l.Nodup->(∀ x∈l,x∈m)->l.length<=m.length
 |[],m,_,_=>NV _
 | x::r,m,nd,h=>by
  have nd':=MZ.mp nd;have hx:=h x MD;have ih:=sY (l:=r) (m:=m.erase x) nd'.2 λ y hy=>by
   have hne:y≠x:=λ e=>nd'.1 (e▸hy);exact(List.mem_erase_of_ne hne).mpr (h y (ME _ hy))
  rw[List.length_erase_of_mem hx]at ih;have:0<m.length:=List.length_pos_of_mem hx;simp only[MQ];omega
def oZ {l:List Nat}{n:Nat}(nd:l.Nodup)(h:∀ x∈l,x<n):l.length<=n:=by
 have:=sY nd (m:=List.range n) λ x hx=>M3.mpr (h x hx);simpa using this
end PG
namespace KL
open DL
variable {ps:List Int}{i j:Nat}{f:Nat->Nat->Int}{τ:SD}{α:Type}
def kI (p:Int):KT:=.inl (.inl p)
def qQ {a b:Int}:kI a=kI b↔a=b:=by
 constructor
 ·intro h;exact Pe (Pe h)
 ·intro h;rw[h]
def lz {α:Type}(P:α->Int)(g:α->D)(k:α):∀ (l:List α),k∈l->(∀ a∈l,P a=P k->a=k)->fL (l.map λ a=>kI (P a)) (l.map g) (kI (P k))=some (g k)
 | a::l,h,inj=>by
  rw[MU,MU,fL];by_cases e:P a=P k
  ·rw[MO (qQ.mpr e),inj a MD e]
  ·rw[MP λ z=>e (qQ.mp z)];rcases MK.mp h with z|z
   ·exact absurd (z▸rfl) e
   ·exact lz P g k l z λ b hb=>inj b (ME _ hb)
def tm {α:Type}[DecidableEq α](P:α->Int)(g:α->D)(k:α)(x:D):∀ (l:List α),l.Nodup->(∀ a∈l,P a=P k->a=k)->lP (l.map λ a=>kI (P a)) (l.map g) (kI (P k)) x=l.map λ a=>if a=k then x else g a
 |[],_,_=>rfl
 | a::l,nd,inj=>by
  have nd':=MZ.mp nd;rw[MU,MU,lP,MU];by_cases e:P a=P k
  ·have ea:=inj a MD e;rw[MO (qQ.mpr e),MO ea]
   congr 1
   refine M5 λ b hb=>?_;rw[MP λ z=>nd'.1 (by rw[ea,<-z];exact hb)]
  ·rw[MP λ z=>e (qQ.mp z),MP λ z=>e (by rw[z]),tm P g k x l nd'.2 λ b hb=>inj b (ME _ hb)]
def uO(P:α->Int)(l:List α)(q:Int)(h:∀ a∈l,P a≠q):ph (l.map λ a=>kI (P a)) (kI q)=false:=by
 unfold ph;rw[PQ];intro k hk;obtain⟨a,ha,rfl⟩:=MM.mp hk;simp only[NR];exact λ z=>h a ha (qQ.mp z)
def ent (f:Nat->Nat->Int)(i:Nat)(pr:List (Nat×Nat)):List (Nat×Int):=pr.flatMap λ t=>if i=t.1 then [(t.2,f t.1 t.2)] else if i=t.2 then [(t.1,f t.1 t.2)] else []
def Dq (f:Nat->Nat->Int)(i:Nat)(pr:List (Nat×Nat))(k j:Nat):ent f i (pr++[(k,j)])=ent f i pr++(if i=k then [(j,f k j)] else if i=j then [(k,f k j)] else []):=by
 unfold ent;rw[List.flatMap_append];simp
def pJ{pr:List (Nat×Nat)}{x:Nat×Int}(h:x∈ent f i pr):∃ t∈pr,(i=t.1/\x=(t.2,f t.1 t.2))\/(i=t.2/\x=(t.1,f t.1 t.2)):=by
 unfold ent at h;obtain⟨t,ht,hx⟩:=QT.mp h;refine⟨t,ht,?_⟩;split at hx
 ·rename_i e;exact .inl ⟨e,by simpa using hx⟩
 ·split at hx
  ·rename_i e;exact .inr ⟨e,by simpa using hx⟩
  ·cases hx
def om:Nat->List (Nat×Nat)
 |0=>[]
 |n+1=>om n++(List.range n).map λ j=>(n,j)
def iV {t:Nat×Nat}:∀ {n:Nat},t∈om n↔t.2<t.1/\t.1<n
 | 0=>by
  constructor
  ·intro h;cases h
  ·intro h;omega
 | n+1=>by
  show t∈om n++_↔_;rw[M4,iV,MM];constructor
  ·rintro (h|⟨j,hj,rfl⟩)
   ·exact⟨h.1,by omega⟩
   ·exact⟨M3.mp hj,Qe _⟩
  ·rintro⟨h1,h2⟩;by_cases e:t.1=n
   ·refine .inr ⟨t.2,M3.mpr (by omega),?_⟩;rw[<-e]
   ·exact .inl ⟨h1,by omega⟩
def sZ:∀ n:Nat,(om n).Nodup
 |0=>NJ
 | n+1=>by
  show(om n++_).Nodup;refine MS.mpr ⟨sZ n,?_,λ a ha b hb e=>?_⟩
  ·refine List.Pairwise.map _ (λ a b h z=>h (N1 Prod.snd z)) O2
  ·have h1:=iV.mp ha;obtain⟨j,_,rfl⟩:=MM.mp hb;rw[e]at h1;exact absurd h1.2 (NG _)
def wt (ps:List Int)(f:Nat->Nat->Int):∀ n:Nat,cC ps f n=(om n).map λ t=>(aJ ps t.1,aJ ps t.2,f t.1 t.2)
 |0=>rfl
 | n+1=>by
  show cC ps f n++mC ps f n n=(om n++_).map _;rw[M7,wt ps f n,M1];rfl
def cc (f:Nat->Nat->Int)(i j:Nat):Int:=f (max i j) (min i j)
def Dj{k:Nat}(h:j<k):cc f k j=f k j:=by
 unfold cc;rw[Pz (by omega),Pk (by omega)]
def GC{k:Nat}(h:j<k):cc f j k=f k j:=by
 unfold cc;rw[Qf (by omega),Py (by omega)]
def Dm{n:Nat}{x:Nat×Int}(h:x∈ent f i (om n)):x.2=cc f i x.1/\x.1<n/\x.1≠i:=by
 obtain⟨t,ht,⟨rfl,rfl⟩|⟨rfl,rfl⟩⟩:=pJ h
 ·have:=iV.mp ht;exact⟨(Dj this.1).symm,by omega,by omega⟩
 ·have:=iV.mp ht;exact⟨(GC this.1).symm,by omega,by omega⟩
def FD{n:Nat}(hi:i<n)(hj:j<n)(hn:i≠j):(j,cc f i j)∈ent f i (om n):=by
 unfold ent;by_cases h:j<i
 ·refine QT.mpr ⟨(i,j),iV.mpr ⟨h,hi⟩,?_⟩;rw[MO rfl,Dj h];exact Nl.mpr rfl
 ·have h':i<j:=by omega
  refine QT.mpr ⟨(j,i),iV.mpr ⟨h',hj⟩,?_⟩;rw[MP hn,MO rfl,GC h'];exact Nl.mpr rfl
def gM (t:Tg)(ps:List Int)(e:List (Nat×Int)):D:=.dct t false (e.map λ x=>kI (aJ ps x.1)) (e.map λ x=>.int x.2)
def wo (t:Tg)(ps:List Int)(m:Nat)(g:Nat->List (Nat×Int)):D:=.dct t false ((List.range m).map λ i=>kI (aJ ps i)) ((List.range m).map λ i=>gM t ps (g i))
def iW(hs:ps.Pairwise (· < ·)){k:Nat}(hj:j<ps.length)(hk:k<ps.length)(h:aJ ps j=aJ ps k):j=k:=by
 rcases OR j k with z|z|z
 ·have:=fJ hs z hk;omega
 ·exact z
 ·have:=fJ hs z hj;omega
def jc (ps:List Int)(f:Nat->Nat->Int)(m:Nat)(g:Nat->List (Nat×Int))(a b c:Option D):SD:=[some (nF ps f),some (wo .own ps m g),a,b,c]
section
def Ds{f1 fk fv:SD->Res D}{t:Tg}{ks ks2:List KT}{xs ys:List D}{d d1 dk:D}{q1 q:L2.Key}(hv:fv τ=.ok d)(ho:dJ τ i=some (t,false,ks,xs))(h1:f1 τ=.ok d1)(hq1:fO d1=some (.inl q1))(hl:fL ks xs (.inl q1)=some (.dct .own false ks2 ys))(hk:fk τ=.ok dk)(hq:fO dk=some (.inl q))(hc:d.pure=true/\ks2.length<16777216) :
  nY i f1 fk fv τ=.nx (τ.set i (some (.dct t false ks (lP ks xs (.inl q1) (.dct .own false (jX ks2 (.inl q)) (jW ks2 ys (.inl q) d)))))):=by
 unfold nY;rw[hv,iQ,ho];simp only[h1,iQ,hq1,hl,hk,hq];rw[MO hc]
def put2 {g:Nat->List (Nat×Int)}{a b c:Option D}{k:Nat}{v:Int}{f1 fk fv:SD->Res D}(hs:ps.Pairwise (· < ·))(hk:k<ps.length)(h:∀ x∈g k,aJ ps x.1≠aJ ps j)(hl:(g k).length<=1000)
  (h1:f1 (jc ps f ps.length g a b c)=.ok (.int (aJ ps k))) (h2:fk (jc ps f ps.length g a b c)=.ok (.int (aJ ps j))) (h3:fv (jc ps f ps.length g a b c)=.ok (.int v)) :
  nY 1 f1 fk fv (jc ps f ps.length g a b c)=.nx (jc ps f ps.length (λ i=>if i=k then g k++[(j,v)] else g i) a b c):=by
 have inj:∀ i∈List.range ps.length,aJ ps i=aJ ps k->i=k:=λ i hi e=>iW hs (M3.mp hi) hk e;have lk:=lz (aJ ps) (λ i=>gM .own ps (g i)) k (List.range ps.length) (M3.mpr hk) inj;have rp:=tm (aJ ps) (λ i=>gM .own ps (g i)) k (gM .own ps (g k++[(j,v)])) (List.range ps.length) O2 inj;have hk1:jX ((g k).map λ x=>kI (aJ ps x.1)) (kI (aJ ps j))=(g k++[(j,v)]).map λ x=>kI (aJ ps x.1):=by
  unfold jX;rw[uO (λ x:Nat×Int=>aJ ps x.1) (g k) (aJ ps j) h,MP MH,M7];rfl
 have hk2:jW ((g k).map λ x=>kI (aJ ps x.1)) ((g k).map λ x=>D.int x.2) (kI (aJ ps j)) (.int v)=(g k++[(j,v)]).map λ x=>D.int x.2:=by
  unfold jW;rw[uO (λ x:Nat×Int=>aJ ps x.1) (g k) (aJ ps j) h,MP MH,M7];rfl
 rw[Ds (t:=.own) (ks:=(List.range ps.length).map λ i=>kI (aJ ps i)) (xs:=(List.range ps.length).map λ i=>gM .own ps (g i)) (d:=.int v) (d1:=.int (aJ ps k)) (dk:=.int (aJ ps j)) (q1:=.inl (aJ ps k)) (q:=.inl (aJ ps j)) (ks2:=(g k).map λ x:Nat×Int=>kI (aJ ps x.1)) (ys:=(g k).map λ x:Nat×Int=>D.int x.2) h3 rfl h1 rfl lk h2 rfl ⟨rfl,by rw[MC];omega⟩];rw[show(Sum.inl (Sum.inl (aJ ps j)):KT)=kI (aJ ps j) from rfl,show(Sum.inl (Sum.inl (aJ ps k)):KT)=kI (aJ ps k) from rfl,hk1,hk2];show Fl.nx [_,some (.dct .own false _ (lP _ _ _ (gM .own ps (g k++[(j,v)])))),_,_,_]=_;rw[rp];have em:((List.range ps.length).map λ a=>if a=k then gM .own ps (g k++[(j,v)]) else gM .own ps (g a))=(List.range ps.length).map λ i=>gM .own ps (if i=k then g k++[(j,v)] else g i):=M5 λ i _=>by split<;>rfl
 rw[em];rfl
abbrev LO (ps:List Int)(f:Nat->Nat->Int)(t:Nat×Nat):D:=.tup [.tup [.int (aJ ps t.1),.int (aJ ps t.2)],.int (f t.1 t.2)]
def FA {pr:List (Nat×Nat)}{a:Option D}{k:Nat}(hs:ps.Pairwise (· < ·))(hj:j<k)(hk:k<ps.length)(hb:∀ t∈pr,t.2<t.1/\t.1<ps.length)(hn:(k,j)∉pr)(hl:∀ i,(ent f i pr).length<=999) :
  eN (jc ps f ps.length (λ i=>ent f i pr) a (some (.tup [.int (aJ ps k),.int (aJ ps j)])) (some (.int (f k j))))=.nx (jc ps f ps.length (λ i=>ent f i (pr++[(k,j)])) a (some (.tup [.int (aJ ps k),.int (aJ ps j)])) (some (.int (f k j)))):=by
 have bnd:∀ i,∀ x∈ent f i pr,x.1<ps.length:=λ i x hx=>by
  obtain⟨t,ht,⟨_,rfl⟩|⟨_,rfl⟩⟩:=pJ hx
  ·have:=hb t ht;show t.2<_;omega
  ·exact(hb t ht).2
 have n1:∀ x∈ent f k pr,aJ ps x.1≠aJ ps j:=λ x hx z=>by
  have e:=iW hs (bnd k x hx) (by omega) z;obtain⟨t,ht,⟨e1,rfl⟩|⟨e1,rfl⟩⟩:=pJ hx
  ·have:t=(k,j):=Prod.ext e1.symm e;exact hn (this▸ht)
  ·have:=(hb t ht).1;have e:t.1=j:=e;omega
 have n2:∀ x∈ent f j pr,aJ ps x.1≠aJ ps k:=λ x hx z=>by
  have e:=iW hs (bnd j x hx) hk z;obtain⟨t,ht,⟨e1,rfl⟩|⟨e1,rfl⟩⟩:=pJ hx
  ·have:=(hb t ht).1;have e:t.2=k:=e;omega
  ·have:t=(k,j):=Prod.ext e e1.symm;exact hn (this▸ht)
 unfold eN;rw[aH (put2 (g:=λ i=>ent f i pr) (k:=k) (j:=j) (v:=f k j) hs hk n1 (by have:=hl k;omega) rfl rfl rfl)];have hjk:j≠k:=by omega
 rw[put2 (g:=λ i=>if i=k then ent f k pr++[(j,f k j)] else ent f i pr) (k:=j) (j:=k) (v:=f k j) hs (by omega) (by simp only[MP hjk];exact n2) (by simp only[MP hjk];have:=hl j;omega) rfl rfl rfl]
 congr 2
 funext i;rw[Dq];by_cases h1:i=j
 ·subst h1;rw[MO rfl,MP hjk,MP hjk,MO rfl]
 ·rw[MP h1];by_cases h2:i=k
  ·subst h2;rw[MO rfl,MO rfl]
  ·rw[MP h2,MP h2,MP h1,Nh]
def zA (f:Nat->Nat->Int)(i:Nat):∀ pr:List (Nat×Nat),(ent f i pr).length<=pr.length
 |[]=>ML _
 | t::r=>by
  have:=zA f i r;unfold ent at this ⊢;rw[List.flatMap_cons,MY,MQ];split
  ·simp only[MQ,NW];omega
  ·split
   ·simp only[MQ,NW];omega
   ·simp only[NW];omega
def zB:∀ n:Nat,(om n).length<=n*n
 |0=>ML _
 | n+1=>by
  have:=zB n;show(om n++_).length<=_;rw[MY,MC,MX,Nat.add_mul,Nat.mul_add];omega
def zz (hs:ps.Pairwise (· < ·))(hl:ps.length<=24)(a:Option D):∀ (r pr:List (Nat×Nat)) (b c:Option D),pr++r=om ps.length->∃ b' c',cD (gT 2 (aI 3 (aI 4 bU))) eN (r.map (LO ps f)) (jc ps f ps.length (λ i=>ent f i pr) a b c)=.nx (jc ps f ps.length (λ i=>ent f i (om ps.length)) a b' c')
 | [],pr,b,c,e=>by
  rw[Nh]at e;subst e;exact⟨b,c,rfl⟩
 | t::r,pr,b,c,e=>by
  have nd:=sZ ps.length;have hm:∀ x∈pr++t::r,x.2<x.1/\x.1<ps.length:=λ x hx=>iV.mp (e▸hx);have hn:t∉pr:=λ z=>by
   rw[<-e,MS]at nd;exact nd.2.2 t z t MD rfl
  have ht:=hm t (by simp);have hlen:∀ i,(ent f i pr).length<=999:=λ i=>by
   have h1:=zA f i pr;have h2:=zB ps.length;rw[<-e,MY]at h2;have h3:ps.length*ps.length<=576:=Nat.mul_le_mul (show ps.length<=24 by omega) (show ps.length<=24 by omega);omega
  have st:=FA (f:=f) (pr:=pr) (a:=a) (k:=t.1) (j:=t.2) hs ht.1 ht.2 (λ x hx=>hm x (MW _ hx)) hn hlen;obtain⟨b',c',ih⟩:=zz hs hl a r (pr++[t]) (some (.tup [.int (aJ ps t.1),.int (aJ ps t.2)])) (some (.int (f t.1 t.2))) (by rw[Ni];exact e);refine⟨b',c',?_⟩;rw[MU,jP (τ':=jc ps f ps.length (λ i=>ent f i pr) a (some (.tup [.int (aJ ps t.1),.int (aJ ps t.2)])) (some (.int (f t.1 t.2)))) rfl st];exact ih
def qP:∀ ts:List N2.oY,gR (dQ ts) (dP ts)=ts.map λ t=>.tup [.tup [.int (N2.ig t).1,.int (N2.ig t).2],.int t.2.2]
 |[]=>rfl
 | t::r=>by
  show D.tup [zk (kt (N2.ig t)),.int t.2.2]::gR (dQ r) (dP r)=_;rw[qP r];rfl
def Dk(hs:ps.Pairwise (· < ·))(hl:ps.length<=24)(h0:τ[0]?=some (some (nF ps f))):kK (az cz (ae (aa 0) ah)) τ=.ok (false,(om ps.length).map (LO ps f)):=by
 have hc:az cz (ae (aa 0) ah) τ=.ok (.dct .own true (dQ (cC ps f ps.length)) (dP (cC ps f ps.length))):=
  cN (ds:=[nF ps f]) (br (cB h0 (aL _ _))) (by show cz [(nF ps f).aq]=_;rw[bb _ (aL _ _)];exact qO hs hl) (by show((nF ps f).aA||false)=false;rw[aP _ (aL _ _)];rfl)
 unfold kK;rw[hc,Res.aG];show(if aM (dP (cC ps f ps.length))=true then Res.ok ((false||av (dP (cC ps f ps.length))),gR (dQ (cC ps f ps.length)) (dP (cC ps f ps.length))) else .bad)=_;rw[MO (lu _),cJ _ (lu _),qP,wt,M1]
 congr 2
 refine M5 λ t ht=>?_;have h:=iV.mp ht;show D.tup [.tup [.int (N2.keyOf (aJ ps t.1) (aJ ps t.2)).1,.int (N2.keyOf (aJ ps t.1) (aJ ps t.2)).2],.int (f t.1 t.2)]=_;rw[mz (fJ hs h.1 h.2)]
def wk (ps:List Int):ps.map D.int=(List.range ps.length).map λ i=>D.int (aJ ps i):=by
 refine NS λ i=>?_;by_cases h:i<ps.length
 ·rw[uN h,MR,NC h];rfl
 ·rw[NB (by rw[MC];omega),NB (by rw[MC,MX];omega)]
def Dl (l:List (Nat×Nat)):aM (l.map (LO ps f))=true:=bP λ d m=>by
 obtain⟨t,_,rfl⟩:=MM.mp m;rfl
def AZ (hs:ps.Pairwise (· < ·))(hl:ps.length<=24):gI [nF ps f]=.ok (wo .own ps ps.length λ i=>ent f i (om ps.length)):=by
 refine bZ (τ:=[some (nF ps f),none,none,none,none]) rfl rfl ?_;unfold kT;rw[aH (a8 (d:=.dct .own false [] []) rfl rfl)];show aE _ _ (jc ps f 0 (λ _=>[]) none none none)=_;have v0:∀ m o,aa 0 (jc ps f m (λ _=>[]) o none none)=.ok (nF ps f):=λ m o=>cB rfl (aL _ _);have l1:∃ o,bT [0] (eY (af bG (aa 0) (eC (.int 0)))) (gN 2) iF (jc ps f 0 (λ _=>[]) none none none)=.nx (jc ps f ps.length (λ _=>[]) o none none):=by
  obtain⟨t,h1,o,h2⟩:=eL (tg:=gN 2) (body:=iF) (λ i t=>∃ o,t=jc ps f i (λ _=>[]) o none none) (ds:=(List.range ps.length).map λ i=>D.int (aJ ps i)) 0 (jc ps f 0 (λ _=>[]) none none none) ⟨none,rfl⟩ (λ j d τ hx hp=>by
   obtain⟨o,rfl⟩:=hp;rw[NT];have hj:j<ps.length:=by
    have:=(MF.mp hx).1;simpa using this
   rw[MR,NC hj]at hx;cases hx;refine⟨_,_,rfl,.inl (Dd (k:=false) (ks:=(List.range j).map λ i=>kI (aJ ps i)) (xs:=(List.range j).map λ i=>gM .own ps []) (d:=.dct .own false [] []) (dk:=.int (aJ ps j)) (q:=kI (aJ ps j)) rfl rfl rfl rfl ⟨rfl,rfl,by rw[MC,MX];omega⟩ (uO (aJ ps) _ _ λ i hi z=>?_)),some (.int (aJ ps j)),?_⟩
   ·have:=iW hs (by have:=M3.mp hi;omega) hj z;have:=M3.mp hi;omega
   ·show [_,some (D.dct .own false (((List.range j).map λ i=>kI (aJ ps i))++[kI (aJ ps j)]) (((List.range j).map λ i=>gM .own ps [])++[gM .own ps []])),_,_,_]=_;unfold jc wo;rw[PC,M7,M7];rfl)
  rw[MC,MX,NT]at h2;refine⟨o,?_⟩;rw[jQ (τ':=jc ps f 0 (λ _=>[]) none none none) (ds:=(List.range ps.length).map λ i=>D.int (aJ ps i)) ?_ ?_ ?_,h1,h2]
  ·show [some (nF ps f).aq,_,_,_,_]=_;rw[bb _ (aL _ _)];rfl
  ·unfold eY;rw[oh (v0 0 none),Res.aG,ly (ai _),wk]
  ·rw[<-wk];exact ai _
 obtain⟨o,l1⟩:=l1;rw[aH l1];obtain⟨b',c',l2⟩:=zz (f:=f) hs hl o (om ps.length) [] none none rfl;have l3:bT [0] (kK (az cz (ae (aa 0) ah))) (gT 2 (aI 3 (aI 4 bU))) eN (jc ps f ps.length (λ _=>[]) o none none)=.nx (jc ps f ps.length (λ i=>ent f i (om ps.length)) o b' c'):=by
  rw[jQ (τ':=jc ps f ps.length (λ _=>[]) o none none) ?_ (Dk hs hl rfl) (Dl _)]
  ·exact l2
  ·show [some (nF ps f).aq,_,_,_,_]=_;rw[bb _ (aL _ _)];rfl
 rw[aH l3];rfl
end
def Fy (ps:List Int)(e:List (Nat×Int)):(gM .own ps e).aq=gM .aq ps e:=by
 show D.dct .aq false _ (aD (e.map λ x=>D.int x.2))=_;rw[cg _ (bP λ d m=>by obtain⟨x,_,rfl⟩:=MM.mp m;rfl)];rfl
def wm (ps:List Int)(e:List (Nat×Int)):(gM .aq ps e).view=gM .aq ps e:=by
 show D.dct .aq false _ (aS (e.map λ x=>D.int x.2))=_;rw[bO _ (bP λ d m=>by obtain⟨x,_,rfl⟩:=MM.mp m;rfl)];rfl
def wu (ps:List Int)(e:List (Nat×Int)):(gM .aq ps e).aq=gM .aq ps e:=by
 show D.dct .aq false _ (aD (e.map λ x=>D.int x.2))=_;rw[cg _ (bP λ d m=>by obtain⟨x,_,rfl⟩:=MM.mp m;rfl)];rfl
def IJ (ps:List Int)(m:Nat)(g:Nat->List (Nat×Int)):(wo .own ps m g).aq=wo .aq ps m g:=by
 show D.dct .aq false _ (aD ((List.range m).map λ i=>gM .own ps (g i)))=_;rw[gn,M1];unfold wo
 congr 1
 exact M5 λ i _=>Fy ps (g i)
def Fx (ps:List Int)(m:Nat)(g:Nat->List (Nat×Int)):(wo .aq ps m g).view=wo .aq ps m g:=by
 show D.dct .aq false _ (aS ((List.range m).map λ i=>gM .aq ps (g i)))=_;rw[jj,M1];unfold wo
 congr 1
 exact M5 λ i _=>wm ps (g i)
def Fz (ps:List Int)(m:Nat)(g:Nat->List (Nat×Int)):(wo .aq ps m g).aq=wo .aq ps m g:=by
 show D.dct .aq false _ (aD ((List.range m).map λ i=>gM .aq ps (g i)))=_;rw[gn,M1];unfold wo
 congr 1
 exact M5 λ i _=>wu ps (g i)
abbrev Dp (ps:List Int)(f:Nat->Nat->Int):D:=wo .aq ps ps.length λ i=>ent f i (om ps.length)
section
end
def lA {α:Type}{tt:SD->Res Bool}{elt:SD->Res D}{caps:SD}(h:α->D)(p:α->Bool)(f:α->D):∀ {l:List α} (o:Option D),(∀ a∈l,tt (some (h a)::caps)=.ok (p a))->(∀ a∈l,p a=true->elt (some (h a)::caps)=.ok (f a)/\(f a).aA=false)->fT (gN 0) tt elt (l.map h) (o::caps)=.ok ((l.filter p).map f)
 |[],o,_,_=>rfl
 | a::l,o,h1,h2=>by
  have ih:=lA h p f (l:=l) (some (h a)) (λ b hb=>h1 b (ME _ hb)) λ b hb=>h2 b (ME _ hb);rw[MU,fT];show((tt (some (h a)::caps)).bind λ b=>if b=true then (elt (some (h a)::caps)).bind λ x=>if x.aA=true then Res.bad else (fT (gN 0) tt elt (l.map h) (some (h a)::caps)).bind λ xs=>.ok (x::xs) else fT (gN 0) tt elt (l.map h) (some (h a)::caps))=_;rw[h1 a MD,Res.aG];cases hp:p a with
  | false =>
   rw[MP MH,ih,Pp,hp];rfl
  | true =>
   obtain⟨e1,e2⟩:=h2 a MD hp;rw[MO rfl,e1,Res.aG,MP (by rw[e2];exact MH),ih,Pp,hp];rfl
def lB{it:SD->Res (Bool×List D)}{tt:SD->Res Bool}{elt:SD->Res D}{cap:List (PySem.Str×Nat)}{fl:Bool}{l:List α}(h:α->D)(p:α->Bool)(f:α->D)(hit:it τ=.ok (fl,l.map h))(hh:∀ a∈l,(h a).pure=true)
  (ht:∀ a∈l,tt (some (h a)::dD τ cap)=.ok (p a)) (he:∀ a∈l,p a=true->elt (some (h a)::dD τ cap)=.ok (f a)/\(f a).pure=true) (hl:l.length<=1000):aR it (gN 0) tt elt 1 cap τ=.ok (.lst .own ((l.filter p).map f)):=by
 have hp:aM ((l.filter p).map f)=true:=bP λ d m=>by
  obtain⟨x,hx,rfl⟩:=MM.mp m;obtain⟨h1,h2⟩:=N7.mp hx;exact(he x h1 h2).2
 have hl':((l.filter p).map f).length<=16777216:=by
  rw[MC];have:=P9 p l;omega
 have hc:fT (gN 0) tt elt (aD (l.map h)) (List.replicate 1 none++dD τ cap)=.ok ((l.filter p).map f):=by
  rw[cg _ (bP λ d m=>by obtain⟨x,hx,rfl⟩:=MM.mp m;exact hh x hx)];exact lA h p f none ht λ a m q=>⟨(he a m q).1,aP _ (he a m q).2⟩
 unfold aR;rw[hit,Res.aG];simp only[hc,MO hl',fK _ hp,ite_self]
def lC{it:SD->Res (Bool×List D)}{elt:SD->Res D}{cap:List (PySem.Str×Nat)}{fl:Bool}{l:List α}(h:α->D)(f:α->D)(hit:it τ=.ok (fl,l.map h))(hh:∀ a∈l,(h a).pure=true)
  (he:∀ a∈l,elt (some (h a)::dD τ cap)=.ok (f a)/\(f a).pure=true) (hl:l.length<=1000):aR it (gN 0) bw elt 1 cap τ=.ok (.lst .own (l.map f)):=by
 have:=lB (tt:=bw) (elt:=elt) h (λ _=>true) f hit hh (λ _ _=>rfl) (λ a m _=>he a m) hl;rw[this,Qt.mpr λ _ _=>rfl]
def pp (ps:List Int)(l:List Nat):List Int:=l.map (aJ ps)
def yf (ps:List Int)(l:List Nat):(pp ps l).map D.int=l.map λ i=>D.int (aJ ps i):=by
 unfold pp;rw[M1];rfl
def IK(hs:ps.Pairwise (· < ·)){l:List Nat}(hi:i<ps.length)(hl:∀ x∈l,x<ps.length):aJ ps i∈pp ps l↔i∈l:=by
 unfold pp;constructor
 ·intro h;obtain⟨j,hj,e⟩:=MM.mp h;rw[iW hs hi (hl j hj) e.symm];exact hj
 ·intro h;exact MM.mpr ⟨i,h,rfl⟩
def yg{xs:List D}(h:τ[i]?=some (some (.lst .aq xs)))(hp:aM xs=true):eY (aa i) τ=.ok (false,xs):=by
 unfold eY;rw[cL h hp,Res.aG];exact zx (.inl rfl) hp
def qR:∀ ns:List Int,l7 (ns.map D.int)=true
 |[]=>rfl
 | n::r=>by
  show((D.int n).plain&&l7 (r.map D.int))=true;rw[qR r];rfl
section
variable{ms O W:List Nat}{fi:Nat}{Pl:List (Nat×Nat)}
end
end KL
namespace KL
open DL XF
variable {x:Int}{ps qs:List Int}{l:List Nat}{i n:Nat}{f:Nat->Nat->Int}{τ:SD}{g:SD->Res D}
def IP (b:Bool)(x:Int)(qs:List Int):inD b (.int x) (.tup (qs.map .int))=.ok (.bl (if b then !decide (x∈qs) else decide (x∈qs))):=by
 have h1:(qs.map D.int).all D.flat=true:=by simp[D.flat]
 have h2:nQ (.int x) (qs.map D.int)=decide (x∈qs):=by
  unfold nQ;rw[OL,O3,NR];constructor
  ·rintro⟨y,hy,e⟩;obtain⟨z,hz,rfl⟩:=MM.mp hy;have e:z=x:=by simpa[Hz] using e
   rw[<-e];exact hz
  ·intro h;exact⟨.int x,MM.mpr ⟨x,h,rfl⟩,by simp[Hz]⟩
 show(if (D.int x).flat=true/\(qs.map D.int).all D.flat=true then Res.ok (D.bl (if b then !nQ (.int x) (qs.map .int) else nQ (.int x) (qs.map .int))) else .bad)=_;rw[MO ⟨rfl,h1⟩,h2]
def pK(h:τ[i]?=some (some (.tup (qs.map .int)))):aa i τ=.ok (.tup (qs.map .int)):=cB h (ai qs)
def Dt {f:SD->Res D}(h1:f τ=.ok (.int x))(h2:g τ=.ok (.tup (qs.map .int))):eT (af (inD true) f g) τ=.ok (!decide (x∈qs)):=nD ((bH h1 h2).trans (IP true x qs))
def Du (ns:List Int)(k:Int):k∈L2.dd ns↔k∈ns:=by
 have h:=PyProof.Rows.firstMet_any (λ i=>ns.getD i 0) ns.length k;have e:(List.range ns.length).map (λ i=>ns.getD i 0)=ns:=by
  refine NY (by simp) λ i h1 h2=>?_;simp;rw[MA h2];rfl
 rw[e]at h;have m:∀ l:List Int,(l.any λ x=>x == k)=true↔k∈l:=λ l=>by
  rw[O3];constructor
  ·rintro⟨x,hx,e⟩;have:x=k:=by simpa using e
   exact this▸hx
  ·intro hk;exact⟨k,hk,by simp⟩
 unfold L2.dd;rw[<-m,h,m]
def qS:∀ (ns acc:List Int),acc.Nodup->(ns.foldl PyProof.Rows.step_dedup acc).Nodup
 |[],_,h=>h
 | x::r,acc,h=>by
  rw[QX];refine qS r _ ?_;unfold PyProof.Rows.step_dedup;split
  ·exact h
  ·rename_i hx;rw[MS];refine⟨h,MZ.mpr ⟨NQ,NJ⟩,λ a ha b hb z=>?_⟩;have hb:b=x:=by simpa using hb
   subst hb z;exact hx (O3.mpr ⟨a,ha,by simp⟩)
def wx (ns:List Int):(L2.dd ns).Nodup:=qS _ [] NJ
def wy(h:x∈qs):bN [.tup (qs.map .int),.int x]=.ok .bJ:=by
 refine ya (t:=[some (.tup (qs.map .int)),some (.int x)]) rfl rfl ?_;show fB [some (.tup (qs.map .int)),some (.int x)]=.nx _;unfold fB;have t:=Dt (τ:=[some (.tup (qs.map .int)),some (.int x)]) (f:=aa 1) (g:=aa 0) (x:=x) (qs:=qs) rfl (pK rfl);rw[Nc h]at t;rw[lK t];rfl
def wz (ps qs:List Int)(o:Option D):SD:=[some (.tup (ps.map .int)),some (.lst .aq (qs.map .int)),o]
section
def FE {q:Int}(h:q∈ps):az bN (ae (aa 0) (ae (aa 2) ah)) (wz ps qs (some (.int q)))=.ok .bJ:=
 cN (ds:=[.tup (ps.map .int),.int q]) (aF (pK rfl) (br rfl)) (by show bN [.tup (aD (ps.map .int)),.int q]=_;rw[aN];exact wy h) (by show((av (ps.map .int))||_)=false;rw[cJ _ (ai _)];rfl)
def zC:∀ (R:List Int) (o:Option D),(∀ q∈R,q∈ps)->∃ o',cD (gN 2) dB (R.map .int) (wz ps qs o)=.nx (wz ps qs o')
 |[],o,_=>⟨o,rfl⟩
 | q::R,o,h=>by
  obtain⟨o',i1⟩:=zC R (some (.int q)) λ x hx=>h x (ME _ hx);refine⟨o',?_⟩;rw[MU,jP (body:=dB) (τ':=wz ps qs (some (.int q))) rfl (nG (FE (h q MD)))];exact i1
def IL:bT [1] (eY (aa 1)) (gN 2) dB (wz ps qs none)=cD (gN 2) dB (qs.map .int) (wz ps qs none):=by
 refine jQ ?_ (yg rfl (ai qs)) (ai qs);show [some (D.tup (ps.map .int)),some (.lst .aq (aD (qs.map .int))),none]=_;rw[aN];rfl
def qT (h1:∀ q∈qs,q∈ps)(h2:qs≠[])(hl:qs.length<64):cA [.tup (ps.map .int),.lst .aq (qs.map .int)]=.ok (.lst .own ((sortI (L2.dd qs)).map .int)):=by
 obtain⟨o,e⟩:=zC (ps:=ps) (qs:=qs) qs none h1;refine bZ (τ:=wz ps qs none) rfl rfl ?_;unfold i9;rw[aH (IL.trans e)];have v1:aa 1 (wz ps qs o)=.ok (.lst .aq (qs.map .int)):=cL rfl (ai qs);have t:=gW (iG v1) (g:=eC (.int 0)) (b:=0) rfl;rw[M6 (by rw[MC];cases qs with|nil=>exact absurd rfl h2|cons _ _=>simp only[MQ];omega)]at t;rw[c8 t];refine c9 ?_ (fm (ai _));unfold ki;rw[v1,Res.aG];show(match intsOf (qs.map D.int) with|some ns=>if ns.length<64 then Res.ok (D.lst .own ((sortI (L2.dd ns)).map D.int)) else .bad|none=>.bad)=_;rw[dE];show(if qs.length<64 then Res.ok (D.lst .own ((sortI (L2.dd qs)).map D.int)) else .bad)=_;rw[MO hl]
end
def mD {G:DF}{fs:SD->Res (List D)}{ds:List D}{d:D}(ha:fs τ=.ok ds)(h:G (aD ds)=.ok d)(ht:d.aW=d):az G fs τ=.ok d:=by
 unfold az;rw[ha,Res.aG];unfold eK;rw[h];show(if av ds=true then Res.ok d.aW else Res.ok d)=_;rw[ht,ite_self]
def jw {xs:List D}(h:aM xs=true):(D.lst .own xs).aW=.lst .own xs:=by
 show D.lst .own (bL xs)=_;rw[fK _ h]
def IM (ps:List Int)(e:List (Nat×Int)):(gM .aq ps e).aA=false:=by
 show(false||av (e.map λ x=>D.int x.2))=false;rw[cJ _ (bP λ d m=>by obtain⟨x,_,rfl⟩:=MM.mp m;rfl)];rfl
def Kw (ps:List Int)(m:Nat)(g:Nat->List (Nat×Int)):(wo .aq ps m g).aA=false:=by
 show(false||av ((List.range m).map λ i=>gM .aq ps (g i)))=false;rw[pY,Bool.false_or,PQ];intro d hd;obtain⟨i,_,rfl⟩:=MM.mp hd;rw[IM];exact MH
section
end
def ni (l:List Nat):List Int:=l.map λ i:Nat=>(i:Int)
def kU (l:List Nat):(ni l).map D.int=l.map λ i:Nat=>D.int (i:Int):=by
 unfold ni;rw[M1];rfl
def A2 (l m:List Nat):ni (l++m)=ni l++ni m:=M7
def Dv:(i:Int)∈ni l↔i∈l:=by
 unfold ni;constructor
 ·intro h;obtain⟨j,hj,e⟩:=MM.mp h;have:j=i:=by omega
  exact this▸hj
 ·intro h;exact MM.mpr ⟨i,h,rfl⟩
def uP (l:List Nat):(ni l).length=l.length:=MC _
def tq {l0:Nat}{lr:List Nat}(h:∀ k,k<n->k∉l0::lr->∀ j∈lr,cc f k j=cc f k l0):PG.jR (cc f) n (l0::lr):=by
 have one:∀ k,k<n->k∉l0::lr->∀ i∈l0::lr,cc f k i=cc f k l0:=λ k hk hn i hi=>by
  rcases MK.mp hi with e|m
  ·rw[e]
  ·exact h k hk hn i m
 exact λ k hk hn i hi j hj=>(one k hk hn i hi).trans (one k hk hn j hj).symm
section
def uQ {j:Nat}{e:SD->Res D}(h:e τ=.ok (nF ps f))(hg:g τ=.ok (.int j))(hj:j<ps.length):af bG (af bG e (eC (.int 0))) g τ=.ok (.int (aJ ps j)):=
 f7 (oh h) hg (iY rfl (uN hj))
def yh {k j:Nat}{e i:SD->Res D}(h:e τ=.ok (nF ps f))(hg:g τ=.ok (.int k))(hi:i τ=.ok (.int j))(hj:j<k)(hk:k<ps.length):af bG (af bG (af bG e (eC (.int 1))) g) i τ=.ok (.int (f k j)):=
 f7 (f7 (Kv h) hg (iY rfl (Di hk))) hi (iY rfl (Dg hj))
def gO(h:τ[0]?=some (some (nF ps f))):aa 0 τ=.ok (nF ps f):=cB h (aL _ _)
def j5(h:l≠[]):∃ l0 lr,l=l0::lr:=by
 cases l with
 |nil=>exact absurd rfl h|cons a r=>exact⟨a,r,rfl⟩
structure Gs (n:Nat)(l:List Nat):Prop where
 ne:l≠[]
 up:l.Pairwise (· < ·)
 lt:∀ x∈l,x<n
def Gs.nd(g:Gs n l):l.Nodup:=g.up.imp λ h=>M0 h
def Gs.len(g:Gs n l):l.length<=n:=PG.oZ g.nd g.lt
def zD(h:τ[0]?=some (some (nF ps f))):eA c5 (ae (af bG (aa 0) (eC (.int 0))) ah) τ=.ok (.int ps.length):=by
 rw[di (br (oh (gO h)))];show Res.ok (D.int ((ps.map D.int).length:Nat))=_;rw[MC]
def FF {a b:SD->Res D}{y:Int}(h1:a τ=.ok (.int x))(h2:b τ=.ok (.int y))(hy:0<y):af cP a b τ=.ok (.int (x%y)):=by rw[bH h1 h2,uK hy]
def IQ (hs:ps.Pairwise (· < ·))(hi:i<ps.length):xx ps (aJ ps i)=some i:=by
 unfold xx;rw[OH];have at_:∀ j (h:j<ps.length),ps[j]=aJ ps j:=λ j h=>by
  unfold aJ;rw[MG,MA h];rfl
 refine⟨hi,by simp[at_ i hi],λ j hj=>?_⟩;have:=fJ hs hj hi;intro z;rw[NR,at_ j (by omega)]at z;omega
def Dw (hs:ps.Pairwise (· < ·)){a b:SD->Res D}(hi:i<ps.length)(h1:a τ=.ok (nF ps f))(h2:b τ=.ok (.int (aJ ps i))):Cw (af bG a (eC (.int 0))) b τ=.ok (.int i):=by
 unfold Cw;rw[oh h1,Res.aG,MO (show isTup (D.tup (ps.map D.int))=true from rfl),h2,Res.aG];show(match intsOf (ps.map D.int) with|some ns=>(match xx ns (aJ ps i) with|some j=>Res.ok (D.int j)|none=>.bad)|none=>.bad)=_;rw[dE];show(match xx ps (aJ ps i) with|some j=>Res.ok (D.int j)|none=>.bad)=_;rw[IQ hs hi]
def nH(hi:i<ps.length):aJ ps i∈ps:=by
 unfold aJ;rw[MG,MA hi];exact Nu hi
def wA (hs:ps.Pairwise (· < ·))(g:Gs ps.length l):(pp ps l).Pairwise (· < ·):=by
 unfold pp;rw[OS];refine g.up.imp_of_mem λ {a b} ha hb h=>fJ hs h (g.lt b hb)
def A3 (hs:ps.Pairwise (· < ·))(g:Gs ps.length l)(h:qs.Perm (pp ps l)):sortI qs=pp ps l:=
 dY ((sortI_perm qs).trans h) (dG qs) ((wA hs g).imp λ h=>by omega)
def Ky (hs:ps.Pairwise (· < ·))(g:Gs ps.length l):(pp ps l).Nodup:=(wA hs g).imp λ h=>by omega
def A1 (hs:ps.Pairwise (· < ·))(g:Gs ps.length l)(h:∀ q,q∈qs↔q∈pp ps l):sortI (L2.dd qs)=pp ps l:=
 A3 hs g ((Pg (wx qs) (Ky hs g)).mpr λ a=>(Du qs a).trans (h a))
end
end KL
namespace PG
def nI (c:Nat->Int):∀ (K:List Int) (l:List Nat),K.Nodup->(∀ m∈l,c m∈K)->((K.map λ k=>l.filter λ m=>decide (c m=k)).flatten).Perm l
 | [],l,_,h=>by
  cases l with
  |nil=>exact Nz _|cons a r=>cases h a MD
 | k::K,l,hn,h=>by
  have hn':=MZ.mp hn;have ih:=nI c K (l.filter λ m=>!decide (c m=k)) hn'.2 λ m hm=>by
   have q:=N7.mp hm;have z:c m≠k:=by simpa using q.2
   exact(MK.mp (h m q.1)).resolve_left z
  have e:(K.map λ j=>(l.filter λ m=>!decide (c m=k)).filter λ m=>decide (c m=j))=K.map λ j=>l.filter λ m=>decide (c m=j):=by
   refine M5 λ j hj=>?_;rw[List.filter_filter];refine List.filter_congr λ m _=>?_;by_cases z:c m=j
   ·have:¬ j=k:=λ y=>hn'.1 (y▸hj);simp[z,this]
   ·simp[z]
  rw[e]at ih;rw[MU,NF];exact(Qg (Nz _) ih).trans (List.filter_append_perm (λ m=>decide (c m=k)) l)
def Dy {W T:List (List Nat)}{l:List Nat}:((W++[l])++T).Perm (W++(T++[l])):=by
 rw[Ni];exact Qg (Nz _) List.perm_append_comm
def todo (W:List (List Nat)):Nat:=2*W.flatten.length-W.length
def lD:∀ {W:List (List Nat)},(∀ l∈W,l≠[])->W.length<=W.flatten.length
 |[],_=>ML _
 | l::W,h=>by
  have:=lD (W:=W) λ x m=>h x (ME _ m);have q:=N4.mpr (h l MD);rw[NF,MY,MQ];omega
def tu {W:List (List Nat)}{l:List Nat}(h:∀ x∈W++[l],x≠[]):todo W<todo (W++[l]):=by
 unfold todo;have a:=lD (W:=W) λ x m=>h x (MW _ m);have q:=N4.mpr (h l (by simp));rw[Oi,MY,MY];simp only[NF,QU,Nh,N5];omega
def A4 {W:List (List Nat)}{l:List Nat}{P:List (List Nat)}(h:∀ x∈W++[l],x≠[])(hp:P.flatten.Perm l)(h2:2<=P.length)(hP:∀ x∈P,x≠[]):todo (W++P)<todo (W++[l]):=by
 unfold todo;have a:=lD (W:=W) λ x m=>h x (MW _ m);have b:=lD hP;have e:=hp.length_eq;rw[Oi,MY,MY,Oi,MY,MY];simp only[NF,QU,Nh,N5];omega
end PG
namespace KL
open DL
variable {lr:List Nat}{l0:Nat}{τ:SD}
abbrev nQ (ps:List Int)(f:Nat->Nat->Int)(k:Nat):D:=gM .aq ps (ent f k (om ps.length))
section
variable {ps:List Int}{f:Nat->Nat->Int}
def Mh {F H:SD->Res D}{p q:Nat}(hs:ps.Pairwise (· < ·))(hp:p<ps.length)(hq:q<ps.length)(hn:p≠q)(h1:F τ=.ok (nQ ps f p))(h3:H τ=.ok (.int (aJ ps q))):af ee F H τ=.ok (.int (cc f p q)):=by
 have lk2:=lz (λ x:Nat×Int=>aJ ps x.1) (λ x=>D.int x.2) (q,cc f p q) (ent f p (om ps.length)) (FD hp hq hn) λ x hx e=>by
  have e1:=iW hs (Dm hx).2.1 hq e;have e2:=(Dm hx).1;rw[e1]at e2;exact Prod.ext e1 e2
 rw[bH h1 h3];show(if (kI (aJ ps q)).kind=false then (match fL ((ent f p (om ps.length)).map λ x=>kI (aJ ps x.1)) ((ent f p (om ps.length)).map λ x=>D.int x.2) (kI (aJ ps q)) with|some d=>Res.ok d|none=>.bad) else .bad)=_;rw[MO (show(kI (aJ ps q)).kind=false from rfl),lk2]
def IS {F G:SD->Res D}{p:Nat}(hs:ps.Pairwise (· < ·))(hp:p<ps.length)(h1:F τ=.ok (Dp ps f))(h2:G τ=.ok (.int (aJ ps p))):af ee F G τ=.ok (nQ ps f p):=by
 have lk:=lz (aJ ps) (λ i=>gM .aq ps (ent f i (om ps.length))) p (List.range ps.length) (M3.mpr hp) λ i hi e=>iW hs (M3.mp hi) hp e;rw[bH h1 h2];show(if (kI (aJ ps p)).kind=false then (match fL ((List.range ps.length).map λ i=>kI (aJ ps i)) ((List.range ps.length).map λ i=>gM .aq ps (ent f i (om ps.length))) (kI (aJ ps p)) with|some d=>Res.ok d|none=>.bad) else .bad)=_;rw[MO (show(kI (aJ ps p)).kind=false from rfl),lk]
def DA {i k:Nat}(h:τ[i]?=some (some (nQ ps f k))):aa i τ=.ok (nQ ps f k):=by
 unfold aa;rw[h];show Res.ok (nQ ps f k).view=_;rw[wm]
def DC {i:Nat}(h:τ[i]?=some (some (Dp ps f))):aa i τ=.ok (Dp ps f):=by
 unfold aa;rw[h];show Res.ok (Dp ps f).view=_;rw[Fx]
def kW (ps:List Int)(f:Nat->Nat->Int)(k:Nat)(l:List Nat)(o:Option D):SD:=[some (nQ ps f k),some (.lst .aq ((pp ps l).map .int)),o]
def Kz {k:Nat}{o:Option D}:af bG (aa 1) (eC (.int 0)) (kW ps f k (l0::lr) o)=.ok (.int (aJ ps l0)):=f7 (cL rfl (ai _)) (y:=.int 0) rfl (my (j:=0) rfl rfl)
def zE (hs:ps.Pairwise (· < ·)){k l0:Nat}{lr:List Nat}(hk:k<ps.length)(hl:∀ x∈l0::lr,x<ps.length)(hn:k∉l0::lr):∀ (r:List Nat) (o:Option D),(∀ x∈r,x∈l0::lr) ->
  (∃ o',cD (gN 2) bo ((pp ps r).map .int) (kW ps f k (l0::lr) o)=.nx (kW ps f k (l0::lr) o')/\∀ j∈r,cc f k j=cc f k l0) ∨
  ∃ j:Nat,(j∈l0::lr/\cc f k j≠cc f k l0)/\cD (gN 2) bo ((pp ps r).map .int) (kW ps f k (l0::lr) o)=.rt (.int (aJ ps j))
 |[],o,_=>.inl ⟨o,rfl,λ j hj=>absurd hj NQ⟩
 | j::r,o,h=>by
  have hj:=h j MD;have hjn:k≠j:=λ z=>hn (z▸hj);have h0n:k≠l0:=λ z=>hn (z▸MD);have c1:=Mh (f:=f) (τ:=kW ps f k (l0::lr) (some (.int (aJ ps j)))) (F:=aa 0) (H:=aa 2) hs hk (hl j hj) hjn (DA rfl) rfl;have c2:=Mh (f:=f) (τ:=kW ps f k (l0::lr) (some (.int (aJ ps j)))) (F:=aa 0) (H:=af bG (aa 1) (eC (.int 0))) hs hk (hl l0 MD) h0n (DA rfl) Kz;have t:=yd c1 c2;by_cases e:cc f k j=cc f k l0
  ·rw[Nc e]at t;have st:bo (kW ps f k (l0::lr) (some (.int (aJ ps j))))=.nx (kW ps f k (l0::lr) (some (.int (aJ ps j)))):=by
    unfold bo;rw[lK t];rfl
   have go:cD (gN 2) bo ((pp ps (j::r)).map .int) (kW ps f k (l0::lr) o)=cD (gN 2) bo ((pp ps r).map .int) (kW ps f k (l0::lr) (some (.int (aJ ps j)))):=jP (τ':=kW ps f k (l0::lr) (some (.int (aJ ps j)))) rfl st;rw[go];rcases zE hs hk hl hn r (some (.int (aJ ps j))) (λ x hx=>h x (ME _ hx)) with ⟨b',e1,e2⟩|q
   ·refine .inl ⟨b',e1,λ x hx=>?_⟩;rcases MK.mp hx with rfl|hx
    ·exact e
    ·exact e2 x hx
   ·exact .inr q
  ·rw[M6 e]at t;refine .inr ⟨j,⟨hj,e⟩,uM (τ':=kW ps f k (l0::lr) (some (.int (aJ ps j)))) rfl ?_⟩;unfold bo;rw[rL t];rfl
def DB (hs:ps.Pairwise (· < ·)){k:Nat}(hk:k<ps.length)(hl:∀ x∈l0::lr,x<ps.length)(hn:k∉l0::lr) :
  (dg [nQ ps f k,.lst .aq ((pp ps (l0::lr)).map .int)]=.ok .bJ/\∀ j∈l0::lr,cc f k j=cc f k l0) ∨
  ∃ j:Nat,(j∈l0::lr/\cc f k j≠cc f k l0)/\dg [nQ ps f k,.lst .aq ((pp ps (l0::lr)).map .int)]=.ok (.int (aJ ps j)):=by
 have hf:bT [1] (eY (aa 1)) (gN 2) bo (kW ps f k (l0::lr) none)=cD (gN 2) bo ((pp ps (l0::lr)).map .int) (kW ps f k (l0::lr) none):=
  jQ (τ':=kW ps f k (l0::lr) none) (by
   show [some (nQ ps f k),some (D.lst .aq (aD ((pp ps (l0::lr)).map .int))),none]=_;rw[aN];rfl) (yg rfl (ai _)) (ai _)
 rcases zE (f:=f) hs hk hl hn (l0::lr) none (λ _ h=>h) with ⟨o',e1,e2⟩|⟨j,hj,e⟩
 ·refine .inl ⟨?_,e2⟩;refine bZ (τ:=kW ps f k (l0::lr) none) rfl rfl ?_;unfold gA;rw[aH (hf.trans e1)];rfl
 ·refine .inr ⟨j,hj,?_⟩;refine bZ (τ:=kW ps f k (l0::lr) none) rfl rfl ?_;unfold gA;exact yb (hf.trans e)
def iJ (ps:List Int)(f:Nat->Nat->Int)(l:List Nat)(a b:Option D):SD:=[some (Dp ps f),some (.lst .aq ((pp ps l).map .int)),a,b]
def FG (hs:ps.Pairwise (· < ·)){k:Nat}(hl:∀ x∈l0::lr,x<ps.length)(hk:k<ps.length)(b:Option D) :
  (∃ b',a9 (iJ ps f (l0::lr) (some (.int (aJ ps k))) b)=.nx (iJ ps f (l0::lr) (some (.int (aJ ps k))) b')/\(k∉l0::lr->∀ j∈l0::lr,cc f k j=cc f k l0)) ∨
  (k∉l0::lr/\∃ j:Nat,(j∈l0::lr/\cc f k j≠cc f k l0)/\a9 (iJ ps f (l0::lr) (some (.int (aJ ps k))) b)=.rt (.tup [.int (aJ ps k),.int (aJ ps l0),.int (aJ ps j)])):=by
 have v1:∀ b,aa 1 (iJ ps f (l0::lr) (some (.int (aJ ps k))) b)=.ok (.lst .aq ((pp ps (l0::lr)).map .int)):=λ b=>cL rfl (ai _);have t:=n9 (f:=aa 2) (g:=aa 1) (τ:=iJ ps f (l0::lr) (some (.int (aJ ps k))) b) (x:=aJ ps k) (qs:=pp ps (l0::lr)) rfl (v1 b);rw[Qh.mpr (IK hs hk hl)]at t;unfold a9;by_cases hn:k∈l0::lr
 ·rw[Nc hn]at t;rw[lK t];exact .inl ⟨b,rfl,λ z=>absurd hn z⟩
 ·rw[M6 hn]at t;rw[rL t];have call:∀ d,dg [nQ ps f k,.lst .aq ((pp ps (l0::lr)).map .int)]=.ok d->d.pure=true->az dg (ae (af ee (aa 0) (aa 2)) (ae (aa 1) ah)) (iJ ps f (l0::lr) (some (.int (aJ ps k))) b)=.ok d:=λ d hG hd=>by
   refine bf (ds:=[nQ ps f k,.lst .aq ((pp ps (l0::lr)).map .int)]) (aF (IS hs hk (DC rfl) rfl) (br (v1 b))) ?_ hd;show dg [(nQ ps f k).aq,.lst .aq (aD ((pp ps (l0::lr)).map .int))]=_;rw[wu,aN];exact hG
  rcases DB (f:=f) hs hk hl hn with ⟨e,q⟩|⟨j,hj,e⟩
  ·refine .inl ⟨some .bJ,?_,λ _=>q⟩;rw[aH (a8 (call _ e rfl) rfl)];show dS _ _ _ (iJ ps f (l0::lr) (some (.int (aJ ps k))) (some .bJ))=_;rw[lK rfl];rfl
  ·refine .inr ⟨hn,j,hj,?_⟩;rw[aH (a8 (call _ e rfl) rfl)];show dS _ _ _ (iJ ps f (l0::lr) (some (.int (aJ ps k))) (some (.int (aJ ps j))))=_;rw[rL rfl];refine c9 ?_ rfl;have x0:af bG (aa 1) (eC (.int 0)) (iJ ps f (l0::lr) (some (.int (aJ ps k))) (some (.int (aJ ps j))))=.ok (.int (aJ ps l0)):=f7 (v1 _) (y:=.int 0) rfl (my (j:=0) rfl rfl);rw[di (aF (d:=.int (aJ ps k)) rfl (aF x0 (br (d:=.int (aJ ps j)) rfl)))];rfl
def zF (hs:ps.Pairwise (· < ·)){l0:Nat}{lr:List Nat}(hl:∀ x∈l0::lr,x<ps.length):∀ (r:List Nat) (a b:Option D),(∀ x∈r,x<ps.length) ->
  (∃ a' b',cD (gN 2) a9 ((pp ps r).map .int) (iJ ps f (l0::lr) a b)=.nx (iJ ps f (l0::lr) a' b')/\∀ k∈r,k∉l0::lr->∀ j∈l0::lr,cc f k j=cc f k l0) ∨
  ∃ k j:Nat,k<ps.length/\k∉l0::lr/\(j∈l0::lr/\cc f k j≠cc f k l0)/\cD (gN 2) a9 ((pp ps r).map .int) (iJ ps f (l0::lr) a b)=.rt (.tup [.int (aJ ps k),.int (aJ ps l0),.int (aJ ps j)])
 |[],a,b,_=>.inl ⟨a,b,rfl,λ k hk=>absurd hk NQ⟩
 | k::r,a,b,h=>by
  have hk:=h k MD;rcases FG (f:=f) hs hl hk b with ⟨b',e,q⟩|⟨hn,j,hj,e⟩
  ·have go:cD (gN 2) a9 ((pp ps (k::r)).map .int) (iJ ps f (l0::lr) a b)=cD (gN 2) a9 ((pp ps r).map .int) (iJ ps f (l0::lr) (some (.int (aJ ps k))) b'):=jP (τ':=iJ ps f (l0::lr) (some (.int (aJ ps k))) b) rfl e;rw[go];rcases zF hs hl r (some (.int (aJ ps k))) b' (λ x hx=>h x (ME _ hx)) with ⟨a',b'',e1,e2⟩|q'
   ·refine .inl ⟨a',b'',e1,λ x hx=>?_⟩;rcases MK.mp hx with rfl|hx
    ·exact q
    ·exact e2 x hx
   ·exact .inr q'
  ·exact .inr ⟨k,j,hk,hn,hj,uM (τ':=iJ ps f (l0::lr) (some (.int (aJ ps k))) b) rfl e⟩
def Dz (hs:ps.Pairwise (· < ·))(hl:∀ x∈l0::lr,x<ps.length) :
  (cS [Dp ps f,.lst .aq ((pp ps (l0::lr)).map .int)]=.ok .bJ/\PG.jR (cc f) ps.length (l0::lr)) ∨
  ∃ k j:Nat,k<ps.length/\k∉l0::lr/\(j∈l0::lr/\cc f k j≠cc f k l0)/\cS [Dp ps f,.lst .aq ((pp ps (l0::lr)).map .int)]=.ok (.tup [.int (aJ ps k),.int (aJ ps l0),.int (aJ ps j)]):=by
 have hi:oO (aa 0) (iJ ps f (l0::lr) none none)=.ok (false,(pp ps (List.range ps.length)).map .int):=by
  unfold oO;rw[DC rfl];show Res.ok ((Dp ps f).aA,((List.range ps.length).map λ i=>kI (aJ ps i)).map zh)=_;rw[Kw,M1,yf];rfl
 have hf:bT [0] (oO (aa 0)) (gN 2) a9 (iJ ps f (l0::lr) none none)=cD (gN 2) a9 ((pp ps (List.range ps.length)).map .int) (iJ ps f (l0::lr) none none):=
  jQ (τ':=iJ ps f (l0::lr) none none) (by
   show [some (Dp ps f).aq,some (D.lst .aq ((pp ps (l0::lr)).map .int)),none,none]=_;rw[Fz];rfl) hi (ai _)
 rcases zF (f:=f) hs hl (List.range ps.length) none none (λ x hx=>M3.mp hx) with ⟨a',b',e1,e2⟩|⟨k,j,h1,h2,h3,e⟩
 ·refine .inl ⟨?_,tq λ k hk hn j hj=>e2 k (M3.mpr hk) hn j (ME _ hj)⟩;refine bZ (τ:=iJ ps f (l0::lr) none none) rfl rfl ?_;unfold fW;rw[aH (hf.trans e1)];rfl
 ·refine .inr ⟨k,j,h1,h2,h3,?_⟩;refine bZ (τ:=iJ ps f (l0::lr) none none) rfl rfl ?_;unfold fW;exact yb (hf.trans e)
end
end KL
namespace KL
open DL XF
section
variable {ps qs:List Int}{f:Nat->Nat->Int}
def A5:ae (af bG (aa 0) (eC (.int 0))) (ae (aa 1) ah) [some (nF ps f),some (.lst .aq (qs.map .int))]=.ok [.tup (ps.map .int),.lst .aq (qs.map .int)]:=
 aF (oh (cB rfl (aL _ _))) (br (cL rfl (ai qs)))
def DE {d:List Int}(hG:cA [.tup (ps.map .int),.lst .aq (qs.map .int)]=.ok (.lst .own (d.map .int))):az cA (ae (af bG (aa 0) (eC (.int 0))) (ae (aa 1) ah)) [some (nF ps f),some (.lst .aq (qs.map .int))]=.ok (.lst .own (d.map .int)):=
 mD A5 (by show cA [.tup (aD (ps.map .int)),.lst .aq (aD (qs.map .int))]=_;rw[aN,aN];exact hG) (jw (ai _))
def uR {τ:SD}(hs:ps.Pairwise (· < ·))(hl:ps.length<=24)(h0:τ[0]?=some (some (nF ps f))):az cz (ae (aa 0) ah) τ=.ok (.dct .own true (dQ (cC ps f ps.length)) (dP (cC ps f ps.length))):=
 cN (ds:=[nF ps f]) (br (cB h0 (aL _ _))) (by show cz [(nF ps f).aq]=_;rw[bb _ (aL _ _)];exact qO hs hl) (by show((nF ps f).aA||false)=false;rw[aP _ (aL _ _)];rfl)
def within (ps qs:List Int):List Int:=ps.filter λ p=>decide (p∈qs)
def oq (hs:ps.Pairwise (· < ·)):(within ps qs).Pairwise (· < ·):=hs.sublist Pr
def A6:(within ps qs).length<=ps.length:=P9 _ _
def wB (hs:ps.Pairwise (· < ·))(h1:∀ q∈qs,q∈ps):(sortI (L2.dd qs)).Perm (within ps qs):=by
 have n1:(sortI (L2.dd qs)).Nodup:=(sortI_perm _).nodup_iff.mpr (wx qs);have n2:(within ps qs).Nodup:=(oq hs).imp λ h=>by omega
 refine(Pg n1 n2).mpr λ a=>?_;rw[(sortI_perm _).mem_iff,Du];unfold within;rw[N7,NR];exact⟨λ h=>⟨h1 a h,h⟩,λ h=>h.2⟩
def wC {e g:SD->Res D}{τ:SD}{t:Tg}{rs:List Int}{ts:List N2.oY}(he:e τ=.ok (.lst t (qs.map .int)))(hg:g τ=.ok (.dct .own true (dQ ts) (dP ts))\/g τ=.ok (.dct .bor true (dQ ts) (dP ts)))(hp:qs.Perm rs)(hs:rs.Pairwise (· < ·))(hl:rs.length<=24):az fG (ae e (ae g ah)) τ=.ok (mr rs (N2.rowsOf rs ts)):=by
 have k:=IF ts hp hs hl;rcases hg with hg|hg
 ·exact bf (aF he (br hg)) (by show fG [.lst .aq (aD (qs.map .int)),.dct .aq true (dQ ts) (aD (dP ts))]=_;rw[aN,cg _ (lu ts)];exact k) (gK _ _)
 ·exact bf (aF he (br hg)) (by show fG [.lst .aq (aD (qs.map .int)),.dct .aq true (dQ ts) (aD (dP ts))]=_;rw[aN,cg _ (lu ts)];exact k) (gK _ _)
def FH (hs:ps.Pairwise (· < ·))(hl:ps.length<=24)(h1:∀ q∈qs,q∈ps)(h2:qs≠[])(h3:qs.length<64):jr [nF ps f,.lst .aq (qs.map .int)]=.ok (mr (within ps qs) (N2.rowsOf (within ps qs) (cC ps f ps.length))):=by
 refine bZ (τ:=[some (nF ps f),some (.lst .aq (qs.map .int))]) rfl rfl ?_;unfold n6;have:=A6 (ps:=ps) (qs:=qs);exact c9 (wC (DE (qT h1 h2 h3)) (.inl (uR hs hl rfl)) (wB hs h1) (oq hs) (by omega)) (aP _ (gK _ _))
end
variable {xs:List D}
def tw (n:Nat){x:D}(hv:∀ τ:SD,x.view=x/\∀ (j:Nat) (d:D),xs[j]?=some d->bG x (.int j)=.ok d)(hlen:eA c5 (ae (aa 1) ah) [some x,some x,none]=.ok (.int xs.length))(hp:∀ d∈xs,d.aq=d)(hl:xs.length<=1000)(ih:∀ d∈xs,G_Llike n [d,d]=.ok (.bl true)) :
  aE (bT [] (aX (ae (eA c5 (ae (aa 1) ah)) ah)) (gN 2) (g_Llike_b1 (G_Llike n))) (bu (eC (.bl true))) [some x,some x,none]=.rt (.bl true):=by
 obtain⟨t,h1,a,h2⟩:=eL (tg:=gN 2) (body:=g_Llike_b1 (G_Llike n)) (λ i t=>∃ a,t=[some x,some x,a]) (ds:=(List.range xs.length).map λ j:Nat=>D.int (j:Int)) 0 [some x,some x,none] ⟨none,rfl⟩ (λ k d t hx hp'=>by
  obtain⟨a,rfl⟩:=hp';have hk:k<xs.length:=by
   have:=(MF.mp hx).1;simpa using this
  have ex:d=.int k:=by
   simp[hk]at hx;exact hx.symm
  subst ex;refine⟨[some x,some x,some (.int k)],[some x,some x,some (.int k)],rfl,.inl ?_,some (.int k),rfl⟩;have hd:xs[k]?=some xs[k]:=MA hk;have e0:af bG (aa 0) (aa 2) [some x,some x,some (.int k)]=.ok xs[k]:=f7 (x:=x) (y:=.int k) (by show Res.ok x.view=_;rw[(hv []).1]) rfl ((hv []).2 k _ hd);have e1:af bG (aa 1) (aa 2) [some x,some x,some (.int k)]=.ok xs[k]:=f7 (x:=x) (y:=.int k) (by show Res.ok x.view=_;rw[(hv []).1]) rfl ((hv []).2 k _ hd);have hpd:=hp xs[k] (Nu hk);have c:az (G_Llike n) (ae (af bG (aa 0) (aa 2)) (ae (af bG (aa 1) (aa 2)) ah)) [some x,some x,some (.int k)]=.ok (.bl true):=bf (ds:=[xs[k],xs[k]]) (aF e0 (br e1)) (by
   show G_Llike n [xs[k].aq,xs[k].aq]=_;rw[hpd];exact ih _ (Nu hk)) rfl
  unfold g_Llike_b1;rw[lK (mw (nD c))];rfl)
 have hi:aX (ae (eA c5 (ae (aa 1) ah)) ah) (b7 [] [some x,some x,none])=.ok (false,(List.range xs.length).map λ j:Nat=>D.int (j:Int)):=by
  unfold aX;rw[show b7 [] [some x,some x,none]=[some x,some x,none] from rfl,br hlen,Res.aG,dH (by omega)]
 have hf:bT [] (aX (ae (eA c5 (ae (aa 1) ah)) ah)) (gN 2) (g_Llike_b1 (G_Llike n)) [some x,some x,none]=.nx t:=by
  unfold bT;rw[hi];have:aD ((List.range xs.length).map λ j:Nat=>D.int (j:Int))=(List.range xs.length).map λ j:Nat=>D.int (j:Int):=a7 _ _;simp only[this];exact h1
 rw[aH hf];rfl
def qU:∀ {xs:List D},aD xs=xs->∀ d∈xs,d.aq=d
 |[],_,_,m=>by cases m
 | x::r,h,d,m=>by
  have h:x.aq::aD r=x::r:=h;injection h with h1 h2
  rcases MK.mp m with rfl|m
  ·exact h1
  ·exact qU h2 d m
def DG (n:Nat)(hw:aS xs=xs)(hp:aD xs=xs)(hl:xs.length<=1000)(ih:∀ d∈xs,G_Llike n [d,d]=.ok (.bl true)):G_Llike (n+1) [.tup xs,.tup xs]=.ok (.bl true):=by
 refine bZ (τ:=[some (.tup xs),some (.tup xs),none]) rfl rfl ?_;have hv:(D.tup xs).view=.tup xs:=by show D.tup (aS xs)=_;rw[hw]
 have v0:aa 0 [some (.tup xs),some (.tup xs),none]=.ok (.tup xs):=by show Res.ok (D.tup xs).view=_;rw[hv]
 have v1:aa 1 [some (.tup xs),some (.tup xs),none]=.ok (.tup xs):=by show Res.ok (D.tup xs).view=_;rw[hv]
 have l0:eA c5 (ae (aa 0) ah) [some (.tup xs),some (.tup xs),none]=.ok (.int xs.length):=by rw[di (br v0)];rfl
 have l1:eA c5 (ae (aa 1) ah) [some (.tup xs),some (.tup xs),none]=.ok (.int xs.length):=by rw[di (br v1)];rfl
 have ne:=yd l0 l1;rw[Nc rfl]at ne;unfold g_Llike;rw[c8 rfl,c8 rfl,c8 rfl,c8 rfl,c8 (GA rfl),c8 (Gz rfl rfl),c8 ne];exact tw n (λ _=>⟨hv,λ j d h=>iY rfl h⟩) l1 (qU hp) hl ih
def DH (n:Nat)(hw:aS xs=xs)(hp:aD xs=xs)(hl:xs.length<=1000)(ih:∀ d∈xs,G_Llike n [d,d]=.ok (.bl true)):G_Llike (n+1) [.lst .aq xs,.lst .aq xs]=.ok (.bl true):=by
 refine bZ (τ:=[some (.lst .aq xs),some (.lst .aq xs),none]) rfl rfl ?_;have hv:(D.lst .aq xs).view=.lst .aq xs:=by show D.lst .aq (aS xs)=_;rw[hw]
 have v0:aa 0 [some (.lst .aq xs),some (.lst .aq xs),none]=.ok (.lst .aq xs):=by show Res.ok (D.lst .aq xs).view=_;rw[hv]
 have v1:aa 1 [some (.lst .aq xs),some (.lst .aq xs),none]=.ok (.lst .aq xs):=by show Res.ok (D.lst .aq xs).view=_;rw[hv]
 have l0:=iG v0;have l1:=iG v1;have ne:=yd l0 l1;rw[Nc rfl]at ne;unfold g_Llike;rw[c8 rfl,c8 rfl,c8 rfl,c8 rfl,c8 (Gz rfl rfl),c8 (GA rfl),c8 ne];exact tw n (λ _=>⟨hv,λ j d h=>my rfl h⟩) l1 (qU hp) hl ih
inductive Lk:Nat->D->Prop
 |int (n:Nat) (i:Int):Lk (n+1) (.int i)
 |str (n:Nat) (s:PySem.Str):Lk (n+1) (.str s)
 |tup (n:Nat) {xs:List D}:(∀ d∈xs,Lk n d)->aS xs=xs->aD xs=xs->xs.length<=1000->Lk (n+1) (.tup xs)
 |lst (n:Nat) {xs:List D}:(∀ d∈xs,Lk n d)->aS xs=xs->aD xs=xs->xs.length<=1000->Lk (n+1) (.lst .aq xs)
def like_eq:∀ {n:Nat}{d:D},Lk n d->G_Llike n [d,d]=.ok (.bl true)
 |_,_,.int n i=>wd n i
 |_,_,.str n s=>C8 n s
 |_,_,.tup n h hw hp hl=>DG n hw hp hl λ d m=>like_eq (h d m)
 |_,_,.lst n h hw hp hl=>DH n hw hp hl λ d m=>like_eq (h d m)
def zG (n:Nat)(is:List Int):∀ d∈is.map D.int,Lk (n+1) d:=λ d m=>by
 obtain⟨i,_,rfl⟩:=MM.mp m;exact .int n i
def DJ (is:List Int):aS (is.map D.int)=is.map D.int:=bO _ (ai _)
end KL
namespace PG
variable {T W:List (List Nat)}{l:List Nat}{n:Nat}{c:Nat->Nat->Int}
structure Pt (c:Nat->Nat->Int)(n:Nat)(P:List (List Nat)):Prop where
 ne:∀ l∈P,l≠[]
 up:∀ l∈P,l.Pairwise (· < ·)
 perm:P.flatten.Perm (List.range n)
 cl:∀ l∈P,jR c n l
structure Rf (c:Nat->Nat->Int)(n:Nat)(W T:List (List Nat)):Prop where
 ne:∀ l∈W++T,l≠[]
 up:∀ l∈W++T,l.Pairwise (· < ·)
 perm:(W++T).flatten.Perm (List.range n)
 cl:∀ l∈T,jR c n l
def Rf.told(h:Rf c n (W++[l]) T)(hc:jR c n l):Rf c n W (T++[l]):=by
 have p:=Dy (W:=W) (T:=T) (l:=l);refine⟨λ x m=>h.ne x (p.mem_iff.mpr m),λ x m=>h.up x (p.mem_iff.mpr m),(p.flatten).symm.trans h.perm,λ x m=>?_⟩;rcases M4.mp m with m|m
 ·exact h.cl x m
 ·rw[Nl.mp m];exact hc
def Rf.part{P:List (List Nat)}(h:Rf c n (W++[l]) T)(hp:P.flatten.Perm l)(h1:∀ x∈P,x≠[])(h2:∀ x∈P,x.Pairwise (· < ·)):Rf c n (W++P) T:=by
 have mem:∀ x,x∈W++P++T->x∈(W++[l])++T\/x∈P:=λ x m=>by
  rcases M4.mp m with m|m
  ·rcases M4.mp m with m|m
   ·exact .inl (MW _ (MW _ m))
   ·exact .inr m
  ·exact .inl (MT _ m)
 refine⟨λ x m=>(mem x m).elim (h.ne x) (h1 x),λ x m=>(mem x m).elim (h.up x) (h2 x),?_,h.cl⟩;refine List.Perm.trans ?_ h.perm;rw[Oi,Oi,Oi,Oi];refine Qg (Qg (Nz _) ?_) (Nz _);simpa using hp
def Rf.fin(h:Rf c n [] T):Pt c n T:=⟨λ l m=>h.ne l (by simpa using m),λ l m=>h.up l (by simpa using m),by simpa using h.perm,h.cl⟩
def Rf.len(h:Rf c n W T):W.length+T.length<=n:=by
 have:=lD h.ne;rw[h.perm.length_eq,MY,MX]at this;exact this
def Rf.lt(h:Rf c n W T)(m:l∈W++T):∀ x∈l,x<n:=λ x hx=>M3.mp (h.perm.mem_iff.mp (List.mem_flatten.mpr ⟨l,m,hx⟩))
section
variable{P:List (List Nat)}
def Pt.lt (h:Pt c n P)(m:l∈P):∀ x∈l,x<n:=λ x hx=>M3.mp (h.perm.mem_iff.mp (List.mem_flatten.mpr ⟨l,m,hx⟩))
def Pt.len (h:Pt c n P):P.length<=n:=by
 have:=lD h.ne;rw[h.perm.length_eq,MX]at this;exact this
def Pt.zI (h:Pt c n P){Q:List (List Nat)}(p:Q.Perm P):Pt c n Q:=⟨λ l m=>h.ne l (p.mem_iff.mp m),λ l m=>h.up l (p.mem_iff.mp m),p.flatten.trans h.perm,λ l m=>h.cl l (p.mem_iff.mp m)⟩
def Pt.wL (h:Pt c n P){i j:Nat}(hi:i<P.length)(hj:j<P.length)(hij:i≠j){x y:Nat}(hx:x∈P[i])(hy:y∈P[j]):x≠y:=by
 have nd:P.flatten.Nodup:=h.perm.nodup_iff.mpr O2;have wL:=(List.pairwise_flatten.mp nd).2;rw[N3]at wL;rcases OR i j with w|w|w
 ·exact wL i j hi hj w x hx y hy
 ·exact absurd w hij
 ·exact λ z=>wL j i hj hi w y hy x hx z.symm
def Pt.single (c:Nat->Nat->Int)(n:Nat):Pt c n ((List.range n).map λ i=>[i]):=by
 refine⟨λ l m=>?_,λ l m=>?_,?_,λ l m=>?_⟩
 ·obtain⟨i,_,rfl⟩:=MM.mp m;simp
 ·obtain⟨i,_,rfl⟩:=MM.mp m;simp
 ·have:∀ l:List Nat,(l.map λ i=>[i]).flatten=l:=λ l=>by
   induction l with
   |nil=>rfl|cons a r ih=>rw[MU,NF,ih];rfl
  rw[this]
 ·obtain⟨i,_,rfl⟩:=MM.mp m;intro k _ _ a ha b hb;rw[Nl.mp ha,Nl.mp hb]
def Pt.whole (c:Nat->Nat->Int)(h:1<=n):Pt c n [List.range n]:=by
 refine⟨λ l m=>?_,λ l m=>?_,by simp,λ l m=>?_⟩
 ·rw[Nl.mp m];intro z;have:=N1 List.length z;rw[MX]at this;simp at this;omega
 ·rw[Nl.mp m];exact PY
 ·rw[Nl.mp m];exact λ k hk hn=>absurd (M3.mpr hk) hn
def Pt.one (h:Pt c n P)(sy:∀ a b,c a b=c b a){i j:Nat}(hi:i<P.length)(hj:j<P.length)(hij:i≠j){x x' y y':Nat}(hx:x∈P[i])(hx':x'∈P[i])(hy:y∈P[j])(hy':y'∈P[j]):c x y=c x' y':=by
 have mi:P[i]∈P:=Nu hi;have mj:P[j]∈P:=Nu hj;have n1:x∉P[j]:=λ z=>h.wL hi hj hij hx z rfl;have n2:y'∉P[i]:=λ z=>h.wL hj hi (NU hij) hy' z rfl;rw[h.cl _ mj x (h.lt mi x hx) n1 y hy y' hy',sy x y',h.cl _ mi y' (h.lt mj y' hy') n2 x hx x' hx',sy]
end
end PG
namespace KL
open DL XF
variable {d:D}{x y:Int}{Z:List (List Int)}{P T:List (List Nat)}{xs:List D}{ns ps qs:List Int}{H l:List Nat}{i j n:Nat}{f:Nat->Nat->Int}{τ:SD}{it:SD->Res (Bool×List D)}{a b g:SD->Res D}{t':Tg}{α:Type}
abbrev LL (t:Tg)(Z:List (List Int)):List D:=Z.map λ ns=>.lst t (ns.map .int)
def ou (t:Tg)(Z:List (List Int)):aD (LL t Z)=LL .aq Z:=by
 rw[gn,M1];refine M5 λ ns _=>?_;show D.lst .aq (aD (ns.map .int))=_;rw[aN]
def FO (Z:List (List Int)):aS (LL .aq Z)=LL .aq Z:=by
 rw[jj,M1];refine M5 λ ns _=>?_;show D.lst .aq (aS (ns.map .int))=_;rw[bO _ (ai ns)]
def DO (Z:List (List Int)):aS (LL .own Z)=LL .bor Z:=by
 rw[jj,M1];refine M5 λ ns _=>?_;show D.lst .bor (aS (ns.map .int))=_;rw[bO _ (ai ns)]
def zJ (t:Tg)(ht:t=.aq\/t=.own):∀ Z:List (List Int),av (LL t Z)=false
 |[]=>rfl
 | ns::Z=>by
  show((D.lst t (ns.map .int)).aA||av (LL t Z))=false;rw[zJ t ht Z];rcases ht with rfl|rfl
  ·show((false||av (ns.map D.int))||false)=false;rw[iB];rfl
  ·rw[fm (ai _)];rfl
def DK(h:τ[i]?=some (some (.lst .aq (LL .aq Z)))):aa i τ=.ok (.lst .aq (LL .aq Z)):=by
 unfold aa;rw[h];show Res.ok (D.lst .aq (aS (LL .aq Z)))=_;rw[FO]
def DM(h:τ[i]?=some (some (.lst .aq (LL .aq Z)))):eY (aa i) τ=.ok (false,LL .aq Z):=by
 unfold eY;rw[DK h,Res.aG];show Res.ok ((false||av (LL .aq Z)),LL .aq Z)=_;rw[zJ _ (.inl rfl)];rfl
def qV {js:List Nat}{tg:uW}{body:SF}{τ':SD}{ds:List D}(hf:b7 js τ=τ')(h:it τ'=.ok (false,ds)):bT js it tg body τ=cD tg body (aD ds) τ':=by
 unfold bT;rw[hf,h]
def jx{elt:SD->Res D}{cap:List (PySem.Str×Nat)}{fl:Bool}{l:List α}(h h' f:α->D)(hit:it τ=.ok (fl,l.map h))(hz:∀ a∈l,(h a).aq=h' a)
  (he:∀ a∈l,elt (some (h' a)::dD τ cap)=.ok (f a)/\(f a).aA=false/\(f a).aW=f a) (hl:l.length<=1000):aR it (gN 0) bw elt 1 cap τ=.ok (.lst .own (l.map f)):=by
 have hc:fT (gN 0) bw elt (aD (l.map h)) (List.replicate 1 none++dD τ cap)=.ok (l.map f):=by
  have ez:l.map (D.aq∘h)=l.map h':=M5 λ a m=>hz a m;rw[gn,M1,ez];have:=lA (tt:=bw) (elt:=elt) (caps:=dD τ cap) h' (λ _=>true) f (l:=l) none (λ _ _=>rfl) λ a m _=>⟨(he a m).1,(he a m).2.1⟩;rw[Qt.mpr λ _ _=>rfl]at this;exact this
 have hb:bL (l.map f)=l.map f:=by
  rw[nO,M1];exact M5 λ a m=>(he a m).2.2
 unfold aR;rw[hit,Res.aG];simp only[hc,MO (show(l.map f).length<=16777216 by rw[MC];omega),hb,ite_self]
def IT {t:Tg}{x:D}:bG (.lst t (xs++[x])) (.int (-1))=.ok x:=by
 have e:L2.rj (xs++[x]) (-1)=some x:=by
  have hl:(xs++[x]).length=xs.length+1:=by simp
  have hn:L2.Ey (xs.length+1) (-1)=some xs.length:=by
   unfold L2.Ey;simp;omega
  unfold L2.rj;rw[hl,hn];simp
 show(match L2.rj (xs++[x]) (-1) with|some d=>Res.ok d|none=>.bad)=_;rw[e]
def IU{t:Tg}{ms:List Int}(h1:a τ=.ok (.lst t (ns.map .int)))(h2:b τ=.ok (.lst t' (ms.map .int))):eT (af (E3 true) a b) τ=.ok (!decide (ns=ms)):=by
 refine nD ?_;rw[bH h1 h2];show(match intsOf (ns.map D.int),intsOf (ms.map D.int) with|some ns,some ms=>Res.ok (D.bl (xor true (decide (ns=ms))))|_,_=>.bad)=_;rw[dE,dE];show Res.ok (D.bl (xor true (decide (ns=ms))))=_;rw[Bool.true_xor]
def FJ{t:Tg}(h:a τ=.ok (.lst t (ns.map .int)))(hl:ns.length<64):eA cG (ae a ah) τ=.ok (.lst .own ((sortI ns).map .int)):=by
 rw[di (br h)];show(match intsOf (ns.map D.int) with|some ns=>if ns.length<64 then Res.ok (D.lst .own ((sortI ns).map D.int)) else .bad|none=>.bad)=_;rw[dE];show(if ns.length<64 then Res.ok (D.lst .own ((sortI ns).map D.int)) else .bad)=_;rw[MO hl]
def FP {ms:List Int}(p:ns.Perm ms)(h:ms.Pairwise (· < ·)):sortI ns=ms:=
 List.Perm.eq_of_pairwise (λ a b _ _ h1 h2=>by omega) (dG ns) (h.imp λ h=>by omega) ((sortI_perm ns).trans p)
def FQ{t:Tg}{ys:List Int}(h:τ[i]?=some (some (.lst .own xs)))(hf:g τ=.ok (.lst t (ys.map .int)))(hl:xs.length+ys.length<=16777216):vI i g τ=.nx (τ.set i (some (.lst .own (xs++ys.map .int)))):=by
 have e:dI τ i=some xs:=by unfold dI;rw[h]
 unfold vI;rw[e];simp only;rw[hf,iQ];unfold CC;simp only;rw[MO ⟨qR ys,by rw[MC];exact hl⟩]
def lex_trans:∀ (a b c:List Int),SR.lexLt a b=true->SR.lexLt b c=true->SR.lexLt a c=true
 |[],[],_,h,_=>by cases h
 |[],_::_,[],_,h=>by cases h
 |[],_::_,_::_,_,_=>rfl|_::_,[],_,h,_=>by cases h
 |_::_,_::_,[],_,h=>by cases h
 | x::r,y::q,z::s,h1,h2=>by
  unfold SR.lexLt at h1 h2 ⊢;by_cases e1:x=y
  ·subst e1;rw[MO rfl]at h1;by_cases e2:x=z
   ·rw[MO e2]at h2 ⊢;exact lex_trans r q s h1 h2
   ·rw[MP e2]at h2 ⊢;exact h2
  ·rw[MP e1]at h1;have h1:x<y:=by simpa using h1
   by_cases e2:y=z
   ·subst e2;rw[MP e1];simpa using h1
   ·rw[MP e2]at h2;have h2:y<z:=by simpa using h2
    rw[MP (by omega)];simp;omega
def FN(h:τ[i]?=some (some (.lst .own (xs++[d]))))(hij:i≠j):sG j i τ=.nx ((τ.set i (some (.lst .own xs))).set j (some d)):=by
 have e:dI τ i=some (xs++[d]):=by unfold dI;rw[h]
 unfold sG;rw[e];simp only;have e2:(xs++[d])[(xs++[d]).length-1]?=some d:=by
  rw[MY,N5,Nat.add_sub_cancel,Oe (ML _),Nat.sub_self];rfl
 rw[e2];simp only;rw[MO hij,List.dropLast_concat]
def FI(h:τ[i]?=some (some (.lst .own xs)))(hj:τ[j]?=some (some d))(hij:i≠j)(hl:xs.length<16777216):vG i j τ=.nx ((τ.set j none).set i (some (.lst .own (xs++[d])))):=by
 have e:dI τ i=some xs:=by unfold dI;rw[h]
 unfold vG;rw[e,hj];simp only;rw[MO ⟨hij,hl⟩]
section
variable{us:List N2.oY}
def KA (ps:List Int)(us:List N2.oY)(k:Nat):List Int:=(ps.take k).map λ q=>N2.col us (N2.keyOf (ps.getD k 0) q)
def FL {k:Nat}(hk:k<=ps.length):KA ps us k=(List.range k).map λ j=>N2.col us (N2.keyOf (ps.getD k 0) (ps.getD j 0)):=by
 unfold KA;refine NY (by simp;omega) λ i h1 h2=>?_;have hi:i<ps.length:=by simp at h1;omega
 simp[hi]
end
def DN (ps:List Int)(ts:List N2.oY):mr ps (N2.rowsOf ps ts)=nF ps λ k j=>N2.col ts (N2.keyOf (aJ ps k) (aJ ps j)):=by
 unfold nF;have e:N2.rowsOf ps ts=dC (λ k j=>N2.col ts (N2.keyOf (aJ ps k) (aJ ps j))) ps.length:=by
  unfold dC N2.rowsOf;refine M5 λ k hk=>?_;exact FL (ps:=ps) (us:=ts) (k:=k) (by have:=M3.mp hk;omega)
 rw[e]
def tD (bt:Nat->Nat->Bool)(F:Nat->Int)(hb:∀ i j,bt i j=decide (F i<F j)):∀ k,PySem.argBest bt k<=k/\∀ i,i<=k->F (PySem.argBest bt k)<=F i
 | 0=>⟨ML _,λ i hi=>by
  have:i=0:=by omega
  subst this;exact QZ _⟩
 | k+1=>by
  obtain⟨h1,h2⟩:=tD bt F hb k;have e:PySem.argBest bt (k+1)=if bt (k+1) (PySem.argBest bt k)=true then k+1 else PySem.argBest bt k:=rfl
  rw[e,hb];by_cases h:F (k+1)<F (PySem.argBest bt k)
  ·rw[Nc h,MO rfl];refine⟨ML _,λ i hi=>?_⟩;by_cases z:i=k+1
   ·rw[z];exact QZ _
   ·have:=h2 i (by omega);omega
  ·rw[M6 h,MP MH];refine⟨by omega,λ i hi=>?_⟩;by_cases z:i=k+1
   ·rw[z];omega
   ·exact h2 i (by omega)
def yk(h:0<ns.length):L2.least ns∈ns/\∀ x∈ns,L2.least ns<=x:=by
 obtain⟨h1,h2⟩:=tD (λ i j=>decide (ns.getD i 0<ns.getD j 0)) (λ i=>ns.getD i 0) (λ _ _=>rfl) (ns.length-1);refine⟨?_,λ x hx=>?_⟩
 ·unfold L2.least;rw[MG,MA (by omega)];exact Nu _
 ·obtain⟨i,hi,e⟩:=List.mem_iff_getElem.mp hx;have:=h2 i (by omega);have e2:ns.getD i 0=x:=by rw[MG,MA hi];exact e
  rw[e2]at this;exact this
def DP {r:List Int}{a:Int}(p:ns.Perm (a::r))(h:(a::r).Pairwise (· < ·)):L2.least ns=a:=by
 have hl:0<ns.length:=by rw[p.length_eq];simp
 obtain⟨h1,h2⟩:=yk hl;have h3:=h2 a (p.mem_iff.mpr MD);rcases MK.mp (p.mem_iff.mp h1) with e|m
 ·exact e
 ·have:=(OF.mp h).1 _ m;omega
def IV{t:Tg}(h:a τ=.ok (.lst t (ns.map .int)))(hl:0<ns.length):eA yY (ae a ah) τ=.ok (.int (L2.least ns)):=by
 rw[di (br h)];show(match intsOf (ns.map D.int) with|some ns=>if 0<ns.length then Res.ok (D.int (L2.least ns)) else .bad|none=>.bad)=_;rw[dE];show(if 0<ns.length then Res.ok (D.int (L2.least ns)) else .bad)=_;rw[MO hl]
section
def yi (hs:ps.Pairwise (· < ·))(g:Gs ps.length l)(hc:PG.jR (cc f) ps.length l):cS [Dp ps f,.lst .aq ((pp ps l).map .int)]=.ok .bJ:=by
 obtain⟨l0,lr,rfl⟩:=j5 g.ne;rcases Dz (f:=f) hs g.lt with ⟨e,_⟩|⟨k,j,h1,h2,⟨h3,h4⟩,_⟩
 ·exact e
 ·exact absurd (hc k h1 h2 j h3 l0 MD) h4
def FT(g:Gs ps.length l)(hq:∀ q,q∈qs↔q∈pp ps l):(∀ q∈qs,q∈ps)/\qs≠[]:=by
 refine⟨λ q m=>?_,λ e=>?_⟩
 ·obtain⟨i,hi,rfl⟩:=MM.mp ((hq q).mp m);exact nH (g.lt i hi)
 ·obtain⟨l0,lr,el⟩:=j5 g.ne;have:=(hq (aJ ps l0)).mpr (by rw[el];exact MD);rw[e]at this;cases this
def FU (hs:ps.Pairwise (· < ·))(hp:ps.length<=24)(g:Gs ps.length l)(hq:∀ q,q∈qs↔q∈pp ps l)(hql:qs.length<64)(hG:cS [Dp ps f,.lst .aq ((pp ps l).map .int)]=.ok d)(hd:d.pure=true):kL [nF ps f,.lst .aq (qs.map .int)]=.ok d:=by
 obtain⟨h1,h2⟩:=FT g hq;refine bZ (τ:=[some (nF ps f),some (.lst .aq (qs.map .int)),none]) rfl rfl ?_;unfold qI;have s1:az cA (ae (af bG (aa 0) (eC (.int 0))) (ae (aa 1) ah)) [some (nF ps f),some (.lst .aq (qs.map .int)),none]=.ok (.lst .own ((pp ps l).map .int)):=
  mD (ds:=[.tup (ps.map .int),.lst .aq (qs.map .int)]) (aF (oh (gO rfl)) (br (cL rfl (ai _)))) (by
   show cA [.tup (aD (ps.map .int)),.lst .aq (aD (qs.map .int))]=_;rw[aN,aN,qT h1 h2 hql,A1 hs g hq]) (jw (ai _))
 rw[aH (a8 s1 (fm (ai _)))];show bu _ [some (nF ps f),some (.lst .aq (qs.map .int)),some (.lst .own ((pp ps l).map .int))]=_;have sg:az gI (ae (aa 0) ah) [some (nF ps f),some (.lst .aq (qs.map .int)),some (.lst .own ((pp ps l).map .int))]=.ok (wo .own ps ps.length λ i=>ent f i (om ps.length)):=
  cN (ds:=[nF ps f]) (br (gO rfl)) (by show gI [(nF ps f).aq]=_;rw[bb _ (aL _ _)];exact AZ hs hp) (by show((nF ps f).aA||false)=false;rw[aP _ (aL _ _)];rfl)
 refine c9 (bf (ds:=[wo .own ps ps.length λ i=>ent f i (om ps.length),.lst .bor ((pp ps l).map .int)]) (aF sg (br (lh rfl (ai _)))) ?_ hd) (aP _ hd);show cS [(wo .own ps ps.length λ i=>ent f i (om ps.length)).aq,.lst .aq (aD ((pp ps l).map .int))]=_;rw[IJ,aN,hG]
def FW (hs:ps.Pairwise (· < ·))(hp:ps.length<=24)(g:Gs ps.length l)(hc:PG.jR (cc f) ps.length l)(hq:∀ q,q∈qs↔q∈pp ps l)(hql:qs.length<64):iD [nF ps f,.lst .aq (qs.map .int)]=.ok (.bl true):=by
 refine bZ (τ:=[some (nF ps f),some (.lst .aq (qs.map .int))]) rfl rfl ?_;unfold mq;have c:az kL (ae (aa 0) (ae (aa 1) ah)) [some (nF ps f),some (.lst .aq (qs.map .int))]=.ok .bJ:=by
  refine bf (ds:=[nF ps f,.lst .aq (qs.map .int)]) (aF (gO rfl) (br (cL rfl (ai _)))) ?_ rfl;show kL [(nF ps f).aq,.lst .aq (aD (qs.map .int))]=_;rw[bb _ (aL _ _),aN];exact FU hs hp g hq hql (yi hs g hc) rfl
 refine c9 ?_ rfl;rw[bH c (y:=.bJ) rfl];rfl
def mE (ps:List Int)(Q:List (List Int))(acc:List Int)(o:Option D):SD:=[some (.tup (ps.map .int)),some (.lst .aq (LL .aq Q)),some (.lst .own (acc.map .int)),o]
def zK {Q:List (List Int)}:∀ (R:List (List Int)) (acc:List Int) (o:Option D),(∀ q∈R,q≠[])->acc.length+R.flatten.length<=1000->∃ o',cD (gN 3) bE (LL .aq R) (mE ps Q acc o)=.nx (mE ps Q (acc++R.flatten) o')
 |[],acc,o,_,_=>⟨o,by rw[QU,Nh];rfl⟩
 | q::R,acc,o,h,hl=>by
  rw[NF,MY]at hl;obtain⟨o',i1⟩:=zK (Q:=Q) R (acc++q) (some (.lst .aq (q.map .int))) (λ x hx=>h x (ME _ hx)) (by rw[MY];omega);refine⟨o',?_⟩;have v3:aa 3 (mE ps Q acc (some (.lst .aq (q.map .int))))=.ok (.lst .aq (q.map .int)):=cL rfl (ai _);have t:=gW (iG v3) (g:=eC (.int 0)) (b:=0) rfl;rw[M6 (by
   have:=h q MD;rw[MC];cases q with
   |nil=>exact absurd rfl this|cons _ _=>simp only[MQ];omega)]at t
  have st:bE (mE ps Q acc (some (.lst .aq (q.map .int))))=.nx (mE ps Q (acc++q) (some (.lst .aq (q.map .int)))):=by
   unfold bE;rw[c8 t,FQ (xs:=acc.map .int) rfl v3 (by rw[MC];omega),<-M7];rfl
  have go:cD (gN 3) bE (LL .aq (q::R)) (mE ps Q acc o)=cD (gN 3) bE (LL .aq R) (mE ps Q (acc++q) (some (.lst .aq (q.map .int)))):=jP (τ':=mE ps Q acc (some (.lst .aq (q.map .int)))) rfl st;rw[go,i1,NF,Ni]
def yj (hs:ps.Pairwise (· < ·))(hp:ps.length<=24){Q:List (List Int)}(h:∀ q∈Q,q≠[])(hQ:Q.flatten.Perm ps):c7 [.tup (ps.map .int),.lst .aq (LL .aq Q)]=.ok .bJ:=by
 have hl:=hQ.length_eq;obtain⟨o,e⟩:=zK (ps:=ps) (Q:=Q) Q [] none h (by rw[NW];omega);refine ya (τ:=[some (.tup (ps.map .int)),some (.lst .aq (LL .aq Q)),none,none]) (t:=mE ps Q Q.flatten o) rfl rfl ?_;unfold fV;rw[aH (a8 (d:=.lst .own []) rfl rfl)];have zf:bT [1] (eY (aa 1)) (gN 3) bE (mE ps Q [] none)=.nx (mE ps Q Q.flatten o):=by
  rw[qV (τ':=mE ps Q [] none) (by
   show [some (D.tup (ps.map .int)),some (D.lst .aq (aD (LL .aq Q))),_,_]=_;rw[ou];rfl) (DM rfl),ou,e,List.nil_append]
 show aE _ _ (mE ps Q [] none)=_;rw[aH zf];have s:=FJ (lh (i:=2) (τ:=mE ps Q Q.flatten o) (xs:=Q.flatten.map .int) rfl (ai _)) (by omega);have li:eA eW (ae (aa 0) ah) (mE ps Q Q.flatten o)=.ok (.lst .own (ps.map .int)):=by
  rw[di (br (pK (i:=0) (qs:=ps) rfl))];rfl
 have t:=IU s li;rw[FP hQ hs,Nc rfl]at t;rw[lK t];rfl
end
section
def zN (hs:ps.Pairwise (· < ·)):∀ (k:Nat),k<=ps.length->((cC ps f k).map N2.ig).Nodup
 |0,_=>NJ
 | k+1,hk=>by
  have row:∀ m,m<=k->((cC ps f k++mC ps f k m).map N2.ig).Nodup:=λ m=>by
   induction m with
   | zero =>
    intro _;have e:mC ps f k 0=[]:=rfl;rw[e,Nh];exact zN hs k (by omega)
   | succ m ih =>
    intro hm;rw[sW,<-Ni,M7];refine MS.mpr ⟨ih (by omega),by simp,λ a ha b hb z=>?_⟩;have hb:b=N2.ig (aJ ps k,aJ ps m,f k m):=by simpa using hb
    subst hb z;exact zy hs f (j:=m) (k:=k) (by omega) (by omega) ha
  exact row k (ML _)
def IW (a b:Nat):cc f a b=cc f b a:=by
 unfold cc;rw[Nat.max_comm,Nat.min_comm]
def IX (hs:ps.Pairwise (· < ·)){a b:Nat}(ha:a<ps.length)(hb:b<ps.length)(hn:a≠b):N2.col (cC ps f ps.length) (N2.keyOf (aJ ps a) (aJ ps b))=cc f a b:=by
 have main:∀ k j,j<k->k<ps.length->N2.col (cC ps f ps.length) (aJ ps k,aJ ps j)=f k j:=λ k j hj hk=>by
  have m:(aJ ps k,aJ ps j,f k j)∈cC ps f ps.length:=oj.mpr ⟨k,j,hj,hk,rfl⟩;have e:=N2.zq (zN hs ps.length (ML _)) m;have k1:N2.ig (aJ ps k,aJ ps j,f k j)=(aJ ps k,aJ ps j):=mz (fJ hs hj hk);rw[k1]at e;exact e
 rcases OR a b with h|h|h
 ·have e:N2.keyOf (aJ ps a) (aJ ps b)=(aJ ps b,aJ ps a):=by
   have:=fJ hs h hb;unfold N2.keyOf;rw[MP (by omega)]
  rw[e,main b a h hb];unfold cc;rw[Qf (by omega),Py (by omega)]
 ·exact absurd h hn
 ·rw[mz (fJ hs h ha),main a b h ha];unfold cc;rw[Pz (by omega),Pk (by omega)]
def wD {rs:List Int}{g g':Nat->Nat->Int}(h:∀ k j,j<k->k<rs.length->g k j=g' k j):nF rs g=nF rs g':=by
 unfold nF
 congr 1
 unfold dC;refine M5 λ k hk=>?_;unfold gX;exact M5 λ j hj=>h k j (M3.mp hj) (M3.mp hk)
def fH (f:Nat->Nat->Int)(H:List Nat)(k j:Nat):Int:=cc f (H.getD k 0) (H.getD j 0)
def nJ:pp ps (List.range ps.length)=ps:=by
 refine NY (by simp[pp]) λ i h1 h2=>?_;simp[pp];rw[MA h2];rfl
def ow (l:List Nat):(pp ps l).length=l.length:=MC _
def DQ{k:Nat}(hk:k<H.length):aJ (pp ps H) k=aJ ps (H.getD k 0):=by
 unfold pp;rw[aJ,MG,MR,MA hk,MG,MA hk];rfl
def zL:∀ (L:List (List Nat×List Int)),(∀ e∈L,e.2.Perm (pp ps e.1))->(L.map (·.2)).flatten.Perm (pp ps (L.map (·.1)).flatten)
 |[],_=>Nz _
 | e::L,h=>by
  rw[MU,MU,NF,NF];have:pp ps (e.1++(L.map (·.1)).flatten)=pp ps e.1++pp ps (L.map (·.1)).flatten:=M7;rw[this];exact(h e MD).append (zL L λ x hx=>h x (ME _ hx))
def zM (hs:ps.Pairwise (· < ·))(hp:ps.length<=24){Q:D}:∀ (L:List (List Nat×List Int)) (o:Option D),(∀ e∈L,e.2.Perm (pp ps e.1)/\Gs ps.length e.1/\PG.jR (cc f) ps.length e.1)->∃ o',cD (gN 2) df (LL .aq (L.map (·.2))) [some (nF ps f),some Q,o]=.nx [some (nF ps f),some Q,o']
 |[],o,_=>⟨o,rfl⟩
 | e::L,o,h=>by
  obtain⟨h1,h2,h3⟩:=h e MD;obtain⟨o',i1⟩:=zM (Q:=Q) hs hp L (some (.lst .aq (e.2.map .int))) λ x hx=>h x (ME _ hx);refine⟨o',?_⟩;have hl:=h1.length_eq;rw[ow]at hl;have hl2:=h2.len;have c:eT (az iD (ae (aa 0) (ae (aa 2) ah))) [some (nF ps f),some Q,some (.lst .aq (e.2.map .int))]=.ok true:=by
   refine nD (bf (ds:=[nF ps f,.lst .aq (e.2.map .int)]) (aF (gO rfl) (br (cL rfl (ai _)))) ?_ rfl);show iD [(nF ps f).aq,.lst .aq (aD (e.2.map .int))]=_;rw[bb _ (aL _ _),aN];exact FW hs hp h2 h3 (λ q=>h1.mem_iff) (by omega)
  have st:df [some (nF ps f),some Q,some (.lst .aq (e.2.map .int))]=.nx [some (nF ps f),some Q,some (.lst .aq (e.2.map .int))]:=by
   unfold df;rw[lK (mw c)];rfl
  have go:cD (gN 2) df (LL .aq ((e::L).map (·.2))) [some (nF ps f),some Q,o]=cD (gN 2) df (LL .aq (L.map (·.2))) [some (nF ps f),some Q,some (.lst .aq (e.2.map .int))]:=jP (τ':=[some (nF ps f),some Q,some (.lst .aq (e.2.map .int))]) rfl st;rw[go,i1]
def up_eq {a b:List Int}(ha:a.Pairwise (· < ·))(hb:b.Pairwise (· < ·))(h:∀ x,x∈a↔x∈b):a=b:=
 List.Perm.eq_of_pairwise (λ a b _ _ h1 h2=>by omega) (ha.imp λ h=>Int.le_of_lt h) (hb.imp λ h=>Int.le_of_lt h) ((Pg (ha.imp λ h=>by omega) (hb.imp λ h=>by omega)).mpr h)
def FY(g:Gs ps.length l)(hs:ps.Pairwise (· < ·)){q:List Int}(h:q.Perm (pp ps l)):L2.least q=aJ ps (l.headD 0):=by
 obtain⟨l0,lr,rfl⟩:=j5 g.ne;exact DP h (wA hs g)
def uS (hs:ps.Pairwise (· < ·))(hp:ps.length<=24)(hn:1<=ps.length){L:List (List Nat×List Int)}(hL:∀ e∈L,e.2.Perm (pp ps e.1))(pt:PG.Pt (cc f) ps.length (L.map (·.1)))(hH:H.Pairwise (· < ·))(hm:∀ x,x∈H↔x∈L.map (λ e=>e.1.headD 0)) :
  dh [nF ps f,.lst .aq (LL .aq (L.map (·.2)))]=.ok (nF (pp ps H) (fH f H)):=by
 have gs:∀ e∈L,Gs ps.length e.1:=λ e m=>⟨pt.ne _ (O0 m),pt.up _ (O0 m),pt.lt (O0 m)⟩;have fl:(L.map (·.2)).flatten.Perm ps:=by
  have:=zL L hL;refine this.trans ?_;have e:(pp ps (L.map (·.1)).flatten).Perm (pp ps (List.range ps.length)):=pt.perm.map _;rw[nJ]at e;exact e
 have ll:L.length<=24:=by
  have:=pt.len;rw[MC]at this;omega
 have ne:∀ e∈L,0<e.2.length:=λ e m=>by
  rw[(hL e m).length_eq,ow];exact N4.mpr (gs e m).ne
 have hd0:∀ e∈L,e.1.headD 0∈e.1:=λ e m=>by
  obtain⟨l0,lr,q⟩:=j5 (gs e m).ne;rw[q];exact MD
 have Lne:L≠[]:=λ z=>by
  have:=pt.perm.length_eq;rw[z,MX]at this;simp at this;omega
 have hHn:∀ x∈H,x<ps.length:=λ x hx=>by
  obtain⟨e,he,rfl⟩:=MM.mp ((hm x).mp hx);exact(gs e he).lt _ (hd0 e he)
 refine bZ (τ:=[some (nF ps f),some (.lst .aq (LL .aq (L.map (·.2)))),none]) rfl rfl ?_;unfold mh;have c1:az c7 (ae (af bG (aa 0) (eC (.int 0))) (ae (aa 1) ah)) [some (nF ps f),some (.lst .aq (LL .aq (L.map (·.2)))),none]=.ok .bJ:=by
  refine bf (ds:=[.tup (ps.map .int),.lst .aq (LL .aq (L.map (·.2)))]) (aF (oh (gO rfl)) (br (DK rfl))) ?_ rfl;show c7 [.tup (aD (ps.map .int)),.lst .aq (aD (LL .aq (L.map (·.2))))]=_;rw[aN,ou];refine yj hs hp (λ q m=>?_) fl;obtain⟨e,he,rfl⟩:=MM.mp m;exact N4.mp (ne e he)
 rw[aH (nG c1)];obtain⟨o,e2⟩:=zM (f:=f) (Q:=.lst .aq (LL .aq (L.map (·.2)))) hs hp L none λ e m=>⟨hL e m,gs e m,pt.cl _ (O0 m)⟩;have zf:bT [1] (eY (aa 1)) (gN 2) df [some (nF ps f),some (.lst .aq (LL .aq (L.map (·.2)))),none]=.nx [some (nF ps f),some (.lst .aq (LL .aq (L.map (·.2)))),o]:=by
  rw[qV (τ':=[some (nF ps f),some (.lst .aq (LL .aq (L.map (·.2)))),none]) (by
   show [some (nF ps f),some (D.lst .aq (aD (LL .aq (L.map (·.2))))),none]=_;rw[ou]) (DM rfl),ou,e2]
 rw[aH zf];have cmp:aR (eY (aa 1)) (gN 0) bw gy 1 [] [some (nF ps f),some (.lst .aq (LL .aq (L.map (·.2)))),o]=.ok (.lst .own ((L.map λ e=>aJ ps (e.1.headD 0)).map .int)):=by
  have hi:eY (aa 1) [some (nF ps f),some (.lst .aq (LL .aq (L.map (·.2)))),o]=.ok (false,L.map λ e=>D.lst .aq (e.2.map .int)):=by
   rw[DM rfl];unfold LL;rw[M1];rfl
  rw[jx (elt:=gy) (cap:=[]) (λ e:List Nat×List Int=>D.lst .aq (e.2.map .int)) (λ e=>D.lst .aq (e.2.map .int)) (λ e=>D.int (aJ ps (e.1.headD 0))) hi (λ e m=>by
   show D.lst .aq (aD (e.2.map .int))=_;rw[aN]) (λ e m=>⟨by
   have:=IV (a:=aa 0) (τ:=some (.lst .aq (e.2.map .int))::dD [some (nF ps f),some (.lst .aq (LL .aq (L.map (·.2)))),o] []) (ns:=e.2) (t:=.aq) (cL rfl (ai _)) (ne e m);rw[FY (gs e m) hs (hL e m)]at this;exact this,rfl,rfl⟩) (by omega),M1]
  rfl
 have hq1:∀ q∈L.map (λ e=>aJ ps (e.1.headD 0)),q∈ps:=λ q m=>by
  obtain⟨e,he,rfl⟩:=MM.mp m;exact nH ((gs e he).lt _ (hd0 e he))
 have c3:az jr (ae (aa 0) (ae (aR (eY (aa 1)) (gN 0) bw gy 1 []) ah)) [some (nF ps f),some (.lst .aq (LL .aq (L.map (·.2)))),o]=.ok (mr (within ps (L.map λ e=>aJ ps (e.1.headD 0))) (N2.rowsOf (within ps (L.map λ e=>aJ ps (e.1.headD 0))) (cC ps f ps.length))):=by
  refine bf (ds:=[nF ps f,.lst .own ((L.map λ e=>aJ ps (e.1.headD 0)).map .int)]) (aF (gO rfl) (br cmp)) ?_ (gK _ _);show jr [(nF ps f).aq,.lst .aq (aD ((L.map λ e=>aJ ps (e.1.headD 0)).map .int))]=_;rw[bb _ (aL _ _),aN];exact FH hs hp hq1 (λ z=>Lne (List.map_eq_nil_iff.mp z)) (by rw[MC];omega)
 have gH:Gs ps.length H:=⟨λ z=>by
  obtain⟨e,r,q⟩:∃ e r,L=e::r:=by
   cases L with
   |nil=>exact absurd rfl Lne|cons e r=>exact⟨e,r,rfl⟩
  have:=(hm (e.1.headD 0)).mpr (by rw[q];exact MD);rw[z]at this;exact absurd this NQ,hH,hHn⟩
 have ew:within ps (L.map λ e=>aJ ps (e.1.headD 0))=pp ps H:=up_eq (oq hs) (wA hs gH) λ x=>by
  unfold within;rw[N7,NR];constructor
  ·rintro⟨_,m⟩;obtain⟨e,he,rfl⟩:=MM.mp m;exact MM.mpr ⟨e.1.headD 0,(hm _).mpr (O0 (f:=λ e:List Nat×List Int=>e.1.headD 0) he),rfl⟩
  ·intro m;obtain⟨i,hi,rfl⟩:=MM.mp m;obtain⟨e,he,rfl⟩:=MM.mp ((hm i).mp hi);exact⟨nH ((gs e he).lt _ (hd0 e he)),MM.mpr ⟨e,he,rfl⟩⟩
 refine c9 (c3.trans ?_) (aP _ (aL _ _));rw[ew,DN]
 congr 1
 refine wD λ k j hj hk=>?_;rw[ow]at hk;have kk:H.getD k 0<ps.length/\H.getD j 0<ps.length/\H.getD j 0≠H.getD k 0:=by
  have e1:H.getD k 0=H[k]:=by rw[MG,MA hk];rfl
  have e2:H.getD j 0=H[j]:=by rw[MG,MA (by omega)];rfl
  rw[e1,e2];refine⟨hHn _ (Nu _),hHn _ (Nu _),?_⟩;have:=(N3.mp hH) j k (by omega) hk hj;omega
 rw[DQ hk,DQ (by omega),IX hs kk.1 kk.2.1 (NU kk.2.2)];rfl
end
def DR{tt:SD->Res Bool}{elt:SD->Res D}{cap:List (PySem.Str×Nat)}{l:List α}(h h' f:α->D)(p:α->Bool)(hit:it τ=.ok (false,l.map h))(hz:∀ a∈l,(h a).aq=h' a)
  (ht:∀ a∈l,tt (some (h' a)::dD τ cap)=.ok (p a)) (he:∀ a∈l,p a=true->elt (some (h' a)::dD τ cap)=.ok (f a)/\(f a).aA=false) (hl:l.length<=1000) (hcap:cH τ cap=false:=by rfl):aR it (gN 0) tt elt 1 cap τ=.ok (.lst .own ((l.filter p).map f)):=by
 have hc:fT (gN 0) tt elt (aD (l.map h)) (List.replicate 1 none++dD τ cap)=.ok ((l.filter p).map f):=by
  have ez:l.map (D.aq∘h)=l.map h':=M5 λ a m=>hz a m;rw[gn,M1,ez];exact lA (tt:=tt) (elt:=elt) (caps:=dD τ cap) h' p f (l:=l) none ht he
 have hl2:=P9 p l;unfold aR;rw[hit,Res.aG];simp only[hc,MO (show((l.filter p).map f).length<=16777216 by rw[MC];omega),hcap,Bool.or_self,M9,ON]
def lE {α:Type}(p:α->Bool):∀ l:List α,(l.filter p++l.filter λ x=>!p x).Perm l
 |[]=>Nz _
 | a::l=>by
  rw[Pp,Pp];cases p a with
  | true =>
   simp only[OG,OV,M9,ON,List.cons_append];exact(lE p l).cons a
  | false =>
   simp only[M9,ON,Bool.not_false,OG];exact List.perm_middle.trans ((lE p l).cons a)
section
def yl {e h:SD->Res D}{k:Nat}(h0:e τ=.ok (nF ps f))(hg:g τ=.ok (.int k))(hh:h τ=.ok (.int j))(hk:k<ps.length)(hj:j<ps.length)(hn:k≠j):af bG (af bG (af bG e (eC (.int 1))) (eA d7 (ae g (ae h ah)))) (eA eF (ae g (ae h ah))) τ=.ok (.int (cc f k j)):=by
 unfold cc;refine yh h0 ?_ ?_ (by omega) (by omega)
 ·rw[di (aF hg (br hh))];show Res.ok (D.int (if (j:Int)>k then (j:Int) else k))=_;by_cases h:j<k
  ·rw[MP (by omega),Pz (by omega)]
  ·rw[MO (by omega),Qf (by omega)]
 ·rw[di (aF hg (br hh))];show Res.ok (D.int (if (j:Int)<k then (j:Int) else k))=_;by_cases h:j<k
  ·rw[MO (by omega),Pk (by omega)]
  ·rw[MP (by omega),Py (by omega)]
def gk (ps:List Int)(f:Nat->Nat->Int)(l:List Nat)(a b c:Option D):SD:=[some (nF ps f),some (.lst .aq ((ni l).map .int)),a,b,c]
def lk (f:Nat->Nat->Int)(k l0:Nat)(l:List Nat):List Nat:=l.filter λ j=>decide (cc f k j=cc f k l0)
def un (f:Nat->Nat->Int)(k l0:Nat)(l:List Nat):List Nat:=l.filter λ j=>!decide (cc f k j=cc f k l0)
abbrev aZ (l:List Nat):D:=.lst .aq ((ni l).map .int)
abbrev jS (l:List Nat):D:=.lst .own ((ni l).map .int)
def fC(h:τ[i]?=some (some (aZ l))):aa i τ=.ok (aZ l):=cL h (ai _)
def uT(h:τ[i]?=some (some (aZ l))):eY (aa i) τ=.ok (false,l.map λ i:Nat=>D.int (i:Int)):=by
 rw[<-kU];exact yg h (ai _)
def FZ {l0 k:Nat}{lr:List Nat}(hp:ps.length<=24)(g:Gs ps.length (l0::lr))(hk:k<ps.length)(b c:Option D) :
  (∃ b' c',g_Lsplit_b5 (gk ps f (l0::lr) (some (.int k)) b c)=.nx (gk ps f (l0::lr) (some (.int k)) b' c')/\(k∉l0::lr->∀ j∈l0::lr,cc f k j=cc f k l0)) ∨
  (k∉l0::lr/\un f k l0 (l0::lr)≠[]/\g_Lsplit_b5 (gk ps f (l0::lr) (some (.int k)) b c)=.rt (.lst .own [aZ (lk f k l0 (l0::lr)),jS (un f k l0 (l0::lr))])):=by
 have glen:=g.len;have v1:∀ b c,aa 1 (gk ps f (l0::lr) (some (.int k)) b c)=.ok (aZ (l0::lr)):=λ b c=>fC rfl;have t:=n9 (f:=aa 2) (g:=aa 1) (τ:=gk ps f (l0::lr) (some (.int k)) b c) (x:=(k:Int)) (qs:=ni (l0::lr)) rfl (v1 b c);rw[Qh.mpr Dv]at t;by_cases hn:k∈l0::lr
 ·rw[Nc hn]at t;unfold g_Lsplit_b5;rw[lK t];exact .inl ⟨b,c,rfl,λ z=>absurd hn z⟩
 ·rw[M6 hn]at t;have h0n:k≠l0:=λ z=>hn (z▸MD);have x0:af bG (aa 1) (eC (.int 0)) (gk ps f (l0::lr) (some (.int k)) b c)=.ok (.int l0):=f7 (v1 b c) (y:=.int 0) rfl (my (j:=0) rfl rfl);have s3:=yl (f:=f) (e:=aa 0) (g:=aa 2) (h:=af bG (aa 1) (eC (.int 0))) (τ:=gk ps f (l0::lr) (some (.int k)) b c) (k:=k) (j:=l0) (gO rfl) rfl x0 hk (g.lt l0 MD) h0n;have s4:aR (eY (aa 1)) (gN 0) g_Lsplit_c3 g_Lsplit_e4 1 [("_law_net_here",0),("_law_k",2),("_law_shade_here",3)] (gk ps f (l0::lr) (some (.int k)) (some (.int (cc f k l0))) c)=.ok (jS (lk f k l0 (l0::lr))):=by
   rw[lB (tt:=g_Lsplit_c3) (elt:=g_Lsplit_e4) (λ i:Nat=>D.int (i:Int)) (λ j=>decide (cc f k j=cc f k l0)) (λ i:Nat=>D.int (i:Int)) (uT rfl) (λ _ _=>rfl) (λ j hj=>by
    show g_Lsplit_c3 [some (.int j),some (nF ps f).aq,some (.int k),some (.int (cc f k l0))]=_;rw[bb _ (aL _ _)];have c:=yl (f:=f) (e:=aa 1) (g:=aa 2) (h:=aa 0) (τ:=[some (.int j),some (nF ps f),some (.int k),some (.int (cc f k l0))]) (k:=k) (j:=j) (cB rfl (aL _ _)) rfl rfl hk (g.lt j hj) (λ z=>hn (z▸hj));exact gW c rfl) (λ _ _ _=>⟨rfl,rfl⟩) (by omega)]
   unfold jS lk;rw[kU]
  have red:g_Lsplit_b5 (gk ps f (l0::lr) (some (.int k)) b c)=dS (eT (af Jd (eA c5 (ae (aa 4) ah)) (eA c5 (ae (aa 1) ah)))) (fR [4] (bu (eA dm (ae (aa 4) (ae (aR (eY (aa 1)) (gN 0) g_Lsplit_c1 g_Lsplit_e2 1 [("_law_like_here",4)]) ah))))) aV (gk ps f (l0::lr) (some (.int k)) (some (.int (cc f k l0))) (some (jS (lk f k l0 (l0::lr))))):=by
   unfold g_Lsplit_b5;rw[rL t,aH (a8 s3 rfl)];show aE _ _ (gk ps f (l0::lr) (some (.int k)) (some (.int (cc f k l0))) c)=_;rw[aH (a8 s4 (fm (ai _)))];rfl
  rw[red];have l4:=iG (lh (i:=4) (τ:=gk ps f (l0::lr) (some (.int k)) (some (.int (cc f k l0))) (some (jS (lk f k l0 (l0::lr))))) (xs:=(ni (lk f k l0 (l0::lr))).map .int) rfl (ai _));have l1:=iG (v1 (some (.int (cc f k l0))) (some (jS (lk f k l0 (l0::lr)))));have lt:=C7 l4 l1;rw[MC,uP,MC,uP]at lt;have pm:=(lE (λ j=>decide (cc f k j=cc f k l0)) (l0::lr)).length_eq;rw[MY]at pm;have pm':(lk f k l0 (l0::lr)).length+(un f k l0 (l0::lr)).length=(l0::lr).length:=pm;by_cases hu:un f k l0 (l0::lr)=[]
  ·rw[hu,NW]at pm';rw[M6 (by omega)]at lt;rw[lK lt];refine .inl ⟨_,_,rfl,λ _ j hj=>?_⟩;have h:=List.filter_eq_nil_iff.mp hu j hj;have:decide (cc f k j=cc f k l0)=true:=by
    cases q:decide (cc f k j=cc f k l0) with
    |true=>rfl
    | false =>
     rw[q]at h;exact absurd rfl h
   exact PU this
  ·have:=N4.mpr hu;rw[Nc (by omega)]at lt;rw[rL lt];refine .inr ⟨hn,hu,?_⟩;have fz:fR [4] (bu (eA dm (ae (aa 4) (ae (aR (eY (aa 1)) (gN 0) g_Lsplit_c1 g_Lsplit_e2 1 [("_law_like_here",4)]) ah)))) (gk ps f (l0::lr) (some (.int k)) (some (.int (cc f k l0))) (some (jS (lk f k l0 (l0::lr)))))=bu (eA dm (ae (aa 4) (ae (aR (eY (aa 1)) (gN 0) g_Lsplit_c1 g_Lsplit_e2 1 [("_law_like_here",4)]) ah))) (gk ps f (l0::lr) (some (.int k)) (some (.int (cc f k l0))) (some (aZ (lk f k l0 (l0::lr))))):=by
    unfold fR;show bu _ [some (nF ps f),some (aZ (l0::lr)),some (.int k),some (.int (cc f k l0)),some (D.lst .aq (aD ((ni (lk f k l0 (l0::lr))).map .int)))]=_;rw[aN];rfl
   rw[fz];have cm:aR (eY (aa 1)) (gN 0) g_Lsplit_c1 g_Lsplit_e2 1 [("_law_like_here",4)] (gk ps f (l0::lr) (some (.int k)) (some (.int (cc f k l0))) (some (aZ (lk f k l0 (l0::lr)))))=.ok (jS (un f k l0 (l0::lr))):=by
    rw[lB (tt:=g_Lsplit_c1) (elt:=g_Lsplit_e2) (λ i:Nat=>D.int (i:Int)) (λ j=>!decide (cc f k j=cc f k l0)) (λ i:Nat=>D.int (i:Int)) (uT rfl) (λ _ _=>rfl) (λ j hj=>by
     show g_Lsplit_c1 [some (.int j),some (D.lst .aq (aD ((ni (lk f k l0 (l0::lr))).map .int)))]=_;rw[aN];have c:=n9 (f:=aa 0) (g:=aa 1) (τ:=[some (.int j),some (aZ (lk f k l0 (l0::lr)))]) (x:=(j:Int)) (qs:=ni (lk f k l0 (l0::lr))) rfl (fC rfl);have e:decide ((j:Int)∈ni (lk f k l0 (l0::lr)))=decide (cc f k j=cc f k l0):=by
      rw[Qh,Dv];unfold lk;rw[N7,NR];exact⟨λ z=>z.2,λ z=>⟨hj,z⟩⟩
     rw[e]at c;exact c) (λ _ _ _=>⟨rfl,rfl⟩) (by omega)]
    unfold jS un;rw[kU]
   refine c9 ((di (aF (fC rfl) (br cm))).trans rfl) ?_;show(false||((aZ (lk f k l0 (l0::lr))).aA||((jS (un f k l0 (l0::lr))).aA||false)))=false;rw[fm (ai _),show(aZ (lk f k l0 (l0::lr))).aA=false from by show(false||av ((ni (lk f k l0 (l0::lr))).map D.int))=false;rw[iB];rfl];rfl
def zO {l0:Nat}{lr:List Nat}(hp:ps.length<=24)(g:Gs ps.length (l0::lr)):∀ (r:List Nat) (a b c:Option D),(∀ x∈r,x<ps.length) ->
  (∃ a' b' c',cD (gN 2) g_Lsplit_b5 (r.map λ i:Nat=>D.int (i:Int)) (gk ps f (l0::lr) a b c)=.nx (gk ps f (l0::lr) a' b' c')/\∀ k∈r,k∉l0::lr->∀ j∈l0::lr,cc f k j=cc f k l0) ∨
  ∃ k:Nat,k<ps.length/\k∉l0::lr/\un f k l0 (l0::lr)≠[]/\cD (gN 2) g_Lsplit_b5 (r.map λ i:Nat=>D.int (i:Int)) (gk ps f (l0::lr) a b c)=.rt (.lst .own [aZ (lk f k l0 (l0::lr)),jS (un f k l0 (l0::lr))])
 |[],a,b,c,_=>.inl ⟨a,b,c,rfl,λ k hk=>absurd hk NQ⟩
 | k::r,a,b,c,h=>by
  have hk:=h k MD;rcases FZ (f:=f) hp g hk b c with ⟨b',c',e,q⟩|⟨hn,hu,e⟩
  ·have go:cD (gN 2) g_Lsplit_b5 ((k::r).map λ i:Nat=>D.int (i:Int)) (gk ps f (l0::lr) a b c)=cD (gN 2) g_Lsplit_b5 (r.map λ i:Nat=>D.int (i:Int)) (gk ps f (l0::lr) (some (.int k)) b' c'):=jP (τ':=gk ps f (l0::lr) (some (.int k)) b c) rfl e;rw[go];rcases zO hp g r (some (.int k)) b' c' (λ x hx=>h x (ME _ hx)) with ⟨a',b'',c'',e1,e2⟩|q'
   ·refine .inl ⟨a',b'',c'',e1,λ x hx=>?_⟩;rcases MK.mp hx with rfl|hx
    ·exact q
    ·exact e2 x hx
   ·exact .inr q'
  ·exact .inr ⟨k,hk,hn,hu,uM (τ':=gk ps f (l0::lr) (some (.int k)) b c) rfl e⟩
def DS (hp:ps.length<=24)(g:Gs ps.length l) :
  (G_Lsplit [nF ps f,aZ l]=.ok (.lst .own [aZ l])/\PG.jR (cc f) ps.length l) ∨
  ∃ a b:List Nat,a≠[]/\b≠[]/\a.Pairwise (· < ·)/\b.Pairwise (· < ·)/\(a++b).Perm l/\G_Lsplit [nF ps f,aZ l]=.ok (.lst .own [aZ a,jS b]):=by
 obtain⟨l0,lr,rfl⟩:=j5 g.ne;have hr:aX (ae (eA c5 (ae (af bG (aa 0) (eC (.int 0))) ah)) ah) (gk ps f (l0::lr) none none none)=.ok (false,(List.range ps.length).map λ i:Nat=>D.int (i:Int)):=by
  unfold aX;rw[br (zD rfl),Res.aG,dH (by omega)]
 have hf:bT [] (aX (ae (eA c5 (ae (af bG (aa 0) (eC (.int 0))) ah)) ah)) (gN 2) g_Lsplit_b5 (gk ps f (l0::lr) none none none)=cD (gN 2) g_Lsplit_b5 ((List.range ps.length).map λ i:Nat=>D.int (i:Int)) (gk ps f (l0::lr) none none none):=
  jQ rfl hr (bP λ d m=>by obtain⟨x,_,rfl⟩:=MM.mp m;rfl)
 rcases zO (f:=f) hp g (List.range ps.length) none none none (λ x hx=>M3.mp hx) with ⟨a',b',c',e1,e2⟩|⟨k,h1,h2,h3,e⟩
 ·refine .inl ⟨?_,tq λ k hk hn j hj=>e2 k (M3.mpr hk) hn j (ME _ hj)⟩;refine bZ (τ:=gk ps f (l0::lr) none none none) rfl rfl ?_;unfold g_Lsplit;rw[aH (hf.trans e1)];refine c9 ((di (br (fC rfl))).trans rfl) ?_;show(false||((false||av ((ni (l0::lr)).map D.int))||false))=false;rw[iB];rfl
 ·refine .inr ⟨lk f k l0 (l0::lr),un f k l0 (l0::lr),λ z=>?_,h3,g.up.sublist Pr,g.up.sublist Pr,lE _ _,?_⟩
  ·have:l0∈lk f k l0 (l0::lr):=N7.mpr ⟨MD,Nc rfl⟩;rw[z]at this;cases this
  ·refine bZ (τ:=gk ps f (l0::lr) none none none) rfl rfl ?_;unfold g_Lsplit;exact yb (hf.trans e)
end
def F0{ys:List D}{t:Tg}(h:τ[i]?=some (some (.lst .own xs)))(hf:g τ=.ok (.lst t ys))(h1:av ys=false)(h2:bz ys=false)(hl:xs.length+ys.length<=16777216):oN i g τ=.nx (τ.set i (some (.lst .own (xs++ys)))):=by
 have e:dI τ i=some xs:=by unfold dI;rw[h]
 unfold oN;rw[e];simp only;rw[hf,iQ];unfold CF;simp only;rw[MO ⟨h1,h2,hl⟩]
def GF (l:List Nat):(aZ l).aA=false:=by
 show(false||av ((ni l).map D.int))=false;rw[iB];rfl
def Jj (l:List Nat):(jS l).aA=false:=fm (ai _)
def Mi (l:List Nat):(aZ l).bX=false:=by
 show(false||bz ((ni l).map D.int))=false;rw[Cn];rfl
def KC (l:List Nat):(aZ l).aq=aZ l:=by
 show D.lst .aq (aD ((ni l).map .int))=_;rw[aN]
def LV (l:List Nat):(jS l).aq=aZ l:=by
 show D.lst .aq (aD ((ni l).map .int))=_;rw[aN]
def LX (l:List Nat):(aZ l).view=aZ l:=by
 show D.lst .aq (aS ((ni l).map .int))=_;rw[bO _ (ai _)]
def A7:∀ P:List (List Nat),aS (P.map aZ)=P.map aZ:=λ P=>by
 rw[jj,M1];exact M5 λ l _=>LX l
def DU (P:List (List Nat)):aD (P.map aZ)=P.map aZ:=by
 rw[gn,M1];exact M5 λ l _=>KC l
def LW (P:List (List Nat)):aD (P.map jS)=P.map aZ:=by
 rw[gn,M1];exact M5 λ l _=>LV l
def wF:∀ P:List (List Nat),av (P.map aZ)=false
 |[]=>rfl
 | l::P=>by
  show((aZ l).aA||av (P.map aZ))=false;rw[GF,wF P];rfl
def F2:∀ P:List (List Nat),av (P.map jS)=false
 |[]=>rfl
 | l::P=>by
  show((jS l).aA||av (P.map jS))=false;rw[Jj,F2 P];rfl
def GD(h:τ[i]?=some (some (.lst .aq (P.map aZ)))):eY (aa i) τ=.ok (false,P.map aZ):=by
 unfold eY aa;rw[h];show(Res.ok (D.lst .aq (aS (P.map aZ)))).bind bx=_;rw[A7,Res.aG];show Res.ok ((false||av (P.map aZ)),P.map aZ)=_;rw[wF];rfl
section
def ik (ps:List Int)(f:Nat->Nat->Int)(Z W T:List (List Nat))(a b:Option D):SD:=[some (nF ps f),some (.lst .aq (Z.map aZ)),some (.lst .own (T.map aZ)),some (.lst .own (W.map aZ)),a,b]
def F1 (hp:ps.length<=24){Z W:List (List Nat)}(G:PG.Rf (cc f) ps.length (W++[l]) T)(a b:Option D) :
  ∃ W2 T2 a2 b2,PG.Rf (cc f) ps.length W2 T2/\PG.todo W2<PG.todo (W++[l])/\g_Lrefined_b2 (ik ps f Z (W++[l]) T a b)=.nx (ik ps f Z W2 T2 a2 b2):=by
 have ml:l∈(W++[l])++T:=by simp
 have g:Gs ps.length l:=⟨G.ne l ml,G.up l ml,G.lt ml⟩;have gl:=G.len;rw[MY,N5]at gl;have ne1:∀ x∈W++[l],x≠[]:=λ x m=>G.ne x (MW _ m);have e1:sG 4 3 (ik ps f Z (W++[l]) T a b)=.nx (ik ps f Z W T (some (aZ l)) b):=by
  rw[FN (xs:=W.map aZ) (d:=aZ l) (show(ik ps f Z (W++[l]) T a b)[3]?=_ by show some (some (D.lst .own ((W++[l]).map aZ)))=_;rw[M7];rfl) (by decide)];rfl
 have call:∀ d,G_Lsplit [nF ps f,aZ l]=.ok d->az G_Lsplit (ae (aa 0) (ae (aa 4) ah)) (ik ps f Z W T (some (aZ l)) b)=.ok d:=λ d hG=>by
  refine cN (ds:=[nF ps f,aZ l]) (aF (gO rfl) (br (fC rfl))) ?_ ?_
  ·show G_Lsplit [(nF ps f).aq,(aZ l).aq]=_;rw[bb _ (aL _ _),KC];exact hG
  ·show((nF ps f).aA||((aZ l).aA||false))=false;rw[aP _ (aL _ _),GF];rfl
 unfold g_Lrefined_b2;rcases DS (f:=f) hp g with ⟨e,cl⟩|⟨x,y,hx,hy,ux,uy,pm,e⟩
 ·refine⟨W,T++[l],some (aZ l),some (.lst .own [aZ l]),G.told cl,PG.tu ne1,?_⟩;rw[aH e1,aH (a8 (call _ e) (by show(false||((aZ l).aA||false))=false;rw[GF];rfl))];show dS _ _ _ (ik ps f Z W T (some (aZ l)) (some (.lst .own [aZ l])))=_;have v5:aa 5 (ik ps f Z W T (some (aZ l)) (some (.lst .own [aZ l])))=.ok (.lst .bor (aS [aZ l])):=rfl;rw[rL ((gW (iG v5) (g:=eC (.int 1)) (b:=1) rfl).trans rfl),uI (xs:=T.map aZ) rfl (fC rfl) (GF l) (by rw[MC];omega)];unfold ik;rw[M7];rfl
 ·refine⟨W++[x,y],T,some (aZ l),some (.lst .aq [aZ x,aZ y]),G.part (P:=[x,y]) (by simpa using pm) (λ z hz=>?_) (λ z hz=>?_),PG.A4 ne1 (by simpa using pm) (by simp) (λ z hz=>?_),?_⟩
  ·rcases MK.mp hz with rfl|hz
   ·exact hx
   ·rw[Nl.mp hz];exact hy
  ·rcases MK.mp hz with rfl|hz
   ·exact ux
   ·rw[Nl.mp hz];exact uy
  ·rcases MK.mp hz with rfl|hz
   ·exact hx
   ·rw[Nl.mp hz];exact hy
  rw[aH e1,aH (a8 (call _ e) (by show(false||((aZ x).aA||((jS y).aA||false)))=false;rw[GF,Jj];rfl))];show dS _ _ _ (ik ps f Z W T (some (aZ l)) (some (.lst .own [aZ x,jS y])))=_;have v5:aa 5 (ik ps f Z W T (some (aZ l)) (some (.lst .own [aZ x,jS y])))=.ok (.lst .bor (aS [aZ x,jS y])):=rfl;rw[lK ((gW (iG v5) (g:=eC (.int 1)) (b:=1) rfl).trans rfl)];have fz:fR [5] (oN 3 (aa 5)) (ik ps f Z W T (some (aZ l)) (some (.lst .own [aZ x,jS y])))=oN 3 (aa 5) (ik ps f Z W T (some (aZ l)) (some (.lst .aq [aZ x,aZ y]))):=by
   unfold fR;show oN 3 (aa 5) [some (nF ps f),some (.lst .aq (Z.map aZ)),some (.lst .own (T.map aZ)),some (.lst .own (W.map aZ)),some (aZ l),some (D.lst .aq [(aZ x).aq,(jS y).aq])]=_;rw[KC,LV];rfl
  rw[fz];have w5:aa 5 (ik ps f Z W T (some (aZ l)) (some (.lst .aq [aZ x,aZ y])))=.ok (.lst .aq [aZ x,aZ y]):=by
   show Res.ok (D.lst .aq [(aZ x).view,(aZ y).view])=_;rw[LX,LX]
  rw[F0 (xs:=W.map aZ) rfl w5 (by show((aZ x).aA||((aZ y).aA||false))=false;rw[GF,GF];rfl) (by show((aZ x).bX||((aZ y).bX||false))=false;rw[Mi,Mi];rfl) (by rw[MC];show W.length+2<=16777216;omega)];unfold ik;rw[M7];rfl
def DT (hp:ps.length<=24){Z:List (List Nat)}:∀ (m:Nat) (W T:List (List Nat)) (a b:Option D),PG.Rf (cc f) ps.length W T->PG.todo W<=m ->
  ∃ T' a' b',PG.Rf (cc f) ps.length [] T'/\cK g_Lrefined_w1 g_Lrefined_b2 (m+1) (ik ps f Z W T a b)=.nx (ik ps f Z [] T' a' b'):=by
 intro m
 induction m with
 | zero =>
  intro W T a b G h;rcases Qa W with rfl|⟨W',l,rfl⟩
  ·exact⟨T,a,b,G,rfl⟩
  ·rw[Qc]at G h;have:=PG.tu (W:=W') (l:=l) λ x m=>G.ne x (MW _ m);omega
 | succ m ih =>
  intro W T a b G h;rcases Qa W with rfl|⟨W',l,rfl⟩
  ·exact⟨T,a,b,G,rfl⟩
  ·rw[Qc]at G h ⊢;obtain⟨W2,T2,a2,b2,G2,t2,e2⟩:=F1 (Z:=Z) hp G a b;obtain⟨T',a',b',G',e'⟩:=ih W2 T2 a2 b2 G2 (by omega);refine⟨T',a',b',G',?_⟩;have c:g_Lrefined_w1 (ik ps f Z (W'++[l]) T a b)=.ok true:=by
    unfold g_Lrefined_w1;have v3:aa 3 (ik ps f Z (W'++[l]) T a b)=.ok (.lst .bor (aS ((W'++[l]).map aZ))):=rfl;rw[yc (iG v3) (g:=eC (.int 0)) (b:=0) rfl,Nc];rw[A7,MC,MY,N5];omega
   rw[cK,c];show(match g_Lrefined_b2 (ik ps f Z (W'++[l]) T a b) with|.nx t=>cK g_Lrefined_w1 g_Lrefined_b2 (m+1) t|.ct t=>cK g_Lrefined_w1 g_Lrefined_b2 (m+1) t|.bk t=>Fl.nx t|o=>o)=_;rw[e2];exact e'
def DV {c:Nat->Nat->Int}(h:PG.Pt c n T)(hi:i<T.length)(hj:j<T.length)(hij:i≠j):∃ a r b q,T[i]=a::r/\T[j]=b::q/\a≠b:=by
 obtain⟨a,r,ea⟩:=j5 (h.ne T[i] (Nu hi));obtain⟨b,q,eb⟩:=j5 (h.ne T[j] (Nu hj));exact⟨a,r,b,q,ea,eb,h.wL hi hj hij (by rw[ea];exact MD) (by rw[eb];exact MD)⟩
def F3 {c:Nat->Nat->Int}(G:PG.Pt c n T)(hT:T.length<64)(h:τ[2]?=some (some (.lst .own (T.map aZ)))) :
  ∃ T',PG.Pt c n T'/\T'.Pairwise (λ a b=>a.headD 0<b.headD 0)/\kJ 2 τ=.rt (.lst .own (T'.map aZ)):=by
 have gd:∀ i,i<T.length->(T.map ni).getD i []=ni (T.getD i []):=λ i hi=>by
  rw[MG,MG,MR,MA hi];rfl
 have ge:∀ i (hi:i<T.length),T.getD i []=T[i]:=λ i hi=>by rw[MG,MA hi];rfl
 have lt_of:∀ i j (hi:i<T.length) (hj:j<T.length),i≠j->∃ a b,(T.getD i []).headD 0=a/\(T.getD j []).headD 0=b/\a≠b/\(SR.vH (T.map ni) i j=true↔a<b):=λ i j hi hj hij=>by
  obtain⟨a,r,b,q,ea,eb,ne⟩:=DV G hi hj hij;refine⟨a,b,by rw[ge i hi,ea];rfl,by rw[ge j hj,eb];rfl,ne,?_⟩;show SR.lexLt ((T.map ni).getD i []) ((T.map ni).getD j [])=true↔_;rw[gd i hi,gd j hj,ge i hi,ge j hj,ea,eb];show SR.lexLt ((a:Int)::ni r) ((b:Int)::ni q)=true↔_;unfold SR.lexLt;rw[MP (by omega),decide_eq_true_iff];omega
 have o:SR.Ord (T.map aZ).length (SR.vH (T.map ni)):=⟨λ i j k h1 h2=>lex_trans _ _ _ h1 h2,λ i j hi hj hij=>by
  rw[MC]at hi hj;obtain⟨a,b,e1,e2,ne,w⟩:=lt_of i j hi hj hij;obtain⟨b',a',e3,e4,ne',w'⟩:=lt_of j i hj hi (NU hij);have q1:b'=b:=e3.symm.trans e2;have q2:a'=a:=e4.symm.trans e1;rcases OR a b with z|z|z
  ·exact .inl (w.mpr z)
  ·exact absurd z ne
  ·exact .inr (w'.mpr (by omega))⟩
 obtain⟨q,qp,qe,qw⟩:=xG D.bJ o;rw[MC]at qp;have qlt:∀ i∈q,i<T.length:=λ i m=>M3.mp (qp.mem_iff.mp m);refine⟨q.map λ i=>T.getD i [],G.zI ?_,?_,?_⟩
 ·refine(qp.map _).trans ?_;have e3:(List.range T.length).map (λ i=>T.getD i [])=T:=by
   refine NY (by simp) λ i h1 h2=>?_;simp;rw[MA h2];rfl
  rw[e3]
 ·rw[OS];have nd:q.Nodup:=qp.nodup_iff.mpr O2;refine(qw.and nd).imp_of_mem λ {i j} mi mj h=>?_;obtain⟨a,b,e1,e2,_,w⟩:=lt_of i j (qlt i mi) (qlt j mj) h.2;rw[e1,e2];exact w.mp h.1
 ·unfold kJ;rw[h];simp only;have e:nq (T.map aZ)=some (T.map ni):=by
   have:=lj (T.map ni) λ _=>.aq;rw[M1]at this;exact this
  rw[e];simp only;rw[MO (by rw[MC];exact hT),qe,M1]
  congr 2
  refine M5 λ i m=>?_;show(T.map aZ).getD i .bJ=aZ (T.getD i []);rw[MG,MR,MA (qlt i m),ge i (qlt i m)];rfl
def uU:∀ P:List (List Nat),(P.filter λ l=>decide (0<l.length)).flatten=P.flatten
 |[]=>rfl
 | l::P=>by
  rw[Pp,NF,<-uU P];cases l with
  |nil=>rfl|cons a r=>rfl
def ym (hp:ps.length<=24){Z:List (List Nat)}(up:∀ l∈Z,l.Pairwise (· < ·))(pm:Z.flatten.Perm (List.range ps.length))(hl:Z.length<=1000) :
  ∃ P,PG.Pt (cc f) ps.length P/\P.Pairwise (λ a b=>a.headD 0<b.headD 0)/\G_Lrefined [nF ps f,.lst .aq (Z.map aZ)]=.ok (.lst .own (P.map aZ)):=by
 have G0:PG.Rf (cc f) ps.length (Z.filter λ l=>decide (0<l.length)) []:=by
  refine⟨λ l m=>?_,λ l m=>?_,?_,λ l m=>absurd m NQ⟩
  ·rw[Nh]at m;have:=PU (N7.mp m).2;exact N4.mp this
  ·rw[Nh]at m;exact up l (N7.mp m).1
  ·rw[Nh,uU];exact pm
 have ht:PG.todo (Z.filter λ l=>decide (0<l.length))<=60:=by
  unfold PG.todo;rw[uU,pm.length_eq,MX];omega
 obtain⟨T,a,b,G,e⟩:=DT (f:=f) (Z:=Z) hp 60 (Z.filter λ l=>decide (0<l.length)) [] none none G0 ht;have gl:=G.fin.len;obtain⟨P,pt,pw,er⟩:=F3 G.fin (by omega) (τ:=ik ps f Z [] T a b) rfl;refine⟨P,pt,pw,?_⟩;refine bZ (τ:=[some (nF ps f),some (.lst .aq (Z.map aZ)),none,none,none,none]) rfl rfl ?_;unfold g_Lrefined;rw[aH (a8 (d:=.lst .own []) rfl rfl)];have cm:aR (eY (aa 1)) (gN 0) g_Lrefined_c3 g_Lrefined_e4 1 [] [some (nF ps f),some (.lst .aq (Z.map aZ)),some (.lst .own []),none,none,none]=.ok (.lst .own ((Z.filter λ l=>decide (0<l.length)).map aZ)):=
  DR (tt:=g_Lrefined_c3) (elt:=g_Lrefined_e4) aZ aZ aZ (λ l=>decide (0<l.length)) (GD rfl) (λ l _=>KC l) (λ l _=>by
   unfold g_Lrefined_c3;rw[yc (iG (fC (l:=l) rfl)) (g:=eC (.int 0)) (b:=0) rfl]
   congr 1
   rw[Qh,MC,uP];omega) (λ l _ _=>⟨fC rfl,GF l⟩) hl
 show aE _ _ [some (nF ps f),some (.lst .aq (Z.map aZ)),some (.lst .own []),none,none,none]=_;rw[aH (a8 cm (by show(false||av _)=false;rw[wF];rfl))];show aE _ _ (ik ps f Z (Z.filter λ l=>decide (0<l.length)) [] none none)=_;have w:nR g_Lrefined_w1 g_Lrefined_b2 (ik ps f Z (Z.filter λ l=>decide (0<l.length)) [] none none)=.nx (ik ps f Z [] T a b):=by
  rw[Aq (n:=61) (by rw[e];exact Fl.noConfusion),e]
 rw[aH w];exact er
end
def yn(h1:a τ=.ok (.int x))(h2:b τ=.ok (.int y))(h:jU x y):af o9 a b τ=.ok (.int (x*y)):=by
 rw[bH h1 h2];show(if jU x y then Res.ok (D.int (x*y)) else .bad)=_;rw[MO h]
def wG(h1:a τ=.ok (.int x))(h2:b τ=.ok (.int y))(h:0<y/\y<1073741824):af cV a b τ=.ok (.int (x/y)):=by
 rw[bH h1 h2];show(if (0:Int)<y/\y<1073741824 then _ else _)=_;exact MO h
abbrev km (t:Tg)(l:List Nat):D:=.lst t ((ni l).map .int)
section
def rN (ps:List Int)(f:Nat->Nat->Int)(N:Int)(a b:Option D):SD:=[some (nF ps f),some (.int N),some (.int ps.length),some (.int (N/6)),a,b]
def DW {N:Int}{a b:Option D}(hp:ps.length<=24):aX (ae (aa 2) ah) (rN ps f N a b)=.ok (false,(List.range ps.length).map λ i:Nat=>D.int (i:Int)):=by
 unfold aX;rw[br (d:=.int ps.length) rfl,Res.aG,dH (by omega)]
def zR (n W:Nat)(R:Int):List (List Nat):=(List.range W).map λ j:Nat=>(List.range n).filter λ k:Nat=>decide (R/(1+(k:Int)*k)%(W:Int)=(j:Int))
def F4 (n:Nat){W:Nat}(R:Int)(hW:0<W):(zR n W R).flatten.Perm (List.range n):=by
 have h:=PG.nI (λ k=>R/(1+(k:Int)*k)%(W:Int)) ((List.range W).map λ j:Nat=>(j:Int)) (List.range n) (List.Pairwise.map (λ j:Nat=>(j:Int)) (λ a b (h:a≠b) (z:(a:Int)=(b:Int))=>h (by omega)) O2) λ m _=>by
  have h1:=N9 (R/(1+(m:Int)*m)) (by omega:(W:Int)≠0);have h2:=QE (R/(1+(m:Int)*m)) (by omega:(0:Int)<W);exact MM.mpr ⟨(R/(1+(m:Int)*m)%(W:Int)).toNat,M3.mpr (by omega),by omega⟩
 rw[M1]at h;exact h
def DX (hp:ps.length<=24)(h1:1<=ps.length)(N:Int):∃ (t:Tg) (P:List (List Nat)),(t=.aq\/t=.own)/\PG.Pt (cc f) ps.length P/\P.Pairwise (λ a b=>a.headD 0<b.headD 0)/\G_Lparts [nF ps f,.int N]=.ok (.lst .own (P.map (km t))):=by
 have go:∀ {t:Tg}{P:List (List Nat)},(t=.aq\/t=.own)->PG.Pt (cc f) ps.length P->P.Pairwise (λ a b=>a.headD 0<b.headD 0)->g_Lparts [some (nF ps f),some (.int N),none,none,none,none]=.rt (.lst .own (P.map (km t)))->∃ (t:Tg) (P:List (List Nat)),(t=.aq\/t=.own)/\PG.Pt (cc f) ps.length P/\P.Pairwise (λ a b=>a.headD 0<b.headD 0)/\G_Lparts [nF ps f,.int N]=.ok (.lst .own (P.map (km t))):=λ ht g pw e=>⟨_,_,ht,g,pw,bZ rfl rfl e⟩;have way:∀ (w:Int),eT (af iI (af cP (aa 1) (eC (.int 6))) (eC (.int w))) (rN ps f N none none)=.ok (decide (N%6=w)):=λ w=>gW (iH (a:=N) rfl (by decide)) rfl;have head:g_Lparts [some (nF ps f),some (.int N),none,none,none,none]=(aE (dS (eT (af iI (af cP (aa 1) (eC (.int 6))) (eC (.int 0)))) (bu (aR (aX (ae (aa 2) ah)) (gN 0) bw g_Lparts_e5 1 [])) aV) (aE (dS (eT (af iI (af cP (aa 1) (eC (.int 6))) (eC (.int 1)))) (bu (eA dm (ae (aR (aX (ae (aa 2) ah)) (gN 0) bw g_Lparts_e4 1 []) ah))) aV) (aE (bq 4 (af bQ (eC (.int 2)) (af cP (aa 1) (eC (.int 2))))) (aE (bq 5 (aR (aX (ae (aa 4) ah)) (gN 0) bw g_Lparts_e3 1 [("_law_many_here",2),("_law_rest",3),("_law_ways",4)])) (fR [5] (bu (az G_Lrefined (ae (aa 0) (ae (aa 5) ah))))))))) (rN ps f N none none):=by
  unfold g_Lparts;rw[aH (a8 (zD rfl) rfl),aH (a8 (d:=.int (N/6)) (jO rfl ⟨by decide,by decide⟩) rfl)];rfl
 by_cases w0:N%6=0
 ·refine go (t:=.own) (.inr rfl) (PG.Pt.single (cc f) ps.length) ?_ ?_
  ·rw[OS];exact List.pairwise_lt_range.imp λ h=>h
  ·rw[head];have t:=way 0;rw[Nc w0]at t;refine sV t (c9 ?_ ?_)
   ·rw[jx (elt:=g_Lparts_e5) (cap:=[]) (λ i:Nat=>D.int (i:Int)) (λ i:Nat=>D.int (i:Int)) (λ i=>jS [i]) (DW hp) (λ _ _=>rfl) (λ i _=>⟨rfl,Jj _,jw (ai _)⟩) (by rw[MX];omega),M1];rfl
   ·rw[M1];show(false||av ((List.range ps.length).map λ i=>jS [i]))=false;have:=F2 ((List.range ps.length).map λ i=>[i]);rw[M1]at this;rw[show(List.range ps.length).map (λ i=>jS [i])=(List.range ps.length).map (jS∘λ i=>[i]) from rfl,this];rfl
 have t0:=way 0;rw[M6 w0]at t0;rw[c8 t0]at head;by_cases w1:N%6=1
 ·refine go (t:=.own) (.inr rfl) (PG.Pt.whole (cc f) h1) (PK _ _) ?_;rw[head];have t:=way 1;rw[Nc w1]at t;have c:=lC (τ:=rN ps f N none none) (elt:=g_Lparts_e4) (cap:=[]) (λ i:Nat=>D.int (i:Int)) (λ i:Nat=>D.int (i:Int)) (DW hp) (λ _ _=>rfl) (λ _ _=>⟨rfl,rfl⟩) (by rw[MX];omega);rw[<-kU]at c;exact sV t (c9 ((di (br c)).trans rfl) (by show(false||((jS (List.range ps.length)).aA||false))=false;rw[Jj];rfl))
 have t1:=way 1;rw[M6 w1]at t1;rw[c8 t1]at head;obtain⟨W,hW,hW3⟩:∃ W:Nat,(W:Int)=2+N%2/\W<=3:=⟨(2+N%2).toNat,by omega,by omega⟩;have s4:af bQ (eC (.int 2)) (af cP (aa 1) (eC (.int 2))) (rN ps f N none none)=.ok (.int W):=by
  rw[jb (a:=2) rfl (iH (a:=N) rfl (by decide)),hW]
 rw[aH (a8 s4 rfl)]at head;have head2:g_Lparts [some (nF ps f),some (.int N),none,none,none,none]=(aE (bq 5 (aR (aX (ae (aa 4) ah)) (gN 0) bw g_Lparts_e3 1 [("_law_many_here",2),("_law_rest",3),("_law_ways",4)])) (fR [5] (bu (az G_Lrefined (ae (aa 0) (ae (aa 5) ah)))))) (rN ps f N (some (.int W)) none):=head;have s5:aR (aX (ae (aa 4) ah)) (gN 0) bw g_Lparts_e3 1 [("_law_many_here",2),("_law_rest",3),("_law_ways",4)] (rN ps f N (some (.int W)) none)=.ok (.lst .own ((zR ps.length W (N/6)).map jS)):=by
  have hr:aX (ae (aa 4) ah) (rN ps f N (some (.int W)) none)=.ok (false,(List.range W).map λ i:Nat=>D.int (i:Int)):=by
   unfold aX;rw[br (d:=.int W) rfl,Res.aG,dH (by omega)]
  rw[jx (elt:=g_Lparts_e3) (cap:=[("_law_many_here",2),("_law_rest",3),("_law_ways",4)]) (λ i:Nat=>D.int (i:Int)) (λ i:Nat=>D.int (i:Int)) (λ j:Nat=>jS ((List.range ps.length).filter λ k:Nat=>decide (N/6/(1+(k:Int)*k)%(W:Int)=(j:Int)))) hr (λ _ _=>rfl) (λ j hj=>⟨?_,Jj _,jw (ai _)⟩) (by rw[MX];omega)]
  ·unfold zR;rw[M1];rfl
  ·show g_Lparts_e3 [some (.int j),some (.int ps.length),some (.int (N/6)),some (.int W)]=_;unfold g_Lparts_e3;have hr2:aX (ae (aa 1) ah) [some (.int j),some (.int ps.length),some (.int (N/6)),some (.int W)]=.ok (false,(List.range ps.length).map λ i:Nat=>D.int (i:Int)):=by
    unfold aX;rw[br (d:=.int ps.length) rfl,Res.aG,dH (by omega)]
   rw[lB (tt:=g_Lparts_c1) (elt:=g_Lparts_e2) (λ i:Nat=>D.int (i:Int)) (λ k:Nat=>decide (N/6/(1+(k:Int)*k)%(W:Int)=(j:Int))) (λ i:Nat=>D.int (i:Int)) hr2 (λ _ _=>rfl) (λ k hk=>by
    show g_Lparts_c1 [some (.int k),some (.int (N/6)),some (.int W),some (.int j)]=_;unfold g_Lparts_c1;have hk24:k<24:=by have:=M3.mp hk;omega
    have hkk:0<=(k:Int)*k/\(k:Int)*k<=24*24:=by
     constructor
     ·exact Int.mul_nonneg (by omega) (by omega)
     ·exact Int.mul_le_mul (by omega) (by omega) (by omega) (by omega)
    have m:=yn (a:=aa 0) (b:=aa 0) (τ:=[some (.int k),some (.int (N/6)),some (.int W),some (.int j)]) (x:=(k:Int)) (y:=(k:Int)) rfl rfl (mul_r (by omega));exact gW (FF (wG (x:=N/6) rfl (jb (a:=1) rfl m) (by omega)) (y:=(W:Int)) rfl (by omega)) rfl) (λ _ _ _=>⟨rfl,rfl⟩) (by rw[MX];omega)]
   unfold jS;rw[kU]
 rw[aH (a8 s5 (by show(false||av _)=false;rw[F2];rfl))]at head2;obtain⟨P,pt,pw,eR⟩:=ym (f:=f) hp (Z:=zR ps.length W (N/6)) (λ l m=>by
  obtain⟨j,_,rfl⟩:=MM.mp m;exact List.pairwise_lt_range.sublist Pr) (F4 ps.length (N/6) (by omega)) (by unfold zR;rw[MC,MX];omega)
 refine go (t:=.aq) (.inl rfl) pt pw ?_;rw[head2];have fz:fR [5] (bu (az G_Lrefined (ae (aa 0) (ae (aa 5) ah)))) (rN ps f N (some (.int W)) (some (.lst .own ((zR ps.length W (N/6)).map jS))))=bu (az G_Lrefined (ae (aa 0) (ae (aa 5) ah))) (rN ps f N (some (.int W)) (some (.lst .aq ((zR ps.length W (N/6)).map aZ)))):=by
  unfold fR;show bu _ [some (nF ps f),some (.int N),some (.int ps.length),some (.int (N/6)),some (.int W),some (D.lst .aq (aD ((zR ps.length W (N/6)).map jS)))]=_;rw[LW];rfl
 refine fz.trans (c9 (cN (ds:=[nF ps f,.lst .aq ((zR ps.length W (N/6)).map aZ)]) (aF (gO rfl) (br ?_)) ?_ ?_) ?_)
 ·show Res.ok (D.lst .aq (aS ((zR ps.length W (N/6)).map aZ)))=_;rw[A7]
 ·show G_Lrefined [(nF ps f).aq,.lst .aq (aD ((zR ps.length W (N/6)).map aZ))]=_;rw[bb _ (aL _ _),DU];exact eR
 ·show((nF ps f).aA||((false||av ((zR ps.length W (N/6)).map aZ))||false))=false;rw[aP _ (aL _ _),wF];rfl
 ·show(false||av (P.map aZ))=false;rw[wF];rfl
end
section
def oz (ps:List Int)(f:Nat->Nat->Int)(P:List (List Nat))(rows:List (List Int))(t:Tg)(a b:Option D):SD:=[some (nF ps f),some (.lst .aq (P.map aZ)),some (.lst .own (rows.map λ r=>.tup (r.map .int))),some (km t (P.map (·.headD 0))),a,b]
def uV(h:(bD xs)[j]?=some d):∃ x,xs[j]?=some x/\d=.tup [.int j,x]:=by
 unfold bD at h;rw[List.getElem?_mapIdx]at h;cases e:xs[j]? with
 |none=>rw[e]at h;cases h
 | some x =>
  rw[e]at h;injection h with h
  exact⟨x,rfl,h.symm⟩
def wH (xs:List D):(bD xs).length=xs.length:=PJ
def KD(h:((ni H).map D.int)[j]?=some d):j<H.length/\d=.int ((H.getD j 0:Nat):Int):=by
 rw[kU,MR]at h;cases e:H[j]? with
 |none=>rw[e]at h;cases h
 | some x =>
  rw[e]at h;injection h with h
  have hj:=(MF.mp e).1;refine⟨hj,?_⟩;rw[MG,e];exact h.symm
def wI (hp:ps.length<=24)(pt:PG.Pt (cc f) ps.length P)(pw:P.Pairwise (λ a b=>a.headD 0<b.headD 0)):G_Lquotient [nF ps f,.lst .aq (P.map aZ)]=.ok (nF (pp ps (P.map (·.headD 0))) (fH f (P.map (·.headD 0)))):=by
 have pl:=pt.len;obtain⟨H,hH⟩:∃ H,H=P.map (·.headD 0):=⟨_,rfl⟩;have hl:H.length=P.length:=by rw[hH,MC]
 have hup:H.Pairwise (· < ·):=by rw[hH,OS];exact pw
 have hlt:∀ x∈H,x<ps.length:=λ x hx=>by
  rw[hH]at hx;obtain⟨l,ml,rfl⟩:=MM.mp hx;obtain⟨a,r,e⟩:=j5 (pt.ne l ml);exact pt.lt ml _ (by rw[e];exact MD)
 rw[<-hH];refine bZ (τ:=[some (nF ps f),some (.lst .aq (P.map aZ)),none,none,none,none]) rfl rfl ?_;unfold g_Lquotient;rw[aH (a8 (d:=.lst .own []) rfl rfl)];have cm:aR (eY (aa 1)) (gN 0) bw g_Lquotient_e4 1 [] [some (nF ps f),some (.lst .aq (P.map aZ)),some (.lst .own []),none,none,none]=.ok (jS H):=by
  rw[jx (elt:=g_Lquotient_e4) (cap:=[]) aZ aZ (λ l=>D.int ((l.headD 0:Nat):Int)) (GD rfl) (λ l _=>KC l) (λ l ml=>⟨by
   obtain⟨a,r,e⟩:=j5 (pt.ne l ml);subst e;exact f7 (fC rfl) (y:=.int 0) rfl (my (j:=0) rfl rfl),rfl,rfl⟩) (by omega)]
  unfold jS;rw[kU,hH,M1];rfl
 show aE _ _ [some (nF ps f),some (.lst .aq (P.map aZ)),some (.lst .own []),none,none,none]=_;rw[aH (a8 cm (Jj H))];show aE _ _ [some (nF ps f),some (.lst .aq (P.map aZ)),some (.lst .own []),some (jS H),none,none]=_;obtain⟨t,h1,a,b,h2⟩:=eL (tg:=gT 2 (aI 4 (aI 5 bU))) (body:=g_Lquotient_b3) (λ i t=>∃ a b,t=oz ps f P (dC (fH f H) i) .aq a b) (ds:=bD ((ni H).map .int)) 0 (oz ps f P [] .aq none none) ⟨none,none,rfl⟩ (λ k d t hx hp'=>by
  obtain⟨a,b,rfl⟩:=hp';obtain⟨x,hx1,rfl⟩:=uV hx;obtain⟨hk,rfl⟩:=KD hx1;rw[NT];have v3:aa 3 (oz ps f P (dC (fH f H) k) .aq (some (.int k)) (some (.int ((H.getD k 0:Nat):Int))))=.ok (aZ H):=by
   rw[hH];exact fC rfl
  have hi:eY (fN (aa 3) pe (eP (aa 4))) (oz ps f P (dC (fH f H) k) .aq (some (.int k)) (some (.int ((H.getD k 0:Nat):Int))))=.ok (false,(List.range k).map λ j=>D.int ((H.getD j 0:Nat):Int)):=by
   unfold eY fN;rw[v3,Res.aG];show(Res.ok (D.lst .own (DL.cut ((ni H).map D.int) none (some ((k:Nat):Int))))).bind bx=_;rw[xw,kU,Res.aG];have e:(H.map λ i:Nat=>D.int (i:Int)).take k=(List.range k).map λ j=>D.int ((H.getD j 0:Nat):Int):=by
    refine NY (by simp;omega) λ i h1 h2=>?_;simp at h2;simp;rw[MA (by omega)];rfl
   rw[e];exact zx (.inr rfl) (bP λ d m=>by obtain⟨x,_,rfl⟩:=MM.mp m;rfl)
  have ge:∀ i,i<H.length->H.getD i 0<ps.length:=λ i h=>by
   rw[MG,MA h];exact hlt _ (Nu h)
  have ne:∀ j,j<k->H.getD k 0≠H.getD j 0:=λ j hj=>by
   have:=(N3.mp hup) j k (by omega) hk hj;rw[MG,MA hk,MG,MA (show j<H.length by omega)];show H[k]≠H[j];omega
  have c:=lC (τ:=oz ps f P (dC (fH f H) k) .aq (some (.int k)) (some (.int ((H.getD k 0:Nat):Int)))) (elt:=g_Lquotient_e2) (cap:=[("_law_net_here",0),("_law_one",5)]) (λ j=>D.int ((H.getD j 0:Nat):Int)) (λ j=>D.int (fH f H k j)) hi (λ _ _=>rfl) (λ j hj=>⟨by
   have hj:=M3.mp hj;show g_Lquotient_e2 [some (.int ((H.getD j 0:Nat):Int)),some (nF ps f).aq,some (.int ((H.getD k 0:Nat):Int))]=_;rw[bb _ (aL _ _)];exact yl (f:=f) (e:=aa 1) (g:=aa 2) (h:=aa 0) (k:=H.getD k 0) (j:=H.getD j 0) (cB rfl (aL _ _)) rfl rfl (ge k hk) (ge j (by omega)) (ne j hj),rfl⟩) (by rw[MX];omega)
  refine⟨oz ps f P (dC (fH f H) k) .aq (some (.int k)) (some (.int ((H.getD k 0:Nat):Int))),oz ps f P (dC (fH f H) (k+1)) .aq (some (.int k)) (some (.int ((H.getD k 0:Nat):Int))),rfl,.inl ?_,_,_,rfl⟩;unfold g_Lquotient_b3;rw[uI (xs:=(dC (fH f H) k).map λ r=>D.tup (r.map .int)) (d:=.tup ((gX (fH f H) k).map .int)) rfl ((di (br c)).trans (by
   show Res.ok (D.tup ((List.range k).map λ j=>D.int (fH f H k j)))=_;unfold gX;rw[M1];rfl)) (aP _ (ai _)) (by unfold dC;rw[MC,MC,MX];omega)]
  unfold oz dC;rw[PC,M7,M7];rfl)
 rw[wH,MC,uP,NT]at h2;have zi:bW (ae (aa 3) ah) (oz ps f P [] .aq none none)=.ok (false,bD ((ni H).map .int)):=by
  unfold bW;rw[br (d:=aZ H) (by rw[hH];exact fC rfl),Res.aG];show(Res.ok ((false||av ((ni H).map D.int)),(ni H).map D.int)).map _=_;rw[iB];rfl
 have zf:bT [3] (bW (ae (aa 3) ah)) (gT 2 (aI 4 (aI 5 bU))) g_Lquotient_b3 [some (nF ps f),some (.lst .aq (P.map aZ)),some (.lst .own []),some (jS H),none,none]=.nx t:=by
  rw[qV (τ':=oz ps f P [] .aq none none) (by
   show [some (nF ps f),some (.lst .aq (P.map aZ)),some (.lst .own []),some (jS H).aq,none,none]=_;rw[LV,hH];rfl) zi,gf,aN]
  exact h1
 rw[aH zf,h2];have c2:aR (eY (aa 3)) (gN 0) bw g_Lquotient_e1 1 [("_law_net_here",0)] (oz ps f P (dC (fH f H) H.length) .aq a b)=.ok (.lst .own ((pp ps H).map .int)):=by
  have hi:eY (aa 3) (oz ps f P (dC (fH f H) H.length) .aq a b)=.ok (false,H.map λ i:Nat=>D.int (i:Int)):=by
   rw[hH];exact uT rfl
  rw[lC (elt:=g_Lquotient_e1) (cap:=[("_law_net_here",0)]) (λ i:Nat=>D.int (i:Int)) (λ i=>D.int (aJ ps i)) hi (λ _ _=>rfl) (λ i hi=>⟨by
   show g_Lquotient_e1 [some (.int i),some (nF ps f).aq]=_;rw[bb _ (aL _ _)];exact uQ (cB rfl (aL _ _)) rfl (hlt i hi),rfl⟩) (by omega),yf]
 have v2:aa 2 (oz ps f P (dC (fH f H) H.length) .aq a b)=.ok (.lst .bor ((dC (fH f H) H.length).map λ r=>.tup (r.map .int))):=lh rfl (iu _);refine c9 ((di (aF ((di (br c2)).trans rfl) (br ((di (br v2)).trans rfl)))).trans ?_) (aP _ (aL _ _));unfold nF mr;rw[ow];rfl
def jy (ps:List Int)(f:Nat->Nat->Int)(P:List (List Nat))(N:Int)(Q:List (List Int))(a b c:Option D):SD:=[some (nF ps f),some (.lst .aq (P.map aZ)),some (.int N),some (.lst .own (LL .own Q)),a,b,c]
def GG(h:(P.map aZ)[j]?=some d):∃ hj:j<P.length,d=aZ P[j]:=by
 rw[MR]at h;cases e:P[j]? with
 |none=>rw[e]at h;cases h
 | some x =>
  rw[e]at h;injection h with h
  obtain⟨hj,e2⟩:=MF.mp e;exact⟨hj,by rw[e2];exact h.symm⟩
def A8 (hp:ps.length<=24)(pt:PG.Pt (cc f) ps.length P)(N:Int):∃ L:List (List Nat×List Int),(L.map (·.1)).Perm P/\(∀ e∈L,e.2.Perm (pp ps e.1))/\G_Lhanded [nF ps f,.lst .aq (P.map aZ),.int N]=.ok (.lst .own (LL .own (L.map (·.2)))):=by
 have pl:=pt.len;obtain⟨t,h1,L,a,b,c,hL1,hL2,h2⟩:=eL (tg:=gT 2 (aI 4 (aI 5 bU))) (body:=g_Lhanded_b2) (λ i t=>∃ (L:List (List Nat×List Int)) (a b c:Option D),L.map (·.1)=P.take i/\(∀ e∈L,e.2.Perm (pp ps e.1))/\t=jy ps f P N (L.map (·.2)) a b c) (ds:=bD (P.map aZ)) 0 (jy ps f P N [] none none none) ⟨[],none,none,none,rfl,λ e m=>absurd m NQ,rfl⟩ (λ k d t hx hp'=>by
  obtain⟨L,a,b,c,hL1,hL2,rfl⟩:=hp';obtain⟨x,hx1,rfl⟩:=uV hx;obtain⟨hk,rfl⟩:=GG hx1;rw[NT]at hL1 ⊢;have mk:P[k]∈P:=Nu hk;have ll:L.length<=24:=by
   have:=N1 List.length hL1;rw[MC,OD]at this;omega
  have gl:(P[k]).length<=24:=by
   have:=PG.oZ ((pt.up _ mk).imp λ h=>M0 h) (pt.lt mk);omega
  have s6:aR (eY (aa 5)) (gN 0) bw g_Lhanded_e1 1 [("_law_net_here",0)] (jy ps f P N (L.map (·.2)) (some (.int k)) (some (aZ P[k])) c)=.ok (.lst .own ((pp ps P[k]).map .int)):=by
   rw[lC (elt:=g_Lhanded_e1) (cap:=[("_law_net_here",0)]) (λ i:Nat=>D.int (i:Int)) (λ i=>D.int (aJ ps i)) (uT rfl) (λ _ _=>rfl) (λ i hi=>⟨by
    show g_Lhanded_e1 [some (.int i),some (nF ps f).aq]=_;rw[bb _ (aL _ _)];exact uQ (cB rfl (aL _ _)) rfl (pt.lt mk i hi),rfl⟩) (by omega),yf]
  obtain⟨q,hq,e6⟩:∃ q:List Int,q.Perm (pp ps P[k])/\dS (eT (af iI (af cP (af cV (aa 2) (af bQ (eC (.int 1)) (aa 4))) (eC (.int 2))) (eC (.int 1)))) (iz 6) aV (jy ps f P N (L.map (·.2)) (some (.int k)) (some (aZ P[k])) (some (.lst .own ((pp ps P[k]).map .int))))=.nx (jy ps f P N (L.map (·.2)) (some (.int k)) (some (aZ P[k])) (some (.lst .own (q.map .int)))):=by
   have tt:=gW (iH (b:=2) (wG (a:=aa 2) (b:=af bQ (eC (.int 1)) (aa 4)) (τ:=jy ps f P N (L.map (·.2)) (some (.int k)) (some (aZ P[k])) (some (.lst .own ((pp ps P[k]).map .int)))) (x:=N) rfl (jb (a:=1) (b:=(k:Int)) rfl rfl) (by omega)) (by decide)) (g:=eC (.int 1)) (b:=1) rfl;by_cases z:N/(1+(k:Int))%2=1
   ·rw[Nc z]at tt;refine⟨(pp ps P[k]).reverse,List.reverse_perm _,?_⟩;rw[rL tt,Qi];rfl
   ·rw[M6 z]at tt;refine⟨pp ps P[k],Nz _,?_⟩;rw[lK tt];rfl
  refine⟨jy ps f P N (L.map (·.2)) (some (.int k)) (some (aZ P[k])) c,jy ps f P N ((L++[(P[k],q)]).map (·.2)) (some (.int k)) (some (aZ P[k])) none,rfl,.inl ?_,L++[(P[k],q)],_,_,_,?_,?_,rfl⟩
  ·unfold g_Lhanded_b2;rw[aH (a8 s6 (fm (ai _)))];show aE _ _ (jy ps f P N (L.map (·.2)) (some (.int k)) (some (aZ P[k])) (some (.lst .own ((pp ps P[k]).map .int))))=_;rw[aH e6,FI (xs:=LL .own (L.map (·.2))) (d:=.lst .own (q.map .int)) rfl rfl (by decide) (by rw[MC,MC];omega)];unfold jy;rw[M7];unfold LL;rw[M7];rfl
  ·rw[M7,hL1,List.take_succ_eq_append_getElem hk];rfl
  ·intro e m;rcases M4.mp m with m|m
   ·exact hL2 e m
   ·rw[Nl.mp m];exact hq)
 rw[wH,MC,NT,List.take_length]at hL1;have zi:bW (ae (aa 1) ah) (jy ps f P N [] none none none)=.ok (false,bD (P.map aZ)):=by
  have v1:aa 1 (jy ps f P N [] none none none)=.ok (.lst .aq (P.map aZ)):=by
   show Res.ok (D.lst .aq (aS (P.map aZ)))=_;rw[A7]
  unfold bW;rw[br v1,Res.aG];show(Res.ok ((false||av (P.map aZ)),P.map aZ)).map _=_;rw[wF];rfl
 have zf:bT [1] (bW (ae (aa 1) ah)) (gT 2 (aI 4 (aI 5 bU))) g_Lhanded_b2 (jy ps f P N [] none none none)=.nx t:=by
  rw[qV (τ':=jy ps f P N [] none none none) (by
   show [some (nF ps f),some (D.lst .aq (aD (P.map aZ))),some (.int N),some (.lst .own (LL .own [])),none,none,none]=_;rw[DU];rfl) zi,gf,DU]
  exact h1
 have tt:=gW (iH (b:=2) (jO (f:=aa 2) (τ:=jy ps f P N (L.map (·.2)) a b c) (a:=N) (b:=3) rfl ⟨by decide,by decide⟩) (by decide)) (g:=eC (.int 1)) (b:=1) rfl;have fin:∀ r,(aE (dS (eT (af iI (af cP (af cV (aa 2) (eC (.int 3))) (eC (.int 2))) (eC (.int 1)))) (iz 3) aV) (d9 3)) (jy ps f P N (L.map (·.2)) a b c)=.rt r->G_Lhanded [nF ps f,.lst .aq (P.map aZ),.int N]=.ok r:=λ r hr=>by
  refine bZ (τ:=[some (nF ps f),some (.lst .aq (P.map aZ)),some (.int N),none,none,none,none]) rfl rfl ?_;unfold g_Lhanded;rw[aH (a8 (d:=.lst .own []) rfl rfl)];show aE _ _ (jy ps f P N [] none none none)=_;rw[aH zf,h2];exact hr
 by_cases z:N/3%2=1
 ·rw[Nc z]at tt;refine⟨L.reverse,?_,λ e m=>hL2 e (List.mem_reverse.mp m),fin _ ?_⟩
  ·rw[Qi,hL1];exact List.reverse_perm P
  ·have e:iz 3 (jy ps f P N (L.map (·.2)) a b c)=.nx (jy ps f P N (L.reverse.map (·.2)) a b c):=by
    unfold jy;rw[Qi];unfold LL;rw[Qi];rfl
   rw[aH ((rL tt).trans e)];rfl
 ·rw[M6 z]at tt;refine⟨L,by rw[hL1],hL2,fin _ ?_⟩;rw[c8 tt];rfl
end
section
def qW(h0:τ[0]?=some (some (.tup (ps.map .int))))(h1:aa i τ=.ok (.int x))(hx:x∈ps):az bN (ae (aa 0) (ae (aa i) ah)) τ=.ok .bJ:=
 bf (ds:=[.tup (ps.map .int),.int x]) (aF (pK h0) (br h1)) (by show bN [.tup (aD (ps.map .int)),.int x]=_;rw[aN];exact wy hx) rfl
def IY(hx:x∈ps)(hy:y∈ps)(hn:x≠y):fg [.tup (ps.map .int),.int x,.int y]=.ok .bJ:=by
 refine ya (τ:=[some (.tup (ps.map .int)),some (.int x),some (.int y)]) (t:=[some (.tup (ps.map .int)),some (.int x),some (.int y)]) rfl rfl ?_;unfold i8;rw[aH (nG (qW rfl rfl hx)),aH (nG (qW rfl rfl hy))];have t:=gW (f:=aa 1) (g:=aa 2) (τ:=[some (.tup (ps.map .int)),some (.int x),some (.int y)]) (a:=x) (b:=y) rfl rfl;rw[M6 hn]at t;rw[lK t];rfl
def A9 (hs:ps.Pairwise (· < ·)){k:Nat}(hk:k<ps.length)(hj:j<ps.length)(hn:k≠j):jv [nF ps f,.int (aJ ps k),.int (aJ ps j)]=.ok (.int (cc f k j)):=by
 have hne:aJ ps k≠aJ ps j:=λ z=>hn (iW hs hk hj z);refine bZ (τ:=[some (nF ps f),some (.int (aJ ps k)),some (.int (aJ ps j)),none]) rfl rfl ?_;unfold qL;have c1:az fg (ae (af bG (aa 0) (eC (.int 0))) (ae (aa 1) (ae (aa 2) ah))) [some (nF ps f),some (.int (aJ ps k)),some (.int (aJ ps j)),none]=.ok .bJ:=
  bf (ds:=[.tup (ps.map .int),.int (aJ ps k),.int (aJ ps j)]) (aF (oh (gO rfl)) (aF rfl (br rfl))) (by show fg [.tup (aD (ps.map .int)),.int (aJ ps k),.int (aJ ps j)]=_;rw[aN];exact IY (nH hk) (nH hj) hne) rfl
 rw[aH (nG c1)];obtain⟨a,b,hab,ha,hb,ek,ec⟩:∃ a b:Nat,b<a/\a<ps.length/\b<ps.length/\N2.keyOf (aJ ps k) (aJ ps j)=(aJ ps a,aJ ps b)/\cc f k j=f a b:=by
  rcases OR k j with h|h|h
  ·refine⟨j,k,h,hj,hk,?_,?_⟩
   ·have:=fJ hs h hj;unfold N2.keyOf;rw[MP (by omega)]
   ·unfold cc;rw[Qf (by omega),Py (by omega)]
  ·exact absurd h hn
  ·refine⟨k,j,h,hk,hj,mz (fJ hs h hk),?_⟩;unfold cc;rw[Pz (by omega),Pk (by omega)]
 have c2:az jK (ae (aa 1) (ae (aa 2) ah)) [some (nF ps f),some (.int (aJ ps k)),some (.int (aJ ps j)),none]=.ok (.tup [.int (aJ ps a),.int (aJ ps b)]):=
  bf (ds:=[.int (aJ ps k),.int (aJ ps j)]) (aF rfl (br rfl)) (by show jK [.int (aJ ps k),.int (aJ ps j)]=_;rw[uJ,ek]) rfl
 rw[aH (a8 c2 rfl)];show bu _ [some (nF ps f),some (.int (aJ ps k)),some (.int (aJ ps j)),some (.tup [.int (aJ ps a),.int (aJ ps b)])]=_;refine c9 ?_ rfl;rw[ec];exact yh (gO rfl) (Dw hs ha (gO rfl) (f7 (x:=.tup [.int (aJ ps a),.int (aJ ps b)]) rfl (y:=.int 0) rfl (iY (j:=0) rfl rfl))) (Dw hs hb (gO rfl) (f7 (x:=.tup [.int (aJ ps a),.int (aJ ps b)]) rfl (y:=.int 1) rfl (iY (j:=1) rfl rfl))) hab ha
def zQ {t:Tg}(h:l≠[]):∃ z∈l,bG (km t l) (.int (-1))=.ok (.int ((z:Nat):Int)):=by
 rcases Qa l with e|⟨r,z,e⟩
 ·exact absurd e h
 ·rw[Qc]at e;subst e;refine⟨z,by simp,?_⟩;show bG (.lst t ((ni (r++[z])).map .int)) (.int (-1))=_;rw[A2,M7];exact IT
def il (ps:List Int)(f:Nat->Nat->Int)(P:List (List Nat))(a b c d e:Option D):SD:=[some (nF ps f),some (.lst .aq (P.map aZ)),some (nF (pp ps (P.map (·.headD 0))) (fH f (P.map (·.headD 0)))),a,b,c,d,e]
def KG (hs:ps.Pairwise (· < ·))(pt:PG.Pt (cc f) ps.length P){k:Nat}(hk:k<P.length)(hj:j<k)(d e:Option D):∃ d' e',g_Lalike_b1 (il ps f P (some (.int k)) (some (aZ P[k])) (some (.int j)) d e)=.nx (il ps f P (some (.int k)) (some (aZ P[k])) (some (.int j)) d' e'):=by
 have hj':j<P.length:=by omega
 have mk:P[k]∈P:=Nu hk;have mj:P[j]∈P:=Nu hj';obtain⟨x,hx,ex⟩:=zQ (t:=.aq) (pt.ne _ mk);obtain⟨y,hy,ey⟩:=zQ (t:=.aq) (pt.ne _ mj);obtain⟨x0,xr,e0⟩:=j5 (pt.ne _ mk);obtain⟨y0,yr,e1⟩:=j5 (pt.ne _ mj);have hxl:=pt.lt mk x hx;have hyl:=pt.lt mj y hy;have s6:af bG (af bG (aa 0) (eC (.int 0))) (af bG (aa 4) (ki i0 (eC (.int 1)))) (il ps f P (some (.int k)) (some (aZ P[k])) (some (.int j)) d e)=.ok (.int (aJ ps x)):=uQ (gO rfl) (f7 (fC rfl) (y:=.int (-1)) rfl ex) hxl;have v1:aa 1 (il ps f P (some (.int k)) (some (aZ P[k])) (some (.int j)) (some (.int (aJ ps x))) e)=.ok (.lst .aq (P.map aZ)):=by
  show Res.ok (D.lst .aq (aS (P.map aZ)))=_;rw[A7]
 have aj:(P.map aZ)[j]?=some (aZ P[j]):=by rw[MR,MA hj'];rfl
 have s7:af bG (af bG (aa 0) (eC (.int 0))) (af bG (af bG (aa 1) (aa 5)) (ki i0 (eC (.int 1)))) (il ps f P (some (.int k)) (some (aZ P[k])) (some (.int j)) (some (.int (aJ ps x))) e)=.ok (.int (aJ ps y)):=uQ (gO rfl) (f7 (f7 v1 (y:=.int j) rfl (my rfl aj)) (y:=.int (-1)) rfl ey) hyl;have ne:x≠y:=pt.wL hk hj' (by omega) hx hy;have cE:cc f x y=fH f (P.map (·.headD 0)) k j:=by
  have h1:(P.map (·.headD 0)).getD k 0=x0:=by
   rw[MG,MR,MA hk];show(P[k]).headD 0=x0;rw[e0];rfl
  have h2:(P.map (·.headD 0)).getD j 0=y0:=by
   rw[MG,MR,MA hj'];show(P[j]).headD 0=y0;rw[e1];rfl
  unfold fH;rw[h1,h2];exact pt.one IW hk hj' (by omega) hx (by rw[e0];exact MD) hy (by rw[e1];exact MD)
 refine⟨some (.int (aJ ps x)),some (.int (aJ ps y)),?_⟩;unfold g_Lalike_b1;rw[aH (a8 s6 rfl)];show aE _ _ (il ps f P (some (.int k)) (some (aZ P[k])) (some (.int j)) (some (.int (aJ ps x))) e)=_;rw[aH (a8 s7 rfl)];show dS _ _ _ (il ps f P (some (.int k)) (some (aZ P[k])) (some (.int j)) (some (.int (aJ ps x))) (some (.int (aJ ps y))))=_;have c1:az jv (ae (aa 0) (ae (aa 6) (ae (aa 7) ah))) (il ps f P (some (.int k)) (some (aZ P[k])) (some (.int j)) (some (.int (aJ ps x))) (some (.int (aJ ps y))))=.ok (.int (cc f x y)):=
  bf (ds:=[nF ps f,.int (aJ ps x),.int (aJ ps y)]) (aF (gO rfl) (aF rfl (br rfl))) (by show jv [(nF ps f).aq,.int (aJ ps x),.int (aJ ps y)]=_;rw[bb _ (aL _ _)];exact A9 hs hxl hyl ne) rfl
 have c2:af bG (af bG (af bG (aa 2) (eC (.int 1))) (aa 3)) (aa 5) (il ps f P (some (.int k)) (some (aZ P[k])) (some (.int j)) (some (.int (aJ ps x))) (some (.int (aJ ps y))))=.ok (.int (cc f x y)):=by
  rw[cE];exact yh (ps:=pp ps (P.map (·.headD 0))) (f:=fH f (P.map (·.headD 0))) (e:=aa 2) (g:=aa 3) (i:=aa 5) (τ:=il ps f P (some (.int k)) (some (aZ P[k])) (some (.int j)) (some (.int (aJ ps x))) (some (.int (aJ ps y)))) (k:=k) (j:=j) (cB rfl (aL _ _)) rfl rfl hj (by rw[ow,MC];exact hk)
 have c3:eT (az (G_Llike 4) (ae (az jv (ae (aa 0) (ae (aa 6) (ae (aa 7) ah)))) (ae (af bG (af bG (af bG (aa 2) (eC (.int 1))) (aa 3)) (aa 5)) ah))) (il ps f P (some (.int k)) (some (aZ P[k])) (some (.int j)) (some (.int (aJ ps x))) (some (.int (aJ ps y))))=.ok true:=
  nD (bf (ds:=[.int (cc f x y),.int (cc f x y)]) (aF c1 (br c2)) (wd 3 _) rfl)
 rw[lK (mw c3)];rfl
def F5 (hs:ps.Pairwise (· < ·))(hp:ps.length<=24)(pt:PG.Pt (cc f) ps.length P){k:Nat}(hk:k<P.length)(c d e:Option D):∃ c' d' e',g_Lalike_b2 (il ps f P (some (.int k)) (some (aZ P[k])) c d e)=.nx (il ps f P (some (.int k)) (some (aZ P[k])) c' d' e'):=by
 have pl:=pt.len;obtain⟨t,h1,c',d',e',h2⟩:=eL (tg:=gN 5) (body:=g_Lalike_b1) (λ _ t=>∃ c d e,t=il ps f P (some (.int k)) (some (aZ P[k])) c d e) (ds:=(List.range k).map λ i:Nat=>D.int (i:Int)) 0 (il ps f P (some (.int k)) (some (aZ P[k])) c d e) ⟨c,d,e,rfl⟩ (λ j x t hx hp'=>by
  obtain⟨c,d,e,rfl⟩:=hp';have hj:j<k:=by
   have:=(MF.mp hx).1;simpa using this
  have ex:x=.int j:=by
   simp[hj]at hx;exact hx.symm
  subst ex;obtain⟨d',e',q⟩:=KG (f:=f) hs pt hk hj d e;exact⟨_,_,rfl,.inl q,_,_,_,rfl⟩)
 refine⟨c',d',e',?_⟩;unfold g_Lalike_b2;have hr:aX (ae (aa 3) ah) (il ps f P (some (.int k)) (some (aZ P[k])) c d e)=.ok (false,(List.range k).map λ i:Nat=>D.int (i:Int)):=by
  unfold aX;rw[br (d:=.int k) rfl,Res.aG,dH (by omega)]
 rw[jQ (τ':=il ps f P (some (.int k)) (some (aZ P[k])) c d e) rfl hr (bP λ d m=>by obtain⟨x,_,rfl⟩:=MM.mp m;rfl),h1,h2]
def DY (hs:ps.Pairwise (· < ·))(hp:ps.length<=24)(pt:PG.Pt (cc f) ps.length P):G_Lalike [nF ps f,.lst .aq (P.map aZ),nF (pp ps (P.map (·.headD 0))) (fH f (P.map (·.headD 0)))]=.ok (.bl true):=by
 obtain⟨t,h1,a,b,c,d,e,h2⟩:=eL (tg:=gT 2 (aI 3 (aI 4 bU))) (body:=g_Lalike_b2) (λ _ t=>∃ a b c d e,t=il ps f P a b c d e) (ds:=bD (P.map aZ)) 0 (il ps f P none none none none none) ⟨none,none,none,none,none,rfl⟩ (λ k x t hx hp'=>by
  obtain⟨a,b,c,d,e,rfl⟩:=hp';obtain⟨x,hx1,rfl⟩:=uV hx;obtain⟨hk,rfl⟩:=GG hx1;obtain⟨c',d',e',q⟩:=F5 (f:=f) hs hp pt hk c d e;exact⟨_,_,rfl,.inl q,_,_,_,_,_,rfl⟩)
 refine bZ (τ:=il ps f P none none none none none) rfl rfl ?_;unfold g_Lalike;have zi:bW (ae (aa 1) ah) (il ps f P none none none none none)=.ok (false,bD (P.map aZ)):=by
  have v1:aa 1 (il ps f P none none none none none)=.ok (.lst .aq (P.map aZ)):=by
   show Res.ok (D.lst .aq (aS (P.map aZ)))=_;rw[A7]
  unfold bW;rw[br v1,Res.aG];show(Res.ok ((false||av (P.map aZ)),P.map aZ)).map _=_;rw[wF];rfl
 have zf:bT [1] (bW (ae (aa 1) ah)) (gT 2 (aI 3 (aI 4 bU))) g_Lalike_b2 (il ps f P none none none none none)=.nx t:=by
  rw[qV (τ':=il ps f P none none none none none) (by
   show [some (nF ps f),some (D.lst .aq (aD (P.map aZ))),_,_,_,_,_,_]=_;rw[DU];rfl) zi,gf,DU]
  exact h1
 rw[aH zf];rfl
def zP (h24:ps.length<=100):G_Llike 4 [nF ps f,nF ps f]=.ok (.bl true):=by
 refine like_eq ?_;have hp:aM [D.tup (ps.map .int),.tup ((dC f ps.length).map λ r=>.tup (r.map .int))]=true:=gK ps (dC f ps.length);unfold nF mr;refine .tup 3 (λ x m=>?_) (bO _ hp) (cg _ hp) (Nat.le_of_ble_eq_true rfl);rcases MK.mp m with rfl|m
 ·exact .tup 2 (zG 1 _) (DJ _) (aN _) (by rw[MC];omega)
 ·rcases MK.mp m with rfl|m
  ·refine .tup 2 (λ r hr=>?_) (bO _ (iu _)) (cg _ (iu _)) (by simp[dC];omega);obtain⟨row,hrow,rfl⟩:=MM.mp hr;unfold dC at hrow;obtain⟨k,hk,rfl⟩:=MM.mp hrow;have:=M3.mp hk;exact .tup 1 (zG 0 _) (DJ _) (aN _) (by simp[gX];omega)
  ·cases m
end
def KH (Q:List (List Int)):(D.lst .own (LL .own Q)).aW=.lst .own (LL .own Q):=by
 show D.lst .own (bL (LL .own Q))=_;rw[nO,M1]
 congr 1
 exact M5 λ l _=>jw (ai _)
def LY {t:Tg}(P:List (List Nat)):aD (aS (P.map (km t)))=P.map aZ:=by
 rw[jj,gn,M1,M1];refine M5 λ l _=>?_;show D.lst .aq (aD (aS ((ni l).map .int)))=_;rw[bO _ (ai _),aN]
def Mx {t:Tg}(ht:t=.aq\/t=.own)(P:List (List Nat)):av (P.map (km t))=false:=by
 rcases ht with rfl|rfl
 ·exact wF P
 ·exact F2 P
def yp(h:τ[i]?=some (some (.lst .own (LL .own Z)))):aa i τ=.ok (.lst .bor (LL .bor Z)):=by
 unfold aa;rw[h];show Res.ok (D.lst .bor (aS (LL .own Z)))=_;rw[DO]
def IZ{t u u':Tg}{Q:List (List Int)}(h1:a τ=.ok (.lst t (LL u Q)))(h2:b τ=.ok (.lst t' (LL u' Q))):eT (af E8 a b) τ=.ok false:=by
 refine nD ?_;rw[bH h1 h2];have l1:=lj Q λ _=>u;have l2:=lj Q λ _=>u';show(match nq (LL u Q),nq (LL u' Q) with|some a,some b=>if a=b then Res.ok (D.bl false) else .bad|_,_=>.bad)=_;rw[show nq (LL u Q)=_ from l1,show nq (LL u' Q)=_ from l2];simp only;rw[MO trivial]
def F6 {xs:List Int}(h:1<=xs.length):vJ (.tup (xs.map .int)) none (some ((1:Nat):Int))=.ok (.tup [.int (aJ xs 0)]):=by
 obtain⟨x,r,rfl⟩:∃ x r,xs=x::r:=by
  cases xs with
  |nil=>exact absurd h (by decide)|cons x r=>exact⟨x,r,rfl⟩
 unfold vJ;simp only;split
 ·rename_i hc;have h2:=hc.2;have h3:HT.eS (((x::r).map D.int).length) (((x::r).map D.int).length) (some ((1:Nat):Int))=min 1 ((x::r).map D.int).length:=yD _ _ _;rw[h3]at h2;cases r with
  |nil=>rfl
  | cons y r =>
   rw[MC,MQ,MQ]at h2;omega
 ·rw[xw];rfl
def oA(h1:a τ=.ok d)(h2:b τ=.ok d)(hd:d.pure=true)(hG:G_Llike n [d,d]=.ok (.bl true)):eT (az (G_Llike n) (ae a (ae b ah))) τ=.ok true:=by
 refine nD (bf (ds:=[d,d]) (aF h1 (br h2)) ?_ rfl);show G_Llike n [d.aq,d.aq]=_;rw[bb _ hd];exact hG
section
def wJ(h:τ[1]?=some (some (nF ps f))):aa 1 τ=.ok (nF ps f):=cB h (aL _ _)
def tE {m k:Nat}(h:k<m):(List.range m).getD k 0=k:=by
 rw[MG,NC h];rfl
def wK (hs:ps.Pairwise (· < ·))(hp:ps.length<=24)(hn:1<=ps.length):dh [nF ps f,.lst .aq (LL .aq (ps.map λ x=>[x]))]=.ok (nF ps f):=by
 have e:=uS (f:=f) hs hp hn (L:=(List.range ps.length).map λ i=>([i],[aJ ps i])) (H:=List.range ps.length) (λ e m=>by
  obtain⟨i,_,rfl⟩:=MM.mp m;exact Nz _) (by
  rw[M1];exact PG.Pt.single (cc f) ps.length) PY (λ x=>by
  rw[M1,show(λ e:List Nat×List Int=>e.1.headD 0)∘(λ i:Nat=>([i],[aJ ps i]))=id from rfl,List.map_id])
 rw[M1,nJ]at e;have e1:(List.range ps.length).map ((λ e:List Nat×List Int=>e.2)∘λ i:Nat=>([i],[aJ ps i]))=ps.map λ x=>[x]:=by
  have:(List.range ps.length).map ((λ e:List Nat×List Int=>e.2)∘λ i:Nat=>([i],[aJ ps i]))=((pp ps (List.range ps.length)).map λ x=>[x]):=by
   unfold pp;rw[M1];rfl
  rw[this,nJ]
 rw[e1]at e;rw[e]
 congr 1
 refine wD λ k j hj hk=>?_;unfold fH;rw[tE hk,tE (by omega),Dj hj]
def yo (hs:ps.Pairwise (· < ·))(hp:ps.length<=24)(hn:1<=ps.length):∃ g,dh [nF ps f,.lst .aq (LL .aq [ps])]=.ok (nF [aJ ps 0] g):=by
 have e:=uS (f:=f) hs hp hn (L:=[(List.range ps.length,ps)]) (H:=[0]) (λ e m=>by
  rw[Nl.mp m];show ps.Perm (pp ps (List.range ps.length));rw[nJ]) (PG.Pt.whole (cc f) hn) (PK _ _) (λ x=>by
  have:(List.range ps.length).headD 0=0:=by
   cases h:ps.length with
   |zero=>omega|succ n=>rw[List.range_succ_eq_map];rfl
  show x∈[0]↔x∈[(List.range ps.length).headD 0];rw[this])
 exact⟨_,e⟩
def eu (ns ps:List Int)(f:Nat->Nat->Int)(a b c d e g h i:Option D):SD:=[some (S ns),some (nF ps f),a,b,c,d,e,g,h,i]
def F7 (hs:ps.Pairwise (· < ·))(hp:ps.length<=24)(h1:1<=ps.length)(ns:List Int)(x:Int)(k:Nat)(hk:k<=100)(a b c d e i:Option D) :
  ∃ a' b' c' d' e' i',ju (eu ns ps f (some (.int k)) (some (.int x)) a b c d e i)=.nx (eu ns ps f (some (.int k)) (some (.int x)) a' b' c' d' e' i'):=by
 obtain⟨N,hN⟩:∃ N:Int,N=(x*16807+k*48271)%2147483647:=⟨_,rfl⟩;have s4:af cP (af bQ (af o9 (aa 3) (eC (.int 16807))) (af o9 (aa 2) (eC (.int 48271)))) (eC (.int 2147483647)) (eu ns ps f (some (.int k)) (some (.int x)) a b c d e i)=.ok (.int N):=by
  rw[iH (jb (yn (x:=x) (y:=16807) rfl rfl (mul_r (by decide))) (yn (x:=(k:Int)) (y:=48271) rfl rfl (mul_r (by decide)))) (by decide),hN]
 obtain⟨t,P,ht,pt,pw,ePa⟩:=DX (f:=f) hp h1 N;have pl:=pt.len;have s5:az G_Lparts (ae (aa 1) (ae (aa 4) ah)) (eu ns ps f (some (.int k)) (some (.int x)) (some (.int N)) b c d e i)=.ok (.lst .own (P.map (km t))):=
  cN (ds:=[nF ps f,.int N]) (aF (wJ rfl) (br rfl)) (by show G_Lparts [(nF ps f).aq,.int N]=_;rw[bb _ (aL _ _)];exact ePa) (by show((nF ps f).aA||_)=false;rw[aP _ (aL _ _)];rfl)
 obtain⟨H,hH⟩:∃ H,H=P.map (·.headD 0):=⟨_,rfl⟩;have gH:Gs ps.length H:=by
  refine⟨λ z=>?_,by rw[hH,OS];exact pw,λ y hy=>?_⟩
  ·rw[hH]at z;have:=pt.perm.length_eq;rw[List.map_eq_nil_iff.mp z,MX]at this;simp at this;omega
  ·rw[hH]at hy;obtain⟨l,ml,rfl⟩:=MM.mp hy;obtain⟨z,r,q⟩:=j5 (pt.ne l ml);exact pt.lt ml _ (by rw[q];exact MD)
 have hl1:1<=H.length:=N4.mpr gH.ne;have hl2:=gH.len;have eQ:=wI (f:=f) hp pt pw;have eA':=DY (f:=f) hs hp pt;rw[<-hH]at eQ eA';have hsH:=wA hs gH;have hpl:(pp ps H).length=H.length:=ow H;obtain⟨L,pL,hL,eH⟩:=A8 (f:=f) hp pt (N/5);have eq1:=uS (f:=f) hs hp h1 hL (pt.zI pL) (H:=H) gH.up (λ y=>by
  have p:=(pL.map (·.headD 0));rw[M1,<-hH]at p;exact p.mem_iff.symm)
 have eq2:=wK (ps:=pp ps H) (f:=fH f H) hsH (by omega) (by omega);obtain⟨g3,eq3⟩:=yo (ps:=pp ps H) (f:=fH f H) hsH (by omega) (by omega);obtain⟨dF,hdF⟩:∃ dF,dF=nF (pp ps H) (fH f H):=⟨_,rfl⟩;have pF:dF.pure=true:=by rw[hdF];exact aL _ _
 rw[<-hdF]at eQ eq1 eA';refine⟨some (.int N),some (.lst .own (P.map (km t))),some dF,some (.lst .own (LL .own (L.map (·.2)))),some dF,some (.lst .own (LL .own ((pp ps H).map λ x=>[x]))),?_⟩;unfold ju;rw[aH (a8 s4 rfl)];show aE _ _ (eu ns ps f (some (.int k)) (some (.int x)) (some (.int N)) b c d e i)=_;rw[aH (a8 s5 (by show(false||av _)=false;rw[Mx ht];rfl))];show aE _ _ (eu ns ps f (some (.int k)) (some (.int x)) (some (.int N)) (some (.lst .own (P.map (km t)))) c d e i)=_;have v5:∀ {c d e i:Option D},aa 5 (eu ns ps f (some (.int k)) (some (.int x)) (some (.int N)) (some (.lst .own (P.map (km t)))) c d e i)=.ok (.lst .bor (aS (P.map (km t)))):=rfl;have s6:az G_Lquotient (ae (aa 1) (ae (aa 5) ah)) (eu ns ps f (some (.int k)) (some (.int x)) (some (.int N)) (some (.lst .own (P.map (km t)))) c d e i)=.ok dF:=by
  refine bf (ds:=[nF ps f,.lst .bor (aS (P.map (km t)))]) (aF (wJ rfl) (br v5)) ?_ pF;show G_Lquotient [(nF ps f).aq,.lst .aq (aD (aS (P.map (km t))))]=_;rw[bb _ (aL _ _),LY];exact eQ
 rw[aH (a8 s6 (aP _ pF))];show aE _ _ (eu ns ps f (some (.int k)) (some (.int x)) (some (.int N)) (some (.lst .own (P.map (km t)))) (some dF) d e i)=_;have s7:∀ {d e i:Option D},az G_Lhanded (ae (aa 1) (ae (aa 5) (ae (af cV (aa 4) (eC (.int 5))) ah))) (eu ns ps f (some (.int k)) (some (.int x)) (some (.int N)) (some (.lst .own (P.map (km t)))) (some dF) d e i)=.ok (.lst .own (LL .own (L.map (·.2)))):=λ {d e i}=>by
  refine mD (ds:=[nF ps f,.lst .bor (aS (P.map (km t))),.int (N/5)]) (aF (wJ rfl) (aF v5 (br (jO rfl ⟨by decide,by decide⟩)))) ?_ (KH _);show G_Lhanded [(nF ps f).aq,.lst .aq (aD (aS (P.map (km t)))),.int (N/5)]=_;rw[bb _ (aL _ _),LY];exact eH
 rw[aH (a8 s7 (by show(false||av _)=false;rw[zJ _ (.inr rfl)];rfl))];show aE _ _ (eu ns ps f (some (.int k)) (some (.int x)) (some (.int N)) (some (.lst .own (P.map (km t)))) (some dF) (some (.lst .own (LL .own (L.map (·.2))))) e i)=_;have qc:∀ {τ:SD}{g h:SD->Res D}{ps':List Int}{f':Nat->Nat->Int}{Q:List (List Int)}{r:D}{u u':Tg},g τ=.ok (nF ps' f')->h τ=.ok (.lst u (LL u' Q))->dh [nF ps' f',.lst .aq (LL .aq Q)]=.ok r->r.pure=true->az dh (ae g (ae h ah)) τ=.ok r:=λ {τ g h ps' f' Q r u u'} hg hh hG hr=>by
  refine bf (ds:=[nF ps' f',.lst u (LL u' Q)]) (aF hg (br hh)) ?_ hr;show dh [(nF ps' f').aq,.lst .aq (aD (LL u' Q))]=_;rw[bb _ (aL _ _),ou];exact hG
 rw[aH (a8 (qc (wJ rfl) (yp rfl) eq1 pF) (aP _ pF))];show aE _ _ (eu ns ps f (some (.int k)) (some (.int x)) (some (.int N)) (some (.lst .own (P.map (km t)))) (some dF) (some (.lst .own (LL .own (L.map (·.2))))) (some dF) i)=_;have v6:∀ {i:Option D},aa 6 (eu ns ps f (some (.int k)) (some (.int x)) (some (.int N)) (some (.lst .own (P.map (km t)))) (some dF) (some (.lst .own (LL .own (L.map (·.2))))) (some dF) i)=.ok dF:=λ {i}=>cB rfl pF;have lF:G_Llike 4 [dF,dF]=.ok (.bl true):=by rw[hdF];exact zP (by omega)
 have t1:=oA (n:=4) (a:=aa 8) (b:=aa 6) (τ:=eu ns ps f (some (.int k)) (some (.int x)) (some (.int N)) (some (.lst .own (P.map (km t)))) (some dF) (some (.lst .own (LL .own (L.map (·.2))))) (some dF) i) (cB rfl pF) (v6 (i:=i)) pF lF;have t2:=IZ (a:=aa 7) (τ:=eu ns ps f (some (.int k)) (some (.int x)) (some (.int N)) (some (.lst .own (P.map (km t)))) (some dF) (some (.lst .own (LL .own (L.map (·.2))))) (some dF) i) (yp rfl) (s7 (d:=some (.lst .own (LL .own (L.map (·.2))))) (e:=some dF) (i:=i));rw[c8 ((Kq (mw t1) t2).trans rfl)];have t3:eT (az G_Lalike (ae (aa 1) (ae (aa 5) (ae (aa 6) ah)))) (eu ns ps f (some (.int k)) (some (.int x)) (some (.int N)) (some (.lst .own (P.map (km t)))) (some dF) (some (.lst .own (LL .own (L.map (·.2))))) (some dF) i)=.ok true:=by
  refine nD (bf (ds:=[nF ps f,.lst .bor (aS (P.map (km t))),dF]) (aF (wJ rfl) (aF v5 (br (v6 (i:=i))))) ?_ rfl);show G_Lalike [(nF ps f).aq,.lst .aq (aD (aS (P.map (km t)))),dF.aq]=_;rw[bb _ (aL _ _),LY,bb _ pF];exact eA'
 rw[c8 ((mw t3).trans rfl)];have w6:∀ {i:Option D},aa 6 (eu ns ps f (some (.int k)) (some (.int x)) (some (.int N)) (some (.lst .own (P.map (km t)))) (some dF) (some (.lst .own (LL .own (L.map (·.2))))) (some dF) i)=.ok (nF (pp ps H) (fH f H)):=λ {i}=>by rw[<-hdF];exact v6
 have s9:aR (eY (af bG (aa 6) (eC (.int 0)))) (gN 0) bw qG 1 [] (eu ns ps f (some (.int k)) (some (.int x)) (some (.int N)) (some (.lst .own (P.map (km t)))) (some dF) (some (.lst .own (LL .own (L.map (·.2))))) (some dF) i)=.ok (.lst .own (LL .own ((pp ps H).map λ x=>[x]))):=by
  have hi:eY (af bG (aa 6) (eC (.int 0))) (eu ns ps f (some (.int k)) (some (.int x)) (some (.int N)) (some (.lst .own (P.map (km t)))) (some dF) (some (.lst .own (LL .own (L.map (·.2))))) (some dF) i)=.ok (false,(pp ps H).map λ x=>D.int x):=by
   unfold eY;rw[oh (w6 (i:=i)),Res.aG];exact ly (ai _)
  rw[jx (elt:=qG) (cap:=[]) (λ x:Int=>D.int x) (λ x:Int=>D.int x) (λ x=>D.lst .own [D.int x]) hi (λ _ _=>rfl) (λ y _=>⟨rfl,rfl,rfl⟩) (by omega)];unfold LL;rw[M1];rfl
 rw[aH (a8 s9 (by show(false||av _)=false;rw[zJ _ (.inr rfl)];rfl))];show aE _ _ (eu ns ps f (some (.int k)) (some (.int x)) (some (.int N)) (some (.lst .own (P.map (km t)))) (some dF) (some (.lst .own (LL .own (L.map (·.2))))) (some dF) (some (.lst .own (LL .own ((pp ps H).map λ x=>[x])))))=_;rw[<-hdF]at eq2;have t4:=oA (n:=4) (qc (τ:=eu ns ps f (some (.int k)) (some (.int x)) (some (.int N)) (some (.lst .own (P.map (km t)))) (some dF) (some (.lst .own (LL .own (L.map (·.2))))) (some dF) (some (.lst .own (LL .own ((pp ps H).map λ x=>[x]))))) (g:=aa 6) (h:=aa 9) (w6 (i:=some (.lst .own (LL .own ((pp ps H).map λ x=>[x]))))) (yp rfl) (by rw[<-hdF];exact eq2) pF) (v6 (i:=some (.lst .own (LL .own ((pp ps H).map λ x=>[x]))))) pF lF;rw[c8 ((mw t4).trans rfl)];have li:eA dm (ae (eA eW (ae (af bG (aa 6) (eC (.int 0))) ah)) ah) (eu ns ps f (some (.int k)) (some (.int x)) (some (.int N)) (some (.lst .own (P.map (km t)))) (some dF) (some (.lst .own (LL .own (L.map (·.2))))) (some dF) (some (.lst .own (LL .own ((pp ps H).map λ x=>[x])))))=.ok (.lst .own (LL .own [pp ps H])):=by
  rw[di (br ((di (br (oh (w6 (i:=some (.lst .own (LL .own ((pp ps H).map λ x=>[x])))))))).trans rfl))];rfl
 have cu:eA fD (ae (vK (af bG (aa 6) (eC (.int 0))) pe (eP (eC (.int 1)))) (ae (eA fD (ae (eA fD ah) ah)) ah)) (eu ns ps f (some (.int k)) (some (.int x)) (some (.int N)) (some (.lst .own (P.map (km t)))) (some dF) (some (.lst .own (LL .own (L.map (·.2))))) (some dF) (some (.lst .own (LL .own ((pp ps H).map λ x=>[x])))))=.ok (nF [aJ (pp ps H) 0] g3):=by
  have c1:vK (af bG (aa 6) (eC (.int 0))) pe (eP (eC (.int 1))) (eu ns ps f (some (.int k)) (some (.int x)) (some (.int N)) (some (.lst .own (P.map (km t)))) (some dF) (some (.lst .own (LL .own (L.map (·.2))))) (some dF) (some (.lst .own (LL .own ((pp ps H).map λ x=>[x])))))=.ok (.tup [.int (aJ (pp ps H) 0)]):=by
   unfold vK;rw[oh (w6 (i:=some (.lst .own (LL .own ((pp ps H).map λ x=>[x]))))),Res.aG];exact F6 (xs:=pp ps H) (by omega)
  rw[di (aF c1 (br (d:=.tup [.tup []]) rfl))];rfl
 have t5:=oA (n:=4) (qc (τ:=eu ns ps f (some (.int k)) (some (.int x)) (some (.int N)) (some (.lst .own (P.map (km t)))) (some dF) (some (.lst .own (LL .own (L.map (·.2))))) (some dF) (some (.lst .own (LL .own ((pp ps H).map λ x=>[x]))))) (g:=aa 6) (w6 (i:=some (.lst .own (LL .own ((pp ps H).map λ x=>[x]))))) li eq3 (aL _ _)) cu (aL _ _) (zP (by show 1<=100;decide));rw[lK (mw t5)];rfl
end
def F9(xs:List α)(a b:Option Int):(DL.cut xs a b).length<=xs.length:=by
 unfold DL.cut;rw[OD,Ph];omega
def Ga{t:Tg}{xs ys:List Int}(h1:a τ=.ok (.lst t (xs.map .int)))(h2:b τ=.ok (.lst t' (ys.map .int)))(hl:xs.length+ys.length<=1000):af bQ a b τ=.ok (.lst .own ((xs++ys).map .int)):=by
 rw[bH h1 h2,M7];show(if (xs.map D.int).length+(ys.map D.int).length<=16777216 then Res.ok (D.lst .own (xs.map D.int++ys.map D.int)) else .bad)=_;rw[MO (by rw[MC,MC];omega)]
section
def Gb (hs:ps.Pairwise (· < ·))(hp:ps.length<=24)(h1:1<=ps.length)(ns xs:List Int)(hx:xs.length<=66):∃ t,cD (gT 2 (aI 2 (aI 3 bU))) ju (bD (xs.map D.int)) (eu ns ps f none none none none none none none none)=.nx t:=by
 obtain⟨t,e,_⟩:=eL (tg:=gT 2 (aI 2 (aI 3 bU))) (body:=ju) (λ _ t=>∃ a b c d e g h i,t=eu ns ps f a b c d e g h i) (ds:=bD (xs.map D.int)) 0 (eu ns ps f none none none none none none none none) ⟨none,none,none,none,none,none,none,none,rfl⟩ (λ j d τ hd hp'=>by
  obtain⟨a,b,c,e,g,h,i,m,rfl⟩:=hp';have hj:j<xs.length:=by
   have:=(MF.mp hd).1;simpa[bD] using this
  have ex:d=.tup [.int j,.int xs[j]]:=by
   simp[bD,hj]at hd;exact hd.symm
  subst ex;obtain⟨a',b',c',d',e',i',ht⟩:=F7 (f:=f) hs hp h1 ns xs[j] j (by omega) c e g h i m;exact⟨_,_,rfl,.inl ht,_,_,a',b',c',d',e',i',rfl⟩)
 exact⟨t,e⟩
def F8 (ns:List Int)(hl:ns.length<=63)(hs:ps.Pairwise (· < ·))(hp:ps.length<=24)(h1:1<=ps.length)(hm:(n:Int)=M.many (M.cell ns 0))(hnet:G_Lnet [S ns,.int 1,.int n]=.ok (nF ps f)):vQ [S ns]=.ok (.bl true):=by
 refine bZ (τ:=[some (S ns),none,none,none,none,none,none,none,none,none]) rfl rfl ?_;unfold C4;have fS:aD (ns.map D.int)=ns.map D.int:=aN ns;have bS:av (ns.map D.int)=false:=iB ns;have z0:az G_Lcell (ae (aa 0) (ae (eC (.int 0)) ah)) [some (S ns),none,none,none,none,none,none,none,none,none]=.ok (.int (M.cell ns 0)):=
  cN (ds:=[S ns,.int 0]) (aF (cL rfl (ai ns)) (br rfl)) (by show G_Lcell [.lst .aq (aD (ns.map D.int)),.int 0]=_;rw[fS];exact nE ns (QZ 0)) (by show((false||av (ns.map D.int))||_)=false;rw[bS];rfl)
 have z1:az G_Lnet (ae (aa 0) (ae (eC (.int 1)) (ae (az G_Lmany (ae (az G_Lcell (ae (aa 0) (ae (eC (.int 0)) ah))) ah)) ah))) [some (S ns),none,none,none,none,none,none,none,none,none]=.ok (nF ps f):=by
  refine cN (ds:=[S ns,.int 1,.int n]) (aF (cL rfl (ai ns)) (aF rfl (br ?_))) (by show G_Lnet [.lst .aq (aD (ns.map D.int)),.int 1,.int n]=_;rw[fS];exact hnet) (by show((false||av (ns.map D.int))||_)=false;rw[bS];rfl);rw[hm];exact bf (ds:=[.int (M.cell ns 0)]) (br z0) (Fo _) rfl
 rw[aH (a8 z1 (aP _ (aL _ _)))];show aE _ _ (eu ns ps f none none none none none none none none)=_;have hcl:=F9 ns (some 2) (some 8);have zc:fN (aa 0) (eP (eC (.int 2))) (eP (eC (.int 8))) (eu ns ps f none none none none none none none none)=.ok (.lst .own ((DL.cut ns (some 2) (some 8)).map D.int)):=by
  unfold fN;rw[cL (xs:=ns.map .int) rfl (ai ns)];show Res.ok (D.lst .own (DL.cut (ns.map .int) (some 2) (some 8)))=_;rw[Fj]
 have za:af bQ (eA dm (ae (eC (.int 2)) (ae (eC (.int 27)) ah))) (fN (aa 0) (eP (eC (.int 2))) (eP (eC (.int 8)))) (eu ns ps f none none none none none none none none)=.ok (.lst .own ((2::27::DL.cut ns (some 2) (some 8)).map D.int)):=Ga (xs:=[2,27]) (ys:=DL.cut ns (some 2) (some 8)) rfl zc (by rw[show([2,27]:List Int).length=2 from rfl];omega);have zi:bW (ae (af bQ (eA dm (ae (eC (.int 2)) (ae (eC (.int 27)) ah))) (fN (aa 0) (eP (eC (.int 2))) (eP (eC (.int 8))))) ah) (eu ns ps f none none none none none none none none)=.ok (false,bD ((2::27::DL.cut ns (some 2) (some 8)).map D.int)):=by
  unfold bW;rw[br za,Res.aG];show(Res.ok ((D.lst .own ((2::27::DL.cut ns (some 2) (some 8)).map D.int)).aA,(2::27::DL.cut ns (some 2) (some 8)).map D.int)).map _=_;rw[fm (ai _)];rfl
 obtain⟨t,ht⟩:=Gb (f:=f) hs hp h1 ns (2::27::DL.cut ns (some 2) (some 8)) (by simp only[MQ];omega);have zf:bT [0] (bW (ae (af bQ (eA dm (ae (eC (.int 2)) (ae (eC (.int 27)) ah))) (fN (aa 0) (eP (eC (.int 2))) (eP (eC (.int 8))))) ah)) (gT 2 (aI 2 (aI 3 bU))) ju (eu ns ps f none none none none none none none none)=.nx t:=by
  have hf:b7 [0] (eu ns ps f none none none none none none none none)=eu ns ps f none none none none none none none none:=by
   show List.set (eu ns ps f none none none none none none none none) 0 (some (D.lst .aq (aD (ns.map .int))))=_;rw[fS];rfl
  unfold bT;rw[hf,zi];have:aD (bD ((2::27::DL.cut ns (some 2) (some 8)).map D.int))=bD ((2::27::DL.cut ns (some 2) (some 8)).map D.int):=by rw[gf,aN]
  simp only[this];exact ht
 rw[aH zf];rfl
end
def DZ (ns:List Int)(hl:ns.length<=63):vQ [.lst .aq (ns.map D.int)]=.ok (.bl true):=by
 obtain⟨n,hn⟩:∃ n:Nat,(n:Int)=M.many (M.cell ns 0):=⟨(M.many (M.cell ns 0)).toNat,by have:=M.wa (M.cell ns 0);omega⟩;have hb:=M.wa (M.cell ns 0);rw[<-hn]at hb;have hl':=N2.places_len (dN ns) n;have e:=IA ns (n:=n) (by omega);have er:N2.rows (dN ns) n=dC (dN ns).sh (N2.places (dN ns) n).length:=by
  rw[hl'];rfl
 rw[er]at e;exact F8 (ps:=N2.places (dN ns) n) (f:=(dN ns).sh) ns hl (N2.rK (dN ns) n) (by omega) (by omega) hn e
end KL
namespace KL
open PySem PySem.Spec PyProof.Rows L2 DL
abbrev ZN (K:PySem.W.Frag)(x:Str):Prop:=PySem.W.nsIn K mainGlobals x=some none
abbrev ZV (K:PySem.W.Frag)(x:Str)(v:Value):Prop:=PySem.W.nsIn K mainGlobals x=some (some v)
def I0 {l:PySem.W.OpenLaw}{w:World}{K:PySem.W.Frag}{h:Heap}{mg:Str->Option Value}{fa:Addr}(X:K.In h)(G:h.Ns mainGlobals mg)(hfa:mg "law" = some (.ref fa))
 (z0:ZN K "bool") (z1:ZN K "enumerate") (z2:ZN K "int") (z3:ZN K "isinstance") (z4:ZN K "len") (z5:ZN K "list") (z6:ZN K "max") (z7:ZN K "min") (z8:ZN K "range") (z9:ZN K "set") (z10:ZN K "sorted") (z11:ZN K "str") (z12:ZN K "tuple") (z13:ZN K "zip")
 (D_require_place:j0 K mg) (D_require_two:lV K mg) (D_checked_set:lT K mg) (D_pair:CZ K mg) (D_colours_of:nA K mg) (D_net_with:qK K mg) (D_colour:v9 K mg) (D_part_of:sR K mg) (D_sights_of:oW K mg) (D_first_apart:lU K mg) (D_teller_among:kO K mg) (D_teller:vZ K mg) (D_is_group:qA K mg) (D_require_parting:iR K mg) (D_quotient:qD K mg) (D_Lcell:E_Lcell K mg) (D_Llike:E_Llike K mg) (D_Lmany:E_Lmany K mg) (D_Lmix:E_Lmix K mg) (D_Lplaces:E_Lplaces K mg) (D_Lshade:E_Lshade K mg) (D_Lnet:E_Lnet K mg) (D_Lsplit:E_Lsplit K mg) (D_Lrefined:E_Lrefined K mg) (D_Lparts:E_Lparts K mg) (D_Lquotient:E_Lquotient K mg) (D_Lhanded:E_Lhanded K mg) (D_Lalike:E_Lalike K mg)
 {f:Addr}{oc:Value}{od an:Option Addr}{osl:Array (Option Value)}{kV doc pm cdv ct:Value} (a:ZV K "law" (.ref f)) (lk:K.lookup f=some ⟨oc,od,.func (PySem.W.fnOf "law" "law" (iL nB) (eU nB) (aC nB) .none kV doc pm an cdv ct),osl⟩) (c:PySem.W.codeIn K cdv "law" = true) (k:PySem.W.keepIn K (.ref f)=true) :
 ∃ fd:FuncData,(∀ (s:Shared) (v:Value),BindsTo s fd ⟨[v],[]⟩ [("_law_script",v)])/\∀ base:Heap,K.In base->base.Ns mainGlobals mg->pN l.prog w K mg base Ai 7 fa fd ["_law_script"] (jz K vQ):=by
 have T:Txt mg:=⟨Nv X G z0,Nv X G z1,Nv X G z2,Nv X G z3,Nv X G z4,Nv X G z5,Nv X G z6,Nv X G z7,Nv X G z8,Nv X G z9,Nv X G z10,Nv X G z11,Nv X G z12,Nv X G z13⟩;have e:=hfa.symm.trans (PySem.W.mg_of X G a);cases e;refine⟨PySem.W.fnOf "law" "law" (iL nB) (eU nB) (aC nB) .none kV doc pm an cdv ct,λ s v=>.of_eq rfl,λ base _ _=>?_⟩
 let b:Bd:=⟨l.prog,w,K,mg,base⟩
 have C_require_place:=n5 (b:=b) T  D_require_place;have C_require_two:=qE (b:=b) T C_require_place D_require_two;have C_checked_set:=qu (b:=b) T C_require_place D_checked_set;have C_pair:=Fi (b:=b) T  D_pair;have C_colours_of:=rJ (b:=b) T C_pair D_colours_of;have C_net_with:=vW (b:=b) T C_pair D_net_with;have C_colour:=AV (b:=b) T C_require_two C_pair D_colour;have C_part_of:=xY (b:=b) T C_checked_set C_colours_of C_net_with D_part_of;have C_sights_of:=uG (b:=b) T C_colours_of D_sights_of;have C_first_apart:=qF (b:=b) T  D_first_apart;have C_teller_among:=pB (b:=b) T C_first_apart D_teller_among;have C_teller:=AW (b:=b) T C_checked_set C_sights_of C_teller_among D_teller;have C_is_group:=vX (b:=b) T C_teller D_is_group;have C_require_parting:=mf (b:=b) T  D_require_parting;have C_quotient:=vV (b:=b) T C_part_of C_is_group C_require_parting D_quotient;have C_Lcell:=ok_Lcell (b:=b) T  D_Lcell;have C_Llike:=ok_Llike (b:=b) T  D_Llike 4;have C_Lmany:=ok_Lmany (b:=b) T  D_Lmany;have C_Lmix:=ok_Lmix (b:=b) T C_Lcell D_Lmix;have C_Lplaces:=ok_Lplaces (b:=b) T C_Lcell D_Lplaces;have C_Lshade:=ok_Lshade (b:=b) T C_Lcell C_Lmix D_Lshade;have C_Lnet:=ok_Lnet (b:=b) T C_Lplaces C_Lshade D_Lnet;have C_Lsplit:=ok_Lsplit (b:=b) T  D_Lsplit;have C_Lrefined:=ok_Lrefined (b:=b) T C_Lsplit D_Lrefined;have C_Lparts:=ok_Lparts (b:=b) T C_Lrefined D_Lparts;have C_Lquotient:=ok_Lquotient (b:=b) T  D_Lquotient;have C_Lhanded:=ok_Lhanded (b:=b) T  D_Lhanded;have C_Lalike:=ok_Lalike (b:=b) T C_colour C_Llike D_Lalike;exact Iu (b:=b) T C_quotient C_Lcell C_Llike C_Lmany C_Lnet C_Lparts C_Lquotient C_Lhanded C_Lalike (xg (st:=nB) lk c k)
end KL
namespace PySem.W.Fast
theorem tw6581714113704722002:True:=⟨⟩
theorem tw16685160941822137866:True:=⟨⟩
theorem tw17766984565136430429:True:=⟨⟩
theorem tw1692793393187429714:True:=⟨⟩
theorem tw5796407138692069623:True:=⟨⟩
theorem tw4935599305898211962:True:=⟨⟩
theorem tw17526374177962807617:True:=⟨⟩
theorem tw8981356154510831119:True:=⟨⟩
theorem tw9594477998284681649:True:=⟨⟩
theorem tw1411647780169769461:True:=⟨⟩
theorem tw177593203466623206:True:=⟨⟩
theorem tw10980556773745439163:True:=⟨⟩
theorem tw16716028474154789164:True:=⟨⟩
theorem tw16968333394443437712:True:=⟨⟩
theorem tw10442624864619340855:True:=⟨⟩
theorem tw12789242850381249215:True:=⟨⟩
theorem tw4502285761998618257:True:=⟨⟩
theorem tw16042756113429296223:True:=⟨⟩
theorem tw6602779449645644457:True:=⟨⟩
theorem tw5046986311604180206:True:=⟨⟩
theorem tw3293289422321663511:True:=⟨⟩
theorem tw14967746738883844292:True:=⟨⟩
theorem tw4617574951761836622:True:=⟨⟩
theorem tw3183755297896930757:True:=⟨⟩
theorem tw790511417825316949:True:=⟨⟩
theorem tw798396072294243175:True:=⟨⟩
theorem tw3802276975876296611:True:=⟨⟩
theorem tw14138609708443908010:True:=⟨⟩
theorem tw5300150426752604486:True:=⟨⟩
theorem tw17966338376253508181:True:=⟨⟩
theorem tw12961335912776222311:True:=⟨⟩
theorem tw13200349361783543560:True:=⟨⟩
theorem tw82962801785110391:True:=⟨⟩
theorem tw6377632512940080334:True:=⟨⟩
theorem tw2218601454695486859:True:=⟨⟩
theorem tw17749382765890000313:True:=⟨⟩
theorem tw3378335137415499979:True:=⟨⟩
theorem tw11960278986559444324:True:=⟨⟩
theorem tw4340705397891037046:True:=⟨⟩
theorem tw3070113543130427581:True:=⟨⟩
theorem tw8852887709221705961:True:=⟨⟩
theorem tw7745656542349313820:True:=⟨⟩
theorem tw394361948390552441:True:=⟨⟩
theorem tw9930657771855718614:True:=⟨⟩
theorem tw2247126354590825417:True:=⟨⟩
theorem tw11383375105755994698:True:=⟨⟩
theorem tw4122732415640099638:True:=⟨⟩
theorem tw1856874111472636201:True:=⟨⟩
theorem tw16166705471843205795:True:=⟨⟩
theorem tw3877465502826507525:True:=⟨⟩
theorem tw10098998983072230013:True:=⟨⟩
theorem tw3858399575192731546:True:=⟨⟩
theorem tw3397159544567871528:True:=⟨⟩
theorem tw8850700926427501598:True:=⟨⟩
theorem tw16866046180095102459:True:=⟨⟩
theorem tw17688059237927264532:True:=⟨⟩
theorem tw9570989199484275107:True:=⟨⟩
theorem tw14058915555840069103:True:=⟨⟩
theorem tw14613753551696330479:True:=⟨⟩
theorem tw9888347898631458922:True:=⟨⟩
theorem tw17748110527604987923:True:=⟨⟩
theorem tw14546310795759801314:True:=⟨⟩
theorem tw6455025212434535744:True:=⟨⟩
theorem tw16059227999480856066:True:=⟨⟩
theorem tw11884731584556676717:True:=⟨⟩
theorem tw9024316335756485985:True:=⟨⟩
theorem tw2538285464018011147:True:=⟨⟩
theorem tw7882090903461725993:True:=⟨⟩
theorem tw833080305197777193:True:=⟨⟩
theorem tw3483511098675227209:True:=⟨⟩
theorem tw14990839531139463997:True:=⟨⟩
theorem tw15677267429413808969:True:=⟨⟩
theorem tw16733848783490207588:True:=⟨⟩
theorem tw13396408263401453770:True:=⟨⟩
theorem tw6716831276756776006:True:=⟨⟩
theorem tw14271397476569297961:True:=⟨⟩
theorem tw12471609316702666917:True:=⟨⟩
theorem tw1153252663144624839:True:=⟨⟩
theorem tw728292257044430928:True:=⟨⟩
theorem tw16384415413933926501:True:=⟨⟩
theorem tw5337581756959804586:True:=⟨⟩
theorem tw9601326850718308854:True:=⟨⟩
theorem tw8141557083858183587:True:=⟨⟩
theorem tw4884241190211768392:True:=⟨⟩
theorem tw15084867692512768098:True:=⟨⟩
theorem tw15667692695900646575:True:=⟨⟩
theorem tw4764173781802356852:True:=⟨⟩
theorem tw9371534081868853600:True:=⟨⟩
theorem tw1175506036506110262:True:=⟨⟩
theorem tw12934459197801425828:True:=⟨⟩
theorem tw3298173628720073903:True:=⟨⟩
theorem tw6566857748222739197:True:=⟨⟩
theorem tw15903409584397710482:True:=⟨⟩
theorem tw14346527501892433724:True:=⟨⟩
theorem tw2396809695657862510:True:=⟨⟩
theorem tw8769573966232024047:True:=⟨⟩
theorem tw2929713877741454078:True:=⟨⟩
theorem tw3155801449626489617:True:=⟨⟩
theorem tw13347347859779255108:True:=⟨⟩
theorem tw1571183864856534287:True:=⟨⟩
theorem tw388598597796577555:True:=⟨⟩
theorem tw15088976938377494317:True:=⟨⟩
theorem tw17504048230942893343:True:=⟨⟩
theorem tw11493635707929231386:True:=⟨⟩
theorem tw6601339630307353798:True:=⟨⟩
theorem tw15849571589387731212:True:=⟨⟩
theorem tw13968706808346103561:True:=⟨⟩
theorem tw9374682792175687529:True:=⟨⟩
theorem tw459662426273535844:True:=⟨⟩
end PySem.W.Fast
open PySem PySem.W PyProof.Rows
set_option maxRecDepth 100000 in
set_option maxHeartbeats 0 in
theorem PySem.Challenge.cw_modulewood_k11_quotients_holds : PySem.Challenge.rw_modulewood_k11_quotients.Holds := by
 w_on;o_law;k_head;(case hw=>w_witness2)
 k_fill
 refine L2.EF (l:=PySem.Challenge.rw_modulewood_k11_quotients) (n:=63) (k:=7) (x:="_law_script") (CX:=λ _=>L2.Ai) (sp:=λ w=>DL.jz _ KL.vQ) rfl (by decide) rfl ⟨rfl,by decide,by decide⟩ (λ w h Y=>PySem.W.kIn_of Y) ?F (λ w H a ns hl _ hS=>DL.HJ hS (KL.DZ ns hl)) λ _ _ _ _ _ z=>z
 case F=>
  intro w mg fa h KX G hmg
  refine' KL.I0 KX G hmg ?_ ?_ ?_ ?_ ?_ ?_ ?_ ?_ ?_ ?_ ?_ ?_ ?_ ?_ ?_ ?_ ?_ ?_ ?_ ?_ ?_ ?_ ?_ ?_ ?_ ?_ ?_ ?_ ?_ ?_ ?_ ?_ ?_ ?_ ?_ ?_ ?_ ?_ ?_ ?_ ?_ ?_ ?a1 ?l1 ?c1 ?k1
  iterate 14 ((try (dsimp only [KL.ZN,KL.ZV]));k_is)
  iterate 28 (refine' DL.HL KX G ?a ?l ?c ?k ?u;(case a=>k_is);(case l=>k_is);(case c=>k_is);(case k=>k_is);(case u=>first|(exact λ _ _ _ _ _ _ us hl=>match us,hl with|[_],_=>rfl)|(exact λ _ _ _ _ _ _ us hl=>match us,hl with|[_,_],_=>rfl)|(exact λ _ _ _ _ _ _ us hl=>match us,hl with|[_,_,_],_=>rfl)|(exact λ _ _ _ _ _ _ us hl=>match us,hl with|[_,_,_,_],_=>rfl)))
  (case a1=>dsimp only[KL.ZV];k_is);(case l1=>k_is);(case c1=>k_is);(case k1=>k_is)
