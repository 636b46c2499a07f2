import PyProof.Rows.All
import Wide.All
import OpenK.AllK
import Wide.FinOn
import PySem.Challenge.RW_modulewood_k09_groups_of_small_nets
import Lean
import PyProof.EqAt
import PyProof.EqKinds
import PyProof.TupleCall
import PyProof.StationsW
import PyProof.RangeIter
import PyProof.FactsTree
import PyProof.ExcClass2
import PyProof.ExcArgsOwn
import KE.KIsAll
import PyProof.SetScanFacts
import PyProof.Rows.SetFrom
import PyProof.FactsAll.set
import PyProof.Comp
import PyProof.Walks
import PyProof.TupleIter
import PyProof.CollectWalk
import PyProof.Rows.SortWalk
import PyProof.Rows.SortShell
import PyProof.NeKinds
import PyProof.WalkInts
import PyProof.Rows.CallKwBuiltin
import KE.KSortTup
import PyProof.IsRules
import PyProof.Walk
import PyProof.WalkLemmas
import PyProof.DictList
import PyProof.MeetsDict
import KE.KDictList
import PyProof.DictIter
import PyProof.DictWalks
import PyProof.DictItems
import PyProof.EnumIter
noncomputable section
set_option Elab.async false
set_option linter.all false
set_option maxRecDepth 100000
set_option maxHeartbeats 0
local macro_rules|`(tactic|walk_at "l")=>`(tactic|first|exact Or.inl rfl|exact Or.inr rfl)
set_option hygiene false
set_option compiler.extract_closed false
set_option hygiene true
def M6:=@PySem.wpAny_bind
def M7:=@List.length_map
def M8:=@PySem.Heap.get?_push_of_some
def M9:=@List.getElem?_eq_getElem
def Na:=@List.mem_cons_self
def Nb:=@List.mem_cons_of_mem
def Nc:=@PySem.wpAny_pure
def Nd:=@Bool.false_ne_true
def Nf:=@List.getD_eq_getElem?_getD
def Ng:=@List.getElem?_eq_some_iff
def Nh:=@List.size_toArray
def Ni:=@List.mem_map
def Nj:=@PySem.Heap.get?_push_size
def Nk:=@List.mem_append
def Nl:=@PySem.Heap.lt_size
def Nm:=@Nat.le_refl
def Nn:=@List.length_append
def Np:=@List.nodup_append
def Nq:=@List.mem_cons
def Nr:=@if_pos
def Nt:=@List.mem_append_left
def Nu:=@if_neg
def Nv:=@List.nodup_cons
def Nx:=@List.map_append
def Ny:=@List.length_cons
def Nz:=@List.mem_append_right
def NB:=@Array.getElem?_eq_getElem
def NC:=@List.mem_range
def ND:=@List.map_cons
def NF:=@List.mem_filter
def NG:=@List.getElem?_map
def NH:=@Nat.ne_of_lt
def NI:=@Array.length_toList
def NJ:=@List.map_congr_left
def NK:=@List.map_map
def NL:=@List.sublist_append_right
def NN:=@decide_eq_false
def NO:=@List.length_range
def NP:=@decide_eq_true
def NQ:=@Bool.and_eq_true
def NR:=@Bool.false_eq_true
def NS:=@Int.toNat_natCast
def NT:=@List.append_assoc
def NU:=@Nat.lt_of_lt_of_le
def NV:=@List.sublist_append_left
def NW:=@List.length_singleton
def NX:=@List.append_nil
def NY:=@List.mem_singleton
def NZ:=@PySem.wpAny_setField_rec
def N1:=@PySem.wpAny_call_entry
def N3:=@Array.getElem?_toList
def N4:=@PySem.PassesOwn.never
def N5:=@PySem.wpAny_newObj_type
def N6:=@Option.some.inj
def N7:=@PySem.wpAny_callSpecial?_slot
def N8:=@Array.getD_eq_getD_getElem?
def N9:=@Nat.le_trans
def Oa:=@List.getElem?_eq_none
def Ob:=@List.length_nil
def Oc:=@PySem.sizeLine_eq
def Od:=@Classical.byContradiction
def Oe:=@List.not_mem_nil
def Of:=@List.getElem_mem
def Og:=@decide_eq_true_eq
def Oh:=@List.length_filter_le
def Oi:=@List.getElem?_range
def Oj:=@decide_eq_decide
def Ol:=@List.getElem?_set_self
def Om:=@List.getElem?_set_ne
def Oo:=@PySem.Heap.size_push
def Oq:=@List.Sublist.refl
def Ot:=@Nat.lt_irrefl
def Ou:=@PySem.W.mg_none_of
def Ov:=@PySem.W.kia_one
def Ow:=@PySem.F.plainAttrs_list
def Ox:=@List.Perm.refl
def Oz:=@PySem.wpAny_typeNameOfWhole_itemiter
def OA:=@List.ext_getElem?
def OB:=@bne_self_eq_false
def OC:=@PySem.wpAny_field
def OD:=@Nat.zero_le
def OE:=@List.mem_iff_getElem
def OF:=@List.pairwise_iff_getElem
def OG:=@List.nodup_nil
def OH:=@Option.some_ne_none
def OI:=@PyProof.Rows.callWith_type1
def OJ:=@List.getElem?_append_right
def OL:=@decide_eq_true_iff
def OM:=@PySem.wpAny_isOneOf_itemiter
def ON:=@List.filter_sublist
def OO:=@Nat.lt_trichotomy
def OP:=@PySem.wpAny_seqItems
def OQ:=@congrArg
def OR:=@List.lookup_cons
def OS:=@List.ext_getElem
def OT:=@PySem.Around.under_plainId
def OU:=@List.length_eq_zero_iff
def OV:=@Ne.symm
def OW:=@Nat.zero_add
def OX:=@Array.perm_iff_toList_perm
def OY:=@PySem.Heap.SameBut.update
def OZ:=@List.flatten_append
def O0:=@Bool.eq_iff_iff
def O1:=@Int.emod_nonneg
def O2:=@PySem.Heap.get?_update_self
def O3:=@PySem.wpAny_mono
def O4:=@PySem.wpAny_Call_Name_kw
def O5:=@PySem.Paired.length
def O6:=@PySem.wpAny_holding
def O7:=@PySem.F.slot_dict_itemiterator_next
def O8:=@of_decide_eq_true
def O9:=@List.flatten_cons
def Pa:=@PySem.wpAny_setState_of
def Pc:=@List.pairwise_map
def Pe:=@PySem.codeAny_builtin
def Pg:=@PySem.F.slot_dict_setdefault
def Ph:=@Nat.le_of_lt
def Pj:=@PySem.Calls.callWith_builtin
def Pk:=@PySem.Heap.get?_update_other
def Pn:=@Array.getElem?_eq_none
def Po:=@List.filter_eq_nil_iff
def Pp:=@List.any_cons
def Pq:=@List.nodup_range
def Pr:=@List.any_eq_true
def Pu:=@PySem.F.slot_tuple_iterator_next
def Pw:=@List.perm_ext_iff_of_nodup
def Px:=@List.findIdx?_eq_some_iff_getElem
def Py:=@List.drop_eq_getElem_cons
def Pz:=@PySem.wpAny_passesOwn
def PB:=@List.find?_cons
def PC:=@Nat.not_lt_zero
def PD:=@Bool.or_eq_false_iff
def PF:=@Nat.testBit_eq_decide_div_mod_eq
def PH:=@Option.isSome_iff_exists
def PJ:=@beq_iff_eq
def PK:=@PySem.wpAny_attempt
def PL:=@beq_eq_false_iff_ne
def PM:=@PySem.mem_of_lookup
def PN:=@if_true
def PQ:=@PySem.Heap.SameBut.extBut
def PR:=@PySem.wpAny_setEntries_of
def PU:=@List.mem_map_of_mem
def PV:=@if_false
def PX:=@PySem.F.plainAttrs_dict
def PY:=@decide_eq_false_iff_not
def PZ:=@Sum.inl.inj
def P0:=@Nat.ne_of_gt
def P5:=@PySem.W.cellsFrom_some
def P6:=@List.sublist_cons_self
def P7:=@List.drop_eq_nil_of_le
def P8:=@Nat.le_of_succ_le
def P9:=@Nat.lt_succ_of_lt
def Qa:=@PySem.wpAny_rule
def Qc:=@Nat.pow_le_pow_right
def Qd:=@List.all_eq_true
def Qe:=@PySem.wpAny_isInstance
def Qf:=@List.isEmpty_nil
def Qg:=@List.filter_cons
def Qh:=@List.getElem_of_mem
def Qi:=@PySem.F.slot_list_append
def Qj:=@PySem.F.type_list_append
def Qk:=@PySem.plainId_quiet
def Ql:=@Bool.not_true
def Qm:=@Option.map_some
def Qn:=@List.forIn_cons
def Qo:=@PySem.wpAny_ite_split
def Qp:=@List.range_succ
def Qq:=@List.filter_append
def Qs:=@PySem.wpAny_Call_method0_late
def Qt:=@Nat.le_succ
def Qu:=@PyProof.Rows.F.plain_set_update_loop
def Qv:=@List.any_eq_false
def Qw:=@List.reverse_cons
def Qx:=@PySem.wpAny_pyIter_slot
def Qy:=@List.pairwise_lt_range
def Qz:=@Option.some.injEq
def QA:=@Bool.not_eq_true'
def QB:=@PyProof.Rows.slot_tuple_getitem
def QC:=@PySem.F.args_dict_itemiterator_next_1
def QD:=@List.getElem?_zipWith
def QE:=@PySem.builtinLookup_eq_fast
def QF:=@List.eq_nil_or_concat
def QG:=@List.concat_eq_append
def QH:=@List.length_take
def QI:=@PyProof.Rows.callWith_builtin1
def QJ:=@List.length_drop
def QK:=@PySem.call_meets
def QL:=@Nat.lt_succ_self
def QM:=@PySem.F.args_dict_setdefault_3
def QN:=@List.Perm.append
def QO:=@List.mem_of_getElem?
def QP:=@Array.toArray_toList
def QQ:=@PySem.wpAny_updateSeq_pair
def QR:=@List.dropLast_concat
def QS:=@PySem.F.entry_dict_setdefault
def QT:=@List.mem_erase_of_ne
def QU:=@PySem.wpAny_execs_nil
def QV:=@PySem.pushCells_keeps
def QW:=@PySem.F.slot_zip_next
def QX:=@PySem.wpAny_updateSeq
def QY:=@PySem.F.type_dict_setdefault
def QZ:=@List.filterMap_cons
def Q0:=@PySem.evalArgs_none
def Q2:=@List.Sublist.append
def Q3:=@List.length_pos_iff
def Q4:=@PySem.codeAny_mono
def Q5:=@PySem.wpAny_typeOf
def Q6:=@List.map_nil
def Q7:=@Int.fdiv_eq_ediv_of_nonneg
def Q8:=@PySem.Calls.spliced_cons
def Q9:=@List.forIn_nil
def Ra:=@PySem.wpAny_setField
def Rb:=@Option.ne_none_iff_exists'
def Rc:=@List.pairwise_cons
def Rf:=@Array.append_empty
def Rg:=@Nat.add_sub_cancel
def Rh:=@PySem.isSubtype_type
def Ri:=@List.length_eraseIdx_of_lt
def Rj:=@PySem.wpAny_fieldsOf
def Rk:=@List.getElem?_append_left
def Rl:=@List.findIdx?_eq_none_iff
def Rm:=@PySem.Value.isInt_shape
def Rn:=@PySem.wpAny_truthy_bool
def Ro:=@PySem.W.kitx_list
def Rp:=@PySem.Calls.spliced_nil
def Rq:=@PySem.wpAny_pyIter_list
def Rr:=@PySem.fits_of_scanBound
def Rt:=@List.Pairwise.map
def Ru:=@List.all_cons
def Rv:=@PySem.wpAny_handled
def Rw:=@PySem.wpAny_onRaise
def Rx:=@List.getElem_inj
def Ry:=@Option.getD_none
def Rz:=@Nat.le_add_right
def RA:=@beq_self_eq_true
def RB:=@List.mem_flatMap
def RC:=@List.flatten_nil
def RD:=@Nat.lt_trans
def RE:=@List.of_mem_zip
def RG:=@List.foldl_cons
def RH:=@Nat.min_eq_left
def RI:=@Nat.max_eq_left
def RJ:=@Int.le_refl
def RK:=@Nat.pow_pos
namespace L2
variable {C a b dx f:Addr}{A:Around}{op:CmpOp}{c e tg:Expr}{fd:FuncData}{h h':Heap}{pins:List (Addr×Obj)}{ch fp:List Addr}{es:List Expr}{body:List Stmt}{N ps:List Str}{us:List Value}{M:Model}{i t':Nat}{p pos:Pos}{P:Program}{s s':Shared}{x:Str}{mA:Str->Option Value}{u:Value}{E Q:Value->Shared->Prop}{w:World}
def ex5 {α β:Sort _}{p q r:α->β->Prop}{C:Prop}(h:∃ a b,p a b/\q a b/\r a b)(k:∀ a b,p a b->q a b->r a b->C):C:=h.elim λ a h=>h.elim λ b h=>k a b h.1 h.2.1 h.2.2
open PySem PySem.Spec PyProof.Rows
def vq (h:Heap)(a:Addr)(items:Array Value):Prop:=∃ n,h.get? a=some { cls:=.type "tuple",data:=.seq items n }
def vq.is{items:Array Value}(x:vq h a items):IsTup h a items:=let ⟨n,e⟩:=x;⟨_,e,rfl,n,rfl⟩
def vq.new (h:Heap)(items:Array Value):vq (h.push { cls:=.type "tuple",data:=.seq items }) h.objs.size items:=⟨_,Nj _ rfl⟩
abbrev Key:=Sum Int Str
def p5:Key->Value->Bool
 |.inl k,v=>Value.isInt k v
 |.inr x,v=>Value.isStrOf x v
def LU (w:World):Key->Int
 |.inl k=>hashInt k
 |.inr x=>hashStr w x
def cL:∀ {k:Key}{v:Value},p5 k v=true->(∃ i t,k=Sum.inl i/\v=Value.int i t)\/(∃ x t,k=Sum.inr x/\v=Value.str x t)
 | .inl i,v,h=>by
  obtain⟨t,e⟩:=Rm (k:=i) (v:=v) h;exact .inl ⟨i,t,rfl,e⟩
 | .inr x,v,h=>by
  obtain⟨t,e⟩:=Value.isStrOf_shape (x:=x) (v:=v) h;exact .inr ⟨x,t,rfl,e⟩
def AV (i:Int)(t:Tok):p5 (.inl i) (.int i t)=true:=by simp[p5,Value.isInt]
def AY (x:Str)(t:Tok):p5 (.inr x) (.str x t)=true:=by simp[p5,Value.isStrOf]
def HR (a b:Int):decide ((Sum.inl a:Key)=Sum.inl b)=(a == b):=by
 by_cases e:a=b
 ·subst e;simp
 ·have h:¬ (Sum.inl a:Key)=Sum.inl b:=λ q=>e (PZ q);rw[NN h];exact(PL.mpr e).symm
def HA (a b:Str):decide ((Sum.inr a:Key)=Sum.inr b)=decide (a=b):=by
 by_cases e:a=b
 ·subst e;simp
 ·have h:¬ (Sum.inr a:Key)=Sum.inr b:=λ q=>e (Sum.inr.inj q);rw[NN h,NN e]
def HB (a:Int)(b:Str):decide ((Sum.inl a:Key)=Sum.inr b)=false:=NN (λ q=>nomatch q)
def HP (a:Str)(b:Int):decide ((Sum.inr a:Key)=Sum.inl b)=false:=NN (λ q=>nomatch q)
def bX (prog:Program)(w:World):PySem.KeyKind prog w Key where
 is:=p5
 hash:=LU w
 inj:=λ v a b ha hb=>by
  rcases cL ha with ⟨i,t,rfl,rfl⟩|⟨x,t,rfl,rfl⟩
  ·rcases cL hb with ⟨j,u,rfl,e⟩|⟨y,u,rfl,e⟩
   ·injection e with e1 _;rw[e1]
   ·exact nomatch e
  ·rcases cL hb with ⟨j,u,rfl,e⟩|⟨y,u,rfl,e⟩
   ·exact nomatch e
   ·injection e with e1 _;rw[e1]
 byValue:=λ k v h=>by
  rcases cL h with ⟨i,t,rfl,rfl⟩|⟨x,t,rfl,rfl⟩<;>rfl
 pyHash:=λ hv h=>by
  rcases cL hv with ⟨i,t,rfl,rfl⟩|⟨x,t,rfl,rfl⟩
  ·exact wpAny_pyHash_int h
  ·exact wpAny_pyHash_str h
 eqBool:=λ hu hv h=>by
  rcases cL hu with ⟨i,t,rfl,rfl⟩|⟨x,t,rfl,rfl⟩
  ·rcases cL hv with ⟨j,u,rfl,rfl⟩|⟨y,u,rfl,rfl⟩
   ·rw[HR]at h;exact wpAny_eqBool_int h
   ·rw[HB]at h;exact SeqAt.EqAt.int_str i t y u _ _ _ _ h
  ·rcases cL hv with ⟨j,u,rfl,rfl⟩|⟨y,u,rfl,rfl⟩
   ·rw[HP]at h;exact SeqAt.EqAt.str_int x t j u _ _ _ _ h
   ·rw[HA]at h;exact wpAny_eqBool_str h
 «strs» :=λ k x t v h=>by
  rcases cL h with ⟨i,u,rfl,e⟩|⟨y,u,rfl,e⟩
  ·exact nomatch e
  ·injection e with e1 _
   subst e1;cases v<;>rfl
def vB (prog:Program)(w:World)(i:Int)(t:Tok):(bX prog w).is (.inl i) (.int i t)=true:=AV i t
def vt (prog:Program)(w:World)(x:Str)(t:Tok):(bX prog w).is (.inr x) (.str x t)=true:=AY x t
inductive V where
 |bx|bl (b:Bool)|int (i:Int)|str (x:Str)|AL (b:Array UInt8)|JN (b:UInt64)|ref (a:Addr)|ty (n:String)
 deriving DecidableEq
variable {xs:List V}{v:V}
def RelV:V->Value->Prop
 |.bx,u=>u=Value.none
 |.bl b,u=>u=Value.bool b
 |.int i,u=>∃ t,u=Value.int i t
 |.str x,u=>∃ t,u=Value.str x t
 |.AL b,u=>∃ t,u=Value.bytes b t
 |.JN b,u=>∃ t,u=Value.float b t
 |.ref a,u=>u=Value.ref a
 |.ty n,u=>u=Value.type n
abbrev Vals:List V->List Value->Prop:=Paired RelV
def Vals.length(r:Vals xs us):xs.length=us.length:=O5 r
def Vals.get:∀ {xs:List V}{us:List Value}{i:Nat}{x:V},Vals xs us->xs[i]?=some x->∃ u,us[i]?=some u/\RelV x u
 |_,_,_,_,.nil,e=>by simp at e
 |_,_,0,_,.cons r _,e=>by simp at e;subst e;exact⟨_,rfl,r⟩
 | _,_,i+1,x,.cons _ t,e=>by
  obtain⟨u,h1,h2⟩:=Vals.get (i:=i) (x:=x) t (by simpa using e);exact⟨u,by simpa using h1,h2⟩
def Vals.append:∀ {xs ys:List V}{us ws:List Value},Vals xs us->Vals ys ws->Vals (xs++ys) (us++ws)
 |_,_,_,_,.nil,s=>s
 |_,_,_,_,.cons r t,s=>.cons r (Vals.append t s)
def Vals.take:∀ {xs:List V}{us:List Value} (n:Nat),Vals xs us->Vals (xs.take n) (us.take n)
 |_,_,0,_=>.nil
 |_,_,_+1,.nil=>.nil
 |_,_,n+1,.cons r t=>.cons r (Vals.take n t)
def Vals.drop:∀ {xs:List V}{us:List Value} (n:Nat),Vals xs us->Vals (xs.drop n) (us.drop n)
 |_,_,0,r=>r
 |_,_,_+1,.nil=>.nil
 |_,_,n+1,.cons _ t=>Vals.drop n t
def pC:Option V->Option Value->Prop
 |some v,some u=>RelV v u
 |none,none=>True
 |_,_=>False
def KV {κ:Type}:List (κ×V)->List (κ×Value)->Prop:=Paired λ (p:κ×V) (q:κ×Value)=>p.1=q.1/\RelV p.2 q.2
def kV:Key->V
 |.inl i=>.int i
 |.inr x=>.str x
inductive HO where
 |lst (xs:List V)
 |tup (xs:List V)
 |dK (kvs:List (Key×V)) (ep:Nat)|dT (kvs:List (List Key×V)) (ep:Nat)
 |set (S:Int->Bool) (n:Nat)
 |ins (C dx:Addr) (fs:List (Str×V))
 |own (x:Addr)
 |xd (fs:List (Str×V))
 |met (f x:Addr)
 |LN (lo hi:Int)
 |ak (o:Obj) (u:HO)
 |HD (ps:Array Value)
 |ext (φ:Heap->Prop)
variable {o:HO}
abbrev Hp:=Addr->Option HO
variable {H H':Hp}
def upd (H:Hp)(a:Addr)(o:HO):Hp:=λ b=>if b=a then some o else H b
def aK:upd H a o a=some o:=by unfold upd;rw[Nr rfl]
def aN(h:b≠a):upd H a o b=H b:=by unfold upd;rw[Nu h]
def Kc{u:HO}(h:H a=some o)(h':H b=some u)(d:o≠u):a≠b:=by
 intro e;subst e;rw[h]at h';exact d (N6 h')
def bK(h:H a=some o)(h':H b=none):a≠b:=by
 intro e;subst e;rw[h]at h';cases h'
section
variable (P:Program)(w:World)
def bZ (H:Hp)(h:Heap)(a:Addr):HO->Prop
 |.lst xs=>xs.length<=sizeLine/\∃ (its:List Value) (n:Nat),Vals xs its/\h.get? a=some { cls:=.type "list",data:=.seq its.toArray n }
 |.tup xs=>xs.length<=sizeLine/\∃ its:List Value,Vals xs its/\vq h a its.toArray
 |.dK kvs ep=>kvs.length<=sizeLine/\(a == sysModules)=false/\∃ vs,KV kvs vs/\h.DictAt (bX P w) a vs ep
 | .dT kvs ep=>kvs.length<=sizeLine/\(a == sysModules)=false/\∃ xs:List (List Key×Addr×Value),
   Paired (λ (p:List Key×V) (q:List Key×Addr×Value)=>p.1=q.1/\H q.2.1=some (.tup (p.1.map kV))/\RelV p.2 q.2.2) kvs xs /\
   ∃ o es,h.get? a=some o/\o.ExactDict/\o.data=.dict es ep/\es.toList=xs.map (entryOfKey (tupleKind (bX P w)))/\(xs.map (·.1)).Nodup
 |.set S n=>h.SetOf (intKind P w) a S n
 | .ins C dx fs=>H dx=some (.own a)/\fs.length<=1000/\dx≠a/\h.get? a=some (PySem.W.instObj C dx) /\
   ∃ mA,h.Ns1 dx mA/\(∀ f,pC (fs.lookup f) (mA f))/\PySem.Within mA (fs.map (·.1))
 |.own _=>∃ o,h.get? a=some o
 |.xd fs=>∃ mA,h.Ns1 a mA/\∀ f,pC (fs.lookup f) (mA f)
 |.LN lo hi=>∃ t u v,h.get? a=some { cls:=.type "range",data:=.fields #[.int lo t,.int hi u,.int 1 v] }
 |.ak o u=>h.get? a=some o/\bZ H h a u
 |.HD ps=>h.get? a=some { cls:=.none,data:=.fields ps }
 |.met f x=>h.get? a=some (PySem.W.methodObj (.ref f) (.ref x))
 |.ext φ=>φ h/\(∃ o,h.get? a=some o)/\∀ h1 h2:Heap,φ h1->(∀ o,h1.get? a=some o->h2.get? a=some o)->φ h2
def ki (H:Hp)(h:Heap):Prop:=∀ a o,H a=some o->bZ P w H h a o
end
section
def bZ.lt (x:bZ P w H h a o):a<h.objs.size:=by
 cases o with
 |lst xs=>obtain⟨_,_,_,_,e⟩:=x;exact Nl e|tup xs=>obtain⟨_,_,_,p⟩:=x;exact p.is.lt|dK kvs ep=>obtain⟨_,_,_,_,o,_,e,_⟩:=x;exact Nl e|dT kvs ep=>obtain⟨_,_,_,_,o,_,e,_⟩:=x;exact Nl e|set S n=>obtain⟨o,_,_,_,e,_⟩:=x;exact Nl e|ins C dx fs=>obtain⟨_,_,_,e,_⟩:=x;exact Nl e|own y=>obtain⟨_,e⟩:=x;exact Nl e|xd fs=>obtain⟨_,⟨_,_,_,e,_⟩,_⟩:=x;exact Nl e|LN lo hi=>obtain⟨_,_,_,e⟩:=x;exact Nl e|ak ob u=>obtain⟨e,_⟩:=x;exact Nl e|HD ps=>exact Nl (show h.get? a=some _ from x)|met f y=>exact Nl (show h.get? a=some _ from x)|ext φ=>obtain⟨_,⟨_,e⟩,_⟩:=x;exact Nl e
def Paired.Hw {α β:Type}{F G:α->β->Prop}:∀ {l₁:List α}{l₂:List β},Paired F l₁ l₂->(∀ a b,F a b->G a b)->Paired G l₁ l₂
 |_,_,.nil,_=>.nil
 |_,_,.cons r t,f=>.cons (f _ _ r) (Paired.Hw t f)
def bZ.stay (x:bZ P w H h a o)(k:∀ b u,(b=a\/H b=some (.own a))->h.get? b=some u->h'.get? b=some u)
  (ho:∀ b,H b=some (.own a)->H' b=some (.own a)) (ht:∀ b xs,H b=some (.tup xs)->H' b=some (.tup xs)):bZ P w H' h' a o:=by
 induction o with
 |lst xs=>obtain⟨z,its,n,r,e⟩:=x;exact⟨z,its,n,r,k _ _ (.inl rfl) e⟩| tup xs=>obtain⟨z,its,r,n,e⟩:=x;exact⟨z,its,r,n,k _ _ (.inl rfl) e⟩| dK kvs ep=>obtain⟨z,y,vs,r,ob,es,e,c⟩:=x;exact⟨z,y,vs,r,ob,es,k _ _ (.inl rfl) e,c⟩
 | dT kvs ep =>
  obtain⟨z,y,xs,r,ob,es,e,c⟩:=x;exact⟨z,y,xs,Paired.Hw r λ p q z=>⟨z.1,ht _ _ z.2.1,z.2.2⟩,ob,es,k _ _ (.inl rfl) e,c⟩
 |set S n=>obtain⟨ob,es,ep,t,e,c⟩:=x;exact⟨ob,es,ep,t,k _ _ (.inl rfl) e,c⟩
 | ins C dx fs =>
  obtain⟨d,z,ne,e,mA,⟨od,es,ep,e2,c⟩,r⟩:=x;exact⟨ho _ d,z,ne,k _ _ (.inl rfl) e,mA,⟨od,es,ep,k _ _ (.inr d) e2,c⟩,r⟩
 |own y=>obtain⟨ob,e⟩:=x;exact⟨ob,k _ _ (.inl rfl) e⟩| xd fs=>obtain⟨mA,⟨od,es,ep,e,c⟩,r⟩:=x;exact⟨mA,⟨od,es,ep,k _ _ (.inl rfl) e,c⟩,r⟩| LN lo hi=>obtain⟨t,u,v,e⟩:=x;exact⟨t,u,v,k _ _ (.inl rfl) e⟩| ak ob u ih=>obtain⟨e,q⟩:=x;exact⟨k _ _ (.inl rfl) e,ih q⟩
 | HD ps =>
  have e:h.get? a=some { cls:=.none,data:=.fields ps }:=x;show h'.get? a=some { cls:=.none,data:=.fields ps };exact k a _ (.inl rfl) e
 | met f y =>
  have e:h.get? a=some (PySem.W.methodObj (.ref f) (.ref y)):=x;show h'.get? a=some (PySem.W.methodObj (.ref f) (.ref y));exact k a _ (.inl rfl) e
 |ext φ=>obtain⟨p,⟨o,e⟩,st⟩:=x;exact⟨st _ _ p λ o q=>k _ _ (.inl rfl) q,⟨o,k _ _ (.inl rfl) e⟩,st⟩
def ki.lt (x:ki P w H h)(e:H a=some o):a<h.objs.size:=(x a o e).lt
def ki.fresh (x:ki P w H h)(e:h.objs.size<=a):H a=none:=by
 cases q:H a with
 |none=>rfl|some u=>exact absurd (NU (x.lt q) e) (Ot _)
def ki.kept (x:ki P w H h)(k:∀ b u,h.get? b=some u->h'.get? b=some u):ki P w H h':=λ a o e=>
 (x a o e).stay (λ b u _ q=>k b u q) (λ _ q=>q) λ _ _ q=>q
def ki.laid (x:ki P w H h)(k:∀ b u,h.get? b=some u->h'.get? b=some u)(hp:h.objs.size<=a)(new:bZ P w (upd H a o) h' a o):ki P w (upd H a o) h':=λ b u e=>by
 have hn:=x.fresh hp;by_cases hb:b=a
 ·subst hb;rw[aK]at e;cases e;exact new
 ·rw[aN hb]at e;exact(x b u e).stay (λ c v _ q=>k c v q) (λ c q=>by rw[aN (bK q hn)];exact q) λ c xs q=>by rw[aN (bK q hn)];exact q
end
def Rd (H:Hp)(a:Addr)(u:HO):Prop:=H a=some u\/∃ o,H a=some (.ak o u)
def Rd.ok{u:HO}(r:Rd H a u)(x:ki P w H h):bZ P w H h a u:=by
 rcases r with r|⟨o,r⟩
 ·exact x a u r
 ·obtain⟨_,q⟩:=x a _ r;exact q
def J8:Option HO->Prop
 |some (.lst _)=>True
 |some (.dK _ _)=>True
 |some (.dT _ _)=>True
 |some (.set _ _)=>True
 |some (.ins _ _ _)=>True
 |some (.ext _)=>True
 |_=>False
section
variable{x e:Addr}{o':HO}
def ki.write (ok:ki P w H h)(mu:J8 (H x))(he:e=x\/H e=some (.own x))(k:∀ b u,b≠e->h.get? b=some u->h'.get? b=some u)(heo:∃ u,h'.get? e=some u)
  (new:bZ P w (upd H x o') h' x o'):ki P w (upd H x o') h':=λ b u q=>by
 have nown:∀ c y,H c=some (.own y)->c≠x:=λ c y r z=>by subst z;rw[r]at mu;exact mu
 have ntup:∀ c xs,H c=some (.tup xs)->c≠x:=λ c xs r z=>by subst z;rw[r]at mu;exact mu
 by_cases hb:b=x
 ·subst hb;rw[aK]at q;cases q;exact new
 ·rw[aN hb]at q;by_cases hbe:b=e
  ·have q':H b=some (.own x):=by
    rcases he with z|z
    ·exact absurd (hbe.trans z) hb
    ·rw[hbe];exact z
   rw[q]at q';cases q';obtain⟨v,hv⟩:=heo;exact⟨v,by rw[hbe];exact hv⟩
  ·refine(ok b u q).stay (λ c v hc r=>k c v ?_ r) (λ c r=>by rw[aN (nown c b r)];exact r) λ c xs r=>by rw[aN (ntup c xs r)];exact r
   rcases hc with rfl|hc
   ·exact hbe
   ·rintro rfl;rcases he with z|z
    ·exact nown c b hc z
    ·rw[hc]at z;cases z;exact hb rfl
end
structure Un (fs ex:List Addr)(H H':Hp)(h h':Heap):Prop where
 keep:∀ b o,h.get? b=some o->H b=none->b∉fs->b∉ex->h'.get? b=some o
 slot:∀ b o,h.get? b=some o->H b=none->b∈fs->b∉ex->∃ sl,h'.get? b=some { o with slots:=sl }
 free:∀ b o,h.get? b=some o->H b=none->b∉ex->H' b=none
 there:∀ b o,h.get? b=some o->b∉ex->∃ o',h'.get? b=some o'
 tups:∀ b xs,H b=some (.tup xs)->H' b=some (.tup xs)
 rC:∀ b o u,H b=some (.ak o u)->H' b=some (.ak o u)
 t8:∀ b ps,H b=some (.HD ps)->∃ more,H' b=some (.HD (ps++more))
section
variable {fs fs' ex ex':List Addr}{H1 H2:Hp}{h1 h2:Heap}{x e:Addr}
def Un.any (u:Un fs ex H H1 h h1){ob:Obj}(q:h.get? b=some ob)(n:H b=none)(hx:b∉ex):∃ sl,h1.get? b=some { ob with slots:=sl }:=by
 by_cases hb:b∈fs
 ·exact u.slot b ob q n hb hx
 ·exact⟨ob.slots,u.keep b ob q n hb hx⟩
def Un.kept (k:∀ b u,h.get? b=some u->h'.get? b=some u):Un fs ex H H h h':=
 ⟨λ b ob q _ _ _=>k b ob q,λ b ob q _ _ _=>⟨ob.slots,k b ob q⟩,λ _ _ _ n _=>n,λ b ob q _=>⟨ob,k b ob q⟩,λ _ _ q=>q,λ _ _ _ q=>q,λ _ ps q=>⟨#[],by rw[q];simp⟩⟩
def Un.refl:Un fs ex H H h h:=Un.kept λ _ _ q=>q
def Un.laid (k:∀ b u,h.get? b=some u->h'.get? b=some u)(hp:h.objs.size<=a)(hn:H a=none):Un fs ex H (upd H a o) h h' where
 keep:=λ b u q _ _ _=>k b u q
 slot:=λ b u q _ _ _=>⟨u.slots,k b u q⟩
 free:=λ b u q n _=>by rw[aN (NH (NU (Nl q) hp))];exact n
 there:=λ b u q _=>⟨u,k b u q⟩
 tups:=λ b xs q=>by rw[aN (bK q hn)];exact q
 rC:=λ b u xs q=>by rw[aN (bK q hn)];exact q
 t8:=λ b ps q=>⟨#[],by rw[aN (bK q hn),q];simp⟩
def Un.write (mu:J8 (H x))(he:e=x\/H e=some (.own x))(k:∀ b u,b≠e->h.get? b=some u->h'.get? b=some u)(heo:∃ u,h'.get? e=some u):Un fs ex H (upd H x o) h h':=by
 have hx:∀ b,H b=none->b≠x:=λ b n z=>by subst z;rw[n]at mu;exact mu
 have hb:∀ b,H b=none->b≠e:=λ b n z=>by
  subst z;rcases he with r|r
  ·exact hx b n r
  ·rw[n]at r;cases r
 have hm:∀ b u,H b=some u->¬ J8 (some u)->b≠x:=λ b u q nm z=>by subst z;rw[q]at mu;exact nm mu
 refine⟨λ b u q n _ _=>k b u (hb b n) q,λ b u q n _ _=>⟨u.slots,k b u (hb b n) q⟩,λ b u q n _=>by rw[aN (hx b n)];exact n,λ b u q _=>?_,
  λ b xs q=>by rw[aN (hm b _ q λ z=>z)];exact q,λ b u xs q=>by rw[aN (hm b _ q λ z=>z)];exact q,λ b ps q=>⟨#[],by rw[aN (hm b _ q λ z=>z),q];simp⟩⟩
 by_cases hbe:b=e
 ·subst hbe;exact heo
 ·exact⟨u,k b u hbe q⟩
end
def Lq (h:Heap)(H:Hp):List Addr:=(List.range h.objs.size).filter λ a=>(H a).isSome
def t7 (h:Heap)(H:Hp):Heap:=PySem.W.hideAll h (Lq h H)
def AI (h:Heap)(H:Hp):(t7 h H).objs.size=h.objs.size:=PySem.W.hideAll_size _ _
def Cq{o:Obj}(e:h.get? b=some o)(n:H b=none):(t7 h H).get? b=some o:=
 PySem.W.hideAll_get _ e λ hm=>by
  have q:(H b).isSome=true:=(NF.mp hm).2;rw[n]at q;simp at q
def E5{o:Obj}(e:(t7 h H).get? b=some o):h.get? b=some o/\H b=none:=by
 have e':h.get? b=some o:=PySem.W.of_hideAll (Lq h H) e;refine⟨e',?_⟩;cases q:H b with
 |none=>rfl
 | some x =>
  have hm:b∈Lq h H:=NF.mpr ⟨NC.mpr (Nl e'),by simp[q]⟩;have z:(t7 h H).get? b=none:=PySem.W.hideAll_none (Lq h H) hm;rw[z]at e;cases e
structure Mod (K:PySem.W.Frag)(mg:Str->Option Value)(base:Heap):Prop where
 LO:K.In base
 glob:base.Ns mainGlobals mg
 blt:∃ mb,base.Ns builtinsNs mb/\∀ x:Str,x ≠ "__name__" -> mb x=bootBuiltins x
 nolimit:base.NoLimit
structure Cx where
 prog:Program
 w:World
 K:PySem.W.Frag
 mg:Str->Option Value
 base:Heap
 A:Around
 N:List Str
 s₀:Shared
 H₀:Hp
 env:Env
 outer:List Env
 stack:List Env
 ex:List Addr
 fn:Str->Bool
 calm:Bool
 pn:List (Addr×Obj)
 xe:Value->Shared->Prop
variable {X:Cx}
def frs (l:List Env):List Addr:=l.filterMap (·.frame)
abbrev Cx.fs (X:Cx):List Addr:=frs X.outer
def rD (sc:Scope)(x:Str):Prop:=sc.names.lookup x=some .local\/sc.names.lookup x=some .cell\/sc.names.lookup x=some .free
def Loc (sc:Scope)(x:Str):Prop:=sc.names.lookup x=some .local\/sc.names.lookup x=some .cell
def Look (env:Env)(h:Heap)(m:Str->Option Value)(x:Str)(u:Value):Prop:=
 (env.kindOf x=some .local/\m x=some u)\/((env.kindOf x=some .cell\/env.kindOf x=some .free)/\∃ c,env.cells.lookup x=some c/\h.IsCell c (some u))
structure Cx.Ok (X:Cx):Prop where
 mod:Mod X.K X.mg X.base
 kind:X.env.scope.kind=.function
 glob:X.env.globals=mainGlobals
 blt:X.env.builtins=builtinsNs
 above:X.s₀.heap.objs.size<=X.env.locals
 inj:∀ x y c,X.env.cells.lookup x=some c->X.env.cells.lookup y=some c->x=y
 has:∀ x,(X.env.kindOf x=some .cell\/X.env.kindOf x=some .free)->∃ c,X.env.cells.lookup x=some c
 JO:∀ x c,X.fn x=true->X.env.cells.lookup x=some c->X.s₀.heap.objs.size<=c
 hd:X.calm=true->X.A.handled=none
 frames:X.A.frames=some X.stack
 JW:X.stack=X.outer\/(X.stack=X.env::X.outer/\X.env.frame=some X.env.locals)
 Ls:∀ b∈X.ex,b≠X.env.locals/\∀ x c,X.env.cells.lookup x=some c->c≠b
 bs:∀ b o,X.base.get? b=some o->X.s₀.heap.get? b=some o/\X.H₀ b=none
 EY:X.base.objs.size<=X.s₀.heap.objs.size
 AU:∀ b o,X.base.get? b=some o->b∉X.ex
 AW:∀ b∈X.ex,b∉X.fs
 pA:X.s₀.heap.FunFrames X.base X.outer
 Hv:∀ b∈X.fs,X.H₀ b=none
structure Inv (X:Cx)(pins:List (Addr×Obj))(σ:List (Option V))(H:Hp)(s:Shared):Prop where
 ok:X.Ok
 os:s.os=X.s₀.os
 bare:AllBare s.gens
 base:Un X.fs X.ex X.H₀ H X.s₀.heap s.heap
 loc:∃ m,s.heap.Ns X.env.locals m/\∀ (i:Nat) (x:Str) (v:V),X.N[i]?=some x->σ[i]?=some (some v)->rD X.env.scope x->∃ u,RelV v u/\Look X.env s.heap m x u
 cell:∀ x c,X.env.cells.lookup x=some c->∃ v,s.heap.IsCell c v
 free:H X.env.locals=none
 ky:∀ x c,X.env.cells.lookup x=some c->H c=none
 pin:∀ p∈X.pn++pins,s.heap.get? p.1=some p.2/\H p.1=none/\p.1≠X.env.locals/\p.1∉X.fs/\∀ v,p.2.data ≠ .cell v
 hok:ki X.prog X.w H s.heap
 len:σ.length=X.N.length
section
variable{σ:List (Option V)}
def Cx.Ok.LI (ok:X.Ok){o:Obj}(e:X.base.get? b=some o):b∉X.fs:=λ hb=>by
 have:=(ok.pA.mem hb).1;rw[e]at this;cases this
def Inv.bs (I:Inv X pins σ H s):∀ b o,X.base.get? b=some o->s.heap.get? b=some o/\H b=none:=λ b o e=>
 ⟨I.base.keep b o (I.ok.bs b o e).1 (I.ok.bs b o e).2 (I.ok.LI e) (I.ok.AU b o e),I.base.free b o (I.ok.bs b o e).1 (I.ok.bs b o e).2 (I.ok.AU b o e)⟩
def Inv.bk (I:Inv X pins σ H s):∀ b o,X.base.get? b=some o->s.heap.get? b=some o:=λ b o e=>(I.bs b o e).1
def Inv.mod (I:Inv X pins σ H s):Mod X.K X.mg X.base:=I.ok.mod
def Inv.tZ (I:Inv X pins σ H s):X.K.In s.heap:=I.ok.mod.LO.keeps I.bk
def Inv.lt (I:Inv X pins σ H s):X.env.locals<s.heap.objs.size:=let ⟨_,hn,_⟩:=I.loc;hn.lt
def Inv.sz (I:Inv X pins σ H s):X.s₀.heap.objs.size<=s.heap.objs.size:=N9 I.ok.above (Ph I.lt)
def Inv.LQ (I:Inv X pins σ H s)(h:s.heap.objs.size<=a):a∉X.fs:=λ hb=>by
 obtain⟨_,o,ho,_⟩:=I.ok.pA.mem hb;exact absurd (NU (Nl ho) (N9 I.sz h)) (Ot _)
def Inv.HF (I:Inv X pins σ H s):∀ x c,X.env.cells.lookup x=some c->c≠X.env.locals:=λ x c e z=>by
 obtain⟨v,o,ho,hd⟩:=I.cell x c e;obtain⟨m,⟨o',es,ep,ho',hd',_⟩,_⟩:=I.loc;rw[z,ho']at ho;cases ho;rw[hd']at hd;cases hd
def Inv.pA (I:Inv X pins σ H s):s.heap.FunFrames X.base X.outer:=by
 have all:∀ (l:List Env),(∀ b∈frs l,b∈X.fs)->X.s₀.heap.FunFrames X.base l->s.heap.FunFrames X.base l:=by
  intro l
  induction l with
  |nil=>intro _ _;trivial
  | cons env r ih =>
   intro hs hl;obtain⟨hk,⟨L,o,hf,hn,ho,hd⟩,hr⟩:=hl;have hL:L∈X.fs:=hs L (by unfold frs;rw[QZ,hf];exact Na);obtain⟨sl,e⟩:=I.base.slot L o ho (I.ok.Hv L hL) hL λ z=>I.ok.AW L z hL;exact⟨hk,⟨L,_,hf,hn,e,hd⟩,ih (λ b hb=>hs b (by unfold frs;rw[QZ,hf];exact Nb _ hb)) hr⟩
 exact all X.outer (λ _ hb=>hb) I.ok.pA
def Inv.stack (I:Inv X pins σ H s):s.heap.FunFrames X.base X.stack:=by
 rcases I.ok.JW with e|⟨e,hf⟩
 ·rw[e];exact I.pA
 ·rw[e];obtain⟨m,hn,_⟩:=I.loc;refine .cons (by rw[I.ok.kind];decide) hf hn ?_ I.pA;exact Heap.get?_none_of_le (N9 I.ok.EY I.ok.above)
def Inv.t6 (I:Inv X pins σ H s):∀ b∈frs X.stack,b∈X.env.locals::X.fs:=λ b hb=>by
 rcases I.ok.JW with e|⟨e,hf⟩
 ·rw[e]at hb;exact Nb _ hb
 ·rw[e]at hb;unfold frs at hb;rw[QZ,hf]at hb;exact hb
def Inv.zm (I:Inv X pins σ H s):∀ b∈frs X.stack,H b=none:=λ b hb=>by
 rcases Nq.mp (I.t6 b hb) with e|hb
 ·rw[e];exact I.free
 ·obtain⟨_,o,ho,_⟩:=I.ok.pA.mem hb;exact I.base.free b o ho (I.ok.Hv b hb) λ z=>I.ok.AW b z hb
def Inv.step {g':Array GenState}{d':Drawn}(I:Inv X pins σ H s)
  (hch:∀ b∈ch,(b∈X.ex\/X.s₀.heap.objs.size<=b)/\b≠X.env.locals/\(∀ x c,X.env.cells.lookup x=some c->c≠b)/\∀ p∈X.pn++pins,p.1≠b)
  (keep:∀ b o,b≠X.env.locals->b∉X.fs->b∉ch->s.heap.get? b=some o->H b=none->h'.get? b=some o)
  (slot:∀ b o,b≠X.env.locals->b∈X.fs->b∉ch->s.heap.get? b=some o->H b=none->∃ sl,h'.get? b=some { o with slots:=sl }) (free:∀ b o,b∉ch->s.heap.get? b=some o->H b=none->H' b=none)
  (there:∀ b o,b∉ch->s.heap.get? b=some o->∃ o',h'.get? b=some o')
  (tups:∀ b xs,H b=some (.tup xs)->H' b=some (.tup xs)) (rC:∀ b o u,H b=some (.ak o u)->H' b=some (.ak o u)) (t8:∀ b ps,H b=some (.HD ps)->∃ more,H' b=some (.HD (ps++more)))
  (ns:∀ m,s.heap.Ns X.env.locals m->h'.Ns X.env.locals m) (hok:ki X.prog X.w H' h') (hg:AllBare g') :
  Inv X pins σ H' { s with heap:=h',gens:=g',drawn:=d',toks:=t' }:=by
 have neL:∀ b o,X.s₀.heap.get? b=some o->b≠X.env.locals:=λ b o e=>NH (NU (Nl e) I.ok.above);have neC:∀ b o,X.s₀.heap.get? b=some o->b∉X.ex->b∉ch:=λ b o e hx hb=>by
  rcases (hch b hb).1 with z|z
  ·exact hx z
  ·exact absurd (NU (Nl e) z) (Ot _)
 have cellK:∀ x c,X.env.cells.lookup x=some c->∀ v,s.heap.IsCell c v->h'.IsCell c v:=λ x c e v ⟨o,ho,hd⟩=>by
  have nch:c∉ch:=λ z=>(hch c z).2.2.1 x c e rfl;by_cases hc:c∈X.fs
  ·obtain⟨sl,q⟩:=slot c o (I.HF x c e) hc nch ho (I.ky x c e);exact⟨_,q,hd⟩
  ·exact⟨o,keep c o (I.HF x c e) hc nch ho (I.ky x c e),hd⟩
 refine⟨I.ok,I.os,hg,⟨λ b o e n hb hx=>?_,λ b o e n hb hx=>?_,λ b o e n hx=>?_,λ b o e hx=>?_,λ b xs e=>tups b xs (I.base.tups b xs e),λ b o xs e=>rC b o xs (I.base.rC b o xs e),λ b ps e=>?_⟩,?_,λ x c e=>?_,?_,λ x c e=>?_,λ p hp=>?_,hok,I.len⟩
 ·exact keep b o (neL b o e) hb (neC b o e hx) (I.base.keep b o e n hb hx) (I.base.free b o e n hx)
 ·obtain⟨sl,e1⟩:=I.base.slot b o e n hb hx;obtain⟨sl',e2⟩:=slot b _ (neL b o e) hb (neC b o e hx) e1 (I.base.free b o e n hx);exact⟨sl',e2⟩
 ·obtain⟨o',e1⟩:=I.base.there b o e hx;exact free b o' (neC b o e hx) e1 (I.base.free b o e n hx)
 ·obtain⟨o',e1⟩:=I.base.there b o e hx;exact there b o' (neC b o e hx) e1
 ·obtain⟨m1,e1⟩:=I.base.t8 b ps e;obtain⟨m2,e2⟩:=t8 b _ e1;exact⟨m1++m2,by rw[e2,Array.append_assoc]⟩
 ·obtain⟨m,hn,hl⟩:=I.loc;refine⟨m,ns m hn,λ i x v e1 e2 e3=>?_⟩;obtain⟨u,r,l⟩:=hl i x v e1 e2 e3;refine⟨u,r,?_⟩;rcases l with l|⟨k,c,e,z⟩
  ·exact .inl l
  ·exact .inr ⟨k,c,e,cellK x c e _ z⟩
 ·obtain⟨v,z⟩:=I.cell x c e;exact⟨v,cellK x c e v z⟩
 ·obtain⟨m,⟨o,_,_,ho,_⟩,_⟩:=I.loc;exact free _ o (λ z=>(hch _ z).2.1 rfl) ho I.free
 ·obtain⟨v,o,ho,hd⟩:=I.cell x c e;exact free c o (λ z=>(hch c z).2.2.1 x c e rfl) ho (I.ky x c e)
 ·obtain⟨e,n,ne,nf,d⟩:=I.pin p hp;have nch:p.1∉ch:=λ z=>(hch p.1 z).2.2.2 p hp rfl;exact⟨keep p.1 p.2 ne nf nch e n,free p.1 p.2 nch e n,ne,nf,d⟩
def Inv.un(I:Inv X pins σ H s)(u:Un X.fs [] H H' s.heap h')(hok:ki X.prog X.w H' h'):Inv X pins σ H' { s with heap:=h',toks:=t' }:=by
 obtain⟨m,⟨o,es,ep,ho,r⟩,_⟩:=id I.loc;obtain⟨sl,hL⟩:=u.any ho I.free (by simp);exact I.step (g':=s.gens) (d':=s.drawn) (ch:=[]) (λ _ z=>nomatch z) (λ b o _ hb _ e n=>u.keep b o e n hb (by simp)) (λ b o _ hb _ e n=>u.slot b o e n hb (by simp)) (λ b o _ e n=>u.free b o e n (by simp)) (λ b o _ e=>u.there b o e (by simp)) u.tups u.rC u.t8 (λ m' hm=>by
  obtain⟨o',es',ep',ho',r'⟩:=hm;rw[ho]at ho';cases ho';exact⟨_,es',ep',hL,r'⟩) hok I.bare
def Inv.call {g':Array GenState}{d':Drawn}(I:Inv X pins σ H s)(u:Un (frs X.stack) ch H H' s.heap h')(hok:ki X.prog X.w H' h')(hg:AllBare g')
  (hch:∀ b∈ch,(b∈X.ex\/X.s₀.heap.objs.size<=b)/\b≠X.env.locals/\(∀ x c,X.env.cells.lookup x=some c->c≠b)/\∀ p∈X.pn++pins,p.1≠b) :
  Inv X pins σ H' { s with heap:=h',gens:=g',drawn:=d',toks:=t' }:=by
 obtain⟨m,⟨o,es,ep,ho,r⟩,_⟩:=id I.loc;obtain⟨sl,hL⟩:=u.any ho I.free λ z=>(hch _ z).2.1 rfl;exact I.step (ch:=ch) hch (λ b o hL hb hc e n=>u.keep b o e n (λ z=>(Nq.mp (I.t6 b z)).elim hL hb) hc) (λ b o _ _ hc e n=>u.any e n hc) (λ b o hc e n=>u.free b o e n hc) (λ b o hc e=>u.there b o e hc) u.tups u.rC u.t8 (λ m' hm=>by
  obtain⟨o',es',ep',ho',r'⟩:=hm;rw[ho]at ho';cases ho';exact⟨_,es',ep',hL,r'⟩) hok hg
def Inv.turned{it:Addr}(I:Inv X pins σ H s)(k:∀ b o,b≠it->s.heap.get? b=some o->h'.get? b=some o)(hn:H it=none)(hL:it≠X.env.locals)
  (h1:it∈X.ex\/X.s₀.heap.objs.size<=it) (h2:∀ x c,X.env.cells.lookup x=some c->c≠it) (h3:∀ p∈X.pn++pins,p.1≠it):Inv X pins σ H { s with heap:=h',toks:=t' }:=by
 have nit:∀ b u,H b=some u->b≠it:=λ b u e z=>by rw[z,hn]at e;cases e
 refine I.step (g':=s.gens) (d':=s.drawn) (ch:=[it]) (λ b hb=>?_) (λ b o _ _ hc e _=>k b o (λ z=>hc (by simp[z])) e) (λ b o _ _ hc e _=>⟨o.slots,k b o (λ z=>hc (by simp[z])) e⟩) (λ _ _ _ _ n=>n)
  (λ b o hc e=>⟨o,k b o (λ z=>hc (by simp[z])) e⟩) (λ _ _ e=>e) (λ _ _ _ e=>e) (λ b ps e=>⟨#[],by rw[e];simp⟩) (λ m hm=>?_) (λ b u e=>?_) I.bare
 ·have e:b=it:=by simpa using hb
  subst e;exact⟨h1,hL,h2,h3⟩
 ·obtain⟨o,es,ep,ho,r⟩:=hm;exact⟨o,es,ep,k _ o (OV hL) ho,r⟩
 ·refine(I.hok b u e).stay (λ c v hc q=>k c v ?_ q) (λ _ q=>q) λ _ _ q=>q;rcases hc with z|z
  ·rw[z];exact nit b u e
  ·exact nit c _ z
def Inv.tok (I:Inv X pins σ H s)(t:Nat):Inv X pins σ H { s with toks:=t }:=I.un (h':=s.heap) (t':=t) Un.refl I.hok
def Inv.kept(I:Inv X pins σ H s)(k:∀ b u,s.heap.get? b=some u->h'.get? b=some u):Inv X pins σ H { s with heap:=h',toks:=t' }:=I.un (Un.kept k) (I.hok.kept k)
def Inv.laid(I:Inv X pins σ H s)(k:∀ b u,s.heap.get? b=some u->h'.get? b=some u)(hp:s.heap.objs.size<=a)(new:bZ X.prog X.w (upd H a o) h' a o) :
  Inv X pins σ (upd H a o) { s with heap:=h',toks:=t' }:=I.un (Un.laid k hp (I.hok.fresh hp)) (I.hok.laid k hp new)
def Inv.write {x e:Addr}(I:Inv X pins σ H s)(mu:J8 (H x))(he:e=x\/H e=some (.own x))(k:∀ b u,b≠e->s.heap.get? b=some u->h'.get? b=some u)(heo:∃ u,h'.get? e=some u)
  (new:bZ X.prog X.w (upd H x o) h' x o):Inv X pins σ (upd H x o) { s with heap:=h',toks:=t' }:=I.un (Un.write mu he k heo) (I.hok.write mu he k heo new)
def Inv.zh {pins':List (Addr×Obj)}(I:Inv X pins σ H s)(h:∀ p∈pins',s.heap.get? p.1=some p.2/\H p.1=none/\p.1≠X.env.locals/\p.1∉X.fs/\∀ v,p.2.data ≠ .cell v):Inv X pins' σ H s:=
 ⟨I.ok,I.os,I.bare,I.base,I.loc,I.cell,I.free,I.ky,λ p hp=>(Nk.mp hp).elim (λ z=>I.pin p (Nt _ z)) (h p),I.hok,I.len⟩
def vC(hN:N.Nodup){j:Nat}(a:N[i]?=some x)(b:N[j]?=some x):i=j:=by
 obtain⟨h1,e1⟩:=Ng.mp a;obtain⟨h2,e2⟩:=Ng.mp b;exact(Rx hN).mp (e1.trans e2.symm)
def sA{Q:Unit->Shared->Prop}(I:Inv X pins σ H s)(hN:X.N.Nodup)(hi:X.N[i]?=some x)(hx:Loc X.env.scope x)(r:RelV v u)
  (h:∀ s',Inv X pins (σ.set i (some v)) H s'->(∃ a,Heap.SameBut a s.heap s'.heap/\(a=X.env.locals\/X.env.cells.lookup x=some a))->Q () s') (hf:X.fn x=true\/X.env.scope.names.lookup x=some .local:=by first|exact .inl rfl|exact .inr rfl|assumption):wpAny M A (storeName X.env x u) Q E s:=by
 obtain⟨m,hn,hl⟩:=id I.loc;have hcls:(X.env.scope.kind == .class||(X.env.scope.kind == .module&&X.env.locals != X.env.globals))=false:=by rw[I.ok.kind];rfl
 have hiσ:i<σ.length:=by rw[I.len];exact(Ng.mp hi).1
 have HF:=I.HF;have tracked:∀ {a:Addr}{h':Heap},(∃ o,s.heap.get? a=some o/\H a=none)->Heap.SameBut a s.heap h'->ki X.prog X.w H h':=λ {a h'} ha hs b ob e=>by
  obtain⟨_,_,hfree⟩:=ha;refine(I.hok b ob e).stay (λ c w' hc q=>(hs.2 c ?_).trans q) (λ _ q=>q) λ _ _ q=>q;rintro rfl;rcases hc with rfl|hc
  ·rw[hfree]at e;cases e
  ·rw[hfree]at hc;cases hc
 rcases hx with hk|hk
 ·refine wpAny_storeName_local hk hn (λ h' hn' hs=>?_) hcls;obtain⟨oL,_,_,hoL,_⟩:=id hn;refine h _ ⟨I.ok,I.os,I.bare,⟨λ b o e n hb hx=>?_,λ b o e n hb hx=>?_,I.base.free,λ b o e hx=>?_,I.base.tups,I.base.rC,I.base.t8⟩,⟨_,hn',λ j y v' e1 e2 e3=>?_⟩,λ y c e=>?_,I.free,I.ky,λ p hp=>?_,tracked ⟨oL,hoL,I.free⟩ hs,by simpa using I.len⟩ ⟨_,hs,.inl rfl⟩
  ·exact(hs.2 b (NH (NU (Nl e) I.ok.above))).trans (I.base.keep b o e n hb hx)
  ·obtain⟨sl,e1⟩:=I.base.slot b o e n hb hx;exact⟨sl,(hs.2 b (NH (NU (Nl e) I.ok.above))).trans e1⟩
  ·obtain⟨o',e1⟩:=I.base.there b o e hx;exact⟨o',(hs.2 b (NH (NU (Nl e) I.ok.above))).trans e1⟩
  ·by_cases hj:j=i
   ·subst hj;rw[hi]at e1;cases e1;rw[Ol hiσ]at e2;cases e2;exact⟨u,r,.inl ⟨hk,by simp⟩⟩
   ·rw[Om (OV hj)]at e2;obtain⟨u',r',q⟩:=hl j y v' e1 e2 e3;refine⟨u',r',?_⟩;rcases q with ⟨k,e⟩|⟨k,c,e,z⟩
    ·refine .inl ⟨k,?_⟩;have:y≠x:=λ e=>hj (vC hN e1 (e▸hi));simp[this,e]
    ·exact .inr ⟨k,c,e,z.sameBut hs (HF y c e)⟩
  ·obtain⟨w',z⟩:=I.cell y c e;exact⟨w',z.sameBut hs (HF y c e)⟩
  ·obtain⟨e,n,ne,nf,d⟩:=I.pin p hp;exact⟨(hs.2 p.1 ne).trans e,n,ne,nf,d⟩
 ·have hfn:X.fn x=true:=by
   rcases hf with z|z
   ·exact z
   ·rw[z]at hk;cases hk
  obtain⟨c,hc⟩:=I.ok.has x (.inl hk);obtain⟨w',z⟩:=I.cell x c hc;refine wpAny_storeName_cell I.ok.kind hk hc z (λ h' hc' hs=>?_);obtain⟨oc,hoc,hocd⟩:=id z;refine h { s with heap:=h' } ⟨I.ok,I.os,I.bare,⟨λ b o e n hb hx=>?_,λ b o e n hb hx=>?_,I.base.free,λ b o e hx=>?_,I.base.tups,I.base.rC,I.base.t8⟩,⟨m,hn.sameBut hs (OV (HF x c hc)),λ j y v' e1 e2 e3=>?_⟩,λ y c' e=>?_,I.free,I.ky,λ p hp=>?_,tracked ⟨oc,hoc,I.ky x c hc⟩ hs,by simpa using I.len⟩ ⟨c,hs,.inr hc⟩
  ·exact(hs.2 b (NH (NU (Nl e) (I.ok.JO x c hfn hc)))).trans (I.base.keep b o e n hb hx)
  ·obtain⟨sl,e1⟩:=I.base.slot b o e n hb hx;exact⟨sl,(hs.2 b (NH (NU (Nl e) (I.ok.JO x c hfn hc)))).trans e1⟩
  ·obtain⟨o',e1⟩:=I.base.there b o e hx;exact⟨o',(hs.2 b (NH (NU (Nl e) (I.ok.JO x c hfn hc)))).trans e1⟩
  ·by_cases hj:j=i
   ·subst hj;rw[hi]at e1;cases e1;rw[Ol hiσ]at e2;cases e2;exact⟨u,r,.inr ⟨.inl hk,c,hc,hc'⟩⟩
   ·rw[Om (OV hj)]at e2;obtain⟨u',r',q⟩:=hl j y v' e1 e2 e3;refine⟨u',r',?_⟩;rcases q with q|⟨k,c',e,z'⟩
    ·exact .inl q
    ·refine .inr ⟨k,c',e,z'.sameBut hs ?_⟩;rintro rfl;exact hj (vC hN e1 (I.ok.inj _ _ _ e hc▸hi))
  ·by_cases hcc:c'=c
   ·subst hcc;exact⟨_,hc'⟩
   ·obtain⟨w2,z2⟩:=I.cell y c' e;exact⟨w2,z2.sameBut hs hcc⟩
  ·obtain⟨e,n,ne,nf,d⟩:=I.pin p hp;refine⟨(hs.2 p.1 ?_).trans e,n,ne,nf,d⟩;intro q;rw[q,hoc]at e;have q':oc=p.2:=N6 e;exact d w' (by rw[<-q'];exact hocd)
def vA{Q:Unit->Shared->Prop}(I:Inv X pins σ H s)(hN:X.N.Nodup)(hi:X.N[i]?=some x)(hx:Loc X.env.scope x)(r:RelV v u)
  (h:∀ s',Inv X pins (σ.set i (some v)) H s'->Q () s') (hf:X.fn x=true\/X.env.scope.names.lookup x=some .local:=by first|exact .inl rfl|exact .inr rfl|assumption):wpAny M A (storeName X.env x u) Q E s:=
 sA I hN hi hx r (λ s' I' _=>h s' I') hf
def Inv.Kf(I:Inv X pins σ H s)(ho:s'.os=s.os)(u:Un (frs X.stack) ch H H' s.heap s'.heap)(hok:ki X.prog X.w H' s'.heap)(hg:AllBare s'.gens)
  (hch:∀ b∈ch,(b∈X.ex\/X.s₀.heap.objs.size<=b)/\b≠X.env.locals/\(∀ x c,X.env.cells.lookup x=some c->c≠b)/\∀ p∈X.pn++pins,p.1≠b):Inv X pins σ H' s':=by
 obtain⟨h',g',d',t',o'⟩:=s';have e:o'=s.os:=ho;subst e;exact I.call (g':=g') (t':=t') (d':=d') u hok hg hch
end
abbrev XK:=Value->Option Addr->Hp->Prop
abbrev St:=List (Option V)
variable {σ:St}
abbrev VK:=V->Hp->Prop
abbrev TE:=St->Hp->VK->Prop
variable {ta tb te:TE}
abbrev TT:=St->Hp->(Bool->Hp->Prop)->Prop
abbrev TA:=St->Hp->(List V->Hp->Prop)->Prop
structure Ends where
 nx:St->Hp->Prop
 rt:VK
 bk:St->Hp->Prop:=λ _ _=>False
 ct:St->Hp->Prop:=λ _ _=>False
abbrev TS:=Ends->St->Hp->Prop
def EP (X:Cx)(pins:List (Addr×Obj))(σ:St)(Q:VK)(u:Value)(s':Shared):Prop:=∃ v H',Inv X pins σ H' s'/\RelV v u/\Q v H'
def TP (X:Cx)(pins:List (Addr×Obj))(σ:St)(Q:Bool->Hp->Prop)(b:Bool)(s':Shared):Prop:=∃ H',Inv X pins σ H' s'/\Q b H'
def AP (X:Cx)(pins:List (Addr×Obj))(σ:St)(Q:List V->Hp->Prop)(us:List Value)(s':Shared):Prop:=∃ vs H',Inv X pins σ H' s'/\Vals vs us/\Q vs H'
def SP (X:Cx)(pins:List (Addr×Obj))(D:Ends)(f:Flow)(s':Shared):Prop:=
 match f with
 |.next=>∃ σ' H',Inv X pins σ' H' s'/\D.nx σ' H'
 |.brk=>∃ σ' H',Inv X pins σ' H' s'/\D.bk σ' H'
 |.cont=>∃ σ' H',Inv X pins σ' H' s'/\D.ct σ' H'
 |.ret u=>∃ v σ' H',Inv X pins σ' H' s'/\RelV v u/\D.rt v H'
def PE (X:Cx)(e:Expr)(t:TE):Prop:=
 ∀ (pins:List (Addr×Obj)) (s:Shared) (σ:St) (H:Hp) (Q:VK),Inv X pins σ H s->t σ H Q->wpAny (model X.prog X.w) X.A (eval e X.env) (EP X pins σ Q) X.xe s
def PT (X:Cx)(e:Expr)(t:TT):Prop:=
 ∀ (pins:List (Addr×Obj)) (s:Shared) (σ:St) (H:Hp) (Q:Bool->Hp->Prop),Inv X pins σ H s->t σ H Q->wpAny (model X.prog X.w) X.A (isTrue e X.env (eval e X.env)) (TP X pins σ Q) X.xe s
def PW (X:Cx)(e:Expr)(t:TT):Prop:=
 ∀ (whole:Sem Value) (pins:List (Addr×Obj)) (s:Shared) (σ:St) (H:Hp) (Q:Bool->Hp->Prop),Inv X pins σ H s->t σ H Q->wpAny (model X.prog X.w) X.A (isTrue e X.env whole) (TP X pins σ Q) X.xe s
def PW.pt{t:TT}(h:PW X e t):PT X e t:=h _
def PA (X:Cx)(es:List Expr)(t:TA):Prop:=
 ∀ (pos:Pos) (pins:List (Addr×Obj)) (s:Shared) (σ:St) (H:Hp) (Q:List V->Hp->Prop),Inv X pins σ H s->t σ H Q->wpAny (model X.prog X.w) X.A (spliced (backTo pos (starEach es X.env))) (AP X pins σ Q) X.xe s
def PS (X:Cx)(st:Stmt)(t:TS):Prop:=
 ∀ (pins:List (Addr×Obj)) (s:Shared) (σ:St) (H:Hp) (D:Ends),Inv X pins σ H s->t D σ H->wpAny (model X.prog X.w) X.A (exec st X.env) (SP X pins D) X.xe s
def mQ (X:Cx)(st:List Stmt)(t:TS):Prop:=
 ∀ (pins:List (Addr×Obj)) (s:Shared) (σ:St) (H:Hp) (D:Ends),Inv X pins σ H s->t D σ H->wpAny (model X.prog X.w) X.A (execs st X.env) (SP X pins D) X.xe s
def eK {α:Type}{t:Sem α}{Q Q':α->Shared->Prop}(h:wpAny M A t Q E s)(hQ:∀ a s,Q a s->Q' a s):wpAny M A t Q' E s:=O3 h hQ λ _ _ x=>x
section
def E3 (i:Nat):TE:=λ σ H Q=>∃ v,σ[i]?=some (some v)/\Q v H
def tC (v:V):TE:=λ _ H Q=>Q v H
def dm(hN:X.N[i]?=some x)(hv:rD X.env.scope x)(hd:(x == ("__debug__" : Str))=false:=by decide)(hcd:(x == ("__classdict__" : Str))=false:=by decide):PE X (.Name x pos) (E3 i):=by
 intro pins s σ H Q I h;obtain⟨v,e,h⟩:=h;obtain⟨m,hn,hl⟩:=I.loc;obtain⟨u,r,l⟩:=hl i x v hN e hv;have fin:EP X pins σ Q u s:=⟨v,H,I,r,h⟩;rcases l with ⟨hk,hm⟩|⟨hk,c,hc,hcell⟩
 ·exact wpAny_Name (wpAny_loadName_local I.ok.kind hk hn hm fin) hd
 ·rcases hk with hk|hk
  ·exact wpAny_Name (wpAny_loadName_cell I.ok.kind hk hc hcell fin) hd
  ·exact wpAny_Name (wpAny_loadName_free I.ok.kind hk hc hcell fin hcd) hd
def HQ {i j pos}:PE X (.Constant (.int i) j pos) (tC (.int i)):=λ _ _ _ H _ I h=>wpAny_Constant_int ⟨.int i,H,I.tok _,⟨_,rfl⟩,h⟩
def Kd {b j pos}:PE X (.Constant (.bool b) j pos) (tC (.bl b)):=λ _ _ _ H _ I h=>Constant_bool ⟨.bl b,H,I,rfl,h⟩
def HX {j pos}:PE X (.Constant .none j pos) (tC .bx):=λ _ _ _ H _ I h=>Constant_none ⟨.bx,H,I,rfl,h⟩
def Gl (X:Cx)(x:Str):Prop:=X.env.kindOf x=some .globalImplicit
def E4(I:Inv X pins σ H s)(hg:Gl X x)(hm:X.mg x=some u)(h:Q u s)
  (hd:(x == ("__debug__" : Str))=false:=by decide):wpAny (model X.prog X.w) X.A (eval (.Name x pos) X.env) Q E s:=
 Calls.Name_function_global I.ok.kind hg (Calls.loadGlobal_global (by rw[I.ok.glob];exact I.mod.glob.keeps I.bk) hm h) hd
def jM(I:Inv X pins σ H s)(hg:Gl X x)(hm:X.mg x=none)(hv:bootBuiltins x=some u)(h:Q u s)
  (hn:x ≠ "__name__" :=by decide) (hd:(x == ("__debug__" : Str))=false:=by decide):wpAny (model X.prog X.w) X.A (eval (.Name x pos) X.env) Q E s:=by
 obtain⟨mb,h1,h2⟩:=I.mod.blt;exact Calls.Name_function_global I.ok.kind hg (Calls.loadGlobal_builtin (by rw[I.ok.glob];exact I.mod.glob.keeps I.bk) hm (by rw[I.ok.blt];exact h1.keeps I.bk) ((h2 x hn).trans hv) h) hd
def EU(hg:Gl X x)(hm:X.mg x=none)(hv:bootBuiltins x=some u)(r:RelV v u)(hn:x ≠ "__name__" :=by decide)(hd:(x == ("__debug__" : Str))=false:=by decide):PE X (.Name x pos) (tC v):=
 λ _ _ _ H _ I h=>jM I hg hm hv ⟨v,H,I,r,h⟩ hn hd
variable {a b:Expr}
def tB (t:TE):TT:=λ σ H Q=>t σ H λ x H1=>∃ c,x=.bl c/\Q c H1
def Ht{t:TE}(h:PE X e t)(he:∀ whole,isTrue e X.env whole=(do let v <-whole;standAt e.pos;holding [v] (truthy v)):=by intro _;rfl):PT X e (tB t):=by
 intro pins s σ H Q I hw;refine isTrue_plain (eK (h pins s σ H _ I hw) λ v s1 hq5=>L2.ex5 hq5 λ x H1 I1 r1 q1=>?_) (he _);obtain⟨d,rfl,q⟩:=q1;cases r1;exact Rn ⟨H1,I1,q⟩
variable {tA tB':TT}{rest:List Expr}
def LW (t u:TT):TT:=λ σ H Q=>t σ H λ c H1=>if c=true then u σ H1 Q else Q false H1
def MS (t u:TT):TT:=λ σ H Q=>t σ H λ c H1=>if c=true then Q true H1 else u σ H1 Q
def LZ (t:TT):TT:=λ σ H Q=>t σ H λ c H1=>Q (!c) H1
def ES (ha:PT X a tA):PW X (.BoolOp .And [a] pos) tA:=by
 intro wh pins s σ H Q I h;refine isTrue_and (eK (ha pins s σ H Q I h) λ c s1 e=>?_);cases c with
 |true=>exact isTrue_and_nil e|false=>exact e
def HJ (ha:PT X a tA):PW X (.BoolOp .Or [a] pos) tA:=by
 intro wh pins s σ H Q I h;refine isTrue_or (eK (ha pins s σ H Q I h) λ c s1 e=>?_);cases c with
 |false=>exact isTrue_or_nil e|true=>exact e
def HN (ha:PT X a tA)(hb:PW X (.BoolOp .And (b::rest) pos) tB'):PW X (.BoolOp .And (a::b::rest) pos) (LW tA tB'):=by
 intro wh pins s σ H Q I h;refine isTrue_and (eK (ha pins s σ H _ I h) λ c s1 ⟨H1,I1,q1⟩=>?_);cases c with
 |true=>exact hb wh pins s1 σ H1 Q I1 q1|false=>exact⟨H1,I1,q1⟩
def Kg (ha:PT X a tA)(hb:PW X (.BoolOp .Or (b::rest) pos) tB'):PW X (.BoolOp .Or (a::b::rest) pos) (MS tA tB'):=by
 intro wh pins s σ H Q I h;refine isTrue_or (eK (ha pins s σ H _ I h) λ c s1 ⟨H1,I1,q1⟩=>?_);cases c with
 |true=>exact⟨H1,I1,q1⟩| false=>exact hb wh pins s1 σ H1 Q I1 q1
def HV (ha:PT X a tA):PT X (.UnaryOp .Not a pos) (LZ tA):=by
 intro pins s σ H Q I h;exact isTrue_not (ha pins s σ H (λ c H1=>Q (!c) H1) I h)
def MR (t:TT)(ta tb:TE):TE:=λ σ H Q=>t σ H λ c H1=>if c=true then ta σ H1 Q else tb σ H1 Q
def Cg(hc:PT X c tA)(ha:PE X a ta)(hb:PE X b tb):PE X (.IfExp c a b pos) (MR tA ta tb):=by
 intro pins s σ H Q I h;refine wpAny_IfExp (eK (hc pins s σ H _ I h) λ d s1 ⟨H1,I1,q1⟩=>?_);cases d with
 |true=>exact ha pins s1 σ H1 Q I1 q1|false=>exact hb pins s1 σ H1 Q I1 q1
end
def cY (K:PySem.W.Frag)(H:Hp)(a:Addr)(xs:List V):Prop:=
 Rd H a (.lst xs) ∨
  ∃ (o:Obj) (its:Array Value) (n:Nat),K.lookup a=some o/\o.cls=.type "list" /\ o.dict=none/\o.data=.seq its n/\its.size<=sizeLine/\Vals xs its.toList
def lq (K:PySem.W.Frag)(H:Hp)(a:Addr)(xs:List V):Prop:=
 Rd H a (.tup xs) ∨
  ∃ (o:Obj) (its:Array Value) (n:Nat),K.lookup a=some o/\o.cls=.type "tuple" /\ o.data=.seq its n/\its.size<=sizeLine/\Vals xs its.toList
def LR:Value->Option V
 |.none=>some .bx
 |.bool b=>some (.bl b)
 |.int i _=>some (.int i)
 |.str x _=>some (.str x)
 |.bytes b _=>some (.AL b)
 |.float b _=>some (.JN b)
 |.ref a=>some (.ref a)
 |.type n=>some (.ty n)
 |_=>none
def RelV.abs {x:V}(r:RelV x u):LR u=some x:=by
 cases x with
 |bx=>cases r;rfl|bl _=>cases r;rfl|int _=>obtain⟨t,rfl⟩:=r;rfl|str _=>obtain⟨t,rfl⟩:=r;rfl|AL _=>obtain⟨t,rfl⟩:=r;rfl|JN _=>obtain⟨t,rfl⟩:=r;rfl|ref _=>cases r;rfl|ty _=>cases r;rfl
def RelV.inj {x y:V}(r:RelV x u)(q:RelV y u):x=y:=N6 (r.abs.symm.trans q.abs)
def Vals.inj:∀ {xs ys:List V}{us:List Value},Vals xs us->Vals ys us->xs=ys
 |_,_,_,.nil,.nil=>rfl|_,_,_,.cons r t,.cons r' t'=>by rw[r.inj r',Vals.inj t t']
section
variable{ys:List V}
def cY.of {K:PySem.W.Frag}(h:H a=some (.lst xs)):cY K H a xs:=.inl (.inl h)
def lq.of {K:PySem.W.Frag}(h:H a=some (.tup xs)):lq K H a xs:=.inl (.inl h)
def Inv.list (I:Inv X pins σ H s)(h:cY X.K H a xs):∃ its:List Value,Vals xs its/\PlainL s.heap a its.toArray/\xs.length<=sizeLine:=by
 rcases h with h|⟨o,its,n,hk,hc,hd,hs,hz,r⟩
 ·obtain⟨z,its,n,r,e⟩:=h.ok I.hok;exact⟨its,r,⟨_,n,e,rfl,rfl,rfl⟩,z⟩
 ·refine⟨its.toList,r,⟨o,n,I.tZ a o hk,hc,hd,by simpa using hs⟩,?_⟩;have e:=r.length;simp only[NI]at e;omega
def Inv.tuple (I:Inv X pins σ H s)(h:lq X.K H a xs):∃ its:List Value,Vals xs its/\IsTup s.heap a its.toArray/\xs.length<=sizeLine:=by
 rcases h with h|⟨o,its,n,hk,hc,hs,hz,r⟩
 ·obtain⟨z,its,r,p⟩:=h.ok I.hok;exact⟨its,r,p.is,z⟩
 ·refine⟨its.toList,r,⟨o,I.tZ a o hk,hc,n,by simpa using hs⟩,?_⟩;have e:=r.length;simp only[NI]at e;omega
def Inv.vz (I:Inv X pins σ H s)(h:cY X.K H a xs)(h':cY X.K H a ys):xs=ys:=by
 obtain⟨its,r,⟨o,n,e,_,_,d⟩,_⟩:=I.list h;obtain⟨its',r',⟨o',n',e',_,_,d'⟩,_⟩:=I.list h';rw[e]at e';cases e';rw[d]at d';injection d' with d1 _
 have:its=its':=by simpa using OQ Array.toList d1
 subst this;exact r.inj r'
def Inv.sd (I:Inv X pins σ H s)(h:lq X.K H a xs)(h':lq X.K H a ys):xs=ys:=by
 obtain⟨its,r,⟨o,e,_,n,d⟩,_⟩:=I.tuple h;obtain⟨its',r',⟨o',e',_,n',d'⟩,_⟩:=I.tuple h';rw[e]at e';cases e';rw[d]at d';injection d' with d1 _
 have:its=its':=by simpa using OQ Array.toList d1
 subst this;exact r.inj r'
end
abbrev Cx.rE (X:Cx)(E:Value->Shared->Prop):Cx:={ X with xe:=E }
abbrev Cx.GY (X:Cx):Cx:=X.rE λ _ _=>False
def Cx.Ok.rE(ok:X.Ok)(E:Value->Shared->Prop):(X.rE E).Ok:=
 ⟨ok.mod,ok.kind,ok.glob,ok.blt,ok.above,ok.inj,ok.has,ok.JO,ok.hd,ok.frames,ok.JW,ok.Ls,ok.bs,ok.EY,ok.AU,ok.AW,ok.pA,ok.Hv⟩
def Cx.Ok.ku(ok:(X.rE E).Ok):X.Ok:=
 ⟨ok.mod,ok.kind,ok.glob,ok.blt,ok.above,ok.inj,ok.has,ok.JO,ok.hd,ok.frames,ok.JW,ok.Ls,ok.bs,ok.EY,ok.AU,ok.AW,ok.pA,ok.Hv⟩
section
def Inv.rE (I:Inv X pins σ H s)(E:Value->Shared->Prop):Inv (X.rE E) pins σ H s:=⟨I.ok.rE E,I.os,I.bare,I.base,I.loc,I.cell,I.free,I.ky,I.pin,I.hok,I.len⟩
def Inv.ku (I:Inv (X.rE E) pins σ H s):Inv X pins σ H s:=⟨I.ok.ku,I.os,I.bare,I.base,I.loc,I.cell,I.free,I.ky,I.pin,I.hok,I.len⟩
def SP.ku {D:Ends}{f:Flow}(h:SP (X.rE E) pins D f s'):SP X pins D f s':=by
 cases f with
 |next=>obtain⟨σ',H',I,q⟩:=h;exact⟨σ',H',I.ku,q⟩| brk=>obtain⟨σ',H',I,q⟩:=h;exact⟨σ',H',I.ku,q⟩| cont=>obtain⟨σ',H',I,q⟩:=h;exact⟨σ',H',I.ku,q⟩| ret u=>obtain⟨v,σ',H',I,r,q⟩:=h;exact⟨v,σ',H',I.ku,r,q⟩
def mQ.GY {st:List Stmt}{t:TS}(h:mQ X.GY st t):mQ X st t:=λ pins s σ H D I hw=>
 O3 (h pins s σ H D (I.rE _) hw) (λ _ _ q=>q.ku) λ _ _ z=>False.elim z
end
section
variable{st:Stmt}{rest:List Stmt}{t u:TS}
def J5:TS:=λ D σ H=>D.nx σ H
def LF (t u:TS):TS:=λ D σ H=>t { D with nx:=u D } σ H
def E2:mQ X [] J5:=λ _ _ σ H _ I h=>QU ⟨σ,H,I,h⟩
def Cf (h1:PS X st t)(h2:mQ X rest u):mQ X (st::rest) (LF t u):=by
 intro pins s σ H D I h;refine wpAny_execs_cons (eK (h1 pins s σ H { D with nx:=u D } I h) λ f s1 q=>?_);cases f with
 | next =>
  obtain⟨σ',H',I',q⟩:=q;exact h2 pins s1 σ' H' D I' q
 |ret v=>exact q|brk=>exact q|cont=>exact q
def ET (h1:PS X st t):mQ X [st] t:=by
 intro pins s σ H D I h;refine wpAny_execs_cons (eK (h1 pins s σ H D I h) λ f s1 q=>?_);cases f with
 |next=>exact QU q|ret v=>exact q|brk=>exact q|cont=>exact q
def Inv.quiet(I:Inv X pins σ H s):interactive X.env=false:=by simp[interactive,I.ok.kind]
def J9 (te:TE):TS:=λ D σ H=>te σ H λ _ H1=>D.nx σ H1
def jO (he:PE X e te)(hs:swapsWith e none pos.line X.env=pure false:=by rfl):PS X (.Expr e pos) (J9 te):=by
 intro pins s σ H D I h;exact wpAny_Expr_any (eK (he pins s σ H _ I h) λ v s1 hq5=>L2.ex5 hq5 λ x H1 I1 r1 q1=>⟨σ,H1,I1,q1⟩) I.quiet hs
def LV (te:TE):TS:=λ D σ H=>te σ H D.rt
def pV (he:PE X e te):PS X (.Return (some e) pos) (LV te):=by
 intro pins s σ H D I h;exact wpAny_Return_some (eK (he pins s σ H _ I h) λ v s1 hq5=>L2.ex5 hq5 λ x H1 I1 r1 q1=>⟨x,σ,H1,I1,r1,q1⟩)
def LP (c:TT)(t u:TS):TS:=λ D σ H=>c σ H λ b H1=>if b=true then t D σ H1 else u D σ H1
def JV{a b:List Stmt}{tc:TT}(hc:PT X c tc)(ha:mQ X a t)(hb:mQ X b u):PS X (.If c a b pos) (LP tc t u):=by
 intro pins s σ H D I h;refine wpAny_If (eK (hc pins s σ H _ I h) λ d s1 ⟨H1,I1,q1⟩=>?_);cases d with
 |true=>exact ha pins s1 σ H1 D I1 q1|false=>exact hb pins s1 σ H1 D I1 q1
end
abbrev TG:=V->St->Hp->(St->Hp->Prop)->Prop
abbrev EO:=List V->St->Hp->(St->Hp->Prop)->Prop
def PG (X:Cx)(target:Expr)(t:TG):Prop:=
 ∀ (pins:List (Addr×Obj)) (s:Shared) (σ:St) (H:Hp) (v:V) (u:Value) (Q:St->Hp->Prop),Inv X pins σ H s->RelV v u->t v σ H Q ->
  wpAny (model X.prog X.w) X.A (assign target X.env u) (λ _ s'=>∃ σ' H',Inv X pins σ' H' s'/\Q σ' H') X.xe s
def AZ (X:Cx)(ts:List Expr)(t:EO):Prop:=
 ∀ (pins:List (Addr×Obj)) (s:Shared) (σ:St) (H:Hp) (vs:List V) (us:List Value) (Q:St->Hp->Prop),Inv X pins σ H s->Vals vs us->t vs σ H Q ->
  wpAny (model X.prog X.w) X.A (assignInOrder ((assignEach ts X.env).map (·.2)) us) (λ _ s'=>∃ σ' H',Inv X pins σ' H' s'/\Q σ' H') X.xe s
section
def su (i:Nat):TG:=λ v σ H Q=>Q (σ.set i (some v)) H
def zk(hN:X.N.Nodup)(hi:X.N[i]?=some x)(hx:Loc X.env.scope x)(hf:X.fn x=true\/X.env.scope.names.lookup x=some .local:=by first|exact .inl rfl|exact .inr rfl|assumption):PG X (.Name x pos) (su i):=by
 intro pins s σ H v u Q I r h;exact wpAny_assign_Name (vA I hN hi hx r (λ s' I'=>⟨_,H,I',h⟩) hf)
def L0:EO:=λ vs σ H Q=>vs=[]/\Q σ H
def J7 (t:TG)(u:EO):EO:=λ vs σ H Q=>∃ v r,vs=v::r/\t v σ H λ σ' H'=>u r σ' H' Q
def EV:AZ X [] L0:=by
 intro pins s σ H vs us Q I r h;obtain⟨e,h⟩:=h;subst e;cases r;exact assignInOrder_nil ⟨σ,H,I,h⟩
def Ci{t:TG}{u:EO}(h1:PG X e t)(h2:AZ X es u)
  (hs:(assignEach (e::es) X.env).map (·.2)=assign e X.env::(assignEach es X.env).map (·.2):=by rfl):AZ X (e::es) (J7 t u):=by
 intro pins s σ H vs us Q I r h;obtain⟨v,vr,e1,h⟩:=h;subst e1;cases r with
 | cons r rr =>
  rw[hs];refine assignInOrder_cons (eK (h1 pins s σ H _ _ _ I r h) λ _ s1 ⟨σ1,H1,I1,q1⟩=>?_);exact h2 pins s1 σ1 H1 _ _ Q I1 rr q1
def LG (K:PySem.W.Frag)(n:Nat)(t:EO):TG:=λ v σ H Q=>∃ a xs,v=.ref a/\lq K H a xs/\xs.length=n/\t xs σ H Q
def Hx{k:Nat}{t:EO}{n:Nat}(hc:X.calm=true)(h:AZ X es t)
  (hn:(assignEach es X.env).length=n:=by rfl) (hst:(assignEach es X.env).findIdx? (·.1)=none:=by rfl):PG X (.Tuple es k pos) (LG X.K n t):=by
 intro pins s σ H v u Q I r hw;obtain⟨a,xs,e1,hq,hl,hw⟩:=hw;subst e1;cases r;obtain⟨its,rv,ht,hz⟩:=I.tuple hq;refine assign_Tuple_tuple (I.ok.hd hc) ht (by simp[hn,<-hl,rv.length]) hst λ h' hx=>?_;have I1:Inv X pins σ H { s with heap:=h' }:=I.kept (t':=s.toks) λ b o e=>hx b o (NH (Nl e)) e;exact h pins _ σ H xs _ Q I1 (by simpa using rv) hw
def HC (te:TE)(g:TG):TS:=λ D σ H=>te σ H λ x H1=>g x σ H1 D.nx
def xE{pos':Pos}(hN:X.N.Nodup)(hi:X.N[i]?=some x)(hx:Loc X.env.scope x)(he:PE X e te)(hs:swapsWith e (some (.Name x pos')) pos.line X.env=pure false:=by rfl)(hf:X.fn x=true\/X.env.scope.names.lookup x=some .local:=by first|exact .inl rfl|exact .inr rfl|assumption) :
  PS X (.Assign [.Name x pos'] e pos) (HC te (su i)):=by
 intro pins s σ H D I h;refine wpAny_Assign_Name (eK (he pins s σ H _ I h) λ v s1 hq5=>L2.ex5 hq5 λ y H1 I1 r1 q1=>?_) hs;exact vA I1 hN hi hx r1 (λ s2 I2=>⟨_,H1,I2,q1⟩) hf
end
section
def HY (c:TT)(tb:TS):TS:=λ D σ H=>∃ W:Nat->St->Hp->Prop,(∃ m,W m σ H)/\∀ m σ H,W m σ H ->
 c σ H λ b H1=>if b=true then ∃ N:St->Hp->Prop,(∀ σ' H',N σ' H'->∃ m',m' < m/\W m' σ' H')/\tb { D with nx:=N,ct:=N,bk:=D.nx } σ H1 else D.nx σ H1
def Cj{tc:TT}{tb:TS}(hp:PassesOwn (model X.prog X.w) X.A X.env X.xe)(hc:PT X c tc)(hb:mQ X body tb):PS X (.While c body [] pos) (HY tc tb):=by
 intro pins s σ H D I h;obtain⟨W,⟨m0,w0⟩,turn⟩:=h;refine wpAny_While (codeAny_whileLoop (λ n s'=>∃ σ' H',Inv X pins σ' H' s'/\W n σ' H') ?_ m0 ⟨σ,H,I,w0⟩);rintro n s1 ⟨σ1,H1,I1,w1⟩;refine Pz hp (eK (hc pins s1 σ1 H1 _ I1 (turn n σ1 H1 w1)) λ b s2 ⟨H2,I2,q2⟩=>?_);cases b with
 | true =>
  obtain⟨N,hN,q2⟩:=q2;rw[Nr rfl];refine Pz hp (eK (hb pins s2 σ1 H2 _ I2 q2) λ f s3 q3=>?_);cases f with
  | next =>
   obtain⟨σ3,H3,I3,n3⟩:=q3;obtain⟨m',hm,w3⟩:=hN σ3 H3 n3;exact⟨m',hm,σ3,H3,I3,w3⟩
  | cont =>
   obtain⟨σ3,H3,I3,n3⟩:=q3;obtain⟨m',hm,w3⟩:=hN σ3 H3 n3;exact⟨m',hm,σ3,H3,I3,w3⟩
  |brk=>exact q3|ret v=>exact q3
 | false =>
  rw[Nu Nd];exact QU ⟨σ1,H2,I2,q2⟩
end
structure It where
 go:Nat->Hp->Prop
 zd:Nat->Hp->V->Hp->Prop
 stop:Nat->Hp->Prop
def pB (X:Cx)(pins:List (Addr×Obj))(H:Hp)(b:Addr):Prop:=
 H b=none/\b≠X.env.locals/\b∉X.fs/\(b∈X.ex\/X.s₀.heap.objs.size<=b)/\(∀ x c,X.env.cells.lookup x=some c->c≠b)/\∀ p∈X.pn++pins,p.1≠b
def Inv.AR(I:Inv X pins σ H s)(hb:s.heap.objs.size<=b)(hn:H' b=none):pB X pins H' b:=by
 refine⟨hn,P0 (NU I.lt hb),I.LQ hb,.inr (N9 I.sz hb),λ x c e z=>?_,λ p hp z=>?_⟩
 ·obtain⟨v,q⟩:=I.cell x c e;exact absurd (NU q.lt (by rw[z];exact hb)) (Ot _)
 ·exact absurd (NU (Nl (I.pin p hp).1) (by rw[z];exact hb)) (Ot _)
structure Ce (cm:Cx->Prop)(P:Program)(w:World)(K:PySem.W.Frag)(tg:Expr)(J:It)(fp:List Addr)(it:Addr)(tn:Nat->Heap->Prop):Prop where
 mem:it∈fp
 obj:∀ i h,tn i h->∀ b∈fp,∃ o,h.get? b=some o/\∀ v,o.data ≠ .cell v
 keep:∀ i h h',tn i h->(∀ b∈fp,∀ o,h.get? b=some o->h'.get? b=some o)->tn i h'
 item:∀ (X:Cx),X.prog=P->X.w=w->X.K=K->cm X->∀ (i:Nat) (pins:List (Addr×Obj)) (s:Shared) (σ:St) (H:Hp) (E:Value->Shared->Prop),Inv X pins σ H s->(∀ b∈fp,pB X pins H b)->tn i s.heap->J.go i H ->
  wpAny (model P w) X.A (pyNext (.ref it)) (λ r s1=>∃ u,r=some u /\
   wpAny (model P w) X.A (letOwnedTupleGo tg (.ref it) u) (λ _ s2=>∃ x H',Inv X pins σ H' s2/\RelV x u/\J.zd i H x H'/\tn (i+1) s2.heap/\∀ b∈fp,H' b=none) E s1) E s
 done:∀ (X:Cx),X.prog=P->X.w=w->X.K=K->cm X->∀ (i:Nat) (pins:List (Addr×Obj)) (s:Shared) (σ:St) (H:Hp) (E:Value->Shared->Prop),Inv X pins σ H s->(∀ b∈fp,pB X pins H b)->tn i s.heap->J.stop i H ->
  wpAny (model P w) X.A (pyNext (.ref it)) (λ r s1=>r=none/\Inv X pins σ H s1) E s
 self:∀ (A:Around) (i:Nat) (s:Shared) (Q:Value->Shared->Prop) (E:Value->Shared->Prop),tn i s.heap->Q (.ref it) s->wpAny (model P w) A (pyIter (.ref it)) Q E s
abbrev Turn:=Ce λ X=>X.calm=true
abbrev TI:=St->Hp->(It->Hp->Prop)->Prop
def ME (X:Cx)(pins:List (Addr×Obj))(σ:St)(tg:Expr)(R:It->Hp->Prop)(itv:Value)(s2:Shared):Prop:=
 ∃ (it:Addr) (fp:List Addr) (tn:Nat->Heap->Prop) (J:It) (H':Hp),itv=.ref it/\Inv X pins σ H' s2/\Turn X.prog X.w X.K tg J fp it tn/\tn 0 s2.heap/\(∀ b∈fp,pB X pins H' b)/\R J H'
def PI (X:Cx)(tg iter:Expr)(wi:TI):Prop:=
 ∀ (pins:List (Addr×Obj)) (s:Shared) (σ:St) (H:Hp) (R:It->Hp->Prop),Inv X pins σ H s->wi σ H R ->
  wpAny (model X.prog X.w) X.A (eval iter X.env) (λ v s1=>wpAny (model X.prog X.w) X.A (pyIter v) (ME X pins σ tg R) X.xe s1) X.xe s
def zo{it:Addr}{o:Obj}{n:String}{vs:Array Value}{Q:Unit->Shared->Prop}(ho:s.heap.get? it=some o)(hc:o.cls = .type n)(hd:o.data = .fields vs)
    (hn:["enumerate", "zip", "dict_itemiterator", "dict_reverseitemiterator", "odict_iterator", "itertools.zip_longest", "itertools.pairwise"].contains n=false) (hQ:Q () s):wpAny M A (letOwnedTupleGo tg (.ref it) u) Q E s:=by
  unfold letOwnedTupleGo;cases tg<;>first
    |exact Nc hQ
    |(cases u<;>first
        |exact Nc hQ
        | (refine M6 (wpAny_load ho ?_)
           rw[hc, hd];show wpAny M A (if (["enumerate", "zip", "dict_itemiterator", "dict_reverseitemiterator", "odict_iterator", "itertools.zip_longest", "itertools.pairwise"].contains n&&vs[0]? == some (rawInt _))=true then _ else _) Q E s;rw[Nu (by intro h;rw[hn, Bool.false_and]at h;cases h)];exact Nc hQ))
def LK (K:PySem.W.Frag)(a:Addr):It:=
 ⟨λ i H=>∃ xs x,cY K H a xs/\xs[i]?=some x,λ i H x H'=>H'=H/\∀ xs,cY K H a xs->xs[i]?=some x,λ i H=>∃ xs,cY K H a xs/\xs.length<=i⟩
def LM (K:PySem.W.Frag)(a:Addr):It:=
 ⟨λ i H=>∃ xs x,lq K H a xs/\xs[i]?=some x,λ i H x H'=>H'=H/\∀ xs,lq K H a xs->xs[i]?=some x,λ i H=>∃ xs,lq K H a xs/\xs.length<=i⟩
def J4 (lo:Int)(n:Nat):It:=⟨λ i _=>i<n,λ i H x H'=>H'=H/\x=.int (lo+i),λ i _=>n<=i⟩
def AX{K:PySem.W.Frag}(a it:Addr):Turn P w K tg (LK K a) [it] it (λ i h=>h.IsListIter it a i) where
 mem:=by simp
 obj:=λ i h st b hb=>by
  have e:b=it:=by simpa using hb
  subst e;obtain⟨o,e,c,d⟩:=st;exact⟨o,e,λ v z=>by rw[d]at z;cases z⟩
 keep:=λ i h h' st k=>st.at λ o e=>k it (by simp) o e
 item:=by
  intro X hP hw hK hc i pins s σ H E I hf st hg;subst hP hw hK;obtain⟨xs,x,hq,hx⟩:=hg;obtain⟨its,rv,p,hz⟩:=I.list hq;obtain⟨u,hu,ru⟩:=rv.get hx;obtain⟨f0,f1,f2,f3,f4,f5⟩:=hf it (by simp);refine wpAny_pyNext_list_item st p.isList (x:=u) (by simpa using hu) λ h' st' sb=>?_;have I1:Inv X pins σ H { s with heap:=h' }:=I.turned (t':=s.toks) (λ b o hb e=>(sb.2 b hb).trans e) f0 f1 f3 f4 f5;obtain⟨o,e,c,d⟩:=id st';exact⟨u,rfl,zo (s:={ s with heap:=h' }) e c d (by decide) ⟨x,H,I1,ru,⟨rfl,λ ys hy=>by rw[I.vz hy hq];exact hx⟩,st',λ b hb=>(hf b hb).1⟩⟩
 done:=by
  intro X hP hw hK hc i pins s σ H E I hf st hg;subst hP hw hK;obtain⟨xs,hq,hx⟩:=hg;obtain⟨its,rv,p,hz⟩:=I.list hq;obtain⟨f0,f1,f2,f3,f4,f5⟩:=hf it (by simp);have hl:=rv.length;exact wpAny_pyNext_list_end (I.ok.hd hc) st p.isList (by simp;omega) λ h' eb=>⟨rfl,I.turned (t':=s.toks) (λ b o hb e=>eb b o hb e) f0 f1 f3 f4 f5⟩
 self:=λ _ _ _ _ _ st h=>wpAny_pyIter_listiter st h
def xA{K:PySem.W.Frag}(a it:Addr):Turn P w K tg (LM K a) [it] it (λ i h=>h.IsTupleIter it a i) where
 mem:=by simp
 obj:=λ i h st b hb=>by
  have e:b=it:=by simpa using hb
  subst e;obtain⟨o,e,c,d⟩:=st;exact⟨o,e,λ v z=>by rw[d]at z;cases z⟩
 keep:=λ i h h' st k=>st.at λ o e=>k it (by simp) o e
 item:=by
  intro X hP hw hK hc i pins s σ H E I hf st hg;subst hP hw hK;obtain⟨xs,x,hq,hx⟩:=hg;obtain⟨its,rv,p,hz⟩:=I.tuple hq;obtain⟨u,hu,ru⟩:=rv.get hx;obtain⟨f0,f1,f2,f3,f4,f5⟩:=hf it (by simp);refine wpAny_pyNext_tuple_item st (show s.heap.IsTuple a its.toArray from p) (x:=u) (by simpa using hu) λ h' st' sb=>?_;have I1:Inv X pins σ H { s with heap:=h' }:=I.turned (t':=s.toks) (λ b o hb e=>(sb.2 b hb).trans e) f0 f1 f3 f4 f5;obtain⟨o,e,c,d⟩:=id st';exact⟨u,rfl,zo (s:={ s with heap:=h' }) e c d (by decide) ⟨x,H,I1,ru,⟨rfl,λ ys hy=>by rw[I.sd hy hq];exact hx⟩,st',λ b hb=>(hf b hb).1⟩⟩
 done:=by
  intro X hP hw hK hc i pins s σ H E I hf st hg;subst hP hw hK;obtain⟨xs,hq,hx⟩:=hg;obtain⟨its,rv,p,hz⟩:=I.tuple hq;obtain⟨f0,f1,f2,f3,f4,f5⟩:=hf it (by simp);have hl:=rv.length;exact wpAny_pyNext_tuple_end (I.ok.hd hc) st (show s.heap.IsTuple a its.toArray from p) (by simp;omega) λ h' eb=>⟨rfl,I.turned (t':=s.toks) (λ b o hb e=>eb b o hb e) f0 f1 f3 f4 f5⟩
 self:=λ _ _ _ _ _ st h=>wpAny_pyIter_tupleiter st h
def xD{K:PySem.W.Frag}(it:Addr)(lo:Int)(n:Nat):Turn P w K tg (J4 lo n) [it] it (λ i h=>IsRangeIter h it (lo+(i:Nat)*1) ((n:Int)-(i:Nat)) 1) where
 mem:=by simp
 obj:=λ i h st b hb=>by
  have e:b=it:=by simpa using hb
  subst e;exact⟨_,st,λ v z=>by
   have z':Data.fields _=Data.cell v:=z;cases z'⟩
 keep:=λ i h h' st k=>k it (by simp) _ st
 item:=by
  intro X hP hw hK hc i pins s σ H E I hf st hg;subst hP hw hK;obtain⟨f0,f1,f2,f3,f4,f5⟩:=hf it (by simp);have W:=Walks.range (prog:=X.prog) (w:=X.w) (I.ok.hd hc) it lo 1 n;refine W.item i s _ _ hg st λ v h' tk hv st' kk=>?_;obtain⟨t,rfl⟩:=hv;have I1:Inv X pins σ H { s with heap:=h',toks:=tk }:=I.turned (λ b o hb e=>kk b o (by simpa using hb) e) f0 f1 f3 f4 f5;refine⟨_,rfl,zo (s:={ s with heap:=h',toks:=tk }) (n:="range_iterator") st' rfl rfl (by decide) ⟨.int (lo+i),H,I1,⟨t,?_⟩,⟨rfl,rfl⟩,st',λ b hb=>(hf b hb).1⟩⟩;rw[Int.mul_one]
 done:=by
  intro X hP hw hK hc i pins s σ H E I hf st hg;subst hP hw hK;obtain⟨f0,f1,f2,f3,f4,f5⟩:=hf it (by simp);exact wpAny_pyNext_range_end (I.ok.hd hc) st (by have:n<=i:=hg;omega) λ h' eb=>⟨rfl,I.turned (t':=s.toks) (λ b o hb e=>eb b o hb e) f0 f1 f3 f4 f5⟩
 self:=λ _ _ _ _ _ st h=>wpAny_pyIter_rangeiter st h
section
def vy{R:It->Hp->Prop}{lo hi:Int}{t u v:Tok}{tk:Nat}(I:Inv X pins σ H s)(h1 : -(2^62)<=lo)(h2:lo<2^62)(h3 : -(2^62)<=hi)(h4:hi<2^62)
  (q:R (J4 lo (hi-lo).toNat) H):wpAny (model X.prog X.w) X.A (pyIter (.ref s.heap.objs.size)) (ME X pins σ tg R) E { s with heap:=s.heap.push { cls:=.type "range",data:=.fields #[.int lo t,.int hi u,.int 1 v] },toks:=tk }:=by
 refine wpAny_pyIter_range (IsRange.new ..) (small_one h1 h2 h3 h4) ?_;have I1:Inv X pins σ H { s with heap:=s.heap.push { cls:=.type "range",data:=.fields #[.int lo t,.int hi u,.int 1 v] },toks:=tk }:=I.kept λ b o e=>M8 _ e;refine⟨(s.heap.push { cls:=.type "range",data:=.fields #[.int lo t,.int hi u,.int 1 v] }).objs.size,[(s.heap.push { cls:=.type "range",data:=.fields #[.int lo t,.int hi u,.int 1 v] }).objs.size],_,_,H,rfl,
  I1.kept (t':=tk) λ b o e=>M8 _ e,xD _ lo (hi-lo).toNat,?_,λ b hb=>?_,q⟩
 ·have e1:lo+((0:Nat):Int)*1=lo:=by simp
  have e2:(((hi-lo).toNat:Nat):Int)-((0:Nat):Int)=Builtin.Range.rangeSize lo hi 1:=by rw[rangeSize_one];split<;>omega
  show IsRangeIter _ _ (lo+((0:Nat):Int)*1) ((((hi-lo).toNat:Nat):Int)-((0:Nat):Int)) 1;rw[e1,e2];exact Nj _ rfl
 ·have e:b=(s.heap.push { cls:=.type "range",data:=.fields #[.int lo t,.int hi u,.int 1 v] }).objs.size:=by simpa using hb
  subst e;exact I1.AR (Nm _) (I1.hok.fresh (Nm _))
def GX (ta:TA):TI:=λ σ H R=>ta σ H λ vs H1=>∃ j:Int,vs=[.int j] /\ -(2^62)<=j/\j<2^62/\R (J4 0 j.toNat) H1
def JX (ta:TA):TI:=λ σ H R=>ta σ H λ vs H1=>∃ i j:Int,vs=[.int i,.int j]/\(-(2^62)<=i/\i<2^62 /\ -(2^62)<=j/\j<2^62)/\R (J4 i (j-i).toNat) H1
def AO {a:Expr}{ta:TA}(hg:Gl X "range")(hm:X.mg "range" = none)(ha:PA X [a] ta)(hs:starEach [a] X.env=[(false,eval a X.env)]:=by rfl):PI X tg (.Call (.Name "range" p) [a] [] pos) (GX ta):=by
 intro pins s σ H R I h;refine Call_ (jM I hg hm boot_range (OI (eK (ha pos pins s σ H _ I h) λ us s1 hq5=>L2.ex5 hq5 λ vs H1 I1 r1 q1=>?_) hs rfl));obtain⟨j,e,q1,q2,q⟩:=q1;subst e;cases r1 with
 | cons r rr =>
  cases rr;obtain⟨t,rfl⟩:=r;exact call_range_1 (vy I1 (by omega) (by omega) q1 q2 (by simpa using q))
def AS {a b:Expr}{ta:TA}(hg:Gl X "range")(hm:X.mg "range" = none)(ha:PA X [a,b] ta)(hs:starEach [a,b] X.env=[(false,eval a X.env),(false,eval b X.env)]:=by rfl)(hs2:starEach [b] X.env=[(false,eval b X.env)]:=by rfl) :
  PI X tg (.Call (.Name "range" p) [a,b] [] pos) (JX ta):=by
 intro pins s σ H R I h;refine Call_ (jM I hg hm boot_range (OI (eK (ha pos pins s σ H _ I h) λ us s1 hq5=>L2.ex5 hq5 λ vs H1 I1 r1 q1=>?_) (by rw[hs,hs2]) (by rw[hs2];rfl)));obtain⟨i,j,e,⟨q1,q2,q3,q4⟩,q⟩:=q1;subst e;cases r1 with
 | cons r rr =>
  cases rr with
  | cons r' rr =>
   cases rr;obtain⟨t,rfl⟩:=r;obtain⟨t',rfl⟩:=r';exact call_range_2 (vy I1 q1 q2 q3 q4 q)
def LH (wi:TI)(g:TG)(tb:TS):TS:=λ D σ H=>wi σ H λ J H1=>∃ W:Nat->Nat->St->Hp->Prop,(∃ m,W 0 m σ H1)/\∀ i m σ H,W i m σ H ->
 (J.stop i H/\D.nx σ H)\/(J.go i H/\∃ N:St->Hp->Prop,(∀ σ' H',N σ' H'->∃ m',m' < m/\W (i+1) m' σ' H')/\∀ x H',J.zd i H x H'->g x σ H' λ σ2 H2=>tb { D with nx:=N,ct:=N,bk:=D.nx } σ2 H2)
def p6 (fp:List Addr)(h:Heap):List (Addr×Obj):=fp.filterMap λ b=>(h.get? b).map λ o=>(b,o)
def jN{o:Obj}(hb:b∈fp)(e:h.get? b=some o):(b,o)∈p6 fp h:=List.mem_filterMap.mpr ⟨b,hb,by rw[e];rfl⟩
def AM{p:Addr×Obj}(hp:p∈p6 fp h):p.1∈fp/\h.get? p.1=some p.2:=by
 obtain⟨b,hb,e⟩:=List.mem_filterMap.mp hp;cases q:h.get? b with
 |none=>rw[q]at e;cases e
 | some o =>
  rw[q]at e;have e':(b,o)=p:=N6 e;subst e';exact⟨hb,q⟩
def Inv.pinned(I:Inv X pins σ H s)(hf:∀ b∈fp,pB X pins H b)(ho:∀ b∈fp,∃ o,s.heap.get? b=some o/\∀ v,o.data ≠ .cell v):Inv X (pins++p6 fp s.heap) σ H s:=
 I.zh λ p hp=>(Nk.mp hp).elim (λ z=>I.pin p (Nz _ z)) λ z=>by
  obtain⟨hb,e⟩:=AM z;obtain⟨f0,f1,f2,_⟩:=hf p.1 hb;obtain⟨o,e',d⟩:=ho p.1 hb;rw[e]at e';cases e';exact⟨e,f0,f1,f2,d⟩
def Inv.mV {pl:List (Addr×Obj)}(I:Inv X (pins++pl) σ H s):Inv X pins σ H s:=I.zh λ p hp=>I.pin p (Nz _ (Nt _ hp))
def HG {iter:Expr}{wi:TI}{g:TG}{tb:TS}(hp:PassesOwn (model X.prog X.w) X.A X.env X.xe)(hc:X.calm=true)(hi:PI X tg iter wi)(hg:PG X tg g)(hb:mQ X body tb)
  (hs:∀ x,foldedSetIterable iter X.env x=pure x:=by intro _;rfl):PS X (.For tg iter body [] pos) (LH wi g tb):=by
 intro pins s σ H D I h;refine wpAny_For (eK (hi pins s σ H _ I h) λ v s1 h1=>eK h1 λ itv s2 h2=>?_) hs;obtain⟨it,fp,tn,J,H2,e,I2,T,st2,f2,W,⟨m0,w0⟩,turn⟩:=h2;subst e;have stat:∀ {H':Hp},(∀ b∈fp,H' b=none)->∀ b∈fp,pB X pins H' b:=λ hn b hb=>⟨hn b hb,(f2 b hb).2⟩;refine codeAny_forLoop_any (λ n s'=>∃ i σ' H',Inv X pins σ' H' s'/\tn i s'.heap/\(∀ b∈fp,H' b=none)/\W i n σ' H') ?_ m0 ⟨0,σ,H2,I2,st2,λ b hb=>(f2 b hb).1,w0⟩;rintro n s3 ⟨i,σ3,H3,I3,st3,fr3,w3⟩;rcases turn i n σ3 H3 w3 with ⟨stop,qn⟩|⟨go,N,hN,step⟩
 ·refine Pz hp (eK (T.done X rfl rfl rfl hc i pins s3 σ3 H3 X.xe I3 (stat fr3) st3 stop) λ r s4 ⟨hr,I4⟩=>?_);subst hr;exact QU ⟨σ3,H3,I4,qn⟩
 ·refine Pz hp (eK (T.item X rfl rfl rfl hc i pins s3 σ3 H3 X.xe I3 (stat fr3) st3 go) λ r s4 ⟨u,hr,h4⟩=>?_);subst hr;refine Pz hp (eK h4 λ _ s5 ⟨x,H5,I5,r5,y5,st5,fr5⟩=>?_);have I5':=I5.pinned (stat fr5) (T.obj _ _ st5);refine Pz hp (eK (hg _ s5 σ3 H5 x u _ I5' r5 (step x H5 y5)) λ _ s6 ⟨σ6,H6,I6,q6⟩=>?_);refine Pz hp (eK (hb _ s6 σ6 H6 _ I6 q6) λ f s7 q7=>?_);have again:∀ {σ7:St}{H7:Hp},Inv X (pins++p6 fp s5.heap) σ7 H7 s7->N σ7 H7->∃ m,m<n/\∃ i σ' H',Inv X pins σ' H' s7/\tn i s7.heap/\(∀ b∈fp,H' b=none)/\W i m σ' H':=λ {σ7 H7} I7 n7=>by
   obtain⟨m',hm,w7⟩:=hN σ7 H7 n7;refine⟨m',hm,i+1,σ7,H7,I7.mV,T.keep _ _ _ st5 λ b hb o e=>(I7.pin (b,o) (Nz _ (Nz _ (jN hb e)))).1,λ b hb=>?_,w7⟩;obtain⟨o,e,d⟩:=T.obj _ _ st5 b hb;exact(I7.pin (b,o) (Nz _ (Nz _ (jN hb e)))).2.1
  cases f with
  |next=>obtain⟨σ7,H7,I7,n7⟩:=q7;exact again I7 n7|cont=>obtain⟨σ7,H7,I7,n7⟩:=q7;exact again I7 n7|brk=>obtain⟨σ7,H7,I7,q7⟩:=q7;exact⟨σ7,H7,I7.mV,q7⟩| ret v=>obtain⟨x7,σ7,H7,I7,r7,q7⟩:=q7;exact⟨x7,σ7,H7,I7.mV,r7,q7⟩
end
abbrev R2:=V->V->Hp->VK->Prop
variable {r:R2}
def jj (X:Cx)(f:Value->Value->Sem Value)(r:R2):Prop:=
 ∀ (pins:List (Addr×Obj)) (s:Shared) (σ:St) (H:Hp) (x y:V) (v u:Value) (Q:VK),Inv X pins σ H s->RelV x v->RelV y u->r x y H Q ->
  wpAny (model X.prog X.w) X.A (f v u) (EP X pins σ Q) X.xe s
def LJ (X:Cx)(f:Value->Sem Value)(r:V->Hp->VK->Prop):Prop:=
 ∀ (pins:List (Addr×Obj)) (s:Shared) (σ:St) (H:Hp) (x:V) (v:Value) (Q:VK),Inv X pins σ H s->RelV x v->r x H Q ->
  wpAny (model X.prog X.w) X.A (f v) (EP X pins σ Q) X.xe s
def eY (X:Cx)(f:Value)(r:List V->Hp->VK->Prop):Prop:=
 ∀ (pins:List (Addr×Obj)) (s:Shared) (σ:St) (H:Hp) (xs:List V) (us:List Value) (Q:VK),Inv X pins σ H s->Vals xs us->r xs H Q ->
  wpAny (model X.prog X.w) X.A (call f us) (EP X pins σ Q) X.xe s
def LY (X:Cx)(r:V->Hp->(Bool->Hp->Prop)->Prop):Prop:=
 ∀ (pins:List (Addr×Obj)) (s:Shared) (σ:St) (H:Hp) (x:V) (v:Value) (Q:Bool->Hp->Prop),Inv X pins σ H s->RelV x v->r x H Q ->
  wpAny (model X.prog X.w) X.A (truthy v) (TP X pins σ Q) X.xe s
def Lr (r:R2)(ta tb:TE):TE:=λ σ H Q=>ta σ H λ x H1=>tb σ H1 λ y H2=>r x y H2 Q
def MU (r:V->Hp->VK->Prop)(ta:TE):TE:=λ σ H Q=>ta σ H λ x H1=>r x H1 Q
def rI (C:Int->Int->Prop)(g:Int->Int->V):R2:=λ x y H Q=>∃ i j,x=.int i/\y=.int j/\C i j/\Q (g i j) H
def Cd (g:Int->Int->V):R2:=λ x y H Q=>∃ i j,x=.int i/\y=.int j/\Q (g i j) H
def rU (g:Int->V):V->Hp->VK->Prop:=λ x H Q=>∃ i,x=.int i/\Q (g i) H
section
variable{a b:Expr}{tc:TE}
def HL (ha:PE X a ta)(hb:PE X b tb){R:V->V->Hp->Prop}(I:Inv X pins σ H s)
  (h:ta σ H λ x H1=>tb σ H1 λ y H2=>R x y H2){f:Value->Value->Sem Value}
  (hf:∀ v u s2 x y H2,Inv X pins σ H2 s2->RelV x v->RelV y u->R x y H2->wpAny (model X.prog X.w) X.A (f v u) Q X.xe s2) :
  wpAny (model X.prog X.w) X.A (eval a X.env) (λ v s₁=>wpAny (model X.prog X.w) X.A (eval b X.env) (λ u s₂=>wpAny (model X.prog X.w) X.A (f v u) Q X.xe s₂) X.xe s₁) X.xe s:=by
 refine eK (ha pins s σ H _ I h) λ v s1 hq5=>L2.ex5 hq5 λ x H1 I1 r1 q1=>?_;refine eK (hb pins s1 σ H1 _ I1 q1) λ u s2 hq5=>L2.ex5 hq5 λ y H2 I2 r2 q2=>?_;exact hf v u s2 x y H2 I2 r1 r2 q2
def J2 {op:Operator}(ho:jj X (binaryOp op) r)(ha:PE X a ta)(hb:PE X b tb):PE X (.BinOp a op b pos) (Lr r ta tb):=by
 intro pins s σ H Q I h;exact wpAny_BinOp (HL ha hb I h λ v u s2 x y H2 I2 rx ry q=>ho pins s2 σ H2 x y v u Q I2 rx ry q)
def JZ {op:UnaryOp}{r:V->Hp->VK->Prop}(ho:LJ X (unaryOp op) r)(ha:PE X a ta):PE X (.UnaryOp op a pos) (MU r ta):=by
 intro pins s σ H Q I h;exact UnaryOp_ (eK (ha pins s σ H _ I h) λ v s1 hq5=>L2.ex5 hq5 λ x H1 I1 r1 q1=>ho pins s1 σ H1 x v Q I1 r1 q1)
def JP {f:Value->Value->Sem Value}{C:Int->Int->Prop}{g:Int->Int->Int}
  (rule:∀ (i j:Int) (t u:Tok) (s:Shared) (Q:Value->Shared->Prop) (E:Value->Shared->Prop),C i j->Q (.int (g i j) s.toks) { s with toks:=s.toks+1 }->wpAny (model X.prog X.w) X.A (f (.int i t) (.int j u)) Q E s) :
  jj X f (rI C λ i j=>.int (g i j)):=by
 intro pins s σ H x y v u Q I rx ry h;obtain⟨i,j,rfl,rfl,hc,q⟩:=h;obtain⟨t,rfl⟩:=rx;obtain⟨t',rfl⟩:=ry;exact rule i j t t' s _ _ hc ⟨.int (g i j),H,I.tok _,⟨_,rfl⟩,q⟩
def J0 {f:Value->Value->Sem Value}{g:Int->Int->Int}
  (rule:∀ (i j:Int) (t u:Tok) (s:Shared) (Q:Value->Shared->Prop) (E:Value->Shared->Prop),Q (.int (g i j) s.toks) { s with toks:=s.toks+1 }->wpAny (model X.prog X.w) X.A (f (.int i t) (.int j u)) Q E s) :
  jj X f (Cd λ i j=>.int (g i j)):=by
 intro pins s σ H x y v u Q I rx ry h;obtain⟨i,j,rfl,rfl,q⟩:=h;obtain⟨t,rfl⟩:=rx;obtain⟨t',rfl⟩:=ry;exact rule i j t t' s _ _ ⟨.int (g i j),H,I.tok _,⟨_,rfl⟩,q⟩
def Ke {f:Value->Value->Sem Value}{g:Int->Int->Bool}
  (rule:∀ (i j:Int) (t u:Tok) (s:Shared) (Q:Value->Shared->Prop) (E:Value->Shared->Prop),Q (.bool (g i j)) s->wpAny (model X.prog X.w) X.A (f (.int i t) (.int j u)) Q E s) :
  jj X f (Cd λ i j=>.bl (g i j)):=by
 intro pins s σ H x y v u Q I rx ry h;obtain⟨i,j,rfl,rfl,q⟩:=h;obtain⟨t,rfl⟩:=rx;obtain⟨t',rfl⟩:=ry;exact rule i j t t' s _ _ ⟨.bl (g i j),H,I,rfl,q⟩
def iZ (i j:Int):Prop:=0<j/\j<1073741824
def gK (i j:Int):Prop:=0<=j/\j<=1000000/\i.natAbs<2^64
def Ck (i j:Int):Prop:=(-(2^64)<i/\i<2^64)\/(-(2^64)<j/\j<2^64)
def Ck.ok {i j:Int}(h:Ck i j):IntMulOk i j:=by
 rcases h with ⟨h1,h2⟩|⟨h1,h2⟩
 ·exact .of_left (intBits_le_64 h1 h2)
 ·exact .of_right (intBits_le_64 h1 h2)
def xC (k:Nat):(0:Int)<=2^k:=by
 rw[two_pow_cast];exact Int.natCast_nonneg _
def HS:jj X (binaryOp .Add) (Cd λ i j=>.int (i+j)):=J0 λ _ _ _ _ _ _ _ q=>add_int q
def xw:jj X (binaryOp .Sub) (Cd λ i j=>.int (i-j)):=J0 λ _ _ _ _ _ _ _ q=>sub_int q
def du:jj X (binaryOp .FloorDiv) (rI iZ λ i j=>.int (i/j)):=JP λ i j _ _ _ _ _ hc q=>by
 have h1:(0:Int)<j:=hc.1;have h2:j<1073741824:=hc.2;exact floordiv_int (by omega) (by rw[Q7 i (by omega)];exact q) (.inl (PyProof.noPylong_small (by omega)))
def cG:jj X (binaryOp .Mod) (rI (λ _ j=>0<j) λ i j=>.int (i%j)):=JP λ i j _ _ _ _ _ hc q=>by
 have h1:(0:Int)<j:=hc;exact mod_int' (by omega) (by rw[Int.fmod_eq_emod_of_nonneg i (by omega)];exact q)
def tY:jj X (binaryOp .Pow) (rI gK λ i j=>.int (i^j.toNat)):=JP λ _ _ _ _ _ _ _ hc q=>pow_int_small hc.1 hc.2.1 hc.2.2 q
def Hs:jj X (binaryOp .LShift) (rI gK λ i j=>.int (i*2^j.toNat)):=JP λ _ _ _ _ _ _ _ hc q=>lshift_int_small hc.1 hc.2.1 hc.2.2 q
def HU:jj X (binaryOp .RShift) (rI (λ _ j=>0<=j) λ i j=>.int (i/2^j.toNat)):=JP λ i j _ _ _ _ _ hc q=>
 rshift_int hc (by rw[Q7 i (xC _)];exact q)
def MT {f:Value->Sem Value}{g:Int->Int}
  (rule:∀ (i:Int) (t:Tok) (s:Shared) (Q:Value->Shared->Prop) (E:Value->Shared->Prop),Q (.int (g i) s.toks) { s with toks:=s.toks+1 }->wpAny (model X.prog X.w) X.A (f (.int i t)) Q E s) :
  LJ X f (rU λ i=>.int (g i)):=by
 intro pins s σ H x v Q I rx h;obtain⟨i,rfl,q⟩:=h;obtain⟨t,rfl⟩:=rx;exact rule i t s _ _ ⟨.int (g i),H,I.tok _,⟨_,rfl⟩,q⟩
def Hz:LJ X (unaryOp .USub) (rU λ i=>.int (-i)):=MT λ _ _ _ _ _ q=>neg_int q
end
def HW:V->V->Bool
 |.bx,.bx=>true|.bx,.int _=>true|.int _,.bx=>true|.bx,.bl _=>true|.bl _,.bx=>true|.bx,.str _=>true|.str _,.bx=>true
 |.int _,.int _=>true|.bl _,.bl _=>true|.str _,.str _=>true|.AL _,.AL _=>true
 |.int _,.str _=>true|.str _,.int _=>true|.bl _,.str _=>true|.str _,.bl _=>true
 |_,_=>false
def MF:R2:=λ x y H Q=>HW x y=true/\Q (.bl (decide (x=y))) H
def MD:R2:=λ x y H Q=>HW x y=true/\Q (.bl (!decide (x=y))) H
def zb {i j:Int}:decide (V.int i=V.int j)=(i == j):=by
 rw[O0];simp
def Cn {i j:Bool}:decide (V.bl i=V.bl j)=(i == j):=by
 rw[O0];simp
def ze {i j:Str}:decide (V.str i=V.str j)=(i == j):=by
 rw[O0];simp
def zp {i j:Array UInt8}:decide (V.AL i=V.AL j)=(i.toList == j.toList):=by
 rw[O0];cases i;cases j;simp
section
variable{a b:Expr}{tc:TE}
def bC{Q:VK}{k k':Bool}(I:Inv X pins σ H s)(q:Q (.bl k) H)(e:k=k'):EP X pins σ Q (.bool k') s:=by
 subst e;exact⟨.bl k,H,I,rfl,q⟩
def ji:jj X (compareOp .Eq) MF:=by
 intro pins s σ H x y v u Q I rx ry h;obtain⟨hs,q⟩:=h;cases x with
 | bx =>
  cases rx;cases y with
  |bx=>cases ry;exact PySem.EqNone.eq_none_none (bC I q (by simp))|bl j=>cases ry;exact PySem.EqNone.eq_none_bool (bC I q (by simp))|int j=>obtain⟨t',rfl⟩:=ry;exact PySem.EqNone.eq_none_int (bC I q (by simp))|str j=>obtain⟨t',rfl⟩:=ry;exact PySem.EqNone.eq_none_str (bC I q (by simp))|_=>exact absurd (show false=true from hs) Nd
 | bl i =>
  cases rx;cases y with
  |bx=>cases ry;exact PySem.EqNone.eq_bool_none (bC I q (by simp))|bl j=>cases ry;exact eq_bool (bC I q Cn)|str j=>obtain⟨t',rfl⟩:=ry;exact PySem.EqMixed.eq_bool_str (bC I q (by simp))|_=>exact absurd (show false=true from hs) Nd
 | int i =>
  obtain⟨t,rfl⟩:=rx;cases y with
  |bx=>cases ry;exact PySem.EqNone.eq_int_none (bC I q (by simp))|int j=>obtain⟨t',rfl⟩:=ry;exact eq_int (bC I q zb)|str j=>obtain⟨t',rfl⟩:=ry;exact PySem.EqMixed.eq_int_str (bC I q (by simp))|_=>exact absurd (show false=true from hs) Nd
 | str i =>
  obtain⟨t,rfl⟩:=rx;cases y with
  |bx=>cases ry;exact PySem.EqNone.eq_str_none (bC I q (by simp))|bl j=>cases ry;exact PySem.EqMixed.eq_str_bool (bC I q (by simp))|int j=>obtain⟨t',rfl⟩:=ry;exact PySem.EqMixed.eq_str_int (bC I q (by simp))|str j=>obtain⟨t',rfl⟩:=ry;exact eq_str (bC I q ze)|_=>exact absurd (show false=true from hs) Nd
 | AL i =>
  obtain⟨t,rfl⟩:=rx;cases y with
  |AL j=>obtain⟨t',rfl⟩:=ry;exact PySem.W.eq_bytes (bC I q zp)|_=>exact absurd (show false=true from hs) Nd
 |_=>cases y<;>exact absurd (show false=true from hs) Nd
def vp:jj X (compareOp .NotEq) MD:=by
 intro pins s σ H x y v u Q I rx ry h;obtain⟨hs,q⟩:=h;cases x with
 | bx =>
  cases rx;cases y with
  |bx=>cases ry;exact PySem.EqNone.ne_none_none (bC I q (by simp))|bl j=>cases ry;exact PySem.EqNone.ne_none_bool (bC I q (by simp))|int j=>obtain⟨t',rfl⟩:=ry;exact PySem.EqNone.ne_none_int (bC I q (by simp))|str j=>obtain⟨t',rfl⟩:=ry;exact PySem.EqNone.ne_none_str (bC I q (by simp))|_=>exact absurd (show false=true from hs) Nd
 | bl i =>
  cases rx;cases y with
  |bx=>cases ry;exact PySem.EqNone.ne_bool_none (bC I q (by simp))|bl j=>cases ry;exact ne_bool (bC I q (OQ not Cn))|str j=>obtain⟨t',rfl⟩:=ry;exact PySem.EqMixed.ne_bool_str (bC I q (by simp))|_=>exact absurd (show false=true from hs) Nd
 | int i =>
  obtain⟨t,rfl⟩:=rx;cases y with
  |bx=>cases ry;exact PySem.EqNone.ne_int_none (bC I q (by simp))|int j=>obtain⟨t',rfl⟩:=ry;exact ne_int (bC I q (OQ not zb))|str j=>obtain⟨t',rfl⟩:=ry;exact PySem.EqMixed.ne_int_str (bC I q (by simp))|_=>exact absurd (show false=true from hs) Nd
 | str i =>
  obtain⟨t,rfl⟩:=rx;cases y with
  |bx=>cases ry;exact PySem.EqNone.ne_str_none (bC I q (by simp))|bl j=>cases ry;exact PySem.EqMixed.ne_str_bool (bC I q (by simp))|int j=>obtain⟨t',rfl⟩:=ry;exact PySem.EqMixed.ne_str_int (bC I q (by simp))|str j=>obtain⟨t',rfl⟩:=ry;exact ne_str (bC I q (OQ not ze))|_=>exact absurd (show false=true from hs) Nd
 | AL i =>
  obtain⟨t,rfl⟩:=rx;cases y with
  |AL j=>obtain⟨t',rfl⟩:=ry;exact PySem.W.ne_bytes (bC I q (OQ not zp))|_=>exact absurd (show false=true from hs) Nd
 |_=>cases y<;>exact absurd (show false=true from hs) Nd
def se:jj X (compareOp .Lt) (Cd λ i j=>.bl (decide (i<j))):=Ke λ _ _ _ _ _ _ _ q=>lt_int q
def Co:jj X (compareOp .Gt) (Cd λ i j=>.bl (decide (j<i))):=Ke λ _ _ _ _ _ _ _ q=>gt_int q
def Cs:jj X (compareOp .Is) (λ x y H Q=>y=.bx/\Q (.bl (decide (x=.bx))) H):=by
 intro pins s σ H x y v u Q I rx ry h;obtain⟨rfl,q⟩:=h;cases ry;refine is_none_gen (bC I q ?_);cases x<;>first
  |(cases rx;rfl)
  |(obtain⟨t,rfl⟩:=rx;rfl)
def ER:jj X (compareOp .IsNot) (λ x y H Q=>y=.bx/\Q (.bl (!decide (x=.bx))) H):=by
 intro pins s σ H x y v u Q I rx ry h;obtain⟨rfl,q⟩:=h;cases ry;refine isnot_none_gen (bC I q ?_);cases x<;>first
  |(cases rx;rfl)
  |(obtain⟨t,rfl⟩:=rx;rfl)
def pZ (b:Expr)(h:op ≠ .In:=by decide)(h2:op ≠ .NotIn:=by decide):behindInMarks op b=false:=by
 have e1:(op == CmpOp.In)=false:=by cases op<;>first|rfl|exact absurd rfl h
 have e2:(op == CmpOp.NotIn)=false:=by cases op<;>first|rfl|exact absurd rfl h2
 cases b<;>simp[behindInMarks,e1,e2]
def E1(ho:jj X (compareOp op) r)(ha:PE X a ta)(hb:PE X b tb)(hm:behindInMarks op b=false):PE X (.Compare a [op] [b] pos) (Lr r ta tb):=by
 intro pins s σ H Q I h;exact wpAny_Compare1 (HL ha hb I h λ v u s2 x y H2 I2 rx ry q=>ho pins s2 σ H2 x y v u Q I2 rx ry q) hm
def J6 (t:TE):TT:=λ σ H Q=>t σ H λ x H'=>∃ k,x=.bl k/\Q k H'
def EX(ho:jj X (compareOp op) r)(ha:PE X a ta)(hb:PE X b tb)(hm:behindInMarks op b=false):PT X (.Compare a [op] [b] pos) (J6 (Lr r ta tb)):=by
 intro pins s σ H Q I h;refine wpAny_isTrue_Compare1 (eK (ha pins s σ H _ I h) λ v s1 hq5=>L2.ex5 hq5 λ x H1 I1 r1 q1=>eK (hb pins s1 σ H1 _ I1 q1) λ u s2 hq5=>L2.ex5 hq5 λ y H2 I2 r2 q2=>
  eK (ho pins s2 σ H2 x y v u _ I2 r1 r2 q2) λ c s3 ⟨z,H3,I3,r3,k,e,q3⟩=>?_) hm
 subst e;cases r3;exact Rn ⟨H3,I3,q3⟩
def Ka (K:PySem.W.Frag)(x:V)(H:Hp)(k:Bool):Prop:=
 match x with
 |.bx=>k=false
 |.bl b=>k=b
 |.int i=>k=(i != 0)
 |.str y=>y.length<=sizeLine/\k=((y.length:Int) != 0)
 |.AL y=>y.size<=sizeLine/\k=((y.size:Int) != 0)
 |.ref p=>(∃ xs,cY K H p xs/\k = !xs.isEmpty)\/(∃ xs,lq K H p xs/\k = !xs.isEmpty)\/∃ kvs ep,H p=some (.dK kvs ep)/\k = !kvs.isEmpty
 |_=>False
def xx {κ:Type}{kvs:List (κ×V)}{vs:List (κ×Value)}(r:KV kvs vs):(!vs.isEmpty) = !kvs.isEmpty:=by
 cases r<;>rfl
def pX{its:List Value}(r:Vals xs its):(!its.toArray.isEmpty) = !xs.isEmpty:=by
 cases r<;>simp
def oj:(sizeLine:Nat)<2^63:=by rw[Oc];decide
def HM:LY X (λ x H Q=>∃ k,Ka X.K x H k/\Q k H):=by
 intro pins s σ H x v Q I rx h;obtain⟨k,e,q⟩:=h;have hl:=oj;have hs:sizeLine=16777216:=Oc;cases x with
 | bx =>
  cases rx;have e':k=false:=e;subst e';exact truthy_none ⟨H,I,q⟩
 | bl b =>
  cases rx;have e':k=b:=e;subst e';exact Rn ⟨H,I,q⟩
 | int i =>
  obtain⟨t,rfl⟩:=rx;have e':k=(i != 0):=e;subst e';exact PySem.P.truthy_int ⟨H,I,q⟩
 | str y =>
  obtain⟨t,rfl⟩:=rx;obtain⟨hy,e'⟩:y.length<=sizeLine/\k=((y.length:Int) != 0):=e;subst e';exact PySem.P.truthy_str (by omega) ⟨H,I.tok _,q⟩
 | AL y =>
  obtain⟨t,rfl⟩:=rx;obtain⟨hy,e'⟩:y.size<=sizeLine/\k=((y.size:Int) != 0):=e;subst e';exact PySem.W.truthy_bytes (by omega) ⟨H,I.tok _,q⟩
 | ref p =>
  cases rx;have e':(∃ xs,cY X.K H p xs/\k = !xs.isEmpty)\/(∃ xs,lq X.K H p xs/\k = !xs.isEmpty)\/∃ kvs ep,H p=some (.dK kvs ep)/\k = !kvs.isEmpty:=e;rcases e' with ⟨xs,hx,e'⟩|⟨xs,hx,e'⟩|⟨kvs,ep,hx,e'⟩
  ·subst e';obtain⟨its,r,pl,hz⟩:=I.list hx;have hlen:=r.length;exact wpAny_truthy_list pl.isList (by simp only[Nh];omega) ⟨H,I.tok _,by rw[pX r];exact q⟩
  ·subst e';obtain⟨its,r,pl,hz⟩:=I.tuple hx;have hlen:=r.length;exact truthy_tuple pl (by simp only[Nh];omega) ⟨H,I.tok _,by rw[pX r];exact q⟩
  ·subst e';obtain⟨hz,hS,vs,r,m⟩:kvs.length<=sizeLine/\(p == sysModules)=false/\∃ vs,KV kvs vs/\s.heap.DictAt (bX X.prog X.w) p vs ep:=I.hok p _ hx;have hlen:kvs.length=vs.length:=O5 r;exact wpAny_truthy_dict hS m.dictOf (by omega) ⟨H,I.tok _,by rw[xx r];exact q⟩
 |_=>exact(show False from e).elim
def Cm (ha:PE X a ta)(he:∀ whole,isTrue a X.env whole=(do let v <-whole;standAt a.pos;holding [v] (truthy v))) :
  PT X a (λ σ H Q=>ta σ H λ x H'=>∃ k,Ka X.K x H' k/\Q k H'):=by
 intro pins s σ H Q I h;exact isTrue_plain (eK (ha pins s σ H _ I h) λ v s1 hq5=>L2.ex5 hq5 λ x H1 I1 r1 q1=>HM pins s1 σ H1 x v Q I1 r1 q1) (he _)
def xy:jj X (binaryOp .Add) (λ x y H Q=>∃ i j,x=.str i/\y=.str j/\i.length+j.length<=sizeLine/\Q (.str (i++j)) H):=by
 intro pins s σ H x y v u Q I rx ry h;obtain⟨i,j,rfl,rfl,hz,q⟩:=h;obtain⟨t,rfl⟩:=rx;obtain⟨t',rfl⟩:=ry;exact add_str (λ t' tk=>⟨.str (i++j),H,I.tok _,⟨_,rfl⟩,q⟩) hz
def vals1 {x:V}(r:Vals [x] us):∃ u,us=[u]/\RelV x u:=by
 cases r with
 |cons r1 r2=>cases r2;exact⟨_,rfl,r1⟩
def vals2 {x y:V}(r:Vals [x,y] us):∃ u w',us=[u,w']/\RelV x u/\RelV y w':=by
 cases r with
 | cons r1 r2 =>
  cases r2 with
  |cons r3 r4=>cases r4;exact⟨_,_,rfl,r1,r3⟩
def oi (hc:X.calm=true):eY X (.builtin "max") (λ xs H Q=>∃ i j,xs=[.int i,.int j]/\Q (.int (if j>i then j else i)) H):=by
 intro pins s σ H xs us Q I r h;obtain⟨i,j,rfl,q⟩:=h;obtain⟨u,w',rfl,⟨t,rfl⟩,⟨t',rfl⟩⟩:=vals2 r;refine max_two_ints (I.ok.hd hc) λ h' tk k=>⟨_,H,I.kept k,?_,q⟩;by_cases hj:j>i
 ·rw[Nr hj,Nr hj];exact⟨_,rfl⟩
 ·rw[Nu hj,Nu hj];exact⟨_,rfl⟩
def sC (hc:X.calm=true):eY X (.builtin "min") (λ xs H Q=>∃ i j,xs=[.int i,.int j]/\Q (.int (if j<i then j else i)) H):=by
 intro pins s σ H xs us Q I r h;obtain⟨i,j,rfl,q⟩:=h;obtain⟨u,w',rfl,⟨t,rfl⟩,⟨t',rfl⟩⟩:=vals2 r;refine min_two_ints (I.ok.hd hc) λ h' tk k=>⟨_,H,I.kept k,?_,q⟩;by_cases hj:j<i
 ·rw[Nr hj,Nr hj];exact⟨_,rfl⟩
 ·rw[Nu hj,Nu hj];exact⟨_,rfl⟩
end
structure Hu (h:Heap)(x dx C:Addr)(mA:Str->Option Value):Prop where
 obj:h.get? x=some (PySem.W.instObj C dx)
 ns:h.Ns1 dx mA
 ne:dx≠x
def AN(n:h.Ns1 dx mA):∃ od,h.get? dx=some od/\∀ name,PySem.W.lookIn name od=some (mA name):=by
 obtain⟨o,es,ep,ho,hd,hk,_,hm⟩:=n;refine⟨o,ho,λ name=>?_⟩;have e:=hm name;unfold nsFind findBy at e;rw[<-Array.find?_toList]at e;unfold PySem.W.lookIn;rw[hd];dsimp only;split
 ·rename_i y q;rw[q]at e;exact OQ some e
 ·rename_i q;rw[q]at e;have a:es.toList.any (·.refKey)=false:=by
   rw[Qv];intro y hy;obtain⟨z,t,hkey⟩:=hk y (Array.mem_toList_iff.mp hy);simp[DictEntry.refKey,hkey]
  have a':¬ es.toList.any (·.refKey)=true:=by rw[a];exact Nd
  rw[Nu a'];exact OQ some e
def Hu.look{x:Addr}(I:Hu h x dx C mA):∃ od,PySem.W.InstAt h x (PySem.W.instObj C dx) C (some od)/\∀ name,PySem.W.lookIn name od=some (mA name):=
 let ⟨od,ho,hl⟩:=AN I.ns
 ⟨od,⟨I.obj,rfl,rfl,ho⟩,hl⟩
section
variable {prog:Program}{K:PySem.W.Frag}{x:Addr}{name:Str}{v:Value}
end
def pC.some_of{o:Option Value}(r:pC (some v) o):∃ u,o=some u/\RelV v u:=by
 cases o with
 |none=>exact(show False from r).elim|some u=>exact⟨u,rfl,r⟩
section
variable{fs fs':List (Str×V)}
def EW (hok:ki P w H h)(e:H a=some (.ins C dx fs)):∃ mA,Hu h a dx C mA/\(∀ f,pC (fs.lookup f) (mA f))/\PySem.Within mA (fs.map (·.1))/\fs.length<=1000/\H dx=some (.own a):=by
 obtain⟨d,z,ne,ob,mA,n,r,q⟩:=(show bZ P w H h a (.ins C dx fs) from hok a _ e);exact⟨mA,⟨ob,n,ne⟩,r,q,z,d⟩
end
structure LD (K:PySem.W.Frag)(C:Addr):Prop where
 pg:PySem.W.plainGet K C Str.empty=true
 hd:PySem.W.hasDictIn K C=true
 po:PySem.W.plainOver K C=true
 sa:PySem.W.findIn K (.ref C) "__setattr__" = some (some (.builtin "object.__setattr__"))
def LD.get {K:PySem.W.Frag}(c:LD K C)(f:Str):PySem.W.plainGet K C f=true:=c.pg
section
variable{fs:List (Str×V)}{f:Str}
end
section
variable{o value:Expr}{f:Str}{pos' tpos:Pos}{tv:TE}
end
section
variable{c:Value}{b:Bool}
inductive mT (K:PySem.W.Frag)(H:Hp):V->Value->Prop where
 |bx:mT K H .bx (.type "NoneType")
 |bl (x:Bool):mT K H (.bl x) (.type "bool")
 |int (i:Int):mT K H (.int i) (.type "int")
 |str (x:Str):mT K H (.str x) (.type "str")
 |JN (x:UInt64):mT K H (.JN x) (.type "float")
 |lst {a:Addr}{xs:List V} (e:H a=some (.lst xs)):mT K H (.ref a) (.type "list")
 |ak {a:Addr}{o:Obj}{xs:List V} (e:H a=some (.ak o (.lst xs))):mT K H (.ref a) (.type "list")
 |tup {a:Addr}{xs:List V} (e:H a=some (.tup xs)):mT K H (.ref a) (.type "tuple")
 |dK {a:Addr}{kvs:List (Key×V)}{ep:Nat} (e:H a=some (.dK kvs ep)):mT K H (.ref a) (.type "dict")
 |dT {a:Addr}{kvs:List (List Key×V)}{ep:Nat} (e:H a=some (.dT kvs ep)):mT K H (.ref a) (.type "dict")
 | ins {a C dx:Addr}{fs:List (Str×V)} (e:H a=some (.ins C dx fs)) (cl:LD K C) (ha:PySem.W.findIn K (.ref C) "__class__" = some (some (.builtin "object.__class__")))
   (hn:PySem.W.specialIn K (.builtin "object.__class__") "__get__" = some (some (.builtin "getset_descriptor.__get__"))) (htk:PySem.W.takesIn K (.builtin "object.__class__")=some true)
   (hm:PySem.W.mroIn K C (.type "object")=some true):mT K H (.ref a) (.ref C)
def AQ {x:V}{t:Value}(I:Inv X pins σ H s)(rx:RelV x u)(ty:mT X.K H x t)(e:PySem.W.kitOne X.K t c=some b)(h:∀ tk,Q (.bool b) { s with toks:=tk }) :
  wpAny (model X.prog X.w) A (call (.builtin "isinstance") [u,c]) Q E s:=by
 cases ty with
 |bx=>cases (show u=Value.none from rx);exact Ov PySem.W.kitx_none I.tZ True.intro e (λ z=>nomatch z) h|bl y=>cases (show u=Value.bool y from rx);exact Ov PySem.W.kitx_bool I.tZ True.intro e (λ z=>nomatch z) h|int i=>obtain⟨t,q⟩:=(show ∃ t,u=Value.int i t from rx);cases q;exact Ov PySem.W.kitx_int I.tZ True.intro e (λ z=>nomatch z) h|str y=>obtain⟨t,q⟩:=(show ∃ t,u=Value.str y t from rx);cases q;exact Ov PySem.W.kitx_str I.tZ True.intro e (λ z=>nomatch z) h|JN y=>obtain⟨t,q⟩:=(show ∃ t,u=Value.float y t from rx);cases q;exact Ov PySem.W.kitx_float I.tZ True.intro e (λ z=>nomatch z) h
 | @lst a xs ea =>
  cases (show u=Value.ref a from rx);obtain⟨_,_,n,_,h1⟩:=(show bZ X.prog X.w H s.heap a (.lst xs) from I.hok a _ ea);exact Ov Ro I.tZ ⟨_,h1,rfl⟩ e (λ z=>nomatch z) h
 | @ak a ob xs ea =>
  cases (show u=Value.ref a from rx);obtain⟨_,_,_,n,_,h1⟩:=(show bZ X.prog X.w H s.heap a (.ak ob (.lst xs)) from I.hok a _ ea);exact Ov Ro I.tZ ⟨_,h1,rfl⟩ e (λ z=>nomatch z) h
 | @tup a xs ea =>
  cases (show u=Value.ref a from rx);obtain⟨_,_,_,p⟩:=(show bZ X.prog X.w H s.heap a (.tup xs) from I.hok a _ ea);obtain⟨o,h1,h2,_⟩:=p.is;exact Ov PySem.W.kitx_tuple I.tZ ⟨o,h1,h2⟩ e (λ z=>nomatch z) h
 | @dK a kvs ep ea =>
  cases (show u=Value.ref a from rx);obtain⟨_,_,vs,_,p⟩:=(show bZ X.prog X.w H s.heap a (.dK kvs ep) from I.hok a _ ea);obtain⟨o,es,h1,h2,_⟩:=p;exact Ov PySem.W.kitx_dict I.tZ ⟨o,h1,h2.1⟩ e (λ z=>nomatch z) h
 | @dT a kvs ep ea =>
  cases (show u=Value.ref a from rx);obtain⟨_,_,xs,_,o,es,h1,h2,_⟩:=(show bZ X.prog X.w H s.heap a (.dT kvs ep) from I.hok a _ ea);exact Ov PySem.W.kitx_dict I.tZ ⟨o,h1,h2.1⟩ e (λ z=>nomatch z) h
 | @ins a C dx fs ea cl ha hn htk hm =>
  cases (show u=Value.ref a from rx);obtain⟨mA,O,_⟩:=EW I.hok ea;obtain⟨od,J,_⟩:=O.look;exact Ov (PySem.W.kitx_own (cl.get _) cl.hd ha hn htk hm) I.tZ J e (λ z=>nomatch z) h
end
structure gz (k:Nat)(A:Around):Prop where
 hd:A.handled=none
 dp:A.depth+3*k+5<recursionLimit
 un:A.units+16*k+200<cLine
def gz.mono {j k:Nat}(r:gz k A)(h:j<=k):gz j A:=⟨r.hd,by have:=r.dp;omega,by have:=r.un;omega⟩
def gz.deeper {k:Nat}(r:gz (k+1) A)(env:Env):gz k (A.deeper env):=
 ⟨r.hd,by have:=r.dp;show A.depth+1+3*k+5<_;omega,by have:=r.un;show A.units+3+16*k+200<_;omega⟩
def gz.depth {k:Nat}(r:gz k A):A.depth<recursionLimit:=by have:=r.dp;omega
def gz.units {k:Nat}(r:gz k A):A.units+64<cLine:=by have:=r.un;omega
def xB:TA:=λ _ H Q=>Q [] H
def pY (ta:TE)(tr:TA):TA:=λ σ H Q=>ta σ H λ x H1=>tr σ H1 λ xs H2=>Q (x::xs) H2
section
variable{t:TA}
def fE:PA X [] xB:=λ _ _ _ _ H Q I h=>Rp ⟨[],H,I,.nil,h⟩
def cT (ha:PE X e te)(hr:PA X es t)(hs:starEach (e::es) X.env=(false,eval e X.env)::starEach es X.env:=by rfl):PA X (e::es) (pY te t):=by
 intro pos pins s σ H Q I h;rw[hs];show wpAny _ _ (spliced ((false,eval e X.env)::backTo pos (starEach es X.env))) _ _ s;refine Q8 (eK (ha pins s σ H _ I h) λ u s1 hq5=>L2.ex5 hq5 λ x H1 I1 r1 q1=>?_);exact eK (hr pos pins s1 σ H1 _ I1 q1) λ us s2 hq5=>L2.ex5 hq5 λ xs H2 I2 r2 q2=>⟨x::xs,H2,I2,.cons r1 r2,q2⟩
def LS (t:TA):TE:=λ σ H Q=>t σ H λ xs H1=>xs.length<=sizeLine/\∀ p,H1 p=none->Q (.ref p) (upd H1 p (.tup xs))
def HE (t:TA):TE:=λ σ H Q=>t σ H λ xs H1=>xs.length<=sizeLine/\∀ p,H1 p=none->Q (.ref p) (upd H1 p (.lst xs))
def Cp {x1}(h:PA X es t):PE X (.Tuple es x1 pos) (LS t):=by
 intro pins s σ H Q I hq;refine wpAny_Tuple_spliced (eK (h pos pins s σ H _ I hq) λ us s1 ⟨xs,H1,I1,r,z,q⟩=>⟨by rw[<-r.length];exact z,?_⟩);have hf:H1 s1.heap.objs.size=none:=I1.hok.fresh (Nm _);refine⟨.ref s1.heap.objs.size,upd H1 s1.heap.objs.size (.tup xs),I1.laid (t':=s1.toks) (λ b u e=>M8 _ e) (Nm _) ?_,rfl,q _ hf⟩;exact⟨z,us,r,⟨_,Nj _ rfl⟩⟩
def xF (h:PA X es t):PE X (.List es pos) (HE t):=by
 intro pins s σ H Q I hq;refine wpAny_List_spliced (eK (h pos pins s σ H _ I hq) λ us s1 ⟨xs,H1,I1,r,z,q⟩=>⟨by rw[<-r.length];exact z,?_⟩);have hf:H1 s1.heap.objs.size=none:=I1.hok.fresh (Nm _);refine⟨.ref s1.heap.objs.size,upd H1 s1.heap.objs.size (.lst xs),I1.laid (t':=s1.toks) (λ b u e=>M8 _ e) (Nm _) ?_,rfl,q _ hf⟩;exact⟨z,us,0,r,Nj _ rfl⟩
end
abbrev Sp:=List V->Hp->VK->XK->Prop
variable {sp:Sp}
abbrev Cr:=List Env->Hp->Shared->XK->Value->Shared->Prop
variable {CX:Cr}
structure EN (P:Program)(w:World)(K:PySem.W.Frag)(mg:Str->Option Value)(base:Heap)(A:Around)(outer:List Env)(s:Shared)(H:Hp):Prop where
 frames:A.frames=some outer
 mod:Mod K mg base
 bs:∀ b o,base.get? b=some o->s.heap.get? b=some o/\H b=none
 EY:base.objs.size<=s.heap.objs.size
 pA:s.heap.FunFrames base outer
 Hv:∀ b∈frs outer,H b=none
 hok:ki P w H s.heap
 bare:AllBare s.gens
def CE (outer:List Env)(P:Program)(w:World)(H:Hp)(s:Shared)(Q:VK)(u:Value)(s':Shared):Prop:=
 ∃ v H',s'.os=s.os/\AllBare s'.gens/\Un (frs outer) [] H H' s.heap s'.heap/\ki P w H' s'.heap/\RelV v u/\Q v H'
def CR (CX:Cr)(outer:List Env)(P:Program)(w:World)(H:Hp)(s:Shared)(Q:VK)(E:XK)(r:Result)(s':Shared):Prop:=
 match r with
 |.ok (.ret u)=>CE outer P w H s Q u s'
 |.ok _=>False
 |.error e=>CX outer H s E e s'
structure pW (P:Program)(w:World)(K:PySem.W.Frag)(mg:Str->Option Value)(base:Heap)(CX:Cr)(k:Nat)(f:Addr)(fd:FuncData)(ps:List Str)(sp:Sp):Prop where
 len:∀ vs H Q E,sp vs H Q E->vs.length=ps.length
 run:∀ (A:Around) (outer:List Env) (s:Shared) (H:Hp) (args:Args) (us:List Value) (vs:List V) (Q:VK) (E:XK),gz k A->EN P w K mg base A outer s H->BindsTo s fd args (ps.zip us)->Vals vs us->sp vs H Q E ->
  codeAny (model P w) A (.call (.ref f) args) (CR CX outer P w H s Q E) s
section
def Inv.LX (I:Inv X pins σ H s):EN X.prog X.w X.K X.mg X.base X.A X.stack s H:=
 ⟨I.ok.frames,I.ok.mod,I.bs,N9 I.ok.EY I.sz,I.stack,I.zm,I.hok,I.bare⟩
def Inv.after {Q:VK}(I:Inv X pins σ H s)(h:CE X.stack X.prog X.w H s Q u s'):EP X pins σ Q u s':=by
 obtain⟨v,H',os,bare,un,hok,r,q⟩:=h;obtain⟨hh,g,d,t,os'⟩:=s';obtain rfl:os'=s.os:=os;exact⟨v,H',I.call (h':=hh) (g':=g) (d':=d) (t':=t) (ch:=[]) un hok bare (λ b z=>absurd z (by simp)),r,q⟩
end
def GZ (sp:Sp)(dvs:List V)(E:XK)(t:TA):TE:=λ σ H Q=>t σ H λ vs H1=>sp (vs++dvs) H1 Q E
def Binds (K:PySem.W.Frag)(fd:FuncData)(ps:List Str)(ds:List Value):Prop:=
 ∀ (s:Shared) (us:List Value),K.In s.heap->(us++ds).length=ps.length->BindsTo s fd ⟨us,[]⟩ (ps.zip (us++ds))
def Binds.all {K:PySem.W.Frag}(h:∀ us:List Value,us.length=ps.length->bindArgs fd ⟨us,[]⟩=pure (ps.zip us)):Binds K fd ps []:=λ s us _ hl=>by
 rw[NX]at hl ⊢;exact .of_eq (h us hl)
def Passes (CX:Cr)(X:Cx)(E:XK):Prop:=∀ (pins:List (Addr×Obj)) (σ:St) (H:Hp) (s:Shared) (e:Value) (s':Shared),Inv X pins σ H s->CX X.stack H s E e s'->X.xe e s'
section
variable{k:Nat}{dvs:List V}{ds:List Value}{E:XK}{m:Str}{apos:Pos}{o:Expr}{t:TA}
def HH{Q:VK}{vs:List V}(F:pW X.prog X.w X.K X.mg X.base CX k f fd ps sp)(hr:gz k X.A)(hb:Binds X.K fd ps ds)(hd:Vals dvs ds)(hx:Passes CX X E)
  (I:Inv X pins σ H s) (r:Vals vs us) (h:sp (vs++dvs) H Q E):wpAny (model X.prog X.w) X.A (call (.ref f) us) (EP X pins σ Q) X.xe s:=by
 have r2:Vals (vs++dvs) (us++ds):=r.append hd;have hl:(us++ds).length=ps.length:=by rw[<-r2.length];exact F.len _ _ _ _ h
 refine wpAny_call (Q4 (F.run X.A X.stack s H ⟨us,[]⟩ (us++ds) (vs++dvs) Q E hr I.LX (hb s us I.tZ hl) r2 h) λ r s' hq=>?_);cases r with
 |error e=>exact hx pins σ H s e s' I hq
 | ok fl =>
  cases fl with
  |ret u=>exact I.after hq|next=>exact False.elim hq|brk=>exact False.elim hq|cont=>exact False.elim hq
def EZ (F:pW X.prog X.w X.K X.mg X.base CX k f fd ps sp)(hr:gz k X.A)(hg:Gl X x)(hm:X.mg x=some (.ref f))(hk:PySem.W.keepIn X.K (.ref f)=true)(hb:Binds X.K fd ps ds)(hd:Vals dvs ds)(hx:Passes CX X E)
  (ha:PA X (e::es) t) (hdb:(x == ("__debug__" : Str))=false:=by decide) (he:starEach (e::es) X.env=(false,eval e X.env)::starEach es X.env:=by rfl) (hpl:(backTo pos (starEach es X.env)).any (·.1)=false:=by rfl) :
  PE X (.Call (.Name x p) (e::es) [] pos) (GZ sp dvs E t):=by
 intro pins s σ H Q I h;refine O4 (E4 I hg hm ?_ hdb);refine PySem.W.callWith_K (h₀:=X.base) I.ok.mod.LO hk (eK (ha pos pins s σ H _ I h) λ us s1 hq5=>L2.ex5 hq5 λ vs H1 I1 r q=>⟨I1.tZ,?_⟩) he hpl;exact HH F hr hb hd hx I1 r q
end
section
variable{k:Nat}{ks:List Str}{E:XK}{m:Str}{apos kpos:Pos}{o:Expr}{kws:List Keyword}{t tk:TA}{nm:Option Str}
variable {g:List Value->List Value->List Value}{gV:List V->List V->List V}
end
structure aX (N P:List Str)(sc:Scope):Prop where
 kind:sc.kind=.function
 co:sc.isCoroutine=false
 gen:sc.isGenerator=false
 nd:N.Nodup
 pre:N.take P.length=P
 par:∀ x∈P,sc.names.lookup x=some .local\/sc.names.lookup x=some .cell
 Hy:∀ y∈sc.names,y.2 ≠ .free
def rZ {kindOf:Str->Option NameKind}{x:Str}:∀ {binds:List (Str×Value)}{m:Str->Option Value},(∀ v,(x,v)∉binds)->bindL kindOf binds m x=m x
 |[],_,_=>rfl
 | (n,v)::r,m,h=>by
  unfold bindL;rw[rZ λ w hw=>h w (Nb _ hw)];split
  ·have:x≠n:=by rintro rfl;exact h v Na
   simp[this]
  ·rfl
def sr {kindOf:Str->Option NameKind}{x:Str}:∀ {binds:List (Str×Value)}{m:Str->Option Value},(∀ v,(x,v)∉binds)->bindC kindOf binds m x=m x
 |[],_,_=>rfl
 | (n,v)::r,m,h=>by
  unfold bindC;rw[sr λ w hw=>h w (Nb _ hw)];split
  ·rfl
  ·have:x≠n:=by rintro rfl;exact h v Na
   simp[this]
def r8 {kindOf:Str->Option NameKind}{x:Str}{v:Value}:∀ {P:List Str}{vs:List Value}{i:Nat}{m:Str->Option Value},P.Nodup->P[i]?=some x->vs[i]?=some v->kindOf x=some .local ->
  bindL kindOf (P.zip vs) m x=some v
 |[],_,_,_,_,h,_,_=>by simp at h
 |_::_,[],_,_,_,_,h,_=>by simp at h
 | p::P,w::vs,0,m,nd,h1,h2,hk=>by
  simp at h1 h2;subst h1;subst h2;show bindL kindOf ((p,w)::P.zip vs) m p=_;unfold bindL;rw[rZ λ v hv=>(Nv.mp nd).1 (RE hv).1,Nr hk];simp
 | p::P,w::vs,i+1,m,nd,h1,h2,hk=>by
  show bindL kindOf ((p,w)::P.zip vs) m x=_;unfold bindL;exact r8 (i:=i) (Nv.mp nd).2 (by simpa using h1) (by simpa using h2) hk
def r6 {kindOf:Str->Option NameKind}{x:Str}{v:Value}:∀ {P:List Str}{vs:List Value}{i:Nat}{m:Str->Option Value},P.Nodup->P[i]?=some x->vs[i]?=some v->kindOf x≠some .local ->
  bindC kindOf (P.zip vs) m x=some v
 |[],_,_,_,_,h,_,_=>by simp at h
 |_::_,[],_,_,_,_,h,_=>by simp at h
 | p::P,w::vs,0,m,nd,h1,h2,hk=>by
  simp at h1 h2;subst h1;subst h2;show bindC kindOf ((p,w)::P.zip vs) m p=_;unfold bindC;rw[sr λ v hv=>(Nv.mp nd).1 (RE hv).1,Nu hk];simp
 | p::P,w::vs,i+1,m,nd,h1,h2,hk=>by
  show bindC kindOf ((p,w)::P.zip vs) m x=_;unfold bindC;exact r6 (i:=i) (Nv.mp nd).2 (by simpa using h1) (by simpa using h2) hk
def start (N:List Str)(vs:List V):St:=vs.map some++List.replicate (N.length-vs.length) none
def rF (CX:Cr)(P:Program)(w:World)(K:PySem.W.Frag)(mg:Str->Option Value)(base:Heap)(N:List Str)(qual:Str)(scope:Scope)(f:Addr)(cd:Value)(A:Around)(outer:List Env)(s:Shared)(H:Hp)(E:XK):Cx where
 prog:=P
 w:=w
 K:=K
 mg:=mg
 base:=base
 A:=A.deeper (envOfC qual scope s.heap.objs.size f cd)
 N:=N
 s₀:=s
 H₀:=H
 env:=envOfC qual scope s.heap.objs.size f cd
 outer:=outer
 stack:=envOfC qual scope s.heap.objs.size f cd::outer
 ex:=[]
 calm:=true
 fn:=λ _=>true
 pn:=[]
 xe:=λ e s'=>wpAny (model P w) (A.deeper (envOfC qual scope s.heap.objs.size f cd)) (leaving (envOfC qual scope s.heap.objs.size f cd) e) (λ _ s''=>CX outer H s E e s'') (λ e' s''=>CX outer H s E e' s'') s'
def vv {sc:Scope}{n:Nat}(h:sc.names.lookup x=some .cell):∃ c,(cellsFrom n sc.names []).lookup x=some c:=by
 have q:=P5 sc.names n [] (.inl h);exact PH.mp q
def AJ{K:PySem.W.Frag}{mg:Str->Option Value}{base:Heap}{qual:Str}{scope:Scope}{cd:Value}{outer:List Env}{s1:Shared}{E:XK}{vs:List V}
  (S:aX N ps scope) (hd:A.handled=none) (e0:EN P w K mg base A outer s H) (hl:vs.length=ps.length) (r:Vals vs us)
  (x:InCallC s s.heap.objs.size (bindL (envOfC qual scope s.heap.objs.size f cd).kindOf (ps.zip us) λ _=>none) (cellsFrom (s.heap.objs.size+1) scope.names []) (bindC (envOfC qual scope s.heap.objs.size f cd).kindOf (ps.zip us) λ _=>none) s1) :
  Inv (rF CX P w K mg base N qual scope f cd A outer s H E) [] (start N vs) H s1:=by
 have hpl:ps.length<=N.length:=by have:=OQ List.length S.pre;rw[QH]at this;omega
 obtain⟨h1,tk,rfl,hk⟩:=x.done;have noA:∀ b:Addr,b∉(rF CX P w K mg base N qual scope f cd A outer s H E).ex:=λ b z=>absurd (show b∈([]:List Addr) from z) (by simp);refine⟨⟨e0.mod,S.kind,rfl,rfl,Nm _,λ y z c h1 h2=>?_,λ y hy=>?_,λ y c _ h=>?_,λ _=>hd,Around.frames_deeper e0.frames,.inr ⟨rfl,rfl⟩,λ b z=>absurd z (noA b),e0.bs,e0.EY,λ b _ _=>noA b,λ b z=>absurd z (noA b),e0.pA,e0.Hv⟩,
  rfl,e0.bare,Un.kept hk,⟨_,x.toInCall.ns,λ i y v h1 h2 h3=>?_⟩,λ y c h=>⟨_,x.cell y c h⟩,e0.hok.fresh (Nm _),λ y c h=>?_,λ p hp=>absurd (show p∈([]:List (Addr×Obj)) from hp) (by simp),e0.hok.kept hk,?_⟩
 ·exact name_of_addr x.apart (PM h1) (PM h2)
 ·have hy:scope.names.lookup y=some .cell\/scope.names.lookup y=some .free:=hy;rcases hy with hy|hy
  ·exact vv hy
  ·exact absurd rfl (S.Hy _ (PM hy))
 ·exact Ph (x.above y c (PM h))
 ·have hi:i<vs.length:=by
   unfold start at h2;by_cases hi:i<vs.length
   ·exact hi
   ·rw[OJ (by simpa using hi)]at h2;rw[List.getElem?_replicate]at h2;split at h2<;>cases h2
  have ha:vs[i]?=some v:=by
   unfold start at h2;rw[Rk (by simpa using hi),NG]at h2;cases e:vs[i]? with
   |none=>rw[e]at h2;cases h2|some a=>rw[e]at h2;cases h2;rfl
  obtain⟨u,hu,rv⟩:=r.get ha;have hp:ps[i]?=some y:=by
   rw[<-S.pre,List.getElem?_take_of_lt (by omega)];exact h1
  have ndP:ps.Nodup:=by rw[<-S.pre];exact S.nd.sublist (List.take_sublist _ _)
  refine⟨u,rv,?_⟩;rcases S.par y (QO hp) with k|k
  ·exact .inl ⟨k,r8 ndP hp hu k⟩
  ·obtain⟨c,e⟩:=vv (n:=s.heap.objs.size+1) k;refine .inr ⟨.inl k,c,e,?_⟩;have q:=x.cell y c e;rw[r6 ndP hp hu (by show scope.names.lookup y≠_;rw[k];decide)]at q;exact q
 ·exact e0.hok.fresh (Ph (x.above y c (PM h)))
 ·unfold start;show _=N.length;rw[Nn,M7,List.length_replicate];omega
def JY{K:PySem.W.Frag}{mg:Str->Option Value}{base:Heap}{k:Nat}{name qual:Str}{params:Arguments}{scope:Scope}{dV kV doc pm cdv ct oc:Value}{an od:Option Addr}
  {osl:Array (Option Value)} (lk:K.lookup f=some ⟨oc,od,.func (PySem.W.fnOf name qual params body scope dV kV doc pm an cdv ct),osl⟩) (hcd:PySem.W.codeIn K cdv qual=true) (S:aX N ps scope)
  (len:∀ vs H Q E,sp vs H Q E->vs.length=ps.length)
  (hbody:∀ (A:Around) (outer:List Env) (s:Shared) (H:Hp) (vs:List V) (Q:VK) (E:XK),gz k (A.deeper (envOfC qual scope s.heap.objs.size f cdv))->sp vs H Q E ->
   ∃ t,mQ (rF CX P w K mg base N qual scope f cdv A outer s H E) body t/\t { nx:=λ _ H'=>Q .bx H',rt:=Q } (start N vs) H) :
  pW P w K mg base CX (k+1) f (PySem.W.fnOf name qual params body scope dV kV doc pm an cdv ct) ps sp:=by
 refine⟨len,λ A outer s H args us vs Q E hr e0 hb r hsp=>?_⟩;have hl:=len _ _ _ _ hsp;have KX:K.In s.heap:=e0.mod.LO.keeps λ b o e=>(e0.bs b o e).1;have lim:s.heap.NoLimit:=e0.mod.nolimit.keeps λ b o e=>(e0.bs b o e).1;have hkind:∀ y∈ps.zip us,scope.names.lookup y.1=some .local\/(scope.names.lookup y.1=some .cell/\((cellsFrom (s.heap.objs.size+1) scope.names []).lookup y.1).isSome=true):=λ ⟨n,v⟩ hy=>by
  rcases S.par n (RE hy).1 with q|q
  ·exact .inl q
  ·exact .inr ⟨q,P5 _ _ _ (.inl q)⟩
 refine codeAny_call_function hr.depth (KX _ _ lk) rfl S.co S.gen rfl (PySem.W.codeRec_of KX hcd) (hb _ _ _ _ ?_);refine wpAny_newFunctionEnv_cells S.kind hkind λ env he s1 x=>?_;subst he;refine⟨lim.keeps x.toInCall.keep,codeAny_func ?_⟩;obtain⟨t,ht,hq⟩:=hbody A outer s H vs Q E (hr.deeper _) hsp;have I:Inv (rF CX P w K mg base N qual scope f cdv A outer s H E) [] (start N vs) H s1:=AJ S hr.hd e0 hl r x;refine O3 (ht [] s1 (start N vs) H _ I hq) (λ fl s' hs=>?_) λ e s' hs=>hs;have fin:∀ {σ':St}{H':Hp}{v:V}{u:Value},Inv (rF CX P w K mg base N qual scope f cdv A outer s H E) [] σ' H' s'->RelV v u->Q v H'->CE outer P w H s Q u s':=
  λ {σ' H' v u} J rv q=>⟨v,H',J.os,J.bare,J.base,J.hok,rv,q⟩
 cases fl with
 | ret u =>
  obtain⟨v,σ',H',J,rv,q⟩:=hs;exact fin J rv q
 | next =>
  obtain⟨σ',H',J,q⟩:=hs;exact fin (v:=V.bx) (u:=Value.none) J rfl q
 | brk =>
  obtain⟨_,_,_,q⟩:=hs;exact False.elim q
 | cont =>
  obtain⟨_,_,_,q⟩:=hs;exact False.elim q
section
variable{t:TA}{id T:String}{r:List V->Hp->VK->Prop}
def MC (r:List V->Hp->VK->Prop)(t:TA):TE:=λ σ H Q=>t σ H λ vs H1=>r vs H1 Q
def pT (hc:eY X (.builtin id) r)(hg:Gl X x)(hm:X.mg x=none)(hv:bootBuiltins x=some (.builtin id))(ha:PA X (e::es) t)(hn:x ≠ "__name__" :=by decide)(hdb:(x == ("__debug__" : Str))=false:=by decide)
  (he:starEach (e::es) X.env=(false,eval e X.env)::starEach es X.env:=by rfl) (hpl:(backTo pos (starEach es X.env)).any (·.1)=false:=by rfl):PE X (.Call (.Name x p) (e::es) [] pos) (MC r t):=by
 intro pins s σ H Q I h;refine O4 (jM I hg hm hv ?_ hn hdb);exact QI (eK (ha pos pins s σ H _ I h) λ us s1 hq5=>L2.ex5 hq5 λ vs H1 I1 r1 q1=>hc pins s1 σ H1 vs us Q I1 r1 q1) he hpl
def AK (hc:eY X (.type T) r)(hg:Gl X x)(hm:X.mg x=none)(hv:bootBuiltins x=some (.type T))(ha:PA X (e::es) t)(hn:x ≠ "__name__" :=by decide)(hdb:(x == ("__debug__" : Str))=false:=by decide)
  (he:starEach (e::es) X.env=(false,eval e X.env)::starEach es X.env:=by rfl) (hpl:(backTo pos (starEach es X.env)).any (·.1)=false:=by rfl):PE X (.Call (.Name x p) (e::es) [] pos) (MC r t):=by
 intro pins s σ H Q I h;refine O4 (jM I hg hm hv ?_ hn hdb);exact OI (eK (ha pos pins s σ H _ I h) λ us s1 hq5=>L2.ex5 hq5 λ vs H1 I1 r1 q1=>hc pins s1 σ H1 vs us Q I1 r1 q1) he hpl
end
end L2
namespace HT
open PySem PyProof.Rows
section
open PySem.SeqAt
open PySem.AutoSeq1 (wpAny_loadPart')
open PySem.MeetsSeq PySem.MeetsSeq2 PySem.MeetsSeq3
end
section
variable {prog:Program}{w:World}{A:Around}{E:Value->Shared->Prop}{s:Shared}
def E9 {t b:Addr}{vs ws:List Value}{Q:Value->Shared->Prop}(ht:IsTup s.heap t vs.toArray)(hb:IsTup s.heap b ws.toArray)(hv:vs≠[])
  (h1:ws=[]->Q (.ref t) s) (h2:ws≠[]->Q (.ref s.heap.objs.size) { s with heap:=s.heap.push { cls:=.type "tuple",data:=.seq (vs++ws).toArray } })
  (hsz:vs.length+ws.length<=sizeLine):wpAny (model prog w) A (binaryOp .Add (.ref t) (.ref b)) Q E s:=by
 obtain⟨⟨cls,dd,data,sl⟩,ho,hc,n,hd⟩:=id ht;obtain⟨⟨cls2,dd2,data2,sl2⟩,ho2,hc2,n2,hd2⟩:=id hb;simp only at hc hd hc2 hd2;subst hc hd hc2 hd2;have e:vs.toArray++ws.toArray=(vs++ws).toArray:=by simp
 by_cases hw:ws=[]
 ·exact concat_meets ⟨_,ho,rfl⟩ ⟨_,ho2,rfl⟩ noFill_tuple_add seq_tuple_add PySem.F.slot_tuple_add PySem.F.entry_tuple_add (PySem.F.args_tuple_add_2 _ _)
   (tuple_addW1 t b vs.toArray ws.toArray n n2 dd dd2 sl sl2 (by simpa using hv) (by simp[hw])) ⟨ho,ho2,h1 hw⟩
 ·refine concat_meets ⟨_,ho,rfl⟩ ⟨_,ho2,rfl⟩ noFill_tuple_add seq_tuple_add PySem.F.slot_tuple_add PySem.F.entry_tuple_add (PySem.F.args_tuple_add_2 _ _)
   (tuple_addW2 t b vs.toArray ws.toArray n n2 dd dd2 sl sl2 (by simpa using hv) (by simpa using hw) (by rw[Nh,Nh];exact hsz)) ⟨ho,ho2,?_⟩
  rw[e];exact h2 hw
def fJ (n d:Nat):Option Int->Nat
 |none=>d
 |some v=>if v<0 then (v+(n:Int)).toNat else min v.toNat n
def HZ (n d:Nat)(hd:d<=n)(o:Option Int):fJ n d o<=n:=by
 cases o with
 |none=>exact hd
 | some v =>
  show(if v<0 then (v+(n:Int)).toNat else min v.toNat n)<=n;by_cases hv:v<0
  ·rw[Nr hv];omega
  ·rw[Nu hv];exact Nat.min_le_right _ _
def zq (v:Int)(n d:Nat):(if v<0 then max (v+(n:Int)) 0 else min v (n:Int))=((fJ n d (some v):Nat):Int):=by
 show(if v<0 then max (v+(n:Int)) 0 else min v (n:Int))=(((if v<0 then (v+(n:Int)).toNat else min v.toNat n):Nat):Int);by_cases hv:v<0
 ·simp only[Nr hv];omega
 ·simp only[Nu hv];omega
def xJ (lo hi:Option Int)(n:Nat):Builtin.Slice.sliceAdjust lo hi 1 (n:Int)=(((fJ n 0 lo:Nat):Int),((fJ n n hi:Nat):Int)):=by
 have h1:¬ ((1:Int)<0):=by omega
 unfold Builtin.Slice.sliceAdjust;simp only[h1,PV];refine Prod.ext ?_ ?_
 ·cases lo with
  |none=>rfl|some v=>exact zq v n 0
 ·cases hi with
  |none=>rfl|some v=>exact zq v n n
def xM (i j:Nat):Builtin.Slice.slicePlaces (i:Int) (j:Int) 1=j-i:=by
 unfold Builtin.Slice.slicePlaces;have h1:(1:Int)>0:=by omega
 simp only[h1,PN,Int.ediv_one];split<;>omega
def p8 {v:Value}{o:Option Int}{Q:Option Int->Shared->Prop}(p:IsPart v o)(h:Q o s):wpAny (model prog w) A (Builtin.Slice.slicePartIndex v) Q E s:=by
 cases p with
 |none=>exact slicePart_none h|int i t=>exact slicePart_int h
def om {sl:Addr}{vl vu:Value}{lo hi:Option Int}{n:Nat}{Q:Int×Int×Nat->Shared->Prop}(hs:s.heap.IsSliceOf sl vl vu .none)(pl:IsPart vl lo)(pu:IsPart vu hi)
  (h:Q (((fJ n 0 lo:Nat):Int),1,fJ n n hi-fJ n 0 lo) s):wpAny (model prog w) A (Builtin.Slice.sliceApplied (.ref sl) (pure (n:Int))) Q E s:=by
 obtain⟨os,hos,hcs,hds⟩:=id hs;unfold Builtin.Slice.sliceApplied Builtin.Slice.sliceFields;refine M6 (M6 (OC hos hds (x:=vl) rfl (M6 (OC hos hds (x:=vu) rfl (M6 (OC hos hds (x:=.none) rfl (Nc ?_)))))));refine M6 (slicePart_none ?_);show wpAny _ _ (if ((1:Int) == 0)=true then _ else _) _ _ s;rw[Nu (by decide)];refine M6 (p8 pl (M6 (p8 pu (M6 (Nc ?_)))));show wpAny _ _ (match Builtin.Slice.sliceAdjust lo hi 1 (n:Int) with|(lo,hi)=>pure (lo,(1:Int),Builtin.Slice.slicePlaces lo hi 1)) _ _ s;rw[xJ lo hi n];show wpAny _ _ (pure (((fJ n 0 lo:Nat):Int),(1:Int),Builtin.Slice.slicePlaces ((fJ n 0 lo:Nat):Int) ((fJ n n hi:Nat):Int) 1)) _ _ s;rw[xM];exact Nc h
def Cz (xs:Array Value)(i k:Nat):((List.range k).filterMap λ (m:Nat)=>xs[((i:Int)+(m:Int)*1).toNat]?).toArray=((xs.toList.drop i).take k).toArray:=by
 have e:(λ (m:Nat)=>xs[((i:Int)+(m:Int)*1).toNat]?)=λ m=>xs[i+m]?:=by
  funext m;have:((i:Int)+(m:Int)*1).toNat=i+m:=by omega
  rw[this]
 rw[e];have:=pick_run xs i k;rw[List.filterMap_map]at this;have e2:((λ x=>xs[x]?)∘λ x=>i+x)=λ m=>xs[i+m]?:=rfl;rw[e2]at this;rw[this]
def mW {t sl:Addr}{items:Array Value}{vl vu:Value}{lo hi:Option Int}{Q:Value->Shared->Prop}(ht:IsTup s.heap t items)(hs:s.heap.IsSliceOf sl vl vu .none)(pl:IsPart vl lo)(pu:IsPart vu hi)
  (hw:¬ (fJ items.size 0 lo=0/\fJ items.size items.size hi=items.size))
  (h:Q (.ref s.heap.objs.size) { s with heap:=s.heap.push { cls:=.type "tuple",data:=.seq ((items.toList.drop (fJ items.size 0 lo)).take (fJ items.size items.size hi-fJ items.size 0 lo)).toArray } })
  (hsz:items.size<=sizeLine):wpAny (model prog w) A (getItem (.ref t) (.ref sl)) Q E s:=by
 have htake:sizeOk (.seq ((items.toList.drop (fJ items.size 0 lo)).take (fJ items.size items.size hi-fJ items.size 0 lo)).toArray):=by
  show((items.toList.drop (fJ items.size 0 lo)).take (fJ items.size items.size hi-fJ items.size 0 lo)).toArray.size<=sizeLine;rw[Nh,QH,QJ,NI];omega
 have hj:fJ items.size items.size hi<=items.size:=HZ _ _ (Nm _) hi;obtain⟨os,hos,hcs,hds⟩:=id hs;have hTs:s.TypeIs (.ref sl) "slice" :=⟨os,hos,hcs⟩;unfold getItem
 try with_reducible refine O6 ?_
 first|refine M6 (Nc ?_)|skip
 refine M6 (wpAny_sequenceKey ht.typeIs (by decide) ?_);refine M6 (N7 (name:=Str.ofString "__getitem__") ht.typeIs QB
  (N1 QB ht.typeIs entry_tuple_getitem ?_ (args_tuple_getitem _ _)))
 show wpAny _ _ (Builtin.Tuple.tupleItemsOf (.ref t) >>= _) _ _ s;refine M6 (tupleItemsOf_ ht ?_);refine M6 (Q5 hTs ?_);rw[Nr (by decide)];refine M6 (om hs pl pu ?_);have hno:¬ ((((fJ items.size 0 lo:Nat):Int) == 0&&(1:Int) == 1&&(fJ items.size items.size hi-fJ items.size 0 lo) == items.size)=true):=by
  intro q;rw[NQ,NQ]at q;have q1:((fJ items.size 0 lo:Nat):Int)=0:=eq_of_beq q.1.1;have q2:fJ items.size items.size hi-fJ items.size 0 lo=items.size:=eq_of_beq q.2;exact hw ⟨by omega,by omega⟩
 show wpAny _ _ (if (((fJ items.size 0 lo:Nat):Int) == 0&&(1:Int) == 1&&(fJ items.size items.size hi-fJ items.size 0 lo) == items.size)=true then _ else _) _ _ s;rw[Nu hno,Cz]
 first
  |exact M6 (m:=Builtin.Tuple.tupleExact _) (N5 (Nc ⟨_,rfl,Nc h⟩) htake)
  |exact M6 (m:=Builtin.Tuple.tupleExact _) (N5 (M6 (Nc (Nc ⟨_,rfl,Nc h⟩))) htake)
  |exact M6 (M6 (m:=Builtin.Tuple.tupleExact _) (N5 (Nc (Nc ⟨_,rfl,Nc h⟩)) htake))
  |exact M6 (M6 (m:=Builtin.Tuple.tupleExact _) (N5 (Nc ⟨_,rfl,Nc h⟩) htake))
end
end HT
namespace L2
open PySem PySem.Spec PyProof.Rows
variable {a b:Addr}{A:Around}{X:Cx}{e:Expr}{H:Hp}{pins:List (Addr×Obj)}{xs:List (List Key×Addr×Value)}{kvs:List (List Key×V)}{us:List Value}{n t':Nat}{o:Option V}{pos:Pos}{P:Program}{s:Shared}{σ:St}{T:String}{α:Type}{x y:V}{u:Value}{E:Value->Shared->Prop}{w:World}
abbrev TO:=St->Hp->(Option Int->Hp->Prop)->Prop
def PO (X:Cx)(e:Option Expr)(t:TO):Prop:=
 ∀ (pins:List (Addr×Obj)) (s:Shared) (σ:St) (H:Hp) (Q:Option Int->Hp->Prop),Inv X pins σ H s->t σ H Q ->
  wpAny (model X.prog X.w) X.A (evalPart e X.env) (λ u s'=>∃ o H',Inv X pins σ H' s'/\IsPart u o/\Q o H') X.xe s
def E6:TO:=λ _ H Q=>Q none H
def Kn (t:TE):TO:=λ σ H Q=>t σ H λ x H1=>∃ i,x=.int i/\Q (some i) H1
def intsAre_of {ns:List Int}:∀ {us:List Value},Vals (ns.map V.int) us->IntsAre us ns:=by
 induction ns with
 |nil=>intro us r;rw[Q6]at r;cases r;exact .nil
 | cons n ns ih =>
  intro us r;rw[ND]at r;cases r with
  | cons r1 r2 =>
   obtain⟨t,e⟩:=r1;subst e;exact .cons n t (ih r2)
section
variable{te:TE}{lo hi:Option Expr}{tl th:TO}{p2:Pos}
def Fd:PO X none E6:=by
 intro pins s σ H Q I h;rw[evalPart_none];exact Nc ⟨none,H,I,.none,h⟩
def Fi (h:PE X e te):PO X (some e) (Kn te):=by
 intro pins s σ H Q I hw;rw[evalPart_some];refine eK (h pins s σ H _ I hw) λ u s1 hq5=>L2.ex5 hq5 λ x H1 I1 r1 q1=>?_;obtain⟨i,rfl,q⟩:=q1;obtain⟨t,rfl⟩:=r1;exact⟨some i,H1,I1,.int i t,q⟩
def G3 (X:Cx)(r:V->Option Int->Option Int->Hp->VK->Prop):Prop:=
 ∀ (pins:List (Addr×Obj)) (s:Shared) (σ:St) (H:Hp) (x:V) (v vl vu:Value) (lo hi:Option Int) (sl:Addr) (Q:VK),Inv X pins σ H s->RelV x v->s.heap.IsSliceOf sl vl vu .none->IsPart vl lo->IsPart vu hi->r x lo hi H Q ->
  ∃ T id,typeLookup (.type T) "__getitem__" = pure (some (.builtin id))/\s.TypeIs v T/\wpAny (model X.prog X.w) X.A (getItem v (.ref sl)) (EP X pins σ Q) X.xe s
def G3.or {r r':V->Option Int->Option Int->Hp->VK->Prop}(h:G3 X r)(h':G3 X r'):G3 X (λ x lo hi H Q=>r x lo hi H Q\/r' x lo hi H Q):=by
 intro pins s σ H x v vl vu lo hi sl Q I rx hs pl pu q;rcases q with q|q
 ·exact h pins s σ H x v vl vu lo hi sl Q I rx hs pl pu q
 ·exact h' pins s σ H x v vl vu lo hi sl Q I rx hs pl pu q
def MV (r:V->Option Int->Option Int->Hp->VK->Prop)(te:TE)(tl th:TO):TE:=λ σ H Q=>te σ H λ x H1=>tl σ H1 λ l H2=>th σ H2 λ u H3=>r x l u H3 Q
def Cy {r:V->Option Int->Option Int->Hp->VK->Prop}(hr:G3 X r)(he:PE X e te)(hl:PO X lo tl)(hu:PO X hi th):PE X (.Subscript e (.Slice lo hi none p2) pos) (MV r te tl th):=by
 intro pins s σ H Q I h;refine Subscript_ (eK (he pins s σ H _ I h) λ v s1 hq5=>L2.ex5 hq5 λ x H1 I1 r1 q1=>?_);refine wpAny_Slice (eK (hl pins s1 σ H1 _ I1 q1) λ vl s2 hq5=>L2.ex5 hq5 λ l H2 I2 pl q2=>eK (hu pins s2 σ H2 _ I2 q2) λ vu s3 hq5=>L2.ex5 hq5 λ u H3 I3 pu q3=>?_);rw[evalPart_none];refine Nc ?_;have I4:Inv X pins σ H3 { s3 with heap:=s3.heap.push { cls:=.type "slice",data:=.fields #[vl,vu,.none] } }:=I3.kept (t':=s3.toks) λ b ob q=>M8 _ q;obtain⟨T,id,hT,ht,hg⟩:=hr pins { s3 with heap:=s3.heap.push { cls:=.type "slice",data:=.fields #[vl,vu,.none] } } σ H3 x v vl vu l u s3.heap.objs.size Q I4 r1 (Heap.IsSliceOf.new ..) pl pu q3;show wpAny (model X.prog X.w) X.A (subscriptTail e (.Slice lo hi none p2) v (.ref s3.heap.objs.size)) (EP X pins σ Q) X.xe { s3 with heap:=s3.heap.push { cls:=.type "slice",data:=.fields #[vl,vu,.none] } };exact tail_any (ops:=[.ref s3.heap.objs.size,v]) ht hT hg (by with_unfolding_all rfl)
def vD (xs:List V)(lo hi:Option Int):List V:=(xs.drop (HT.fJ xs.length 0 lo)).take (HT.fJ xs.length xs.length hi-HT.fJ xs.length 0 lo)
def oS (xs:List V)(lo hi:Option Int):(vD xs lo hi).length<=xs.length:=by
 unfold vD;rw[QH,QJ];omega
def L4 (K:PySem.W.Frag):V->Option Int->Option Int->Hp->VK->Prop:=λ x lo hi H Q=>∃ a xs,x=.ref a/\lq K H a xs /\
 ¬ (HT.fJ xs.length 0 lo=0/\HT.fJ xs.length xs.length hi=xs.length)/\∀ p,H p=none->Q (.ref p) (upd H p (.tup (vD xs lo hi)))
def Ic:G3 X (L4 X.K):=by
 intro pins s σ H x v vl vu lo hi sl Q I rx hs pl pu h;obtain⟨a,xs,rfl,hx,hw,q⟩:=h;cases rx;obtain⟨its,r,ht,hz⟩:=I.tuple hx;have hlen:its.toArray.size=xs.length:=by rw[Nh];exact r.length.symm
 refine⟨"tuple",_,PyProof.Rows.slot_tuple_getitem.lookup,ht.typeIs,?_⟩;refine HT.mW ht hs pl pu (by rw[hlen];exact hw) ?_ (by rw[hlen];exact hz);rw[hlen];refine⟨.ref s.heap.objs.size,_,I.laid (t':=s.toks) (o:=.tup (vD xs lo hi)) (λ b ob q=>M8 _ q) (Nm _) ?_,rfl,q _ (I.hok.fresh (Nm _))⟩;exact⟨N9 (oS xs lo hi) hz,_,(r.drop (HT.fJ xs.length 0 lo)).take (HT.fJ xs.length xs.length hi-HT.fJ xs.length 0 lo),vq.new _ _⟩
def G4 (K:PySem.W.Frag):R2:=λ x y H Q=>∃ a b xs ys,x=.ref a/\y=.ref b/\lq K H a xs/\lq K H b ys/\xs≠[]/\xs.length+ys.length<=sizeLine /\
 (ys=[]->Q (.ref a) H)/\(ys≠[]->∀ p,H p=none->Q (.ref p) (upd H p (.tup (xs++ys))))
def Vals.lu {xs:List V}(r:Vals xs us):us=[]↔xs=[]:=by
 cases r with
 |nil=>simp|cons _ _=>simp
def Fg:jj X (binaryOp .Add) (G4 X.K):=by
 intro pins s σ H x y v u Q I rx ry h;obtain⟨a,b,xs,ys,rfl,rfl,ha,hb,hx,hz,q1,q2⟩:=h;cases rx;cases ry;obtain⟨its,r1,p1,_⟩:=I.tuple ha;obtain⟨its2,r2,p2,_⟩:=I.tuple hb;refine HT.E9 p1 p2 (λ z=>hx (r1.lu.mp z)) (λ z=>⟨.ref a,H,I,rfl,q1 (r2.lu.mp z)⟩) (λ z=>?_) (by rw[<-r1.length,<-r2.length];exact hz);refine⟨.ref s.heap.objs.size,_,I.laid (t':=s.toks) (o:=.tup (xs++ys)) (λ b ob q=>M8 _ q) (Nm _) ?_,rfl,q2 (λ w=>z (r2.lu.mpr w)) _ (I.hok.fresh (Nm _))⟩;exact⟨by rw[Nn];exact hz,_,r1.append r2,vq.new _ _⟩
end
def Ff (n:Nat)(i:Int):Option Nat:=if 0<=i then (if i<n then some i.toNat else none) else if -(n:Int)<=i then some (i+n).toNat else none
def rH(xs:List α)(i:Int):Option α:=(Ff xs.length i).bind λ j=>xs[j]?
def Fe{i:Int}{j:Nat}(h:Ff n i=some j):seqIndex? i n=some j/\j<n /\ -(n:Int)<=i/\i<n:=by
 unfold Ff at h;by_cases h0:0<=i
 ·rw[Nr h0]at h;by_cases h1:i<n
  ·rw[Nr h1]at h;have e:i.toNat=j:=N6 h;exact⟨by rw[seqIndex_of h0 h1,e],by omega,by omega,h1⟩
  ·rw[Nu h1]at h;cases h
 ·rw[Nu h0]at h;by_cases h1 : -(n:Int)<=i
  ·rw[Nr h1]at h;have e:(i+n).toNat=j:=N6 h;exact⟨by rw[seqIndex_neg (by omega) h1,e],by omega,h1,by omega⟩
  ·rw[Nu h1]at h;cases h
def ud{xs:List α}{i:Int}{v:α}(h:rH xs i=some v):∃ j,seqIndex? i xs.length=some j/\xs[j]?=some v/\j<xs.length /\ -(xs.length:Int)<=i/\i<xs.length:=by
 unfold rH at h;cases e:Ff xs.length i with
 |none=>rw[e]at h;cases h
 | some j =>
  rw[e]at h;obtain⟨h1,h2,h3,h4⟩:=Fe e;exact⟨j,h1,h,h2,h3,h4⟩
def Fc{xs:List α}{j:Nat}{v:α}(h:xs[j]?=some v):rH xs (j:Int)=some v:=by
 have hj:j<xs.length:=(Ng.mp h).1;have e:Ff xs.length (j:Int)=some j:=by
  unfold Ff;rw[Nr (by omega),Nr (by omega)];simp
 unfold rH;rw[e];exact h
def uf (b:Expr):Prop:=∀ o i,subscripted b false o i=operate [o,i] (getItem o i)
def EK (X:Cx)(r:R2):Prop:=
 ∀ (value slice:Expr) (pins:List (Addr×Obj)) (s:Shared) (σ:St) (H:Hp) (x y:V) (v u:Value) (Q:VK),Inv X pins σ H s->RelV x v->RelV y u->r x y H Q ->
  subscripted slice false v u=operate [v,u] (getItem v u)->wpAny (model X.prog X.w) X.A (subscriptTail value slice v u) (EP X pins σ Q) X.xe s
def MH (X:Cx)(id:String)(r:V->List V->Hp->VK->Prop):Prop:=
 ∀ (pins:List (Addr×Obj)) (s:Shared) (σ:St) (H:Hp) (x:V) (xs:List V) (v:Value) (us:List Value) (Q:VK),Inv X pins σ H s->RelV x v->Vals xs us->r x xs H Q ->
  wpAny (model X.prog X.w) X.A (call (.builtin id) (v::us)) (EP X pins σ Q) X.xe s
section
variable{a b:Expr}{ta tb:TE}
def EK.or {r r':R2}(h:EK X r)(h':EK X r'):EK X (λ x y H Q=>r x y H Q\/r' x y H Q):=by
 intro value slice pins s σ H x y v u Q I rx ry q hs;rcases q with q|q
 ·exact h value slice pins s σ H x y v u Q I rx ry q hs
 ·exact h' value slice pins s σ H x y v u Q I rx ry q hs
def Kh {r:R2}(hr:EK X r)(ha:PE X a ta)(hb:PE X b tb)(hs:uf b):PE X (.Subscript a b pos) (Lr r ta tb):=by
 intro pins s σ H Q I h;exact Subscript_ (HL ha hb I h λ v u s2 x y H2 I2 rx ry q=>hr a b pins s2 σ H2 x y v u Q I2 rx ry q (hs _ _))
def Kp (K:PySem.W.Frag):R2:=λ x y H Q=>∃ p xs i v,x=.ref p/\y=.int i/\cY K H p xs/\rH xs i=some v/\Q v H
def Ko (K:PySem.W.Frag):R2:=λ x y H Q=>∃ p xs i v,x=.ref p/\y=.int i/\lq K H p xs/\rH xs i=some v/\Q v H
def Kl:R2:=λ x y H Q=>∃ z i c,x=.str z/\y=.int i/\z.length<=sizeLine/\rH z.cps.toList i=some c/\Q (.str ⟨#[c]⟩) H
def E8:EK X (Kp X.K):=by
 intro value slice pins s σ H x y v u Q I rx ry h hs;obtain⟨p,xs,i,z,rfl,rfl,hq,he,q⟩:=h;cases rx;obtain⟨t,rfl⟩:=ry;obtain⟨its,r,pl,hz⟩:=I.list hq;obtain⟨j,h1,h2,h3,h4,h5⟩:=ud he;obtain⟨w,ew,rw'⟩:=r.get h2;have hl:=r.length;have hn:=oj;have fin:EP X pins σ Q w s:=⟨z,H,I,rw',q⟩;by_cases h0:0<=i
 ·have hj:i.toNat=j:=by
   rw[seqIndex_of h0 h5]at h1;exact N6 h1
  exact item_listR pl.isList h0 (by omega) (by rw[hj];simpa using ew) fin hs
 ·have hj:(i+(its.toArray.size:Int)).toNat=j:=by
   rw[seqIndex_neg (by omega) h4]at h1;rw[Nh,<-hl];exact N6 h1
  exact subscriptTail_builtinR (x:=w) pl.isList.typeIs slot_list_getitem.lookup
   (wpAny_getItem_list_neg (Q:=λ r s'=>r=w/\EP X pins σ Q r s') pl.isList (by omega) (by rw[Nh]<;>omega) (by omega) (by rw[hj];simpa using ew) ⟨rfl,fin⟩) hs
def i6:EK X (Ko X.K):=by
 intro value slice pins s σ H x y v u Q I rx ry h hs;obtain⟨p,xs,i,z,rfl,rfl,hq,he,q⟩:=h;cases rx;obtain⟨t,rfl⟩:=ry;obtain⟨its,r,pl,hz⟩:=I.tuple hq;obtain⟨j,h1,h2,h3,h4,h5⟩:=ud he;obtain⟨w,ew,rw'⟩:=r.get h2;have hl:=r.length;have hn:=oj;have fin:EP X pins σ Q w s:=⟨z,H,I,rw',q⟩;exact subscriptTail_builtinR (x:=w) pl.typeIs slot_tuple_getitem.lookup
  (getItem_tuple (j:=j) (Q:=λ r s'=>r=w/\EP X pins σ Q r s') pl (by omega) (by omega) (by rw[Nh,<-hl];exact h1) (by simpa using ew) ⟨rfl,fin⟩) hs
def Ib:EK X Kl:=by
 intro value slice pins s σ H x y v u Q I rx ry h hs;obtain⟨z,i,c,rfl,rfl,hz,he,q⟩:=h;obtain⟨t,rfl⟩:=rx;obtain⟨t',rfl⟩:=ry;obtain⟨j,h1,h2,h3,h4,h5⟩:=ud he;have hl:z.cps.toList.length=z.length:=by simp[Str.length]
 rw[hl]at h1 h4 h5;have hn:=oj;exact tail_any (typeIs_str s z t) slot_str_getitem.lookup (getItem_str (c:=c) (by
  have e1:decide (i < -(2^63:Int))=false:=NN (by omega);have e2:decide (i≥2^63)=false:=NN (by omega);rw[e1,e2,Bool.or_false]) (by rw[h1];simpa using h2) ⟨.str ⟨#[c]⟩,H,I.tok _,⟨_,rfl⟩,q⟩) hs
def MG (K:PySem.W.Frag):R2:=λ x y H Q=>Kp K x y H Q\/Ko K x y H Q\/Kl x y H Q
def Ie:EK X (MG X.K):=E8.or (i6.or Ib)
def t9 (lo hi:Option Int)(n:Nat):(sliceBounds lo hi none n).1=((HT.fJ n 0 lo:Nat):Int)/\(sliceBounds lo hi none n).2.1=((HT.fJ n n hi:Nat):Int)/\(sliceBounds lo hi none n).2.2=1:=by
 refine⟨?_,?_,rfl⟩
 ·cases lo with
  |none=>simp[sliceBounds,HT.fJ]
  | some i =>
   simp only[sliceBounds,HT.fJ,Ry,show(1:Int)>0 by decide,PN];by_cases h:i<0
   ·simp only[h,PN]<;>omega
   ·simp only[h,PV]<;>omega
 ·cases hi with
  |none=>simp[sliceBounds,HT.fJ]
  | some i =>
   simp only[sliceBounds,HT.fJ,Ry,show(1:Int)>0 by decide,PN];by_cases h:i<0
   ·simp only[h,PN]<;>omega
   ·simp only[h,PV]<;>omega
def rG (its:List Value)(lo hi:Option Int):slicePick its.toArray lo hi none=((its.drop (HT.fJ its.length 0 lo)).take (HT.fJ its.length its.length hi-HT.fJ its.length 0 lo)).toArray:=by
 obtain⟨h1,h2,h3⟩:=t9 lo hi its.toArray.size;unfold slicePick;rw[h1,h2,h3];simp only[sliceRange_one,pick_run,Nh]<;>rfl
def L6 (K:PySem.W.Frag):V->Option Int->Option Int->Hp->VK->Prop:=λ x lo hi H Q=>∃ a xs,x=.ref a/\cY K H a xs/\∀ p,H p=none->Q (.ref p) (upd H p (.lst (vD xs lo hi)))
def Fb:G3 X (L6 X.K):=by
 intro pins s σ H x v vl vu lo hi sl Q I rx hs pl pu h;obtain⟨a,xs,rfl,hx,q⟩:=h;cases rx;obtain⟨its,r,ht,hz⟩:=I.list hx;have hlen:=r.length;refine⟨"list",_,slot_list_getitem.lookup,ht.isList.typeIs,?_⟩;refine wpAny_getItem_list_slice ht.isList hs pl pu .none (by simp) ?_ (by rw[Nh]<;>omega);rw[rG,<-hlen];refine⟨.ref s.heap.objs.size,_,I.laid (t':=s.toks) (o:=.lst (vD xs lo hi)) (λ b ob q=>M8 _ q) (Nm _) ?_,rfl,q _ (I.hok.fresh (Nm _))⟩;exact⟨N9 (oS xs lo hi) hz,_,0,(r.drop (HT.fJ xs.length 0 lo)).take (HT.fJ xs.length xs.length hi-HT.fJ xs.length 0 lo),Nj _ rfl⟩
def lV:V->Bool
 |.bx=>true
 |.bl _=>true
 |.int _=>true
 |.str _=>true
 |_=>false
def EL:V->V->Bool
 |.bx,.bx=>true
 |.bl a,.bl b=>a == b
 |.bl a,.int b=>(if a then 1 else 0) == b
 |.int a,.bl b=>a == (if b then 1 else 0)
 |.int a,.int b=>a == b
 |.str a,.str b=>a == b
 |_,_=>false
def Ia{v:Value}(ry:RelV y u)(rx:RelV x v)(fy:lV y=true)(fx:lV x=true):SeqAt.EqAt A s u v (EL y x):=by
 cases y with
 | bx =>
  cases ry;cases x with
  |bx=>cases rx;exact SeqAt.EqAt.same _|bl b=>cases rx;exact SeqAt.EqAt.none_bool b|int b=>obtain⟨t,rfl⟩:=rx;exact SeqAt.EqAt.none_int b t|str b=>obtain⟨t,rfl⟩:=rx;exact SeqAt.EqAt.none_str b t|_=>exact absurd (show false=true from fx) Nd
 | bl a =>
  cases ry;cases x with
  |bx=>cases rx;exact SeqAt.EqAt.bool_none a|bl b=>cases rx;exact SeqAt.EqAt.bool_bool a b|int b=>obtain⟨t,rfl⟩:=rx;exact SeqAt.EqAt.bool_int a b t|str b=>obtain⟨t,rfl⟩:=rx;exact SeqAt.EqAt.bool_str a b t|_=>exact absurd (show false=true from fx) Nd
 | int a =>
  obtain⟨t',rfl⟩:=ry;cases x with
  |bx=>cases rx;exact SeqAt.EqAt.int_none a t'| bl b=>cases rx;exact SeqAt.EqAt.int_bool a t' b|int b=>obtain⟨t,rfl⟩:=rx;exact SeqAt.EqAt.int_int a t' b t|str b=>obtain⟨t,rfl⟩:=rx;exact SeqAt.EqAt.int_str a t' b t|_=>exact absurd (show false=true from fx) Nd
 | str a =>
  obtain⟨t',rfl⟩:=ry;cases x with
  |bx=>cases rx;exact SeqAt.EqAt.str_none a t'| bl b=>cases rx;exact SeqAt.EqAt.str_bool a t' b|int b=>obtain⟨t,rfl⟩:=rx;exact SeqAt.EqAt.str_int a t' b t|str b=>obtain⟨t,rfl⟩:=rx;exact SeqAt.EqAt.str_str a t' b t|_=>exact absurd (show false=true from fx) Nd
 |_=>exact absurd (show false=true from fy) Nd
def xK (x:V)(u:Value):Bool:=match u with
 |.none=>EL .bx x
 |.bool b=>EL (.bl b) x
 |.int i _=>EL (.int i) x
 |.str z _=>EL (.str z) x
 |_=>false
def Cw(r:RelV y u)(f:lV y=true):xK x u=EL y x:=by
 cases y with
 |bx=>cases r;rfl|bl b=>cases r;rfl|int i=>obtain⟨t,rfl⟩:=r;rfl|str z=>obtain⟨t,rfl⟩:=r;rfl|_=>exact absurd (show false=true from f) Nd
def mX {x:V}:∀ {xs:List V}{us:List Value},Vals xs us->xs.all lV=true->us.any (xK x)=xs.any λ y=>EL y x
 |_,_,.nil,_=>rfl
 | y::xs,u::us,.cons r t,f=>by
  rw[Ru,NQ]at f;rw[Pp,Pp,Cw r f.1,mX t f.2]
def kC {A:Around}{s:Shared}{x:V}{v:Value}(rx:RelV x v)(fx:lV x=true):∀ {xs:List V}{us:List Value},Vals xs us->xs.all lV=true->∀ u∈us,SeqAt.EqAt A s u v (xK x u)
 |_,_,.nil,_=>λ u hu=>by cases hu
 | y::xs,u::us,.cons r t,f=>λ u' hu=>by
  rw[Ru,NQ]at f;rcases Nq.mp hu with rfl|hu
  ·rw[Cw r f.1];exact Ia r rx f.1 fx
  ·exact kC rx fx t f.2 u' hu
def Lw (x:V)(xs:List V):Bool:=xs.any λ y=>EL y x
def L3 (K:PySem.W.Frag)(neg:Bool):R2:=λ x y H Q=>∃ p xs,y=.ref p/\(cY K H p xs\/lq K H p xs)/\lV x=true/\xs.all lV=true/\Q (.bl (if neg then !Lw x xs else Lw x xs)) H
def A2:jj X (compareOp .In) (L3 X.K false):=by
 intro pins s σ H x y v u Q I rx ry h;obtain⟨p,xs,rfl,hq,fx,fs,q⟩:=h;cases ry;rcases hq with hq|hq
 ·obtain⟨its,r,pl,hz⟩:=I.list hq;refine SeqAt.in_listAt (xK x) pl.isList (λ w hw=>kC rx fx r fs w (by simpa using hw)) ⟨.bl _,H,I,rfl,?_⟩;rw[show its.toArray.any (xK x)=its.any (xK x) by simp,mX r fs];exact q
 ·obtain⟨its,r,pl,hz⟩:=I.tuple hq;refine SeqAt.in_tupleAt (xK x) pl (λ w hw=>kC rx fx r fs w (by simpa using hw)) ⟨.bl _,H,I,rfl,?_⟩;rw[show its.toArray.any (xK x)=its.any (xK x) by simp,mX r fs];exact q
def cg:jj X (compareOp .NotIn) (L3 X.K true):=by
 intro pins s σ H x y v u Q I rx ry h;obtain⟨p,xs,rfl,hq,fx,fs,q⟩:=h;cases ry;rcases hq with hq|hq
 ·obtain⟨its,r,pl,hz⟩:=I.list hq;refine SeqAt.notIn_listAt (xK x) pl.isList (λ w hw=>kC rx fx r fs w (by simpa using hw)) ⟨.bl _,H,I,rfl,?_⟩;rw[show its.toArray.any (xK x)=its.any (xK x) by simp,mX r fs];exact q
 ·obtain⟨its,r,pl,hz⟩:=I.tuple hq;refine SeqAt.notIn_tupleAt (xK x) pl (λ w hw=>kC rx fx r fs w (by simpa using hw)) ⟨.bl _,H,I,rfl,?_⟩;rw[show its.toArray.any (xK x)=its.any (xK x) by simp,mX r fs];exact q
def ua:eY X (.builtin "len") (λ xs H Q=>∃ p ys,xs=[.ref p]/\(cY X.K H p ys\/lq X.K H p ys)/\Q (.int ys.length) H):=by
 intro pins s σ H xs us Q I r h;obtain⟨p,ys,rfl,hq,q⟩:=h;obtain⟨u,rfl,rx⟩:=vals1 r;cases rx;have hn:=oj;rcases hq with hq|hq
 ·obtain⟨its,r',pl,hz⟩:=I.list hq;have hlen:=r'.length;exact Calls.call_len_list pl.isList (by simp only[Nh]<;>omega) ⟨.int ys.length,H,I.tok _,⟨s.toks+1,by rw[Nh,hlen]⟩,q⟩
 ·obtain⟨its,r',pl,hz⟩:=I.tuple hq;have hlen:=r'.length;exact len_tuple pl (by simp only[Nh]<;>omega) ⟨.int ys.length,H,I.tok _,⟨s.toks+1,by rw[Nh,hlen]⟩,q⟩
def uc:eY X (.builtin "len") (λ xs H Q=>∃ z,xs=[.str z]/\z.length<=sizeLine/\Q (.int z.length) H):=by
 intro pins s σ H xs us Q I r h;obtain⟨z,rfl,hz,q⟩:=h;obtain⟨u,rfl,t,rfl⟩:=vals1 r;have hn:=oj;exact len_str (by omega) ⟨.int z.length,H,I.tok _,⟨_,rfl⟩,q⟩
def eY.or {f:Value}{r r':List V->Hp->VK->Prop}(h:eY X f r)(h':eY X f r'):eY X f (λ xs H Q=>r xs H Q\/r' xs H Q):=by
 intro pins s σ H xs us Q I rs q;rcases q with q|q
 ·exact h pins s σ H xs us Q I rs q
 ·exact h' pins s σ H xs us Q I rs q
def i0:eY X (.type "tuple") (λ xs H Q=>∃ p ys,xs=[.ref p]/\((cY X.K H p ys/\∀ l,H l=none->Q (.ref l) (upd H l (.tup ys)))\/(lq X.K H p ys/\Q (.ref p) H))):=by
 intro pins s σ H xs us Q I r h;obtain⟨p,ys,rfl,h⟩:=h;obtain⟨u,rfl,rx⟩:=vals1 r;cases rx;rcases h with ⟨hq,q⟩|⟨hq,q⟩
 ·obtain⟨its,r',pl,hz⟩:=I.list hq;have hlen:=r'.length;refine call_tuple_list pl.isList (λ h' kp=>?_) (by simp only[Nh]<;>omega);have I1:Inv X pins σ H { s with heap:=h' }:=I.kept (t':=s.toks) kp;have I2:Inv X pins σ (upd H h'.objs.size (.tup ys)) { s with heap:=h'.push { cls:=.type "tuple",data:=.seq its.toArray } }:=
   I1.laid (t':=s.toks) (λ b o e=>M8 _ e) (Nm _) (show bZ X.prog X.w _ _ _ (.tup ys) from ⟨hz,its,r',vq.new _ _⟩)
  exact⟨.ref h'.objs.size,_,I2,rfl,q _ (I1.hok.fresh (Nm _))⟩
 ·obtain⟨its,r',pl,hz⟩:=I.tuple hq;exact call_tuple_same pl ⟨.ref p,H,I,rfl,q⟩
def Lv (K:PySem.W.Frag)(T:String)(x:V)(H:Hp):Prop:=match x with
 |.str _=>T = "str"
 |.int _=>T = "int"
 | .ref p=>(T = "list" /\ ∃ xs,cY K H p xs)\/(T = "tuple" /\ ∃ o,K.lookup p=some o/\o.cls=.type "tuple" /\ o.dict=none) ∨
   (T = "dict" /\ ((∃ kvs ep,H p=some (.dK kvs ep))\/∃ kvs ep,H p=some (.dT kvs ep)))\/(T = "set" /\ ∃ S n,H p=some (.set S n))
 |_=>False
def ue{v:Value}(I:Inv X pins σ H s)(r:RelV x v)(ty:Lv X.K T x H) :
  s.TypeIs v T/\∀ a,v=.ref a->∃ ob,s.heap.get? a=some ob/\ob.dict=none:=by
 cases x with
 | str z =>
  obtain⟨t,rfl⟩:=r;cases (show T = "str" from ty);exact⟨typeIs_str s z t,λ _ e=>nomatch e⟩
 | int i =>
  obtain⟨t,rfl⟩:=r;cases (show T = "int" from ty);exact⟨typeIs_int s i t,λ _ e=>nomatch e⟩
 | ref p =>
  cases r;rcases ty with ⟨rfl,xs,hq⟩|⟨rfl,o,hk,hc,hd⟩|⟨rfl,hk⟩|⟨rfl,S,n,hk⟩
  ·obtain⟨its,_,pl,_⟩:=I.list hq;refine⟨pl.isList.typeIs,λ a e=>?_⟩;cases e;obtain⟨o,n,e,c,hd,_⟩:=pl;exact⟨o,e,hd⟩
  ·refine⟨⟨o,I.tZ p o hk,hc⟩,λ a e=>?_⟩;cases e;exact⟨o,I.tZ _ o hk,hd⟩
  ·have z:∃ o,s.heap.get? p=some o/\o.ExactDict:=by
    rcases hk with ⟨kvs,ep,hk⟩|⟨kvs,ep,hk⟩
    ·obtain⟨_,_,_,_,o,_,e,ex,_⟩:=I.hok p _ hk;exact⟨o,e,ex⟩
    ·obtain⟨_,_,_,_,o,_,e,ex,_⟩:=I.hok p _ hk;exact⟨o,e,ex⟩
   obtain⟨o,e,ex⟩:=z;refine⟨⟨o,e,ex.1⟩,λ a e2=>?_⟩;cases e2;exact⟨o,e,ex.2.1⟩
  ·obtain⟨o,_,_,_,e,ex,_⟩:=I.hok p _ hk;refine⟨⟨o,e,ex.1⟩,λ a e2=>?_⟩;cases e2;exact⟨o,e,ex.2.1⟩
 |_=>exact False.elim ty
def L5 (K:PySem.W.Frag)(T:String)(r:V->List V->Hp->VK->Prop)(to:TE):TE:=λ σ H Q=>to σ H λ x H1=>Lv K T x H1/\r x [] H1 Q
def Lu (K:PySem.W.Frag)(T:String)(r:V->List V->Hp->VK->Prop)(to:TE)(t:TA):TE:=λ σ H Q=>to σ H λ x H1=>Lv K T x H1/\t σ H1 λ xs H2=>r x xs H2 Q
variable {o:Expr}{es:List Expr}{to:TE}{t:TA}{name:Str}{apos cpos:Pos}{id:String}{r:V->List V->Hp->VK->Prop}
def xG (pa:PlainAttrs T)(slot:Slot T name id)(hty:typeOf (.builtin id)=pure (.type "method_descriptor"))(hm:MH X id r)(ho:PE X o to)
  (hbase:attributeBase o name X.env (eval o X.env)=eval o X.env:=by rfl) (hline:(apos.endLine == cpos.line)=true:=by rfl):PE X (.Call (.Attribute o name apos) [] [] cpos) (L5 X.K T r to):=by
 intro pins s σ H Q I h;refine Qs hbase hline (eK (ho pins s σ H _ I h) λ v s1 ⟨x,H1,I1,r1,ty,q1⟩=>?_);obtain⟨h1,h2⟩:=ue I1 r1 ty;exact⟨T,id,pa,slot,hty,h1,h2,Pj rfl (Q0 (hm pins s1 σ H1 x [] v [] Q I1 r1 .nil q1))⟩
def p7 (pa:PlainAttrs T)(slot:Slot T name id)(hty:typeOf (.builtin id)=pure (.type "method_descriptor"))(hm:MH X id r)(ho:PE X o to)(ha:PA X (e::es) t)
  (hbase:attributeBase o name X.env (eval o X.env)=eval o X.env:=by rfl)
  (hfew:((backTo cpos (starEach (e::es) X.env)).all (λ x=>!x.1)&&(backToKw cpos (keywordEach [] X.env)).all (λ x=>x.1.isSome)
   && decide ((e::es).length+([]:List Keyword).length+(if ([]:List Keyword).isEmpty then 0 else 1)<30))=true:=by rfl)
  (hline:(apos.endLine == cpos.line)=true:=by rfl) (hs:starEach (e::es) X.env=(false,eval e X.env)::starEach es X.env:=by rfl) (hplain:(backTo cpos (starEach es X.env)).any (·.1)=false:=by rfl) :
  PE X (.Call (.Attribute o name apos) (e::es) [] cpos) (Lu X.K T r to t):=by
 intro pins s σ H Q I h;refine wpAny_Call_method_late hbase hfew hline rfl (eK (ho pins s σ H _ I h) λ v s1 ⟨x,H1,I1,r1,ty,q1⟩=>?_);obtain⟨h1,h2⟩:=ue I1 r1 ty;refine⟨T,id,pa,slot,hty,h1,h2,?_⟩;have hA:=ha cpos pins s1 σ H1 _ I1 q1;rw[hs]at hA ⊢;refine Pj (by show(false||(backTo cpos (starEach es X.env)).any (·.1))=false;rw[hplain]<;>rfl) (Calls.evalArgs_plain ?_);exact eK hA λ us s2 hq5=>L2.ex5 hq5 λ vs H2 I2 r2 q2=>hm pins s2 σ H2 x vs v us Q I2 r1 r2 q2
end
def G1 (X:Cx)(id:String)(r:V->List V->Hp->VK->Prop):Prop:=
 ∀ (pins:List (Addr×Obj)) (s:Shared) (σ:St) (H:Hp) (x:V) (xs:List V) (v:Value) (us:List Value) (Q:VK),Inv X pins σ H s->RelV x v->Vals xs us->r x xs H Q ->
  wpAny (model X.prog X.w) X.A (call (.builtin id) (v::us)) (EP X pins σ Q) X.xe s
def Vals.one(h:Vals [x] us):∃ u,us=[u]/\RelV x u:=by
 cases h with
 |cons r h=>cases h;exact⟨_,rfl,r⟩
def Vals.two(h:Vals [x,y] us):∃ u v,us=[u,v]/\RelV x u/\RelV y v:=by
 cases h with
 | cons r h =>
  cases h with
  |cons q h=>cases h;exact⟨_,_,rfl,r,q⟩
def Vals.zero:∀ {us:List Value},Vals [] us->us=[]
 |_,.nil=>rfl
def Vals.dropLast {xs:List V}(h:Vals xs us):Vals xs.dropLast us.dropLast:=by
 induction h with
 |nil=>exact .nil
 | cons r t ih =>
  cases t with
  |nil=>exact .nil|cons q t'=>exact .cons r ih
def Vals.reverse {xs:List V}(h:Vals xs us):Vals xs.reverse us.reverse:=by
 induction h with
 |nil=>exact .nil|cons r t ih=>rw[Qw,Qw];exact Vals.append ih (.cons r .nil)
def xH(l:List α):l.eraseIdx (l.length-1)=l.dropLast:=by
 induction l with
 |nil=>rfl
 | cons a r ih =>
  cases r with
  |nil=>rfl
  | cons b r =>
   have e:(a::b::r).length-1=((b::r).length-1)+1:=by
    have h1:(a::b::r).length=r.length+2:=rfl;have h2:(b::r).length=r.length+1:=rfl;omega
   rw[e,List.eraseIdx_cons_succ,ih]
   all_goals rfl
section
variable{l:Addr}{xs ys zs:List V}
def Inv.Cu {its its':List Value}{f:Array Value->Array Value}(I:Inv X pins σ H s)(hH:H l=some (.lst xs))
  (e:s.heap.get? l=some { cls:=.type "list",data:=.seq its.toArray n }) (hf:f its.toArray=its'.toArray) (hv:Vals ys its') (hz:ys.length<=sizeLine) :
  Inv X pins σ (upd H l (.lst ys)) { s with heap:=s.heap.update l (Obj.mapSeq f),toks:=t' }:=by
 have q:=PySem.IsL.update e f;rw[hf]at q;refine I.write (x:=l) (e:=l) (by rw[hH];exact trivial) (.inl rfl) (λ b' u hb hu=>(Pk s.heap (Obj.mapSeq f) (OV hb)).trans hu) ⟨_,q⟩ ?_;exact⟨hz,its',_,hv,q⟩
def Inv.Km {its:List Value}(I:Inv X pins σ H s)(hv:Vals ys its)(hz:ys.length<=sizeLine) :
  Inv X pins σ (upd H s.heap.objs.size (.lst ys)) { s with heap:=s.heap.push { cls:=.type "list",data:=.seq its.toArray },toks:=t' }:=
 I.laid (λ _ _ q=>M8 _ q) (Nm _) ⟨hz,its,0,hv,Nj _ rfl⟩
def Inv.fresh (I:Inv X pins σ H s):H s.heap.objs.size=none:=I.hok.fresh (Nm _)
def Inv.A1 (I:Inv X pins σ H s)(hH:H l=some (.lst xs)):xs.length<=sizeLine/\∃ (its:List Value) (n:Nat),Vals xs its/\xs.length=its.length/\s.heap.get? l=some { cls:=.type "list",data:=.seq its.toArray n }:=by
 obtain⟨z,its,n,r,e⟩:=I.hok l _ hH;exact⟨z,its,n,r,r.length,e⟩
def vE(h:n<=sizeLine):Builtin.List.listTooLong n=false:=by
 unfold Builtin.List.listTooLong;exact NN (by omega)
end
section
def zr:V->List V->Hp->VK->Prop:=λ x vs H Q=>∃ l xs y,x=.ref l/\vs=[y]/\H l=some (.lst xs)/\xs.length<sizeLine/\Q .bx (upd H l (.lst (xs++[y])))
def ly:G1 X "list.append" zr:=by
 intro pins s σ H x vs v us Q I rx rv h;obtain⟨l,xs,y,rfl,rfl,hH,hz,q⟩:=h;cases rx;obtain⟨u,rfl,ru⟩:=rv.one;obtain⟨z,its,n,r,hl,e⟩:=I.A1 hH;refine QK F.slot_list_append ⟨_,e,rfl⟩ F.entry_list_append (F.args_list_append_2 _ _) (PySem.list_append l its.toArray n u (by rw[Nh];omega)) ⟨e,?_⟩;refine⟨.bx,_,I.Cu (its':=its++[u]) hH e (by simp) (r.append (.cons ru .nil)) ?_,rfl,q⟩;rw[Nn,NW];omega
def Fj:V->List V->Hp->VK->Prop:=λ x vs H Q=>∃ l b xs zs,x=.ref l/\vs=[.ref b]/\H l=some (.lst xs)/\H b=some (.lst zs)/\xs.length+zs.length<=sizeLine/\Q .bx (upd H l (.lst (xs++zs)))
def sD:G1 X "list.extend" Fj:=by
 intro pins s σ H x vs v us Q I rx rv h;obtain⟨l,b,xs,zs,rfl,rfl,hH,hB,hz,q⟩:=h;cases rx;obtain⟨u,rfl,ru⟩:=rv.one;cases ru;obtain⟨z,its,n,r,hl,e⟩:=I.A1 hH;obtain⟨z2,its2,n2,r2,hl2,e2⟩:=I.A1 hB;have hsz:its.toArray.size+its2.toArray.size<=sizeLine:=by rw[Nh,Nh];omega
 have hlong:¬ (!its.toArray.isEmpty&&Builtin.List.listTooLong (its.toArray.size+its2.toArray.size))=true:=by
  rw[vE hsz,Bool.and_false];exact Nd
 refine QK F.slot_list_extend ⟨_,e,rfl⟩ F.entry_list_extend (F.args_list_extend_2 _ _)
  (AutoSeq1.list_extend_list_list_0 l its.toArray n b its2.toArray n2 hlong (by rw[Nh];omega) (by omega)) ⟨e,e2,?_⟩
 refine⟨.bx,_,I.Cu (its':=its++its2) hH e (by simp) (r.append r2) ?_,rfl,q⟩;rw[Nn];omega
def L1:V->List V->Hp->VK->Prop:=λ x vs H Q=>∃ l xs y,x=.ref l/\vs=[]/\H l=some (.lst xs)/\xs[xs.length-1]?=some y/\Q y (upd H l (.lst xs.dropLast))
def Cv:G1 X "list.pop" L1:=by
 intro pins s σ H x vs v us Q I rx rv h;obtain⟨l,xs,y,rfl,rfl,hH,hy,q⟩:=h;cases rx;have hus:=rv.zero;subst hus;obtain⟨z,its,n,r,hl,e⟩:=I.A1 hH;obtain⟨u,hu,ru⟩:=r.get hy;have hy':its.toArray[its.toArray.size-1]?=some u:=by
  show its.toArray[its.length-1]?=some u;rw[<-N3,<-hl];exact hu
 refine QK F.slot_list_pop ⟨_,e,rfl⟩ F.entry_list_pop (F.args_list_pop_1 _) (MeetsSeq.list_pop_last l its.toArray n u hy' (by rw[Nh];omega)) ⟨e,?_⟩;refine⟨y,_,I.Cu (its':=its.dropLast) hH e ?_ r.dropLast ?_,ru,q⟩
 ·show its.toArray.eraseIdxIfInBounds (its.toArray.size-1)=its.dropLast.toArray;rw[Nh,List.eraseIdxIfInBounds_toArray,xH]
 ·rw[List.length_dropLast];omega
def Ct:V->List V->Hp->VK->Prop:=λ x vs H Q=>∃ l xs,x=.ref l/\vs=[]/\H l=some (.lst xs)/\Q .bx (upd H l (.lst xs.reverse))
def xN:G1 X "list.reverse" Ct:=by
 intro pins s σ H x vs v us Q I rx rv h;obtain⟨l,xs,rfl,rfl,hH,q⟩:=h;cases rx;have hus:=rv.zero;subst hus;obtain⟨z,its,n,r,hl,e⟩:=I.A1 hH;refine QK F.slot_list_reverse ⟨_,e,rfl⟩ F.entry_list_reverse (F.args_list_reverse_1 _) (AutoSeq1.list_reverse_list_0 l its.toArray n (by rw[Nh];omega)) ⟨e,?_⟩;refine⟨.bx,_,I.Cu (its':=its.reverse) hH e (by simp) r.reverse ?_,rfl,q⟩;rw[List.length_reverse];omega
end
section
variable {prog:Program}
end
section
end
section
variable {κ:Type}[DecidableEq κ]
def jk (kvs:List (κ×V))(k:κ):Option V:=(kvs.find? λ kv=>decide (kv.1=k)).map (·.2)
def putK (kvs:List (κ×V))(k:κ)(v:V):List (κ×V):=
 if (kvs.any λ kv=>decide (kv.1=k))=true then kvs.map (λ kv=>if kv.1=k then (kv.1,v) else kv) else kvs++[(k,v)]
def kD {p:κ×V}{r:List (κ×V)}{k:κ}(e:p.1=k):jk (p::r) k=some p.2:=by simp[jk,PB,e]
def jl {p:κ×V}{r:List (κ×V)}{k:κ}(e:¬ p.1=k):jk (p::r) k=jk r k:=by simp[jk,PB,e]
def vH (k:κ):∀ kvs:List (κ×V),(kvs.any λ kv=>decide (kv.1=k))=(jk kvs k).isSome
 |[]=>rfl
 | p::r=>by
  rw[Pp];by_cases e:p.1=k
  ·simp only[kD e,NP e,Bool.true_or,Option.isSome_some]
  ·rw[jl e,NN e,Bool.false_or];exact vH k r
def oT (kvs:List (κ×V))(k:κ)(v:V):(putK kvs k v).length<=kvs.length+1:=by
 unfold putK;split
 ·rw[M7];omega
 ·rw[Nn,Ny,Ob];omega
def pC.A4{u:Option Value}(r:pC o u):o.isSome=u.isSome:=by
 cases o with
 | none=>cases u with
  |none=>rfl|some _=>exact(show False from r).elim
 | some _=>cases u with
  |none=>exact(show False from r).elim|some _=>rfl
def KV.val {kvs:List (κ×V)}{vs:List (κ×Value)}(r:KV kvs vs)(k:κ):pC (jk kvs k) (valueAt vs k):=by
 unfold KV at r
 induction r with
 |nil=>exact True.intro
 | @cons p q ps qs h t ih =>
  obtain⟨h1,h2⟩:=h;by_cases e:p.1=k
  ·have e':q.1=k:=h1.symm.trans e;have b:valueAt (q::qs) k=some q.2:=by simp[valueAt,PB,e']
   rw[kD e,b];exact h2
  ·have e':¬ q.1=k:=λ z=>e (h1.trans z);have b:valueAt (q::qs) k=valueAt qs k:=by simp[valueAt,PB,e']
   rw[jl e,b];exact ih
def KV.any {kvs:List (κ×V)}{vs:List (κ×Value)}(r:KV kvs vs)(k:κ):(kvs.any λ kv=>decide (kv.1=k))=vs.any λ kv=>decide (kv.1=k):=by
 unfold KV at r
 induction r with
 |nil=>rfl|cons h t ih=>rw[Pp,Pp,ih,h.1]
def KV.repl {kvs:List (κ×V)}{vs:List (κ×Value)}(r:KV kvs vs)(k:κ)(ry:RelV y u) :
  KV (kvs.map λ kv=>if kv.1=k then (kv.1,y) else kv) (vs.map λ kv=>if kv.1=k then (kv.1,u) else kv):=by
 unfold KV at r ⊢
 induction r with
 |nil=>exact .nil
 | @cons p q ps qs h t ih =>
  rw[ND,ND];refine .cons ?_ ih;obtain⟨h1,h2⟩:=h;by_cases e:p.1=k
  ·rw[Nr e,Nr (h1.symm.trans e)];exact⟨h1,ry⟩
  ·rw[Nu e,Nu (λ z=>e (h1.trans z))];exact⟨h1,h2⟩
def KV.put {kvs:List (κ×V)}{vs:List (κ×Value)}(r:KV kvs vs)(k:κ)(ry:RelV y u):KV (putK kvs k y) (stored vs k u):=by
 unfold putK stored;rw[r.any k];by_cases e:(vs.any λ kv=>decide (kv.1=k))=true
 ·rw[Nr e,Nr e];exact r.repl k ry
 ·rw[Nu e,Nu e];exact Paired.snoc r ⟨rfl,ry⟩
def KV.length {kvs:List (κ×V)}{vs:List (κ×Value)}(r:KV kvs vs):kvs.length=vs.length:=O5 r
end
def vF{k:Key}(r:RelV (kV k) u):(bX P w).is k u=true:=by
 cases k with
 |inl i=>obtain⟨t,e⟩:=(show ∃ t,u=Value.int i t from r);subst e;exact vB P w i t|inr x=>obtain⟨t,e⟩:=(show ∃ t,u=Value.str x t from r);subst e;exact vt P w x t
def sE {P:Program}{w:World}:∀ {ks:List Key}{us:List Value},Vals (ks.map kV) us->ItemsAre (bX P w) ks us
 |[],_,r=>by rw[Q6]at r;cases r;exact .nil
 | k::ks,_,r=>by
  rw[ND]at r;cases r with
  |cons h t=>exact .cons (vF h) (sE t)
abbrev KT (H:Hp):List (List Key×V)->List (List Key×Addr×Value)->Prop:=Paired λ p q=>p.1=q.1/\H q.2.1=some (.tup (p.1.map kV))/\RelV p.2 q.2.2
def KT.val(r:KT H kvs xs)(k:List Key):pC (jk kvs k) ((atKey xs k).map (·.2)):=by
 induction r with
 |nil=>exact True.intro
 | @cons p q ps qs h t ih =>
  obtain⟨h1,_,h2⟩:=h;by_cases e:p.1=k
  ·have e':q.1=k:=h1.symm.trans e;have b:atKey (q::qs) k=some q.2:=by simp[atKey,PB,e']
   rw[kD e,b];exact h2
  ·have e':¬ q.1=k:=λ z=>e (h1.trans z);have b:atKey (q::qs) k=atKey qs k:=by simp[atKey,PB,e']
   rw[jl e,b];exact ih
def KT.repl(r:KT H kvs xs)(k:List Key)(ry:RelV y u) :
  KT H (kvs.map λ kv=>if kv.1=k then (kv.1,y) else kv) (xs.map (putAt k u)):=by
 induction r with
 |nil=>exact .nil
 | @cons p q ps qs h t ih =>
  rw[ND,ND];refine .cons ?_ ih;obtain⟨h1,h2,h3⟩:=h;unfold putAt;by_cases e:p.1=k
  ·rw[Nr e,Nr (h1.symm.trans e)];exact⟨h1,h2,ry⟩
  ·rw[Nu e,Nu (λ z=>e (h1.trans z))];exact⟨h1,h2,h3⟩
def KT.put(r:KT H kvs xs)(k:List Key)(hb:H b=some (.tup (k.map kV)))(ry:RelV y u) :
  KT H (putK kvs k y) (storedH xs k b u):=by
 have e:(kvs.any λ kv=>decide (kv.1=k))=(atKey xs k).isSome:=by
  rw[vH,(r.val k).A4,Option.isSome_map]
 unfold putK storedH;rw[e];by_cases q:(atKey xs k).isSome=true
 ·rw[Nr q,Nr q];exact r.repl k ry
 ·rw[Nu q,Nu q];exact Paired.snoc r ⟨rfl,hb,ry⟩
def KT.keeps {H':Hp}(r:KT H kvs xs)(ht:∀ b ys,H b=some (.tup ys)->H' b=some (.tup ys)):KT H' kvs xs:=
 Paired.Hw r λ _ _ z=>⟨z.1,ht _ _ z.2.1,z.2.2⟩
section
variable{h:Heap}
def G5 {u:HO}(ok:ki P w H h)(e:Rd H a u):bZ P w H h a u:=e.ok ok
def L8 (H:Hp)(a:Addr)(kvs:List (Key×V)):Prop:=∃ ep,Rd H a (.dK kvs ep)
def L7 (H:Hp)(a:Addr)(kvs:List (List Key×V)):Prop:=∃ ep,Rd H a (.dT kvs ep)
def HK (H:Hp)(a:Addr)(kvs:List (Key×V)):Prop:=∃ ep,H a=some (.dK kvs ep)
def HT (H:Hp)(a:Addr)(kvs:List (List Key×V)):Prop:=∃ ep,H a=some (.dT kvs ep)
def HK.rd{kvs:List (Key×V)}(e:HK H a kvs):L8 H a kvs:=let ⟨ep,e⟩:=e;⟨ep,.inl e⟩
def HT.rd(e:HT H a kvs):L7 H a kvs:=let ⟨ep,e⟩:=e;⟨ep,.inl e⟩
def CG {kvs:List (Key×V)}(ok:ki P w H h)(e:L8 H a kvs):kvs.length<=sizeLine/\(a == sysModules)=false/\∃ vs,KV kvs vs/\h.DictOf (bX P w) a vs:=
 by
 obtain⟨ep,e⟩:=e;obtain⟨z,y,vs,r,d⟩:=(show bZ P w H h a (.dK kvs ep) from G5 ok e);exact⟨z,y,vs,r,d.dictOf⟩
def G6 {kvs:List (Key×V)}(ok:ki P w H h)(e:HK H a kvs):kvs.length<=sizeLine/\(a == sysModules)=false/\∃ vs,KV kvs vs/\h.DictOf (bX P w) a vs:=CG ok e.rd
def xO {ks:List Key}(ok:ki P w H h)(e:H a=some (.tup (ks.map kV))):(tupleKind (bX P w)).is h ks a:=by
 obtain⟨_,its,r,tn⟩:=(show bZ P w H h a (.tup (ks.map kV)) from ok a _ e);obtain⟨o,h1,h2,n,h3⟩:=tn.is;exact⟨o,its.toArray,n,h1,h2,h3,by simpa using sE r⟩
def CC(ok:ki P w H h)(e:L7 H a kvs):kvs.length<=sizeLine/\(a == sysModules)=false /\
  ∃ xs,KT H kvs xs/\h.DictOfH (tupleKind (bX P w)) a xs:=by
 obtain⟨ep,e⟩:=e;obtain⟨z,y,xs,r,o,es,h1,h2,h3,h4,h5⟩:=(show bZ P w H h a (.dT kvs ep) from G5 ok e);refine⟨z,y,xs,r,o,es,ep,h1,h2,h3,h4,λ x hx=>?_,h5⟩;have all:∀ {l:List (List Key×V)}{m:List (List Key×Addr×Value)},KT H l m->∀ x∈m,(tupleKind (bX P w)).is h x.1 x.2.1:=by
  intro l m q
  induction q with
  |nil=>intro x hx;exact nomatch hx
  | @cons p q ps qs hq t ih =>
   intro x hx;rcases Nq.mp hx with e|hx
   ·subst e;exact xO ok (by rw[<-hq.1];exact hq.2.1)
   ·exact ih x hx
 exact all r x hx
def Ks(ok:ki P w H h)(e:HT H a kvs):kvs.length<=sizeLine/\(a == sysModules)=false /\
  ∃ xs,KT H kvs xs/\h.DictOfH (tupleKind (bX P w)) a xs:=CC ok e.rd
end
def mY (H:Hp)(a:Addr)(y:V)(r:Option V):Prop:=
 (∃ kvs k,L8 H a kvs/\y=kV k/\r=jk kvs k)\/∃ kvs k b,L7 H a kvs/\y=.ref b/\H b=some (.tup (k.map kV))/\r=jk kvs k
def Kq (H:Hp)(a:Addr)(y v:V)(K:Hp->Prop):Prop:=
 (∃ kvs k,HK H a kvs/\y=kV k/\kvs.length<sizeLine/\∀ ep,K (upd H a (.dK (putK kvs k v) ep))) ∨
 ∃ kvs k b,HT H a kvs/\y=.ref b/\H b=some (.tup (k.map kV))/\kvs.length<sizeLine/\∀ ep,K (upd H a (.dT (putK kvs k v) ep))
def mY.k{kvs:List (Key×V)}{k:Key}(e:HK H a kvs):mY H a (kV k) (jk kvs k):=.inl ⟨kvs,k,e.rd,rfl,rfl⟩
def mY.t{k:List Key}(e:HT H a kvs)(eb:H b=some (.tup (k.map kV))):mY H a (.ref b) (jk kvs k):=.inr ⟨kvs,k,b,e.rd,rfl,eb,rfl⟩
section
variable{v:V}{r:Value}
def Inv.big (I:Inv X pins σ H s):sysModules<s.heap.objs.size:=by
 have h:mainGlobals<s.heap.objs.size:=(I.mod.glob.keeps I.bk).lt;exact RD (by decide) h
def A5 {Q:Value->Shared->Prop}(hu:A.units+1<cLine)(I:Inv X pins σ H s)(g:mY H a y (some v))(ry:RelV y u)(h:∀ w' s',Inv X pins σ H s'->RelV v w'->Q w' s') :
  wpAny (model X.prog X.w) A (getItem (.ref a) u) Q E s:=by
 rcases g with ⟨kvs,k,e,ey,l⟩|⟨kvs,k,b,e,ey,eb,l⟩
 ·subst ey;obtain⟨z,hd,vs,rel,dd⟩:=CG I.hok e;obtain⟨w',hw,rw'⟩:=pC.some_of (v:=v) (o:=valueAt vs k) (by rw[l];exact rel.val k);exact wpAny_getItem_of (vF ry) dd.mapOf hw (h w' _ (I.tok _) rw')
 ·subst ey;cases (show u=Value.ref b from ry);obtain⟨z,hd,xs,rel,dd⟩:=CC I.hok e;obtain⟨w',hw,rw'⟩:=pC.some_of (v:=v) (o:=(atKey xs k).map (·.2)) (by rw[l];exact rel.val k);obtain⟨p,hp,hp2⟩:=Option.map_eq_some_iff.mp hw;refine wpAny_getItem_heap (tupleKind_room_in1 hu) (xO I.hok eb) dd hp ?_;rw[hp2];exact h w' _ (I.tok _) rw'
def ug {h':Heap}{ob:HO}(I:Inv X pins σ H s)(mu:J8 (H a))(hs:Heap.SameBut a s.heap h')(he:∃ q,h'.get? a=some q)(new:bZ X.prog X.w (upd H a ob) h' a ob) :
  Inv X pins σ (upd H a ob) { s with heap:=h',toks:=t' }:=
 I.write (x:=a) (e:=a) mu (.inl rfl) (λ b q hb z=>(hs.2 b hb).trans z) he new
def CF{H':Hp}{h':Heap}{kvs:List (Key×V)}{vs:List (Key×Value)}{ep:Nat}(z:kvs.length<=sizeLine)(hd:(a == sysModules)=false)(rel:KV kvs vs)(dd:h'.DictAt (bX P w) a vs ep) :
  bZ P w H' h' a (.dK kvs ep):=⟨z,hd,vs,rel,dd⟩
def A3 {K:Hp->Prop}{Q:Unit->Shared->Prop}(hu:A.units+1<cLine)(I:Inv X pins σ H s)(g:Kq H a y v K)(ry:RelV y u)(rv:RelV v r)(h:∀ H' s',K H'->Inv X pins σ H' s'->Q () s') :
  wpAny (model X.prog X.w) A (setItem (.ref a) u r) Q E s:=by
 rcases g with ⟨kvs,k,e,ey,l,eH⟩|⟨kvs,k,b,e,ey,eb,l,eH⟩
 ·subst ey;obtain⟨ep0,e0⟩:=id e;obtain⟨z,hd,vs,rel,dd⟩:=G6 I.hok e;have hz:vs.length<=sizeLine:=by rw[<-rel.length];exact z
  have hl:(putK kvs k v).length<=sizeLine:=by have:=oT kvs k v;omega
  refine wpAny_setItem_pairs (hsz:=hz) (vF ry) dd λ h' dd' hs=>?_;obtain⟨ep',dd'⟩:=dd'.dictAt;refine h _ _ (eH ep') ?_;have he:∃ q,h'.get? a=some q:=let ⟨q,_,hq,_⟩:=dd';⟨q,hq⟩
  exact ug I (by rw[e0];exact True.intro) hs he (CF hl hd (rel.put k rv) dd')
 ·subst ey;obtain⟨ep0,e0⟩:=id e;cases (show u=Value.ref b from ry);obtain⟨z,hd,xs,rel,dd⟩:=Ks I.hok e;have hz:xs.length<=sizeLine:=by rw[<-O5 rel];exact z
  have hl:(putK kvs k v).length<=sizeLine:=by have:=oT kvs k v;omega
  refine wpAny_setItem_heap (hsz:=hz) (tupleKind_room_in1 hu) (xO I.hok eb) dd λ h' dd' hs=>?_;obtain⟨q,es,ep,hq,h2,h3,h4,_,h5⟩:=dd';refine h _ _ (eH ep) ?_;refine ug I (by rw[e0];exact True.intro) hs ⟨q,hq⟩ ⟨hl,hd,_,(rel.put k eb rv).keeps λ c ys ec=>?_,q,es,hq,h2,h3,h4,h5⟩;rw[aN (Kc ec e0 (λ z=>nomatch z))];exact ec
end
section
variable{kvs:List (Key×V)}{k:Key}
end
def Fp (i:Expr):Prop:=∀ ov iv,subscripted i false ov iv=operate [ov,iv] (getItem ov iv)
def Fo {prog:Program}{env:Env}{value slice:Expr}{id:String}{Q:Value->Shared->Prop}
  (hl:typeLookup (.type T) "__getitem__" = pure (some (.builtin id))) (hs:Fp slice)
  (h:wpAny (model prog w) A (eval value env) (λ o s₁=>wpAny (model prog w) A (eval slice env) (λ i s₂=>s₂.TypeIs o T/\wpAny (model prog w) A (getItem o i) Q E s₂) E s₁) E s) :
  wpAny (model prog w) A (eval (.Subscript value slice pos) env) Q E s:=by
 refine Subscript_ (O3 h (λ o s₁ h₁=>O3 h₁ (λ i s₂ h₂=>?_) λ _ _ x=>x) λ _ _ x=>x);obtain⟨hT,h₂⟩:=h₂;unfold subscriptTail;refine M6 ?_;rw[getitemInPython_of_ne hT.not_modules];refine M6 (wpAny_specialOf hT hl ?_);have fin:wpAny (model prog w) A (subscripted slice false o i) (λ r s₃=>wpAny (model prog w) A (letTemporaryGo value o r >>= λ _=>pure r) Q E s₃) E s₂:=by
  rw[hs o i];exact wpAny_operating (O3 h₂ (λ r s₃ h₃=>M6 (wpAny_letTemporaryGo (Nc h₃))) λ _ _ x=>x)
 first
  |exact Nc (M6 fin)
  |exact M6 (Nc (M6 fin))
  |exact M6 fin
def vG(I:Inv X pins σ H s)(g:mY H a y o):s.TypeIs (.ref a) "dict" :=by
 rcases g with ⟨kvs,k,e,_,_⟩|⟨kvs,k,b,e,_,_,_⟩
 ·obtain⟨_,_,vs,_,dd⟩:=CG I.hok e;exact dd.typeIs
 ·obtain⟨_,_,xs,_,dd⟩:=CC I.hok e;exact dd.typeIs
def Kr (td ty:TE):TE:=λ σ H Q=>td σ H λ x H1=>ty σ H1 λ y H2=>∃ a v,x=.ref a/\mY H2 a y (some v)/\Q v H2
def Ku (td ty tv:TE):TS:=λ D σ H=>tv σ H λ v H1=>td σ H1 λ x H2=>ty σ H2 λ y H3=>∃ a,x=.ref a/\Kq H3 a y v (D.nx σ)
section
variable{o i value:Expr}{pos' tpos:Pos}{td ty tv:TE}
def zu (hu:X.A.units+1<cLine)(ho:PE X o td)(hi:PE X i ty)(hs:Fp i):PE X (.Subscript o i pos) (Kr td ty):=by
 intro pins s σ H Q I h;refine Fo PySem.F.slot_dict_getitem.lookup hs (eK (ho pins s σ H _ I h) λ u s1 hq5=>L2.ex5 hq5 λ x H1 I1 rx q1=>eK (hi pins s1 σ H1 _ I1 q1) λ iv s2 ⟨y,H2,I2,ry,a,v,ex,g,q2⟩=>?_);subst ex;obtain rfl:u=Value.ref a:=rx;exact⟨vG I2 g,A5 hu I2 g ry λ w' s3 I3 rw'=>⟨v,H2,I3,rw',q2⟩⟩
def zt (hu:X.A.units+1<cLine)(ho:PE X o td)(hi:PE X i ty)(hv:PE X value tv)(hs:swapsWith value (some (.Subscript o i pos')) pos.line X.env=pure false) :
  PS X (.Assign [.Subscript o i pos'] value pos) (Ku td ty tv):=by
 intro pins s σ H D I h;refine wpAny_Assign_Subscript (eK (hv pins s σ H _ I h) λ r s1 hq5=>L2.ex5 hq5 λ v H1 I1 rv q1=>eK (ho pins s1 σ H1 _ I1 q1) λ u s2 hq5=>L2.ex5 hq5 λ x H2 I2 rx q2=>eK (hi pins s2 σ H2 _ I2 q2) λ iv s3 ⟨y,H3,I3,ry,a,ex,g⟩=>?_) hs;subst ex;obtain rfl:u=Value.ref a:=rx;exact A3 hu I3 g ry rv λ H4 s4 q3 I4=>⟨σ,H4,I4,q3⟩
end
def CH(h:Heap)(hb:sysModules<h.objs.size):bZ P w H (h.push { cls:=.type "dict",data:=.dict #[] }) h.objs.size (.dK [] 0):=
 ⟨OD _,PL.mpr (OV (NH hb)),[],.nil,_,#[],Nj _ rfl,⟨rfl,rfl,rfl⟩,rfl,λ _ he=>by simp at he,Pairs.nil,OG⟩
def CA(h:Heap)(hb:sysModules<h.objs.size):bZ P w H (h.push { cls:=.type "dict",data:=.dict #[] }) h.objs.size (.dT [] 0):=
 ⟨OD _,PL.mpr (OV (NH hb)),[],.nil,_,#[],Nj _ rfl,⟨rfl,rfl,rfl⟩,rfl,rfl,OG⟩
def Ii:TE:=λ _ H Q=>∀ p,H p=none->Q (.ref p) (upd H p (.dK [] 0))
def Ig:TE:=λ _ H Q=>∀ p,H p=none->Q (.ref p) (upd H p (.dT [] 0))
section
def CD:PE X (.Dict [] [] pos) Ii:=λ pins s σ H Q I h=>
 wpAny_Dict_empty ⟨.ref s.heap.objs.size,_,I.laid (a:=s.heap.objs.size) (o:=.dK [] 0) (t':=s.toks) (λ _ _ q=>M8 _ q) (Nm _) (CH s.heap I.big),rfl,h _ (I.hok.fresh (Nm _))⟩
def CB:PE X (.Dict [] [] pos) Ig:=λ pins s σ H Q I h=>
 wpAny_Dict_empty ⟨.ref s.heap.objs.size,_,I.laid (a:=s.heap.objs.size) (o:=.dT [] 0) (t':=s.toks) (λ _ _ q=>M8 _ q) (Nm _) (CA s.heap I.big),rfl,h _ (I.hok.fresh (Nm _))⟩
end
section
variable{d:V}{r:Value}
end
section
variable{o f:Expr}{apos cpos:Pos}{td ty tx:TE}
end
section
variable{kvs:List (Key×V)}
end
section
end
end L2
namespace MI
open PySem PySem.W PySem.Calls PyProof.Rows
def pD {P:Params}{h:Heap}:∀ (ns:List Int) (vs:List Value),WellAll P h vs (ns.map WData.int)->IntsAre vs ns:=by
 intro ns
 induction ns with
 | nil =>
  intro vs w;rw[Q6]at w;cases w;exact .nil
 | cons n ns ih =>
  intro vs w;rw[ND]at w;cases w with
  | cons a b =>
   cases a;exact .cons _ _ (ih _ b)
def A8 {l:OpenLaw}{n:Nat}(hn:l.most=some n){P:Params}{h:Heap}{args:List WData}{vals:List Value}
  (hpre:l.row.toRowW.claim.pre args=true) (hwl:WellAll P h vals args) :
  ∃ a vs ns,vals=[Value.ref a]/\args=[WData.list (ns.map WData.int)]/\h.get? a=some { cls:=.type "list",data:=.seq vs.toArray }/\IntsAre vs ns/\ns.length<=n:=by
 have hsh:WShape.hasAll [] args [.list .int]=true:=(pre_splitW hpre).1;have hc:l.pre.holds [] { args:=args }=true:=(pre_splitW hpre).2;obtain⟨d,r,rfl,h1,h2⟩:=hasAllW_cons hsh;obtain rfl:=hasAllW_nil h2;obtain⟨xs,rfl,h3⟩:=hasW_list h1;obtain⟨ns,rfl⟩:=items_int h3;have hlen:ns.length<=n:=by
  unfold OpenLaw.pre at hc;have h4:(WTm.not (.lt (.lit (.int (n:Int))) (.len (.arg 0)))).holds [] { args:=[.list (ns.map .int)] }=true:=by
   have h4:=(holds_andW hc).1;rw[hn]at h4;exact h4
  have h5:=condW_of h4 (w_not (w_lt w_lit (w_len_list (w_arg rfl))));rw[M7]at h5;refine Nat.le_of_not_lt λ q=>?_;have q':(n:Int)<((ns.length:Nat):Int):=by omega
  first
   |(rw[NP q']at h5;exact absurd h5 (by decide))
   |(simp at h5;omega)
 cases hwl with
 | cons w1 w2 =>
  cases w2;cases w1 with
  |list ho hall=>exact⟨_,_,ns,rfl,rfl,ho,pD ns _ hall,hlen⟩
def A7 (l:OpenLaw)(args:List WData):l.row.toRowW.claim.post args (.bool true) args=true:=
 postW_of (r:=l.row.toRowW) (X:=(true == true))
  (show WShape.has [] (.bool true) .bool=true by first|rfl|decide|simp[WShape.has,WShape.arms,WShape.armsAll])
  (show(WTm.eq .res (.lit (.bool true))).value [] { args:=args,res:=some (.bool true),after:=args }=some (.bool (true == true)) from w_eq_bool (w_res rfl) w_lit) rfl
def vI {l:OpenLaw}{n:Nat}{q:Program}{loose:List Str}{XP:(Str->Option Value)->Heap->Prop}{YP:World->Heap->Prop}{d:DefRec}
  (hn:l.most=some n) (hdf:d.params.defaults=[])
  (call:∀ (w:World) (s₀ s₁:Shared) (mg mb:Str->Option Value) (fa:Addr) (o:Obj) (pm cd doc:Value) (a:Addr) (vs:List Value) (ns:List Int),
   Ground q loose [] XP w s₀ mg mb s₁.heap->YP w s₁.heap ->
   s₁.heap.get? fa=some o->o.data=.func (docDef d.name d.params d.body d.scope pm cd doc)->s₁.heap.CodeRec cd d.name->mg d.name=some (.ref fa) ->
   s₁.heap.get? a=some { cls:=.type "list",data:=.seq vs.toArray }->IntsAre vs ns->ns.length<=n->s₁.gens = #[] ->
   codeAny (model l.prog w) callerA (.call (.ref fa) ⟨[.ref a],[]⟩) (λ r s'=>r=.ok (.ret (.bool true))/\OldK s₁.heap s'.heap/\s'.os=s₁.os/\AllBare s'.gens) s₁) :
  WalkO q loose XP YP l.row.toRowW d [] (λ f vs=>PySem.call f vs):=by
 intro w s₀ s₁ mg mb G Y fa o pm cd doc dV kV ho hd hcd hD hmg hg args vals as hpre hlay hrd hwl hlo;obtain rfl:dV=.none:=Dflts.none hD hdf;obtain rfl:kV=.none:=Dflts.noKw hD;obtain⟨a,vs,ns,rfl,rfl,hobj,hints,hlen⟩:=A8 hn hpre hwl;refine enter_call (Q4 (call w s₀ s₁ mg mb fa o pm cd doc a vs ns G Y ho (fd_plain hd) hcd hmg hobj hints hlen hg) λ r s' hq=>?_);obtain⟨rfl,h2,h3,h4⟩:=hq;exact⟨.inl ⟨.bool true,.bool true,[],rfl,λ _=>rfl,.bool true,A7 l _,λ _=>⟨List.Pairwise.nil,λ _ hm=>(nomatch hm)⟩⟩,h2,h3,h4⟩
section
variable {prog:Program}{w:World}{A:Around}{E:Value->Shared->Prop}{s:Shared}{K:Frag}
end
end MI
namespace L2
open PySem PySem.Spec PyProof.Rows
variable {a f it:Addr}{A:Around}{X:Cx}{cm:Cx->Prop}{env:Env}{fd:FuncData}{H H':Hp}{pins:List (Addr×Obj)}{cl:List (Str×Addr)}{cap:List (Str×Nat)}{fp:List Addr}{ps:List Str}{i:Nat}{pos:Pos}{P:Program}{scope:Scope}{s:Shared}{sp:Sp}{σ:St}{st:Stmt}{qual x y:Str}{E:Value->Shared->Prop}{w:World}
def lz:∀ {vs:List Value}{ns:List Int},IntsAre vs ns->Vals (ns.map V.int) vs
 |_,_,.nil=>.nil
 |_,_,.cons n t h=>.cons ⟨t,rfl⟩ (lz h)
def Ij (H:Hp):Prop:=∀ b,H b=none\/∃ o xs,H b=some (.ak o (.lst xs))
def CI{K:PySem.W.Frag}{mg mb:Str->Option Value}{CX:Cr}{k:Nat}{fa:Addr}{s₁:Shared}{vs:List Value}{ns:List Int}
  (KX:K.In s₁.heap) (hns:s₁.heap.Ns mainGlobals mg) (hb:s₁.heap.Ns builtinsNs mb) (hbb:∀ x:Str,x ≠ "__name__" -> mb x=bootBuiltins x) (hlim:s₁.heap.NoLimit) (hg:s₁.gens = #[])
  (ha:s₁.heap.get? a=some { cls:=.type "list",data:=.seq vs.toArray }) (hi:IntsAre vs ns) (hl:ns.length<=sizeLine) (hr:gz k callerA)
  (F:∀ base:Heap,K.In base->base.Ns mainGlobals mg->pW P w K mg base CX k fa fd [x] sp) (hbind:∀ (s:Shared) (u:Value),BindsTo s fd ⟨[u],[]⟩ [(x,u)])
  (hsp:∀ H:Hp,Ij H->cY K H a (ns.map V.int)->sp [.ref a] H (λ v _=>v=.bl true) λ _ _ _=>False)
  (hCX:∀ H e s',CX [] H s₁ (λ _ _ _=>False) e s'->False) :
  codeAny (model P w) callerA (.call (.ref fa) ⟨[.ref a],[]⟩) (λ r s'=>r=.ok (.ret (.bool true))/\OldK s₁.heap s'.heap/\s'.os=s₁.os/\AllBare s'.gens) s₁:=by
 have rv:=lz hi;have lenV:=hi.length;have core:∀ H:Hp,Ij H->cY K H a (ns.map V.int)->ki P w H s₁.heap->(∀ b,H b≠none->b=a)->(H a≠none->K.lookup a=none) ->
   codeAny (model P w) callerA (.call (.ref fa) ⟨[.ref a],[]⟩) (λ r s'=>r=.ok (.ret (.bool true))/\OldK s₁.heap s'.heap/\s'.os=s₁.os/\AllBare s'.gens) s₁:=by
  intro H hO hS hok hA hK;have base_of:∀ {b:Addr}{o:Obj},s₁.heap.get? b=some o->H b=none->(t7 s₁.heap H).get? b=some o:=λ e n=>Cq e n;have noA:∀ {b:Addr}{o:Obj}{es:Array DictEntry}{ep:Nat},s₁.heap.get? b=some o->o.data=.dict es ep->H b=none:=λ {b o es ep} e d=>by
   cases q:H b with
   |none=>rfl
   | some u =>
    have e':b=a:=hA b (by rw[q];simp);subst e';rw[ha]at e;cases e;have d':Data.seq vs.toArray _=Data.dict es ep:=d;cases d'
  have nsK:∀ {b:Addr}{m:Str->Option Value},s₁.heap.Ns b m->(t7 s₁.heap H).Ns b m:=λ {b m} ⟨o,es,ep,e,d,r⟩=>⟨o,es,ep,base_of e (noA e d),d,r⟩;have hKb:K.In (t7 s₁.heap H):=λ b o e=>base_of (KX b o e) (by
   cases q:H b with
   |none=>rfl
   | some u =>
    have e':b=a:=hA b (by rw[q];simp);subst e';rw[hK (by rw[q];simp)]at e;cases e)
  have hM:Mod K mg (t7 s₁.heap H):=⟨hKb,nsK hns,⟨mb,nsK hb,hbb⟩,let ⟨mc,h1,h2⟩:=hlim;⟨mc,nsK h1,h2⟩⟩;have e0:EN P w K mg (t7 s₁.heap H) callerA [] s₁ H:=⟨rfl,hM,λ b o e=>E5 e,Nat.le_of_eq (AI _ _),trivial,λ b hb=>absurd (show b∈([]:List Addr) from hb) (by simp),hok,.of_eq hg⟩;refine Q4 ((F _ hKb (nsK hns)).run callerA [] s₁ H ⟨[.ref a],[]⟩ [.ref a] [.ref a] _ _ hr e0 (hbind s₁ (.ref a)) (.cons rfl .nil) (hsp H hO hS)) λ r s' h=>?_;cases r with
  |error e=>exact(hCX H e s' h).elim
  | ok fl =>
   cases fl with
   |next=>exact False.elim h|brk=>exact False.elim h|cont=>exact False.elim h
   | ret u =>
    obtain⟨v,H',os,bare,un,hok',r',q⟩:=h;have q':v=.bl true:=q;subst q';obtain rfl:u=Value.bool true:=r';refine⟨rfl,OldK.of_keep λ b o e=>?_,os,bare⟩;cases q:H b with
    |none=>exact un.keep b o e q (by intro z;exact absurd (show b∈([]:List Addr) from z) (by simp)) (by simp)
    | some u =>
     rcases hO b with z|⟨ob,xs,z⟩
     ·rw[q]at z;cases z
     ·have z2:=un.rC b ob _ z;obtain⟨e1,_⟩:=hok b _ z;obtain⟨e2,_⟩:=hok' b _ z2;rw[e]at e1;cases e1;exact e2
 cases hk:K.lookup a with
 | some o =>
  have e:=KX a o hk;rw[ha]at e;cases e;refine core (λ _=>none) (λ _=>.inl rfl) (.inr ⟨_,vs.toArray,_,hk,rfl,rfl,rfl,by rw[Nh,lenV];exact hl,by simpa using rv⟩) (λ b u z=>by have z':(none:Option HO)=some u:=z;cases z') (λ b z=>absurd rfl z) λ z=>absurd rfl z
 | none =>
  refine core (λ b=>if b=a then some (.ak { cls:=.type "list",data:=.seq vs.toArray } (.lst (ns.map V.int))) else none) (λ b=>?_) (.inl (.inr ⟨{ cls:=.type "list",data:=.seq vs.toArray },Nr rfl⟩)) (λ b u z=>?_) (λ b z=>?_) λ _=>hk
  ·by_cases hb:b=a
   ·exact .inr ⟨_,_,Nr hb⟩
   ·exact .inl (Nu hb)
  ·by_cases hb:b=a
   ·have z':=(Nr hb).symm.trans z;cases z';subst hb;exact⟨ha,by rw[M7];exact hl,vs,_,rv,ha⟩
   ·have z':=(Nu hb).symm.trans z;cases z'
  ·by_cases hb:b=a
   ·exact hb
   ·exact absurd (Nu hb) z
def Ft {l:PySem.W.OpenLaw}{n k:Nat}{q:Program}{loose:List Str}{XP:(Str->Option Value)->Heap->Prop}{YP:World->Heap->Prop}{d:DefRec}{K:Params->PySem.W.Frag}{CX:World->Cr}{sp:World->Sp}
  (hn:l.most=some n) (hn2:n<=sizeLine) (hdf:d.params.defaults=[]) (hr:gz k callerA)
  (hY:∀ (w:World) (h:Heap),YP w h->(K w.params).In h)
  (F:∀ (w:World) (mg:Str->Option Value) (fa:Addr) (h:Heap),(K w.params).In h->h.Ns mainGlobals mg->mg d.name=some (.ref fa) ->
   ∃ fd:FuncData,(∀ (s:Shared) (u:Value),BindsTo s fd ⟨[u],[]⟩ [(x,u)]) /\
    ∀ base:Heap,(K w.params).In base->base.Ns mainGlobals mg->pW l.prog w (K w.params) mg base (CX w) k fa fd [x] (sp w))
  (hsp:∀ (w:World) (H:Hp) (a:Addr) (ns:List Int),ns.length<=n->Ij H->cY (K w.params) H a (ns.map V.int)->sp w [.ref a] H (λ v _=>v=.bl true) λ _ _ _=>False)
  (hCX:∀ (w:World) (H:Hp) (s:Shared) (e:Value) (s':Shared),CX w [] H s (λ _ _ _=>False) e s'->False) :
  PySem.W.WalkO q loose XP YP l.row.toRowW d [] (λ f vs=>PySem.call f vs):=by
 refine MI.vI hn hdf λ w s₀ s₁ mg mb fa o pm cd doc a vs ns G Y ho hd hcd hmg hobj hints hlen hg=>?_;have KX:=hY w _ Y;obtain⟨fd,hb,hF⟩:=F w mg fa _ KX G.T.g hmg;exact CI KX G.T.g G.T.b G.T.builtins G.T.nolimit hg hobj hints (N9 hlen hn2) hr hF hb (λ H hO hS=>hsp w H a ns hlen hO hS) λ H e s'=>hCX w H s₁ e s'
def iP (s:Stmt):Arguments:=match s with
 |.FunctionDef _ a _ _ _ _ _ _ _ _=>a
 |_=>{ posonlyargs:=[],args:=[],vararg:=none,kwonlyargs:=[],kw_defaults:=[],kwarg:=none,defaults:=[] }
def eN (s:Stmt):List Stmt:=match s with
 |.FunctionDef _ _ b _ _ _ _ _ _ _=>b
 |_=>[]
def aB (s:Stmt):Scope:=match s with
 |.FunctionDef _ _ _ _ _ _ sc _ _ _=>sc
 |_=>{ kind:=.function,names:=[],isGenerator:=false,isCoroutine:=false }
abbrev A6:Cr:=λ _ _ _ _ _ _=>False
abbrev E0:XK:=λ _ _ _=>False
def Kv:Passes A6 X E0:=λ _ _ _ _ _ _ _ h=>h.elim
structure Fq (K:PySem.W.Frag)(x qual:Str)(st:Stmt)(f:Addr)(fd:FuncData):Prop where
 ex:∃ (oc:Value) (od:Option Addr) (kV doc pm:Value) (an:Option Addr) (cdv ct:Value) (osl:Array (Option Value)),
  fd=PySem.W.fnOf x qual (iP st) (eN st) (aB st) .none kV doc pm an cdv ct/\K.lookup f=some ⟨oc,od,.func fd,osl⟩/\PySem.W.codeIn K cdv qual=true
 kp:PySem.W.keepIn K (.ref f)=true
section
variable{K:PySem.W.Frag}{mg:Str->Option Value}{base:Heap}
def Fq.ok{N:List Str}{k:Nat}(F:Fq K x qual st f fd)(S:aX N ps (aB st))(len:∀ vs H Q E,sp vs H Q E->vs.length=ps.length)
  (hbody:∀ (cdv:Value) (A:Around) (outer:List Env) (s:Shared) (H:Hp) (vs:List V) (Q:VK) (E:XK),gz k (A.deeper (envOfC qual (aB st) s.heap.objs.size f cdv))->sp vs H Q E ->
   ∃ t,mQ (rF A6 P w K mg base N qual (aB st) f cdv A outer s H E).GY (eN st) t/\t { nx:=λ _ H'=>Q .bx H',rt:=Q } (start N vs) H):pW P w K mg base A6 (k+1) f fd ps sp:=by
 obtain⟨oc,od,kV,doc,pm,an,cdv,ct,osl,rfl,lk,hcd⟩:=F.ex;refine JY lk hcd S len λ A outer s H vs Q E hr hsp=>?_;obtain⟨t,h,q⟩:=hbody cdv A outer s H vs Q E hr hsp;exact⟨t,h.GY,q⟩
def Fq.binds(F:Fq K x qual st f fd)
  (h:∀ (kV doc pm:Value) (an:Option Addr) (cdv ct:Value) (us:List Value),us.length=ps.length->bindArgs (PySem.W.fnOf x qual (iP st) (eN st) (aB st) .none kV doc pm an cdv ct) ⟨us,[]⟩=pure (ps.zip us)):Binds K fd ps []:=by
 obtain⟨oc,od,kV,doc,pm,an,cdv,ct,osl,rfl,lk,hcd⟩:=F.ex;exact .all (h kV doc pm an cdv ct)
def xP{oc:Value}{od an:Option Addr}{osl:Array (Option Value)}{kV doc pm cdv ct:Value}(l:K.lookup f=some ⟨oc,od,.func (PySem.W.fnOf x qual (iP st) (eN st) (aB st) .none kV doc pm an cdv ct),osl⟩)
  (c:PySem.W.codeIn K cdv qual=true) (k:PySem.W.keepIn K (.ref f)=true):Fq K x qual st f (PySem.W.fnOf x qual (iP st) (eN st) (aB st) .none kV doc pm an cdv ct):=⟨⟨oc,od,kV,doc,pm,an,cdv,ct,osl,rfl,l,c⟩,k⟩
end
def dP{k:Nat}(hr:gz k A):A.units+1<cLine:=Nat.lt_of_le_of_lt (Nat.add_le_add_left (by decide:1<=64) _) hr.units
section
end
def aq (H H':Hp):Prop:=∀ b o,H b=some o->H' b=some o
def aq.refl (H:Hp):aq H H:=λ _ _ h=>h
def aq.trans {H1 H2:Hp}(a:aq H H1)(b:aq H1 H2):aq H H2:=λ c o h=>b c o (a c o h)
def aq.free(e:aq H H'){l:Addr}(h:H' l=Option.none):H l=Option.none:=by
 cases q:H l with
 |none=>rfl
 | some o =>
  rw[e l o q]at h;cases h
def aq.seq {K:PySem.W.Frag}{xs:List V}(e:aq H H')(h:cY K H a xs):cY K H' a xs:=by
 rcases h with (h|⟨o,h⟩)|h
 ·exact .inl (.inl (e _ _ h))
 ·exact .inl (.inr ⟨o,e _ _ h⟩)
 ·exact .inr h
section
end
section
variable {κ:Type}[DecidableEq κ]
end
section
variable{s':Shared}
end
def lookup_mem {α:Type}{y:Str}{v:α}:∀ {l:List (Str×α)},l.lookup y=some v->(y,v)∈l
 |[],h=>by cases h
 | (n,k)::r,h=>by
  rw[OR]at h;cases hb:y == n with
  | true =>
   rw[hb]at h;cases h;rw[PJ.mp hb];exact Na
  | false =>
   rw[hb]at h;exact Nb _ (lookup_mem h)
def ik {α:Type}{y:Str}{v:α}:∀ {l:List (Str×α)},(l.map (·.1)).Nodup->(y,v)∈l->l.lookup y=some v
 |[],_,h=>by cases h
 | (n,k)::r,hn,h=>by
  have hn':(n::r.map (·.1)).Nodup:=hn;obtain⟨h1,h2⟩:=Nv.mp hn';rw[OR];rcases Nq.mp h with e|e
  ·cases e;simp
  ·have hne:(y == n)=false:=by
    refine PL.mpr λ z=>h1 ?_;rw[<-z];exact Ni.mpr ⟨(y,v),e,rfl⟩
   rw[hne];exact ik h2 e
def A9 (env:Env)(y:Str)(k:NameKind):NameKind:=if (k == NameKind.free&&env.scope.kind == .function&&env.kindOf y == some .cell)=true then .cell else k
def kE (scope:Scope)(env:Env)(y:Str):(relabel scope env).names.lookup y=(scope.names.lookup y).map (A9 env y):=by
 show(scope.names.map λ (n,k)=>if (k == NameKind.free&&env.scope.kind == .function&&env.kindOf n == some .cell)=true then (n,NameKind.cell) else (n,k)).lookup y=_
 induction scope.names with
 |nil=>rfl
 | cons p r ih =>
  obtain⟨n,k⟩:=p;rw[ND];by_cases hc:(k == NameKind.free&&env.scope.kind == .function&&env.kindOf n == some .cell)=true
  ·simp only[Nr hc,OR];cases hb:y == n with
   | true =>
    have e:y=n:=PJ.mp hb;subst e;simp only[Qm,A9,Nr hc]
   |false=>exact ih
  ·simp only[Nu hc,OR];cases hb:y == n with
   | true =>
    have e:y=n:=PJ.mp hb;subst e;simp only[Qm,A9,Nu hc]
   |false=>exact ih
def mr {env:Env}(f:Str×NameKind->List (Str×Addr)->Sem (ForInStep (List (Str×Addr))))
  (hf:∀ name kind cs,f (name,kind) cs=if (kind == .free)=true then (do let a <-cellOf env name;pure (.yield ((name,a)::cs))) else pure (.yield cs)) :
  ∀ (names:List (Str×NameKind)) (acc:List (Str×Addr)),(∀ y∈names,y.2=.free->∃ c,env.cells.lookup y.1=some c) ->
   ∃ cl,(forIn names acc f:Sem (List (Str×Addr)))=pure cl/\(∀ y c,cl.lookup y=some c->acc.lookup y=some c\/(env.cells.lookup y=some c/\(y,NameKind.free)∈names)) /\
    (∀ y,(y,NameKind.free)∈names\/(acc.lookup y).isSome=true->∃ c,cl.lookup y=some c)
 | [],acc,_=>⟨acc,by rw [Q9],λ y c e=>.inl e,λ y h=>by
   rcases h with h|h
   ·cases h
   ·exact PH.mp h⟩
 | (name,kind)::r,acc,h=>by
  have hr:∀ y∈r,y.2=.free->∃ c,env.cells.lookup y.1=some c:=λ y hy=>h y (Nb _ hy);by_cases hk:(kind == NameKind.free)=true
  ·have e:kind=.free:=PJ.mp hk;subst e;obtain⟨c0,hc0⟩:=h (name,.free) Na rfl;have hc0:env.cells.lookup name=some c0:=hc0;obtain⟨cl,h1,h2,h3⟩:=mr f hf r ((name,c0)::acc) hr;refine⟨cl,?_,λ y c e=>?_,λ y hy=>?_⟩
   ·rw[Qn,hf,Nr hk];unfold cellOf;rw[hc0];exact h1
   ·rcases h2 y c e with q|⟨q1,q2⟩
    ·rw[OR]at q;cases hb:y == name with
     | true =>
      rw[hb]at q;cases q;have e:y=name:=PJ.mp hb;subst e;exact .inr ⟨hc0,Na⟩
     | false =>
      rw[hb]at q;exact .inl q
    ·exact .inr ⟨q1,Nb _ q2⟩
   ·refine h3 y ?_;rw[OR];cases hb:y == name with
    |true=>exact .inr rfl
    | false =>
     rcases hy with hy|hy
     ·rcases Nq.mp hy with z|z
      ·cases z;simp at hb
      ·exact .inl z
     ·exact .inr hy
  ·obtain⟨cl,h1,h2,h3⟩:=mr f hf r acc hr;refine⟨cl,?_,λ y c e=>(h2 y c e).imp id λ q=>⟨q.1,Nb _ q.2⟩,λ y hy=>h3 y (hy.imp (λ hy=>?_) id)⟩
   ·rw[Qn,hf,Nu hk];exact h1
   ·rcases Nq.mp hy with z|z
    ·cases z;exact absurd rfl hk
    ·exact z
def xR(h:∀ y∈scope.names,y.2=.free->∃ c,env.cells.lookup y.1=some c) :
  ∃ cl,closureFor scope env=pure cl/\(∀ y c,cl.lookup y=some c->env.cells.lookup y=some c/\(y,NameKind.free)∈scope.names)/\(∀ y,(y,NameKind.free)∈scope.names->∃ c,cl.lookup y=some c):=by
 have key:∀ f:Str×NameKind->List (Str×Addr)->Sem (ForInStep (List (Str×Addr))),
   (∀ name kind cs,f (name,kind) cs=if (kind == .free)=true then (do let a <-cellOf env name;pure (.yield ((name,a)::cs))) else pure (.yield cs)) ->
   closureFor scope env=(forIn scope.names [] f >>= λ r=>pure r) ->
   ∃ cl,closureFor scope env=pure cl/\(∀ y c,cl.lookup y=some c->env.cells.lookup y=some c/\(y,NameKind.free)∈scope.names)/\(∀ y,(y,NameKind.free)∈scope.names->∃ c,cl.lookup y=some c):=by
  intro f hf e;obtain⟨cl,h1,h2,h3⟩:=mr f hf scope.names [] h;refine⟨cl,?_,λ y c q=>(h2 y c q).resolve_left (λ z=>by cases z),λ y hy=>h3 y (.inl hy)⟩;rw[e,h1];rfl
 refine key _ (λ name kind cs=>?_) rfl;by_cases hk:(kind == NameKind.free)=true
 ·simp only[hk,PN]
 ·simp only[hk,PV]
def kF:∀ (names:List (Str×NameKind)) (h:Heap) (acc:List (Str×Addr)) (y:Str) (c:Addr),(cellsFrom h.objs.size names acc).lookup y=some c ->
  acc.lookup y=some c\/(h.objs.size<=c/\(y,NameKind.cell)∈names/\(pushCells h names).IsCell c none)
 |[],_,_,_,_,e=>.inl e
 | (name,kind)::r,h,acc,y,c,e=>by
  unfold cellsFrom at e;unfold pushCells;by_cases hk:(kind == NameKind.cell)=true
  ·rw[Nr hk]at e ⊢;have ek:kind=.cell:=PJ.mp hk;subst ek;have sz:(h.push { cls:=.type "cell",data:=.cell none }).objs.size=h.objs.size+1:=Oo ..;rw[<-sz]at e;rcases kF r _ _ y c e with q|⟨q1,q2,q3⟩
   ·rw[OR]at q;cases hb:y == name with
    | true =>
     rw[hb]at q;cases q;have e:y=name:=PJ.mp hb;subst e;exact .inr ⟨Nm _,Na,⟨_,QV _ _ _ _ (Nj _ rfl),rfl⟩⟩
    | false =>
     rw[hb]at q;exact .inl q
   ·rw[sz]at q1;exact .inr ⟨P8 q1,Nb _ q2,q3⟩
  ·rw[Nu hk]at e ⊢;rcases kF r _ _ y c e with q|⟨q1,q2,q3⟩
   ·exact .inl q
   ·exact .inr ⟨q1,Nb _ q2,q3⟩
def oq:∀ (names:List (Str×NameKind)) (n:Nat) (acc:List (Str×Addr)),(∀ y z c,acc.lookup y=some c->acc.lookup z=some c->y=z)->(∀ y c,acc.lookup y=some c->c<n) ->
  ∀ y z c,(cellsFrom n names acc).lookup y=some c->(cellsFrom n names acc).lookup z=some c->y=z
 |[],_,_,h,_,y,z,c,e1,e2=>h y z c e1 e2
 | (name,kind)::r,n,acc,h,hl,y,z,c,e1,e2=>by
  unfold cellsFrom at e1 e2;by_cases hk:(kind == NameKind.cell)=true
  ·rw[Nr hk]at e1 e2;refine oq r (n+1) _ (λ y z c q1 q2=>?_) (λ y c q=>?_) y z c e1 e2
   ·rw[OR]at q1 q2;cases b1:y == name with
    | true =>
     rw[b1]at q1;cases q1;cases b2:z == name with
     |true=>rw[PJ.mp b1,PJ.mp b2]
     | false =>
      rw[b2]at q2;exact absurd (hl z _ q2) (Ot _)
    | false =>
     rw[b1]at q1;cases b2:z == name with
     | true =>
      rw[b2]at q2;cases q2;exact absurd (hl y _ q1) (Ot _)
     | false =>
      rw[b2]at q2;exact h y z c q1 q2
   ·rw[OR]at q;cases b:y == name with
    | true =>
     rw[b]at q;cases q;exact QL _
    | false =>
     rw[b]at q;exact P9 (hl y c q)
  ·rw[Nu hk]at e1 e2;exact oq r n acc h hl y z c e1 e2
def xQ {M:Model}{Q:Env->Shared->Prop}
  (hQ:Q { scope:=scope,locals:=s.heap.objs.size,globals:=env.globals,cells:=cellsFrom (s.heap.objs.size+1) scope.names cl,qual:=env.qual,func:=none,code:=env.code,frame:=env.frame,builtins:=env.builtins }
   { s with heap:=pushCells (s.heap.push { cls:=.type "dict",data:=.dict #[] }) scope.names }) :
  wpAny M A (newFunctionEnv scope env.globals cl [] env.qual none .none (some env)) Q E s:=by
 simp only[newFunctionEnv,Option.isSome_some,PN];refine M6 (wpAny_alloc ?_);refine M6 (wpAny_layCells _ (λ name kind cells=>by cases hkc:kind == NameKind.cell<;>simp[hkc]) _ _ _ _ ?_);rw[show({ s with heap:=s.heap.push { cls:=.type "dict",data:=.dict #[] } }:Shared).heap.objs.size=s.heap.objs.size+1 from Oo ..];refine M6 ?_;rw[Q9];exact Nc (Nc hQ)
section
variable {prog:Program}{R:Result->Shared->Prop}
def Ba {elt target iter:Expr}{ifs:List Expr}{it acc:Value}(I:Nat->Shared->Prop)
  (turn:∀ n s,I n s->wpAny (model prog w) A (pyNext it) (λ r s₁=>match r with
   |none=>R (.ok .next) s₁
   | some v=>wpAny (model prog w) A (letOwnedTupleGo target it v) (λ _ s₁'=>wpAny (model prog w) A (assign target env v) (λ _ s₂ =>
     wpAny (model prog w) A (forIn ifs true λ c r=>if r=true then do let ok <-isTrue c env (eval c env);pure (ForInStep.yield ok) else pure (ForInStep.yield r)) (λ ok s₂'=>
      if ok=true then wpAny (model prog w) A (eval elt env) (λ x s₃=>
       wpAny (model prog w) A (call (.builtin "list.append") [acc,x]) (λ _ s₄=>∃ m,m<n/\I m s₄) (λ _ _=>False) s₃) (λ _ _=>False) s₂'
      else ∃ m,m<n/\I m s₂') (λ _ _=>False) s₂) (λ _ _=>False) s₁') (λ _ _=>False) s₁) (λ _ _=>False) s)
  (n:Nat) (h:I n s):codeAny (model prog w) A (.compLoop (.ListComp elt [⟨target,iter,ifs,0⟩] scope pos) 0 it acc env) R s:=by
 refine codeAny_loop rfl I (λ n s hI=>?_) n h;show wpAny _ _ ((compTurn (.ListComp elt [⟨target,iter,ifs,0⟩] scope pos) 0 it acc env).onRaise (λ x=>do noteFrame x env;theTreesLotGoes x)) _ _ s;refine wpAny_noted ?_;rw[compTurn_list];refine M6 (wpAny_standAt (M6 (O3 (turn n s hI) (λ r s₁ h₁=>?_) λ _ _ h'=>h'.elim)));cases r with
 |none=>exact Nc h₁
 | some v =>
  refine M6 (O3 h₁ (λ _ s₁' h₁'=>?_) λ _ _ h'=>h'.elim);refine M6 (O3 h₁' (λ _ s₂ h₂=>M6 (O3 h₂ (λ ok s₃ h₃=>?_) λ _ _ h'=>h'.elim)) λ _ _ h'=>h'.elim);cases ok with
  |false=>exact Nc ⟨rfl,h₃⟩
  | true =>
   exact M6 (M6 (O3 h₃ (λ x s₄ h₄=>M6 (O3 h₄ (λ _ s₅ h₅=>Nc (Nc ⟨rfl,h₅⟩)) λ _ _ h'=>h'.elim)) λ _ _ h'=>h'.elim))
def Kw (X:Cx)(ifs:List Expr)(t:TT):Prop:=∀ (pins:List (Addr×Obj)) (s:Shared) (σ:St) (H:Hp) (Q:Bool->Hp->Prop),Inv X pins σ H s->t σ H Q ->
 wpAny (model X.prog X.w) X.A (forIn ifs true λ c r=>if r=true then do let ok <-isTrue c X.env (eval c X.env);pure (ForInStep.yield ok) else pure (ForInStep.yield r)) (TP X pins σ Q) X.xe s
def Ma:TT:=λ _ H Q=>Q true H
def Fw:Kw X [] Ma:=λ pins s σ H Q I h=>wpAny_tests_nil ⟨H,I,h⟩
def Fv{c:Expr}{t:TT}(h:PT X c t):Kw X [c] t:=λ pins s σ H Q I hw=>wpAny_tests_one (h pins s σ H Q I hw)
end
structure gM (X:Cx)(scope:Scope)(own:List Str)(cap:List (Str×Nat)):Prop where
 kind:scope.kind=.function
 nd:(scope.names.map (·.1)).Nodup
 free:∀ y∈scope.names,y.2=.free->X.env.kindOf y.1=some .cell\/X.env.kindOf y.1=some .free
 Mb:∀ p∈cap,X.N[p.2]?=some p.1/\(p.1,NameKind.free)∈scope.names
def qa (σ:St)(cap:List (Str×Nat)):St:=cap.map λ p=>(σ[p.2]?).join
def i7 (X:Cx)(scope:Scope)(cs:List (Str×Addr))(C:Addr)(N:List Str)(s0:Shared)(H0:Hp)(fp:List Addr):Cx where
 prog:=X.prog
 w:=X.w
 K:=X.K
 mg:=X.mg
 base:=X.base
 A:=X.A
 N:=N
 s₀:=s0
 H₀:=H0
 env:=compEnvC scope cs C X.env
 outer:=X.stack
 stack:=X.stack
 ex:=fp
 fn:=λ y=>decide (scope.names.lookup y=some .cell)
 calm:=X.calm
 pn:=X.pn
 xe:=λ _ _=>False
section
def vK(h:env.kindOf y=some .cell\/env.kindOf y=some .free):rD env.scope y:=.inr h
def CJ{own:List Str}(I:Inv X pins σ H s)(ok:gM X scope own cap)
  (hcl:∀ y c,cl.lookup y=some c->X.env.cells.lookup y=some c/\(y,NameKind.free)∈scope.names) (hcl2:∀ y,(y,NameKind.free)∈scope.names->∃ c,cl.lookup y=some c)
  (f2:∀ b∈fp,pB X pins H b) (fo:∀ b∈fp,b<s.heap.objs.size) :
  Inv (i7 X scope (cellsFrom (s.heap.objs.size+1) scope.names cl) s.heap.objs.size (own++cap.map (·.1)) s H fp) pins (List.replicate own.length none++qa σ cap) H
   { s with heap:=pushCells (s.heap.push { cls:=.type "dict",data:=.dict #[] }) scope.names }:=by
 have szC:(s.heap.push { cls:=.type "dict",data:=.dict #[] }).objs.size=s.heap.objs.size+1:=Oo ..;have kp:∀ b o,s.heap.get? b=some o->(pushCells (s.heap.push { cls:=.type "dict",data:=.dict #[] }) scope.names).get? b=some o:=λ b o e=>QV _ _ b o (M8 _ e);have sp:∀ y c,(cellsFrom (s.heap.objs.size+1) scope.names cl).lookup y=some c->(X.env.cells.lookup y=some c/\(y,NameKind.free)∈scope.names) ∨
   (s.heap.objs.size+1<=c/\(y,NameKind.cell)∈scope.names/\(pushCells (s.heap.push { cls:=.type "dict",data:=.dict #[] }) scope.names).IsCell c none):=λ y c e=>by
  rw[<-szC]at e;rcases kF _ _ _ y c e with q|q
  ·exact .inl (hcl y c q)
  ·rw[szC]at q;exact .inr q
 have clt:∀ y c,X.env.cells.lookup y=some c->c<s.heap.objs.size:=λ y c e=>by
  obtain⟨v,o,ho,_⟩:=I.cell y c e;exact Nl ho
 have kfree:∀ y,(y,NameKind.free)∈scope.names->scope.names.lookup y=some .free:=λ y h=>ik ok.nd h;have kcell:∀ y,(y,NameKind.cell)∈scope.names->scope.names.lookup y=some .cell:=λ y h=>ik ok.nd h;have okY:(i7 X scope (cellsFrom (s.heap.objs.size+1) scope.names cl) s.heap.objs.size (own++cap.map (·.1)) s H fp).Ok:={
  mod:=I.ok.mod
  kind:=ok.kind
  glob:=I.ok.glob
  blt:=I.ok.blt
  above:=Nm _
  inj:=λ x y c e1 e2=>oq scope.names (s.heap.objs.size+1) cl (λ y z c q1 q2=>I.ok.inj y z c (hcl y c q1).1 (hcl z c q2).1) (λ y c q=>P9 (clt y c (hcl y c q).1)) x y c e1 e2
  has:=λ y hy=>by
   have hy':(relabel scope X.env).names.lookup y=some .cell\/(relabel scope X.env).names.lookup y=some .free:=hy;rw[kE]at hy';refine PH.mp (P5 scope.names _ _ ?_);cases q:scope.names.lookup y with
   | none =>
    rw[q]at hy';rcases hy' with z|z<;>cases z
   | some k =>
    by_cases hk:k=.cell
    ·subst hk;exact .inl rfl
    ·by_cases hf:k=.free
     ·subst hf;obtain⟨c,hc⟩:=hcl2 y (lookup_mem q);exact .inr (by rw[hc];rfl)
     ·rw[q]at hy';exfalso;have hb:(k == NameKind.free)=false:=by simpa using hf
      rcases hy' with z|z
      ·simp[A9,hb]at z;exact hk z
      ·simp[A9,hb]at z;exact hf z
  JO:=λ y c hf e=>by
   have hf':scope.names.lookup y=some .cell:=O8 hf;rcases sp y c e with ⟨_,q⟩|⟨q,_⟩
   ·rw[kfree y q]at hf';cases hf'
   ·exact P8 q
  hd:=I.ok.hd
  frames:=I.ok.frames
  JW:=.inl rfl
  Ls:=λ b hb=>⟨NH (fo b hb),λ x c e z=>by
   subst z;rcases sp x c e with ⟨q,_⟩|⟨q,_⟩
   ·exact(f2 c hb).2.2.2.2.1 x c q rfl
   ·exact absurd (NU (fo c hb) (P8 q)) (Ot _)⟩
  bs:=I.bs
  EY:=N9 I.ok.EY I.sz
  AU:=λ b o e hb=>by
   rcases (f2 b hb).2.2.2.1 with q|q
   ·exact I.ok.AU b o e q
   ·exact absurd (NU (Nl e) (N9 I.ok.EY q)) (Ot _)
  AW:=λ b hb z=>by
   rcases Nq.mp (I.t6 b z) with q|q
   ·exact(f2 b hb).2.1 q
   ·exact(f2 b hb).2.2.1 q
  pA:=I.stack
  Hv:=I.zm }
 obtain⟨m,hns,hl⟩:=id I.loc;refine⟨okY,rfl,I.bare,Un.kept kp,⟨λ _=>none,(Heap.Ns.new s.heap (.type "dict")).keeps (QV _ _),λ i x v e1 e2 e3=>?_⟩,λ y c e=>?_,I.fresh,λ y c e=>?_,λ p hp=>?_,I.hok.kept kp,?_⟩
 ·
  have e1:(own++cap.map (·.1))[i]?=some x:=e1;by_cases hi:i<own.length
  ·rw[Rk (by simpa using hi)]at e2;simp[hi]at e2
  ·have hi':own.length<=i:=Nat.not_lt.mp hi;rw[OJ (by simpa using hi')]at e2;rw[OJ hi']at e1;rw[List.length_replicate]at e2;unfold qa at e2;rw[NG]at e1 e2;cases q:cap[i-own.length]? with
   | none =>
    rw[q]at e1;cases e1
   | some p =>
    rw[q]at e1 e2;obtain⟨p1,p2⟩:=p;have e1:p1=x:=N6 e1;subst e1;have e2:(σ[p2]?).join=some v:=N6 e2;have e2:σ[p2]?=some (some v):=by
     cases z:σ[p2]? with
     |none=>rw[z]at e2;cases e2|some z'=>rw[z]at e2;exact OQ some e2
    obtain⟨hN,hfr⟩:=ok.Mb (p1,p2) (QO q);have hk:=ok.free (p1,.free) hfr rfl;obtain⟨u,r,L⟩:=hl p2 p1 v hN e2 (vK hk);refine⟨u,r,?_⟩;rcases L with ⟨k,_⟩|⟨_,c,hc,hcell⟩
    ·have hk:X.env.kindOf p1=some .cell\/X.env.kindOf p1=some .free:=hk;rw[k]at hk;rcases hk with z|z<;>cases z
    ·refine .inr ⟨?_,c,?_,hcell.keeps kp⟩
     ·show(relabel scope X.env).names.lookup p1=some .cell\/(relabel scope X.env).names.lookup p1=some .free;rw[kE,kfree _ hfr,Qm];unfold A9;split
      ·exact .inl rfl
      ·exact .inr rfl
     ·obtain⟨c',hc'⟩:=hcl2 p1 hfr;obtain⟨c2,hc2⟩:=PH.mp (P5 scope.names (s.heap.objs.size+1) cl (.inr (by rw[hc'];rfl):scope.names.lookup p1=some .cell\/(cl.lookup p1).isSome=true));have hc2':(cellsFrom (s.heap.objs.size+1) scope.names cl).lookup p1=some c2:=hc2;rcases sp p1 c2 hc2' with ⟨q1,_⟩|⟨_,q2,_⟩
      ·rw[hc]at q1;cases q1;exact hc2'
      ·have:=kcell p1 q2;rw[kfree p1 hfr]at this;cases this
 ·rcases sp y c e with ⟨q,_⟩|⟨_,_,q⟩
  ·obtain⟨v,hv⟩:=I.cell y c q;exact⟨v,hv.keeps kp⟩
  ·exact⟨none,q⟩
 ·rcases sp y c e with ⟨q,_⟩|⟨q,_⟩
  ·exact I.ky y c q
  ·exact I.hok.fresh (P8 q)
 ·obtain⟨a1,a2,a3,a4,a5⟩:=I.pin p hp;refine⟨kp _ _ a1,a2,NH (Nl a1),λ z=>?_,a5⟩;rcases Nq.mp (I.t6 p.1 z) with q|q
  ·exact a3 q
  ·exact a4 q
 ·show(List.replicate own.length none++qa σ cap).length=(own++cap.map (·.1)).length;simp[qa]
def vJ{cs:List (Str×Addr)}{C:Addr}{N:List Str}{τ:St}{s':Shared}{h':Heap}(I:Inv X pins σ H s)(f2:∀ b∈fp,pB X pins H b)
  (hC:s.heap.objs.size<=C) (J:Inv (i7 X scope cs C N s H fp) pins τ H' s') (hs:Heap.SameBut C s'.heap h'):Inv X pins σ H' { s' with heap:=h' }:=by
 have u:Un (frs X.stack) fp H H' s.heap s'.heap:=J.base;have ne:∀ b o,s.heap.get? b=some o->b≠C:=λ b o e=>NH (NU (Nl e) hC);refine I.Kf (s':={ s' with heap:=h' }) (ch:=fp) J.os ⟨λ b o e n hf hx=>?_,λ b o e n hf hx=>?_,u.free,λ b o e hx=>?_,u.tups,u.rC,u.t8⟩ (λ a o e=>?_) J.bare λ b hb=>⟨(f2 b hb).2.2.2.1,(f2 b hb).2.1,(f2 b hb).2.2.2.2.1,(f2 b hb).2.2.2.2.2⟩
 ·exact(hs.2 b (ne b o e)).trans (u.keep b o e n hf hx)
 ·obtain⟨sl,q⟩:=u.slot b o e n hf hx;exact⟨sl,(hs.2 b (ne b o e)).trans q⟩
 ·obtain⟨o',q⟩:=u.there b o e hx;exact⟨o',(hs.2 b (ne b o e)).trans q⟩
 ·refine(J.hok a o e).stay (λ b v hb q=>(hs.2 b ?_).trans q) (λ _ q=>q) λ _ _ q=>q;rintro rfl;have fr:H' b=none:=J.free;rcases hb with rfl|hb
  ·rw[fr]at e;cases e
  ·rw[fr]at hb;cases hb
end
def sF (wi:TI)(g:TG)(tt:TT)(te:TE)(k:Nat)(cap:List (Str×Nat)):TE:=λ σ H Q=>wi σ H λ J H1=>∀ acc,H1 acc=none->∃ W:Nat->Nat->St->List V->Hp->Prop,
 (∃ m,W 0 m (List.replicate k none++qa σ cap) [] (upd H1 acc (.lst []))) /\
 ∀ i m τ ys H,W i m τ ys H->(J.stop i H/\Q (.ref acc) H)\/(J.go i H/\∀ x H',J.zd i H x H'->g x τ H' λ τ2 H2=>tt τ2 H2 λ b H2'=>if b=true then te τ2 H2' λ v H3=>
  H3 acc=some (.lst ys)/\ys.length<sizeLine/\∃ m',m' < m/\W (i+1) m' τ2 (ys++[v]) (upd H3 acc (.lst (ys++[v]))) else ∃ m',m' < m/\W (i+1) m' τ2 ys H2')
structure iQ (X:Cx)(scope:Scope)(own:List Str)(cap:List (Str×Nat))(tg:Expr)(ifs:List Expr)(elt:Expr)(g:TG)(tt:TT)(te:TE):Prop where
 MX:∀ cs C s0 H0 fp,PG (i7 X scope cs C (own++cap.map (·.1)) s0 H0 fp) tg g
 MZ:∀ cs C s0 H0 fp,Kw (i7 X scope cs C (own++cap.map (·.1)) s0 H0 fp) ifs tt
 MY:∀ cs C s0 H0 fp,PE (i7 X scope cs C (own++cap.map (·.1)) s0 H0 fp) elt te
section
variable{tg elt iter:Expr}{ifs:List Expr}{tt:TT}{own:List Str}{wi:TI}{g:TG}{te:TE}
def qb{H2:Hp}{s2:Shared}{Q:VK}{tn:Nat->Heap->Prop}{J:It}{RR:Value->Addr->Result->Shared->Prop} (ok:gM X scope own cap) (hc:∀ cs C N s0 H0 fp,Inv X pins σ H0 s0->cm (i7 X scope cs C N s0 H0 fp)) (B:iQ X scope own cap tg ifs elt g tt te)
  (hcl:∀ y c,cl.lookup y=some c->X.env.cells.lookup y=some c/\(y,NameKind.free)∈scope.names) (hcl2:∀ y,(y,NameKind.free)∈scope.names->∃ c,cl.lookup y=some c)
  (I2:Inv X pins σ H2 s2) (T:Ce cm X.prog X.w X.K tg J fp it tn) (st2:tn 0 s2.heap) (f2:∀ b∈fp,pB X pins H2 b)
  (h:∀ acc,H2 acc=none->∃ W:Nat->Nat->St->List V->Hp->Prop,(∃ m,W 0 m (List.replicate own.length none++qa σ cap) [] (upd H2 acc (.lst []))) /\
   ∀ i m τ ys H,W i m τ ys H->(J.stop i H/\Q (.ref acc) H)\/(J.go i H/\∀ x H',J.zd i H x H'->g x τ H' λ τ2 H2=>tt τ2 H2 λ b H2'=>if b=true then te τ2 H2' λ v H3=>
    H3 acc=some (.lst ys)/\ys.length<sizeLine/\∃ m',m' < m/\W (i+1) m' τ2 (ys++[v]) (upd H3 acc (.lst (ys++[v]))) else ∃ m',m' < m/\W (i+1) m' τ2 ys H2'))
  (hR:∀ D C H' s',(∀ h',Heap.SameBut C s'.heap h'->Inv X pins σ H' { s' with heap:=h' })->(∃ m,s'.heap.Ns C m)->H' C=none->X.s₀.heap.objs.size<=C->C≠X.env.locals->(∀ x c,X.env.cells.lookup x=some c->c≠C)->(∀ p∈X.pn++pins,p.1≠C) ->
   Q (.ref D) H'->RR (.ref D) C (.ok .next) s') :
  wpAny (model X.prog X.w) X.A (newList []) (λ acc s₃=>wpAny (model X.prog X.w) X.A (newFunctionEnv scope X.env.globals cl [] X.env.qual none .none (some X.env)) (λ cenv s₄=>
   codeAny (model X.prog X.w) X.A (.compStart (.ListComp elt [⟨tg,iter,ifs,0⟩] scope pos) 0 (.ref it) acc { cenv with scope:=relabel scope X.env }) (RR acc cenv.locals) s₄) E s₃) E s2:=by
 refine N5 ?_;have fresh:H2 s2.heap.objs.size=none:=I2.fresh;have I3:Inv X pins σ (upd H2 s2.heap.objs.size (.lst [])) { s2 with heap:=s2.heap.push { cls:=.type "list",data:=.seq ([]:List Value).toArray } }:=I2.Km (its:=[]) (ys:=[]) (t':=s2.toks) .nil (OD _);have ob2:=T.obj _ _ st2;have lt2:∀ b∈fp,b<s2.heap.objs.size:=λ b hb=>let ⟨o,e,_⟩:=ob2 b hb;Nl e
 have f3:∀ b∈fp,pB X pins (upd H2 s2.heap.objs.size (.lst [])) b:=λ b hb=>⟨by rw[aN (NH (lt2 b hb))];exact(f2 b hb).1,(f2 b hb).2⟩;have kp3:∀ b o,s2.heap.get? b=some o->(s2.heap.push { cls:=.type "list",data:=.seq ([]:List Value).toArray }).get? b=some o:=λ b o e=>M8 _ e;generalize hs3:({ s2 with heap:=s2.heap.push { cls:=.type "list",data:=.seq ([]:List Value).toArray } }:Shared)=s3 at I3 ⊢;have k3:∀ b o,s2.heap.get? b=some o->s3.heap.get? b=some o:=λ b o e=>by rw[<-hs3];exact kp3 b o e
 refine xQ ?_;have MO:∀ b∈fp,b<s3.heap.objs.size:=λ b hb=>let ⟨o,e,_⟩:=ob2 b hb;Nl (k3 b o e)
 have I4:=CJ (own:=own) (cap:=cap) (fp:=fp) I3 ok hcl hcl2 f3 MO;have st4:tn 0 (pushCells (s3.heap.push { cls:=.type "dict",data:=.dict #[] }) scope.names):=T.keep _ _ _ st2 λ b _ o e=>QV _ _ b o (M8 _ (k3 b o e));obtain⟨W,⟨m0,w0⟩,turn⟩:=h s2.heap.objs.size fresh
 let Y:=i7 X scope (cellsFrom (s3.heap.objs.size+1) scope.names cl) s3.heap.objs.size (own++cap.map (·.1)) s3 (upd H2 s2.heap.objs.size (.lst [])) fp
 have I4:Inv Y pins (List.replicate own.length none++qa σ cap) (upd H2 s2.heap.objs.size (.lst [])) { s3 with heap:=pushCells (s3.heap.push { cls:=.type "dict",data:=.dict #[] }) scope.names }:=I4;have f4:∀ {H':Hp},(∀ b∈fp,H' b=none)->∀ b∈fp,pB Y pins H' b:=λ {H'} hn b hb=>by
  refine⟨hn b hb,NH (MO b hb),λ z=>?_,.inl hb,(I4.ok.Ls b hb).2,(f2 b hb).2.2.2.2.2⟩;exact I4.ok.AW b hb z
 have loop:codeAny (model X.prog X.w) X.A (.compLoop (.ListComp elt [⟨tg,iter,ifs,0⟩] scope pos) 0 (.ref it) (.ref s2.heap.objs.size) Y.env) (RR (.ref s2.heap.objs.size) s3.heap.objs.size)
   { s3 with heap:=pushCells (s3.heap.push { cls:=.type "dict",data:=.dict #[] }) scope.names }:=by
  refine Ba (λ n s'=>∃ i τ ys H',Inv Y pins τ H' s'/\tn i s'.heap/\(∀ b∈fp,H' b=none)/\W i n τ ys H') ?_ m0 ⟨0,_,[],_,I4,st4,λ b hb=>(f3 b hb).1,w0⟩;rintro n s5 ⟨i,τ,ys,H5,I5,st5,fr5,w5⟩;rcases turn i n τ ys H5 w5 with ⟨stop,q⟩|⟨go,step⟩
  ·refine eK (T.done Y rfl rfl rfl (hc _ _ _ _ _ _ I3) i pins s5 τ H5 (λ _ _=>False) I5 (f4 fr5) st5 stop) λ r s6 ⟨hr,I6⟩=>?_;subst hr;obtain⟨m,hns,_⟩:=I6.loc;have hC:X.s₀.heap.objs.size<=s3.heap.objs.size:=I3.sz;refine hR _ _ H5 s6 (λ h' hs'=>vJ I3 f3 (Nm _) I6 hs') ⟨m,hns⟩ I6.free hC (λ z=>?_) (λ x c e z=>?_) (λ p hp z=>?_) q
   ·exact Ot _ (z▸I3.lt)
   ·obtain⟨v,o,ho,_⟩:=I3.cell x c e;rw[z]at ho;exact Ot _ (Nl ho)
   ·have e:=(I3.pin p hp).1;rw[z]at e;exact Ot _ (Nl e)
  ·refine eK (T.item Y rfl rfl rfl (hc _ _ _ _ _ _ I3) i pins s5 τ H5 (λ _ _=>False) I5 (f4 fr5) st5 go) λ r s6 ⟨u,hr,h6⟩=>?_;subst hr;refine eK h6 λ _ s7 ⟨x,H7,I7,r7,y7,st7,fr7⟩=>?_;have I7':=I7.pinned (f4 fr7) (T.obj _ _ st7);refine eK (B.MX _ _ _ _ _ _ s7 τ H7 x u _ I7' r7 (step x H7 y7)) λ _ s8 ⟨τ8,H8,I8,q8⟩=>?_;refine eK (B.MZ _ _ _ _ _ _ s8 τ8 H8 _ I8 q8) λ ok s8' ⟨H8',I8',q8'⟩=>?_;have again:∀ {H':Hp}{s':Shared},Inv Y (pins++p6 fp s7.heap) τ8 H' s'->Inv Y pins τ8 H' s'/\tn (i+1) s'.heap/\∀ b∈fp,H' b=none:=λ {H' s'} I'=>by
    refine⟨I'.mV,T.keep _ _ _ st7 λ b hb o e=>(I'.pin (b,o) (Nz _ (Nz _ (jN hb e)))).1,λ b hb=>?_⟩;obtain⟨o,e,d⟩:=T.obj _ _ st7 b hb;exact(I'.pin (b,o) (Nz _ (Nz _ (jN hb e)))).2.1
   cases ok with
   | false =>
    rw[Nu Nd]at q8' ⊢;obtain⟨m',hm,w9⟩:=q8';obtain⟨z1,z2,z3⟩:=again I8';exact⟨m',hm,i+1,τ8,ys,H8',z1,z2,z3,w9⟩
   | true =>
    rw[Nr rfl]at q8' ⊢;refine eK (B.MY _ _ _ _ _ _ s8' τ8 H8' _ I8' q8') λ v s9 ⟨y,H9,I9,r9,hacc,hlen,m',hm,w9⟩=>?_;refine eK (ly _ s9 τ8 H9 (.ref s2.heap.objs.size) [y] (.ref s2.heap.objs.size) [v] (λ z H'=>z=.bx/\H'=upd H9 s2.heap.objs.size (.lst (ys++[y]))) I9 rfl (.cons r9 .nil) ⟨_,ys,y,rfl,rfl,hacc,hlen,rfl,rfl⟩) λ _ s10 ⟨z,H10,I10,_,_,e10⟩=>?_;subst e10;obtain⟨z1,z2,z3⟩:=again I10;exact⟨m',hm,i+1,τ8,ys++[y],_,z1,z2,z3,w9⟩
 exact codeAny_compStart_list loop (T.self X.A 0 _ _ _ st4 loop)
def mZ(I:Inv X pins σ H s)(ok:gM X scope own cap):∃ cl,closureFor scope X.env=pure cl/\(∀ y c,cl.lookup y=some c->X.env.cells.lookup y=some c/\(y,NameKind.free)∈scope.names)/\(∀ y,(y,NameKind.free)∈scope.names->∃ c,cl.lookup y=some c):=
 xR λ y hy hk=>I.ok.has y.1 (ok.free y hy hk)
def qd (ok:gM X scope own cap):∀ x∈scope.names,x.2=.local->scope.names.lookup x.1=some .local:=λ x hx hl=>ik ok.nd (by rw[<-hl];exact hx)
def Mc (cm:Cx->Prop)(X:Cx)(pins:List (Addr×Obj))(σ:St)(tg:Expr)(R:It->Hp->Prop)(itv:Value)(s2:Shared):Prop:=
 ∃ (it:Addr) (fp:List Addr) (tn:Nat->Heap->Prop) (J:It) (H':Hp),itv=.ref it/\Inv X pins σ H' s2/\Ce cm X.prog X.w X.K tg J fp it tn/\tn 0 s2.heap/\(∀ b∈fp,pB X pins H' b)/\R J H'
def MJ (cm:Cx->Prop)(X:Cx)(tg iter:Expr)(wi:TI):Prop:=
 ∀ (pins:List (Addr×Obj)) (s:Shared) (σ:St) (H:Hp) (R:It->Hp->Prop),Inv X pins σ H s->wi σ H R ->
  wpAny (model X.prog X.w) X.A (eval iter X.env) (λ v s1=>wpAny (model X.prog X.w) X.A (pyIter v) (Mc cm X pins σ tg R) X.xe s1) X.xe s
def CK(ok:gM X scope own cap)(hc:∀ pins σ cs C N s0 H0 fp,Inv X pins σ H0 s0->cm (i7 X scope cs C N s0 H0 fp))(hi:MJ cm X tg iter wi)(B:iQ X scope own cap tg ifs elt g tt te)(hs:∀ x,foldedSetIterable iter X.env x=pure x:=by intro _;rfl) :
  PE X (.ListComp elt [⟨tg,iter,ifs,0⟩] scope pos) (sF wi g tt te own.length cap):=by
 intro pins s σ H Q I h;obtain⟨cl,hclos,hcl,hcl2⟩:=mZ I ok;rw[eval_ListComp];refine wpAny_comprehension_free (use:=none) rfl hs hclos ok.kind (qd ok) (eK (hi pins s σ H _ I h) λ xv s1 h1=>eK h1 λ itv s2 h2=>?_);obtain⟨it,fp,tn,J,H2,e,I2,T,st2,f2,hW⟩:=h2;subst e;refine qb (Q:=Q) (RR:=λ acc C=>compPost (model X.prog X.w) X.A X.xe none (EP X pins σ Q) acc C) ok (hc pins σ) B hcl hcl2 I2 T st2 f2 hW ?_;rintro D C H' s' hI ⟨m,hm⟩ _ _ _ _ _ q;exact⟨m,hm,λ h' hs'=>⟨.ref D,H',hI h' hs',rfl,q⟩⟩
def vL{py spos:Pos}(hN:X.N.Nodup)(hi':X.N[i]?=some y)(hy:Loc X.env.scope y)(ok:gM X scope own cap)(hc:∀ pins σ cs C N s0 H0 fp,Inv X pins σ H0 s0->cm (i7 X scope cs C N s0 H0 fp))(hi:MJ cm X tg iter wi)(B:iQ X scope own cap tg ifs elt g tt te)
  (hsw:swapsWith (.ListComp elt [⟨tg,iter,ifs,0⟩] scope pos) (some (.Name y py)) spos.line X.env=pure true:=by rfl)
  (hf:X.fn y=true\/X.env.scope.names.lookup y=some .local:=by first|exact .inl rfl|exact .inr rfl) (hs:∀ x,foldedSetIterable iter X.env x=pure x:=by intro _;rfl) :
  PS X (.Assign [.Name y py] (.ListComp elt [⟨tg,iter,ifs,0⟩] scope pos) spos) (HC (sF wi g tt te own.length cap) (su i)):=by
 intro pins s σ H D I h;obtain⟨cl,hclos,hcl,hcl2⟩:=mZ I ok;rw[exec_Assign_Name_used _ _ _ _ hsw];refine M6 (wpAny_standAt (M6 ?_));show wpAny _ X.A (do let _ <-comprehension (.ListComp elt [⟨tg,iter,ifs,0⟩] scope pos) scope X.env _ (newList []) false (eval iter X.env) (some (assign (.Name y py) X.env))) _ _ s;refine M6 (O3 (wpAny_comprehension_free (use:=some (assign (.Name y py) X.env)) (Q:=λ _ s'=>SP X pins D .next s') rfl hs hclos ok.kind (qd ok) (eK (hi pins s σ H _ I h) λ xv s1 h1=>eK h1 λ itv s2 h2=>?_)) (λ _ s' hq=>Nc (Nc hq)) λ _ _ e=>e);obtain⟨it,fp,tn,J,H2,e,I2,T,st2,f2,hW⟩:=h2;subst e;refine qb (Q:=λ v H'=>su i v σ H' D.nx) (RR:=λ acc C=>compPost (model X.prog X.w) X.A X.xe (some (assign (.Name y py) X.env)) (λ _ s'=>SP X pins D .next s') acc C) ok (hc pins σ) B hcl hcl2 I2 T st2 f2 hW ?_;rintro D' C H' s' hI ⟨m,hm⟩ hHC hC1 hC2 hC3 hC4 q;have I':Inv X pins σ H' s':=hI s'.heap (.refl ..);show wpAny _ X.A (assign (.Name y py) X.env (.ref D')) _ _ s';refine wpAny_assign_Name (sA I' hN hi' hy (show RelV (.ref D') (.ref D') from rfl) (λ s'' I'' ⟨a,hsa,ha⟩=>?_) hf);have ne:C≠a:=by
  rcases ha with rfl|ha
  ·exact hC2
  ·exact λ z=>hC3 y a ha z.symm
 refine⟨m,hm.sameBut hsa ne,λ h' hs'=>?_⟩;refine⟨_,H',I''.turned (t':=s''.toks) (h':=h') (it:=C) (λ b o hb e=>(hs'.2 b hb).trans e) hHC hC2 (.inr hC1) (λ x c e z=>hC3 x c e z) hC4,q⟩
def Fx (ok:gM X scope own cap)(hc:X.calm=true)(hi:PI X tg iter wi)(B:iQ X scope own cap tg ifs elt g tt te)(hs:∀ x,foldedSetIterable iter X.env x=pure x:=by intro _;rfl) :
  PE X (.ListComp elt [⟨tg,iter,ifs,0⟩] scope pos) (sF wi g tt te own.length cap):=CK (cm:=λ X=>X.calm=true) ok (λ _ _ _ _ _ _ _ _ _=>hc) hi B hs
def xS{py spos:Pos}(hN:X.N.Nodup)(hi':X.N[i]?=some y)(hy:Loc X.env.scope y)(ok:gM X scope own cap)(hc:X.calm=true)(hi:PI X tg iter wi)(B:iQ X scope own cap tg ifs elt g tt te)
  (hsw:swapsWith (.ListComp elt [⟨tg,iter,ifs,0⟩] scope pos) (some (.Name y py)) spos.line X.env=pure true:=by rfl)
  (hf:X.fn y=true\/X.env.scope.names.lookup y=some .local:=by first|exact .inl rfl|exact .inr rfl) (hs:∀ x,foldedSetIterable iter X.env x=pure x:=by intro _;rfl) :
  PS X (.Assign [.Name y py] (.ListComp elt [⟨tg,iter,ifs,0⟩] scope pos) spos) (HC (sF wi g tt te own.length cap) (su i)):=
 vL (cm:=λ X=>X.calm=true) hN hi' hy ok (λ _ _ _ _ _ _ _ _ _=>hc) hi B hsw hf hs
end
section
variable {prog:Program}
def pF {t:Addr}{items:Array Value}{x:Value}{Q:Value->Shared->Prop}(hit:s.heap.IsTupleIter it t i)(ht:s.heap.IsTuple t items)(hx:items[i]?=some x)
  (hQ:∀ h',h'.IsTupleIter it t (i+1)->Heap.SameBut it s.heap h'->Q x { s with heap:=h' }):wpAny (model prog w) A (Builtin.SmallTypes.nextOf (.ref it)) Q E s:=by
 obtain⟨o,ho,hc,hd⟩:=id hit;obtain⟨ot,hot,_,nt,hdt⟩:=ht;unfold Builtin.SmallTypes.nextOf;refine M6 (N7 (name:=Str.ofString "__next__") hit.typeIs Pu (N1 Pu hit.typeIs F.entry_tuple_iterator_next ?_ (F.args_tuple_iterator_next_1 _)));show wpAny _ _ (field (.ref it) 0 >>= _) _ _ s;refine M6 (OC ho hd (x:=.ref t) rfl ?_);show wpAny _ _ (if (Value.ref t == Value.none)=true then _ else _) _ _ s;rw[Nu (λ z:(Value.ref t == Value.none)=true=>Nd z)];show wpAny _ _ (field (.ref it) 1 >>= _) _ _ s;refine M6 (OC ho hd (x:=.int i 0) rfl ?_);show wpAny _ _ (seqItems? (.ref t) >>= _) _ _ s;refine M6 (OP hot hdt ?_);simp only[NS,hx];refine M6 (Ra ho hd (by simp) (Nc ⟨x,rfl,Nc (hQ _ ⟨_,O2 _ ho (Obj.isFreed_of_fields (Obj.data_mapFields hd _)),(Obj.cls_mapFields ..).trans hc,?_⟩ (OY ..))⟩));rw[Obj.data_mapFields hd];simp[rawInt]
def qf {t:Addr}{items:Array Value}{Q:Value->Shared->Prop}(hh:A.handled=none)(hit:s.heap.IsTupleIter it t i)(ht:s.heap.IsTuple t items)(hx:items[i]?=none)
  (hE:∀ h' e,Heap.ExtBut it s.heap h'->(∃ o,h'.get? e=some o/\o.cls=.type "StopIteration")->E (.ref e) { s with heap:=h' }):wpAny (model prog w) A (Builtin.SmallTypes.nextOf (.ref it)) Q E s:=by
 obtain⟨o,ho,hc,hd⟩:=id hit;obtain⟨ot,hot,_,nt,hdt⟩:=ht;unfold Builtin.SmallTypes.nextOf;refine M6 (N7 (name:=Str.ofString "__next__") hit.typeIs Pu (N1 Pu hit.typeIs F.entry_tuple_iterator_next ?_ (F.args_tuple_iterator_next_1 _)));show wpAny _ _ (field (.ref it) 0 >>= _) _ _ s;refine M6 (OC ho hd (x:=.ref t) rfl ?_);show wpAny _ _ (if (Value.ref t == Value.none)=true then _ else _) _ _ s;rw[Nu (λ z:(Value.ref t == Value.none)=true=>Nd z)];show wpAny _ _ (field (.ref it) 1 >>= _) _ _ s;refine M6 (OC ho hd (x:=.int i 0) rfl ?_);show wpAny _ _ (seqItems? (.ref t) >>= _) _ _ s;refine M6 (OP hot hdt ?_);simp only[NS,hx];refine M6 (Qa (M6 (Ra ho hd (by simp) ?_)));show wpAny _ _ (newExc (.type "StopIteration") [] >>= _) _ _ _;refine M6 ?_;simp only[newExc,newTuple];refine M6 (N5 ?_ (by size_fits));refine M6 (m:=firstArgMember _ _) (wpAny_of_eq (a:=Value.none) (by first|rfl|(simp only[firstArgMember];rfl)) ?_);refine N5 ?_ (by size_fits);simp only[raiseNew];refine M6 (Rv ?_)
 first|rw[show A.in1.handled=none from hh]|rw[hh]
 exact M6 (Nc (wpAny_throw (hE _ _ (((OY ..).extBut.push _).push _) ⟨_,Nj _ rfl,rfl⟩)))
end
def zv{h:Heap}{p:Addr}{o:HO}(x:ki P w H h)(hn:H p=none)(new:bZ P w (upd H p o) h p o):ki P w (upd H p o) h:=λ a u e=>by
 by_cases q:a=p
 ·subst q;rw[aK]at e;cases e;exact new
 ·rw[aN q]at e;exact(x a u e).stay (λ _ _ _ z=>z) (λ b z=>by rw[aN (bK z hn)];exact z) λ b xs z=>by rw[aN (bK z hn)];exact z
def mw {h:Heap}{its:Array Value}(x:IsTup h a its):h.IsTuple a its:=by
 obtain⟨o,h1,h2,h3⟩:=x;exact⟨o,h1,h2,h3⟩
section
variable{elts:List Expr}{x1:Nat}{tp p:Pos}{l:Expr}{ta:TA}
end
section
def oU:eY X (.builtin "sorted") (λ xs H Q=>∃ (a:Addr) (ns:List Int),xs=[.ref a]/\cY X.K H a (ns.map V.int)/\ns.length<64/\∀ (p:Addr) (ns':List Int),H p=none->ns'.Perm ns->ns'.Pairwise (· <= ·)->Q (.ref p) (upd H p (.lst (ns'.map V.int)))):=by
 intro pins s σ H xs us Q I r h;obtain⟨a,ns,rfl,hq,hl,q⟩:=h;obtain⟨u,rfl,ru⟩:=vals1 r;cases ru;obtain⟨its,rv,pl,hz⟩:=I.list hq;have hi:=intsAre_of rv;have hlen:=rv.length;rw[M7]at hlen;refine sorted_ints pl.isList hi (by omega) λ out ns' a1 a2 a3=>?_;obtain⟨e,he⟩:=sortedAll_at s.heap its out;refine⟨.ref (s.heap.objs.size+1),_,I.laid (t':=s.toks) (λ b o z=>sortedAll_old z) (Qt _) ?_,rfl,q _ ns' (I.hok.fresh (Qt _)) a2 a3⟩;refine⟨?_,out.toList,e,lz a1,by rw[QP];exact he⟩;rw[M7,a2.length_eq];exact N9 (Ph hl) (by decide)
def dd (ns:List Int):List Int:=firstMet (λ i=>ns.getD i 0) ns.length
end
def CL (scope sc:Scope):Scope:=
 { scope with names:=scope.names.map λ (n,k)=>if (k == .free&&sc.kind == .function&&sc.names.lookup n == some .cell) then (n,.cell) else (n,k) }
def Il (scope:Scope)(env:Env):relabel scope env=CL scope env.scope:=rfl
def zw (sc:Scope)(N:List Str)(scope:Scope)(cap:List (Str×Nat)):Bool:=
 decide (scope.kind=.function)&&decide ((scope.names.map (·.1)).Nodup) &&
 (scope.names.all λ y=>!(y.2 == .free)||(sc.names.lookup y.1 == some .cell||sc.names.lookup y.1 == some .free)) &&
 (cap.all λ p=>(N[p.2]? == some p.1)&&scope.names.contains (p.1,NameKind.free))
def a9{own:List Str}(sc:Scope)(hsc:X.env.scope=sc)(N:List Str)(hN:X.N=N)(h:zw sc N scope cap=true):gM X scope own cap:=by
 simp only[zw,NQ,Og]at h;obtain⟨⟨⟨h1,h2⟩,h3⟩,h4⟩:=h;refine⟨h1,h2,λ y hy hk=>?_,λ p hp=>?_⟩
 ·have q:=Qd.mp h3 y hy;show X.env.scope.names.lookup y.1=some .cell\/X.env.scope.names.lookup y.1=some .free;rw[hsc];rw[hk]at q;simpa using q
 ·have q:=Qd.mp h4 p hp;rw[NQ]at q;rw[hN];exact⟨by simpa using q.1,by simpa using q.2⟩
structure oh (P:Program)(w:World)(K:PySem.W.Frag)(mg:Str->Option Value)(base:Heap)(k:Nat)(x:Str)(ps:List Str)(sp:Sp):Prop where
 ex:∃ f fd,mg x=some (.ref f)/\PySem.W.keepIn K (.ref f)=true/\Binds K fd ps []/\pW P w K mg base A6 k f fd ps sp
structure oV (K:PySem.W.Frag)(mg:Str->Option Value)(x:Str)(st:Stmt)(ps:List Str):Prop where
 ex:∃ f fd,Fq K x x st f fd/\mg x=some (.ref f)/\Binds K fd ps []
section
variable{k:Nat}{p:Pos}{e:Expr}{es:List Expr}{t:TA}
def Ik (C:oh X.prog X.w X.K X.mg X.base k x ps sp)(hr:gz k X.A)(hg:Gl X x)(ha:PA X (e::es) t)(hdb:(x == ("__debug__" : Str))=false:=by decide)
  (he:starEach (e::es) X.env=(false,eval e X.env)::starEach es X.env:=by rfl) (hpl:(backTo pos (starEach es X.env)).any (·.1)=false:=by rfl):PE X (.Call (.Name x p) (e::es) [] pos) (GZ sp [] E0 t):=by
 obtain⟨f,fd,hm,hk,hb,F⟩:=C.ex;exact EZ F hr hg hm hk hb .nil Kv ha hdb he hpl
end
end L2
namespace DL
open PySem PySem.Spec PyProof.Rows L2
variable {a:Addr}{F F':Addr->Prop}{X:Cx}{e tg:Expr}{o:HO}{base:Heap}{B B' B0 B1 H H' H0 H1:Hp}{σ:L2.St}{cap:List (Str×Nat)}{P f fp:List Addr}{es:List Expr}{N ps:List Str}{vs:List V}{i m n:Nat}{p p1 pos pos':Pos}{C:Prop}{r:R2}{st:Stmt}{x:Str}{mg:Str->Option Value}{T:String}{α β:Type}{v:V}{Q:VK}{w:World}
inductive Tg where|own|bor|ak|len (a:Addr)
 deriving DecidableEq
abbrev KT:=Sum Key (List Key)
variable {ks:List KT}
inductive D where
 |bx|bl (b:Bool)|int (i:Int)|str (x:Str)
 |tup (xs:List D)|lst (t:Tg) (xs:List D)|dct (t:Tg) (k:Bool) (ks:List KT) (vs:List D)
 |exc (C:Addr)
variable {d:D}{ds xs:List D}
abbrev SD:=List (Option D)
variable {τ:SD}
inductive Res (α:Type) where|ok (a:α)|f7 (C:Addr)|bad
variable {g:D->D->Res D}{it:SD->Res (Bool×List D)}{c gc tt:SD->Res Bool}{elt fe:SD->Res D}
def Res.bind:Res α->(α->Res β)->Res β
 |.ok a,f=>f a
 |.f7 c,_=>.f7 c
 |.bad,_=>.bad
def Res.map(f:α->β)(r:Res α):Res β:=r.bind λ a=>.ok (f a)
@[simp] theorem Res.aH(a:α)(f:α->Res β):(Res.ok a).bind f=f a:=rfl
@[simp] theorem Res.jo(c:Addr)(f:α->Res β):(Res.f7 c:Res α).bind f=.f7 c:=rfl
@[simp] theorem Res.jn(f:α->Res β):(Res.bad:Res α).bind f=.bad:=rfl
@[simp] theorem Res.Me(a:α)(f:α->β):Res.map f (Res.ok a)=.ok (f a):=rfl
def Tg.kH:Tg->Bool|.own=>true|.len _=>true|_=>false
def Tg.view:Tg->Tg|.own=>.bor|.len _=>.bor|t=>t
def Tg.aM:Tg->Tg|.ak=>.bor|t=>t
mutual
def D.view:D->D
 |.tup xs=>.tup (bG xs)
 |.lst t xs=>.lst t.view (bG xs)
 |.dct t k ks vs=>.dct t.view k ks (bG vs)
 |d=>d
def bG:List D->List D
 |[]=>[]
 |d::r=>d.view::bG r
end
mutual
def D.ak:D->D
 |.tup xs=>.tup (aG xs)
 |.lst _ xs=>.lst .ak (aG xs)
 |.dct _ k ks vs=>.dct .ak k ks (aG vs)
 |d=>d
def aG:List D->List D
 |[]=>[]
 |d::r=>d.ak::aG r
end
mutual
def D.aM:D->D
 |.tup xs=>.tup (bu xs)
 |.lst t xs=>.lst t.aM (bu xs)
 |.dct t k ks vs=>.dct t.aM k ks (bu vs)
 |d=>d
def bu:List D->List D
 |[]=>[]
 |d::r=>d.aM::bu r
end
mutual
def D.az:D->Bool
 |.tup xs=>au xs
 |.lst t xs=>decide (t=.bor)||au xs
 |.dct t _ _ vs=>decide (t=.bor)||au vs
 |_=>false
def au:List D->Bool
 |[]=>false
 |d::r=>d.az||au r
end
mutual
def D.pure:D->Bool
 |.tup xs=>aI xs
 |.lst _ _=>false
 |.dct _ _ _ _=>false
 |_=>true
def aI:List D->Bool
 |[]=>true
 |d::r=>d.pure&&aI r
end
mutual
def sI:∀ d:D,d.pure=true->d.view=d
 |.bx,_=>rfl|.bl _,_=>rfl|.int _,_=>rfl|.str _,_=>rfl|.exc _,_=>rfl
 | .tup xs,h=>by
  have h:aI xs=true:=h;show D.tup (bG xs)=_;rw[dX xs h]
 |.lst _ _,h=>by cases h
 |.dct _ _ _ _,h=>by cases h
def dX:∀ xs:List D,aI xs=true->bG xs=xs
 |[],_=>rfl
 | d::r,h=>by
  have h:(d.pure&&aI r)=true:=h;rw[NQ]at h;show d.view::bG r=_;rw[sI d h.1,dX r h.2]
end
mutual
def bL:∀ d:D,d.pure=true->d.ak=d
 |.bx,_=>rfl|.bl _,_=>rfl|.int _,_=>rfl|.str _,_=>rfl|.exc _,_=>rfl
 | .tup xs,h=>by
  have h:aI xs=true:=h;show D.tup (aG xs)=_;rw[dO xs h]
 |.lst _ _,h=>by cases h
 |.dct _ _ _ _,h=>by cases h
def dO:∀ xs:List D,aI xs=true->aG xs=xs
 |[],_=>rfl
 | d::r,h=>by
  have h:(d.pure&&aI r)=true:=h;rw[NQ]at h;show d.ak::aG r=_;rw[bL d h.1,dO r h.2]
end
mutual
def qg:∀ d:D,d.pure=true->d.aM=d
 |.bx,_=>rfl|.bl _,_=>rfl|.int _,_=>rfl|.str _,_=>rfl|.exc _,_=>rfl
 | .tup xs,h=>by
  have h:aI xs=true:=h;show D.tup (bu xs)=_;rw[dW xs h]
 |.lst _ _,h=>by cases h
 |.dct _ _ _ _,h=>by cases h
def dW:∀ xs:List D,aI xs=true->bu xs=xs
 |[],_=>rfl
 | d::r,h=>by
  have h:(d.pure&&aI r)=true:=h;rw[NQ]at h;show d.aM::bu r=_;rw[qg d h.1,dW r h.2]
end
mutual
def ck:∀ d:D,d.pure=true->d.az=false
 |.bx,_=>rfl|.bl _,_=>rfl|.int _,_=>rfl|.str _,_=>rfl|.exc _,_=>rfl|.tup xs,h=>bM xs h
 |.lst _ _,h=>by cases h
 |.dct _ _ _ _,h=>by cases h
def bM:∀ xs:List D,aI xs=true->au xs=false
 |[],_=>rfl
 | d::r,h=>by
  have h:(d.pure&&aI r)=true:=h;rw[NQ]at h;show(d.az||au r)=false;rw[ck d h.1,bM r h.2];rfl
end
def bo:∀ {xs:List D},(∀ d∈xs,d.pure=true)->aI xs=true
 |[],_=>rfl
 | d::r,h=>by
  show(d.pure&&aI r)=true;rw[h d Na,bo λ x hx=>h x (Nb _ hx)];rfl
def sG:∀ {xs:List D},aI xs=true->∀ d∈xs,d.pure=true
 | d::r,h,x,hx=>by
  have h:(d.pure&&aI r)=true:=h;rw[NQ]at h;rcases Nq.mp hx with e|e
  ·rw[e];exact h.1
  ·exact sG h.2 x e
def kG:∀ xs:List D,bG xs=xs.map D.view
 |[]=>rfl|d::r=>by rw[bG,kG r];rfl
def iR:∀ xs:List D,aG xs=xs.map D.ak
 |[]=>rfl|d::r=>by rw[aG,iR r];rfl
def jm:∀ xs:List D,bu xs=xs.map D.aM
 |[]=>rfl|d::r=>by rw[bu,jm r];rfl
def qh:∀ xs:List D,au xs=xs.any D.az
 |[]=>rfl|d::r=>by rw[au,qh r];rfl
def DictAt (H:Hp)(a:Addr)(k:Bool)(ks:List KT)(vs:List V):Prop:=
 (k=false/\∃ (kvs:List (Key×V)) (ep:Nat),H a=some (.dK kvs ep)/\ks=kvs.map (λ p=>Sum.inl p.1)/\vs=kvs.map (·.2)) ∨
 (k=true/\∃ (kvs:List (List Key×V)) (ep:Nat),H a=some (.dT kvs ep)/\ks=kvs.map (λ p=>Sum.inr p.1)/\vs=kvs.map (·.2))
def ExcAt (H:Hp)(a C:Addr):Prop:=∃ (t:Addr) (tb:Value) (u:HO),H a=some (.ak { cls:=.ref C,data:=.fields #[.ref t,tb,.none,.none,.bool false,.none] } u)
mutual
def Rep (K:PySem.W.Frag)(B:Hp)(S:Addr->Prop)(H:Hp):D->V->List Addr->Prop
 |.bx,v,fp=>v=.bx/\fp=[]
 |.bl b,v,fp=>v=.bl b/\fp=[]
 |.int i,v,fp=>v=.int i/\fp=[]
 |.str x,v,fp=>v=.str x/\fp=[]
 |.exc x,v,fp=>(∃ a,v=.ref a/\ExcAt H a x)/\fp=[]
 |.tup xs,v,fp=>∃ a vs,v=.ref a/\H a=some (.tup vs)/\ai K B S H xs vs fp
 |.lst .own xs,v,fp=>∃ a vs f,v=.ref a/\H a=some (.lst vs)/\ai K B S H xs vs f/\fp=a::f
 |.lst .bor xs,v,fp=>∃ a vs,v=.ref a/\((S a/\cY K H a vs)\/cY K B a vs)/\ai K B S H xs vs []/\fp=[]
 |.lst .ak xs,v,fp=>∃ a vs,v=.ref a/\cY K B a vs/\ai K B (λ _=>False) H xs vs []/\fp=[]
 |.lst (.len _) _,_,_=>False
 |.dct (.len p) k ks xs,v,fp=>∃ vs f,v=.ref p/\DictAt H p k ks vs/\ai K B S H xs vs f/\fp=p::f
 |.dct .own k ks xs,v,fp=>∃ a vs f,v=.ref a/\DictAt H a k ks vs/\ai K B S H xs vs f/\fp=a::f
 |.dct .bor k ks xs,v,fp=>∃ a vs,v=.ref a/\((S a/\DictAt H a k ks vs)\/DictAt B a k ks vs)/\ai K B S H xs vs []/\fp=[]
 |.dct .ak k ks xs,v,fp=>∃ a vs,v=.ref a/\DictAt B a k ks vs/\ai K B (λ _=>False) H xs vs []/\fp=[]
def ai (K:PySem.W.Frag)(B:Hp)(S:Addr->Prop)(H:Hp):List D->List V->List Addr->Prop
 |[],vs,fp=>vs=[]/\fp=[]
 |d::ds,vs,fp=>∃ v r f g,vs=v::r/\Rep K B S H d v f/\ai K B S H ds r g/\fp=f++g
end
def eO {K:PySem.W.Frag}(s:aq H H'){xs:List V}(h:cY K H a xs):cY K H' a xs:=s.seq h
def DictAt.mono(s:aq H H'){k:Bool}(h:DictAt H a k ks vs):DictAt H' a k ks vs:=by
 rcases h with ⟨z,kvs,ep,h,r⟩|⟨z,kvs,ep,h,r⟩
 ·exact .inl ⟨z,kvs,ep,s _ _ h,r⟩
 ·exact .inr ⟨z,kvs,ep,s _ _ h,r⟩
def ExcAt.mono(s:aq H H'){C:Addr}(h:ExcAt H a C):ExcAt H' a C:=let ⟨t,tb,u,h⟩:=h;⟨t,tb,u,s _ _ h⟩
section
variable {K:PySem.W.Frag}
mutual
def Rep.mono {B B' H H':Hp}{S S':Addr->Prop}(sH:aq H H')(sB:aq B B')(sS:∀ a,S a->S' a):∀ {d:D}{v:V}{fp:List Addr},Rep K B S H d v fp->Rep K B' S' H' d v fp
 |.bx,_,_,h=>h
 |.bl _,_,_,h=>h
 |.int _,_,_,h=>h
 |.str _,_,_,h=>h
 |.exc _,_,_,h=>let ⟨⟨a,e,z⟩,r⟩:=h;⟨⟨a,e,z.mono sH⟩,r⟩
 |.tup xs,v,fp,h=>let ⟨a,vs,e,q,r⟩:=h;⟨a,vs,e,sH _ _ q,ai.mono sH sB sS r⟩
 |.lst .own xs,v,fp,h=>let ⟨a,vs,f,e,q,r,z⟩:=h;⟨a,vs,f,e,sH _ _ q,ai.mono sH sB sS r,z⟩
 |.lst .bor xs,v,fp,h=>let ⟨a,vs,e,q,r,z⟩:=h;⟨a,vs,e,q.imp (λ y=>⟨sS _ y.1,eO sH y.2⟩) (λ y=>eO sB y),ai.mono sH sB sS r,z⟩
 |.lst .ak xs,v,fp,h=>let ⟨a,vs,e,q,r,z⟩:=h;⟨a,vs,e,eO sB q,ai.mono sH sB (λ _ x=>x) r,z⟩
 |.lst (.len _) _,_,_,h=>h.elim
 |.dct (.len a) k ks xs,v,fp,h=>let ⟨vs,f,e,q,r,z⟩:=h;⟨vs,f,e,q.mono sH,ai.mono sH sB sS r,z⟩
 |.dct .own k ks xs,v,fp,h=>let ⟨a,vs,f,e,q,r,z⟩:=h;⟨a,vs,f,e,q.mono sH,ai.mono sH sB sS r,z⟩
 |.dct .bor k ks xs,v,fp,h=>let ⟨a,vs,e,q,r,z⟩:=h;⟨a,vs,e,q.imp (λ y=>⟨sS _ y.1,y.2.mono sH⟩) (λ y=>y.mono sB),ai.mono sH sB sS r,z⟩
 |.dct .ak k ks xs,v,fp,h=>let ⟨a,vs,e,q,r,z⟩:=h;⟨a,vs,e,q.mono sB,ai.mono sH sB (λ _ x=>x) r,z⟩
def ai.mono {B B' H H':Hp}{S S':Addr->Prop}(sH:aq H H')(sB:aq B B')(sS:∀ a,S a->S' a):∀ {ds:List D}{vs:List V}{fp:List Addr},ai K B S H ds vs fp->ai K B' S' H' ds vs fp
 |[],_,_,h=>h
 |d::ds,vs,fp,h=>let ⟨v,r,f,g,e,h1,h2,z⟩:=h;⟨v,r,f,g,e,Rep.mono sH sB sS h1,ai.mono sH sB sS h2,z⟩
end
def ai.length {B H:Hp}{S:Addr->Prop}:∀ {ds:List D}{vs:List V}{fp:List Addr},ai K B S H ds vs fp->ds.length=vs.length
 |[],_,_,h=>by rw[h.1];rfl
 | d::ds,vs,fp,h=>by
  obtain⟨v,r,f,g,e,h1,h2,z⟩:=h;rw[e,Ny,Ny,ai.length h2]
def lW {g:List Addr}(h:([]:List Addr)=f++g):f=[]/\g=[]:=List.append_eq_nil_iff.mp h.symm
def ai.get {B H:Hp}{S:Addr->Prop}:∀ {ds:List D}{vs:List V}{fp:List Addr}{i:Nat}{d:D},ai K B S H ds vs fp->ds[i]?=some d->∃ v f,vs[i]?=some v/\Rep K B S H d v f/\List.Sublist f fp
 |[],_,_,i,_,_,e=>by simp at e
 | d::ds,vs,fp,0,d',h,e=>by
  obtain⟨v,r,f,g,e1,h1,h2,z⟩:=h;have e:d=d':=by simpa using e
  subst e e1 z;exact⟨v,f,rfl,h1,NV _ _⟩
 | d::ds,vs,fp,i+1,d',h,e=>by
  obtain⟨v,r,f,g,e1,h1,h2,z⟩:=h;subst e1 z;obtain⟨w,f',a1,a2,a3⟩:=ai.get (i:=i) h2 (by simpa using e);exact⟨w,f',by simpa using a1,a2,a3.trans (NL _ _)⟩
def ai.append {B H:Hp}{S:Addr->Prop}:∀ {xs ys:List D}{us vs:List V}{f g:List Addr},ai K B S H xs us f->ai K B S H ys vs g->ai K B S H (xs++ys) (us++vs) (f++g)
 | [],ys,us,vs,f,g,h,h'=>by
  obtain⟨rfl,rfl⟩:=h;exact h'
 | d::ds,ys,us,vs,f,g,h,h'=>by
  obtain⟨v,r,f1,f2,e1,h1,h2,z⟩:=h;subst e1 z;exact⟨v,r++vs,f1,f2++g,rfl,h1,ai.append h2 h',by rw[NT]⟩
def ai.one{S:Addr->Prop}(h:Rep K B S H d v f):ai K B S H [d] [v] f:=⟨v,[],f,[],rfl,h,⟨rfl,rfl⟩,(NX _).symm⟩
def ai.split {B H:Hp}{S:Addr->Prop}:∀ {xs ys:List D}{vs:List V}{f:List Addr},ai K B S H (xs++ys) vs f->∃ us ws g h,vs=us++ws/\f=g++h/\ai K B S H xs us g/\ai K B S H ys ws h
 |[],ys,vs,f,h=>⟨[],vs,[],f,rfl,rfl,⟨rfl,rfl⟩,h⟩
 | d::ds,ys,vs,f,h=>by
  obtain⟨v,r,f1,f2,e1,h1,h2,z⟩:=h;subst e1 z;obtain⟨us,ws,g,h',e1,e2,a,b⟩:=ai.split h2;subst e1 e2;exact⟨v::us,ws,f1++g,h',rfl,by rw[NT],⟨v,us,f1,g,rfl,h1,a,rfl⟩,b⟩
def m9{S:Addr->Prop}:(∀ (d:D) {v:V}{fp:List Addr},d.pure=true->Rep K B S H d v fp->fp=[])/\(∀ (ds:List D) {vs:List V}{fp:List Addr},aI ds=true->ai K B S H ds vs fp->fp=[]):=by
 refine⟨λ d=>?_,λ ds=>?_⟩
 ·exact D.rec (motive_1:=λ d=>∀ {v:V}{fp:List Addr},d.pure=true->Rep K B S H d v fp->fp=[]) (motive_2:=λ ds=>∀ {vs:List V}{fp:List Addr},aI ds=true->ai K B S H ds vs fp->fp=[])
   (λ _ h=>h.2) (λ _ _ _ _ h=>h.2) (λ _ _ _ _ h=>h.2) (λ _ _ _ _ h=>h.2) (λ xs ih _ _ p h=>let ⟨_,_,_,_,r⟩:=h;ih p r) (λ _ _ _ _ _ p=>by cases p) (λ _ _ _ _ _ _ _ p=>by cases p) (λ _ _ _ _ h=>h.2) (λ _ h=>h.2)
   (λ d r ih1 ih2 _ _ p h=>by
    have p:(d.pure&&aI r)=true:=p;rw[NQ]at p;obtain⟨_,_,_,_,_,h1,h2,z⟩:=h;rw[z,ih1 p.1 h1,ih2 p.2 h2];rfl) d
 ·exact D.rec_1 (motive_1:=λ d=>∀ {v:V}{fp:List Addr},d.pure=true->Rep K B S H d v fp->fp=[]) (motive_2:=λ ds=>∀ {vs:List V}{fp:List Addr},aI ds=true->ai K B S H ds vs fp->fp=[])
   (λ _ h=>h.2) (λ _ _ _ _ h=>h.2) (λ _ _ _ _ h=>h.2) (λ _ _ _ _ h=>h.2) (λ xs ih _ _ p h=>let ⟨_,_,_,_,r⟩:=h;ih p r) (λ _ _ _ _ _ p=>by cases p) (λ _ _ _ _ _ _ _ p=>by cases p) (λ _ _ _ _ h=>h.2) (λ _ h=>h.2)
   (λ d r ih1 ih2 _ _ p h=>by
    have p:(d.pure&&aI r)=true:=p;rw[NQ]at p;obtain⟨_,_,_,_,_,h1,h2,z⟩:=h;rw[z,ih1 p.1 h1,ih2 p.2 h2];rfl) ds
end
abbrev No:Addr->Prop:=λ _=>False
section
variable {K:PySem.W.Frag}
mutual
def Rep.view {B H:Hp}{S:Addr->Prop}:∀ {d:D}{v:V}{fp:List Addr},Rep K B No H d v fp->(∀ a∈fp,S a)->Rep K B S H d.view v []
 |.bx,_,_,h,_=>⟨h.1,rfl⟩
 |.bl _,_,_,h,_=>⟨h.1,rfl⟩
 |.int _,_,_,h,_=>⟨h.1,rfl⟩
 |.str _,_,_,h,_=>⟨h.1,rfl⟩
 |.exc _,_,_,h,_=>⟨h.1,rfl⟩
 |.tup xs,v,fp,h,hs=>let ⟨a,vs,e,q,r⟩:=h;⟨a,vs,e,q,ai.view r hs⟩
 | .lst .own xs,v,fp,h,hs=>by
  obtain⟨a,vs,f,e,q,r,z⟩:=h;subst z;exact⟨a,vs,e,.inl ⟨hs a Na,cY.of q⟩,ai.view r λ b hb=>hs b (Nb _ hb),rfl⟩
 |.lst .bor xs,v,fp,h,hs=>let ⟨a,vs,e,q,r,z⟩:=h;⟨a,vs,e,.inr (q.resolve_left λ y=>y.1),ai.view r (λ _ x=>by cases x),rfl⟩
 |.lst .ak xs,v,fp,h,hs=>let ⟨a,vs,e,q,r,z⟩:=h;⟨a,vs,e,q,ai.view (S:=No) r (λ _ x=>by cases x),rfl⟩
 |.lst (.len _) _,_,_,h,_=>h.elim
 | .dct (.len a) kd ks xs,v,fp,h,hs=>by
  obtain⟨vs,f,e,q,r,z⟩:=h;subst z;exact⟨a,vs,e,.inl ⟨hs a Na,q⟩,ai.view r λ b hb=>hs b (Nb _ hb),rfl⟩
 | .dct .own kd ks xs,v,fp,h,hs=>by
  obtain⟨a,vs,f,e,q,r,z⟩:=h;subst z;exact⟨a,vs,e,.inl ⟨hs a Na,q⟩,ai.view r λ b hb=>hs b (Nb _ hb),rfl⟩
 |.dct .bor kd ks xs,v,fp,h,hs=>let ⟨a,vs,e,q,r,z⟩:=h;⟨a,vs,e,.inr (q.resolve_left λ y=>y.1),ai.view r (λ _ x=>by cases x),rfl⟩
 |.dct .ak kd ks xs,v,fp,h,hs=>let ⟨a,vs,e,q,r,z⟩:=h;⟨a,vs,e,q,ai.view (S:=No) r (λ _ x=>by cases x),rfl⟩
def ai.view {B H:Hp}{S:Addr->Prop}:∀ {ds:List D}{vs:List V}{fp:List Addr},ai K B No H ds vs fp->(∀ a∈fp,S a)->ai K B S H (bG ds) vs []
 |[],_,_,h,_=>⟨h.1,rfl⟩
 | d::ds,vs,fp,h,hs=>by
  obtain⟨v,r,f,g,e,h1,h2,z⟩:=h;subst z;exact⟨v,r,[],[],e,Rep.view h1 (λ b hb=>hs b (Nt _ hb)),ai.view h2 (λ b hb=>hs b (Nz _ hb)),rfl⟩
end
def CM{S:Addr->Prop}(sB:aq B B')(hs:∀ a o,S a->H a=some o->B' a=some o)(q:(S a/\cY K H a vs)\/cY K B a vs):cY K B' a vs:=by
 rcases q with ⟨s,(q|⟨o,q⟩)|q⟩|q
 ·exact .inl (.inl (hs _ _ s q))
 ·exact .inl (.inr ⟨o,hs _ _ s q⟩)
 ·exact .inr q
 ·exact sB.seq q
def lC{S:Addr->Prop}{kd:Bool}(sB:aq B B')(hs:∀ a o,S a->H a=some o->B' a=some o)(q:(S a/\DictAt H a kd ks vs)\/DictAt B a kd ks vs):DictAt B' a kd ks vs:=by
 rcases q with ⟨s,⟨z,kvs,ep,q,r⟩|⟨z,kvs,ep,q,r⟩⟩|q
 ·exact .inl ⟨z,kvs,ep,hs _ _ s q,r⟩
 ·exact .inr ⟨z,kvs,ep,hs _ _ s q,r⟩
 ·exact q.mono sB
mutual
def Rep.ak {B B' H:Hp}{S:Addr->Prop}(sB:aq B B')(hs:∀ a o,S a->H a=some o->B' a=some o):∀ {d:D}{v:V}{fp:List Addr},Rep K B S H d v fp->(∀ a∈fp,∀ o,H a=some o->B' a=some o)->Rep K B' No H d.ak v []
 |.bx,_,_,h,_=>⟨h.1,rfl⟩
 |.bl _,_,_,h,_=>⟨h.1,rfl⟩
 |.int _,_,_,h,_=>⟨h.1,rfl⟩
 |.str _,_,_,h,_=>⟨h.1,rfl⟩
 |.exc _,_,_,h,_=>⟨h.1,rfl⟩
 |.tup xs,v,fp,h,hf=>let ⟨a,vs,e,q,r⟩:=h;⟨a,vs,e,q,ai.ak sB hs r hf⟩
 | .lst .own xs,v,fp,h,hf=>by
  obtain⟨a,vs,f,e,q,r,z⟩:=h;subst z;exact⟨a,vs,e,cY.of (hf a Na _ q),ai.ak sB hs r λ b hb=>hf b (Nb _ hb),rfl⟩
 |.lst .bor xs,v,fp,h,hf=>let ⟨a,vs,e,q,r,z⟩:=h;⟨a,vs,e,CM sB hs q,ai.ak sB hs r (λ _ x=>by cases x),rfl⟩
 |.lst .ak xs,v,fp,h,hf=>let ⟨a,vs,e,q,r,z⟩:=h;⟨a,vs,e,eO sB q,ai.ak sB (λ _ _ x=>x.elim) r (λ _ x=>by cases x),rfl⟩
 |.lst (.len _) _,_,_,h,_=>h.elim
 | .dct (.len a) kd ks xs,v,fp,h,hf=>by
  obtain⟨vs,f,e,q,r,z⟩:=h;subst z;refine⟨a,vs,e,?_,ai.ak sB hs r λ b hb=>hf b (Nb _ hb),rfl⟩;exact lC (S:=λ b=>b=a) sB (λ b o eb=>by rw[eb];exact hf a Na o) (.inl ⟨rfl,q⟩)
 | .dct .own kd ks xs,v,fp,h,hf=>by
  obtain⟨a,vs,f,e,q,r,z⟩:=h;subst z;refine⟨a,vs,e,?_,ai.ak sB hs r λ b hb=>hf b (Nb _ hb),rfl⟩;exact lC (S:=λ b=>b=a) sB (λ b o eb=>by rw[eb];exact hf a Na o) (.inl ⟨rfl,q⟩)
 |.dct .bor kd ks xs,v,fp,h,hf=>let ⟨a,vs,e,q,r,z⟩:=h;⟨a,vs,e,lC sB hs q,ai.ak sB hs r (λ _ x=>by cases x),rfl⟩
 |.dct .ak kd ks xs,v,fp,h,hf=>let ⟨a,vs,e,q,r,z⟩:=h;⟨a,vs,e,q.mono sB,ai.ak sB (λ _ _ x=>x.elim) r (λ _ x=>by cases x),rfl⟩
def ai.ak {B B' H:Hp}{S:Addr->Prop}(sB:aq B B')(hs:∀ a o,S a->H a=some o->B' a=some o):∀ {ds:List D}{vs:List V}{fp:List Addr},ai K B S H ds vs fp->(∀ a∈fp,∀ o,H a=some o->B' a=some o)->ai K B' No H (aG ds) vs []
 |[],_,_,h,_=>⟨h.1,rfl⟩
 | d::ds,vs,fp,h,hf=>by
  obtain⟨v,r,f,g,e,h1,h2,z⟩:=h;subst z;exact⟨v,r,[],[],e,Rep.ak sB hs h1 (λ b hb=>hf b (Nt _ hb)),ai.ak sB hs h2 (λ b hb=>hf b (Nz _ hb)),rfl⟩
end
def vN{S:Addr->Prop}(sH:aq B H)(hb:∀ a o,B a=some o->B' a=some o\/S a)(q:cY K B a vs):(S a/\cY K H a vs)\/cY K B' a vs:=by
 rcases q with (q|⟨o,q⟩)|q
 ·exact(hb _ _ q).symm.imp (λ s=>⟨s,cY.of (sH _ _ q)⟩) λ z=>.inl (.inl z)
 ·exact(hb _ _ q).symm.imp (λ s=>⟨s,.inl (.inr ⟨o,sH _ _ q⟩)⟩) λ z=>.inl (.inr ⟨o,z⟩)
 ·exact .inr (.inr q)
def oW{S:Addr->Prop}{kd:Bool}(sH:aq B H)(hb:∀ a o,B a=some o->B' a=some o\/S a)(q:DictAt B a kd ks vs):(S a/\DictAt H a kd ks vs)\/DictAt B' a kd ks vs:=by
 rcases q with ⟨y,kvs,ep,q,r⟩|⟨y,kvs,ep,q,r⟩
 ·exact(hb _ _ q).symm.imp (λ s=>⟨s,.inl ⟨y,kvs,ep,sH _ _ q,r⟩⟩) λ z=>.inl ⟨y,kvs,ep,z,r⟩
 ·exact(hb _ _ q).symm.imp (λ s=>⟨s,.inr ⟨y,kvs,ep,sH _ _ q,r⟩⟩) λ z=>.inr ⟨y,kvs,ep,z,r⟩
mutual
def Rep.aM {B B' H:Hp}{S:Addr->Prop}(sH:aq B H)(hb:∀ a o,B a=some o->B' a=some o\/S a):∀ {d:D}{v:V}{fp:List Addr},Rep K B No H d v fp->Rep K B' S H d.aM v fp
 |.bx,_,_,h=>h
 |.bl _,_,_,h=>h
 |.int _,_,_,h=>h
 |.str _,_,_,h=>h
 |.exc _,_,_,h=>h
 |.tup xs,v,fp,h=>let ⟨a,vs,e,q,r⟩:=h;⟨a,vs,e,q,ai.aM sH hb r⟩
 |.lst .own xs,v,fp,h=>let ⟨a,vs,f,e,q,r,z⟩:=h;⟨a,vs,f,e,q,ai.aM sH hb r,z⟩
 |.lst .bor xs,v,fp,h=>let ⟨a,vs,e,q,r,z⟩:=h;⟨a,vs,e,vN sH hb (q.resolve_left λ y=>y.1),ai.aM sH hb r,z⟩
 |.lst .ak xs,v,fp,h=>let ⟨a,vs,e,q,r,z⟩:=h;⟨a,vs,e,vN sH hb q,ai.aM sH hb r,z⟩
 |.lst (.len _) _,_,_,h=>h.elim
 |.dct (.len a) kd ks xs,v,fp,h=>let ⟨vs,f,e,q,r,z⟩:=h;⟨vs,f,e,q,ai.aM sH hb r,z⟩
 |.dct .own kd ks xs,v,fp,h=>let ⟨a,vs,f,e,q,r,z⟩:=h;⟨a,vs,f,e,q,ai.aM sH hb r,z⟩
 |.dct .bor kd ks xs,v,fp,h=>let ⟨a,vs,e,q,r,z⟩:=h;⟨a,vs,e,oW sH hb (q.resolve_left λ y=>y.1),ai.aM sH hb r,z⟩
 |.dct .ak kd ks xs,v,fp,h=>let ⟨a,vs,e,q,r,z⟩:=h;⟨a,vs,e,oW sH hb q,ai.aM sH hb r,z⟩
def ai.aM {B B' H:Hp}{S:Addr->Prop}(sH:aq B H)(hb:∀ a o,B a=some o->B' a=some o\/S a):∀ {ds:List D}{vs:List V}{fp:List Addr},ai K B No H ds vs fp->ai K B' S H (bu ds) vs fp
 |[],_,_,h=>h
 |d::ds,vs,fp,h=>let ⟨v,r,f,g,e,h1,h2,z⟩:=h;⟨v,r,f,g,e,Rep.aM sH hb h1,ai.aM sH hb h2,z⟩
end
mutual
def Rep.gD {B H:Hp}{S:Addr->Prop}:∀ {d:D}{v:V}{fp:List Addr},d.az=false->Rep K B S H d v fp->Rep K B No H d v fp
 |.bx,_,_,_,h=>h
 |.bl _,_,_,_,h=>h
 |.int _,_,_,_,h=>h
 |.str _,_,_,_,h=>h
 |.exc _,_,_,_,h=>h
 |.tup xs,v,fp,p,h=>let ⟨a,vs,e,q,r⟩:=h;⟨a,vs,e,q,ai.gD (ds:=xs) p r⟩
 |.lst .own xs,v,fp,p,h=>let ⟨a,vs,f,e,q,r,z⟩:=h;⟨a,vs,f,e,q,ai.gD (ds:=xs) (by simpa[D.az] using p) r,z⟩
 |.lst .bor xs,v,fp,p,h=>by simp[D.az]at p
 |.lst .ak xs,v,fp,p,h=>h
 |.lst (.len _) _,_,_,_,h=>h.elim
 |.dct (.len a) kd ks xs,v,fp,p,h=>let ⟨vs,f,e,q,r,z⟩:=h;⟨vs,f,e,q,ai.gD (ds:=xs) (by simpa[D.az] using p) r,z⟩
 |.dct .own kd ks xs,v,fp,p,h=>let ⟨a,vs,f,e,q,r,z⟩:=h;⟨a,vs,f,e,q,ai.gD (ds:=xs) (by simpa[D.az] using p) r,z⟩
 |.dct .bor kd ks xs,v,fp,p,h=>by simp[D.az]at p
 |.dct .ak kd ks xs,v,fp,p,h=>h
def ai.gD {B H:Hp}{S:Addr->Prop}:∀ {ds:List D}{vs:List V}{fp:List Addr},au ds=false->ai K B S H ds vs fp->ai K B No H ds vs fp
 |[],_,_,_,h=>h
 | d::ds,vs,fp,p,h=>by
  obtain⟨v,r,f,g,e,h1,h2,z⟩:=h;have p:(d.az||au ds)=false:=p;rw[PD]at p;exact⟨v,r,f,g,e,Rep.gD p.1 h1,ai.gD p.2 h2,z⟩
end
def rJ:HO->Prop
 |.lst _=>True
 |.dK _ _=>True
 |.dT _ _=>True
 |_=>False
structure jq (H H':Hp)(M:List Addr):Prop where
 keep:∀ a o,H a=some o->a∉M->H' a=some o
 Mf:∀ a∈M,∃ o,H a=some o/\rJ o
def jq.vM{M:List Addr}(k:jq H H' M)(h:H a=some o)(n:¬ rJ o):H' a=some o:=k.keep a o h λ m=>by
 obtain⟨u,e,z⟩:=k.Mf a m;rw[h]at e;cases e;exact n z
mutual
def Rep.keep {B H H':Hp}{M:List Addr}(k:jq H H' M):∀ {d:D}{v:V}{fp:List Addr},Rep K B No H d v fp->(∀ a∈fp,a∉M)->Rep K B No H' d v fp
 |.bx,_,_,h,_=>h
 |.bl _,_,_,h,_=>h
 |.int _,_,_,h,_=>h
 |.str _,_,_,h,_=>h
 |.exc _,_,_,h,_=>let ⟨⟨a,e,t,tb,u,h1⟩,r⟩:=h;⟨⟨a,e,t,tb,u,k.vM h1 (λ x=>x)⟩,r⟩
 | .tup xs,v,fp,h,hf=>by
  obtain⟨a,vs,e,q,r⟩:=h;exact⟨a,vs,e,k.vM q (λ x=>x),ai.keep k r hf⟩
 | .lst .own xs,v,fp,h,hf=>by
  obtain⟨a,vs,f,e,q,r,z⟩:=h;subst z;exact⟨a,vs,f,e,k.keep _ _ q (hf a Na),ai.keep k r λ b hb=>hf b (Nb _ hb),rfl⟩
 |.lst .bor xs,v,fp,h,hf=>let ⟨a,vs,e,q,r,z⟩:=h;⟨a,vs,e,.inr (q.resolve_left λ y=>y.1),ai.keep k r (λ _ x=>by cases x),z⟩
 |.lst .ak xs,v,fp,h,hf=>let ⟨a,vs,e,q,r,z⟩:=h;⟨a,vs,e,q,ai.keep k r (λ _ x=>by cases x),z⟩
 |.lst (.len _) _,_,_,h,_=>h.elim
 | .dct (.len a) kd ks xs,v,fp,h,hf=>by
  obtain⟨vs,f,e,q,r,z⟩:=h;subst z;have hm:=hf a Na;refine⟨vs,f,e,?_,ai.keep k r λ b hb=>hf b (Nb _ hb),rfl⟩;rcases q with ⟨y,kvs,ep,q,w⟩|⟨y,kvs,ep,q,w⟩
  ·exact .inl ⟨y,kvs,ep,k.keep _ _ q hm,w⟩
  ·exact .inr ⟨y,kvs,ep,k.keep _ _ q hm,w⟩
 | .dct .own kd ks xs,v,fp,h,hf=>by
  obtain⟨a,vs,f,e,q,r,z⟩:=h;subst z;have hm:=hf a Na;refine⟨a,vs,f,e,?_,ai.keep k r λ b hb=>hf b (Nb _ hb),rfl⟩;rcases q with ⟨y,kvs,ep,q,w⟩|⟨y,kvs,ep,q,w⟩
  ·exact .inl ⟨y,kvs,ep,k.keep _ _ q hm,w⟩
  ·exact .inr ⟨y,kvs,ep,k.keep _ _ q hm,w⟩
 |.dct .bor kd ks xs,v,fp,h,hf=>let ⟨a,vs,e,q,r,z⟩:=h;⟨a,vs,e,.inr (q.resolve_left λ y=>y.1),ai.keep k r (λ _ x=>by cases x),z⟩
 |.dct .ak kd ks xs,v,fp,h,hf=>let ⟨a,vs,e,q,r,z⟩:=h;⟨a,vs,e,q,ai.keep k r (λ _ x=>by cases x),z⟩
def ai.keep {B H H':Hp}{M:List Addr}(k:jq H H' M):∀ {ds:List D}{vs:List V}{fp:List Addr},ai K B No H ds vs fp->(∀ a∈fp,a∉M)->ai K B No H' ds vs fp
 |[],_,_,h,_=>h
 | d::ds,vs,fp,h,hf=>by
  obtain⟨v,r,f,g,e,h1,h2,z⟩:=h;subst z;exact⟨v,r,f,g,e,Rep.keep k h1 (λ b hb=>hf b (Nt _ hb)),ai.keep k h2 (λ b hb=>hf b (Nz _ hb)),rfl⟩
end
mutual
def Rep.own {B H:Hp}{S:Addr->Prop}:∀ {d:D}{v:V}{fp:List Addr},Rep K B S H d v fp->∀ a∈fp,∃ o,H a=some o/\rJ o
 |.bx,_,_,h=>by rw[h.2];intro a m;cases m
 |.bl _,_,_,h=>by rw[h.2];intro a m;cases m
 |.int _,_,_,h=>by rw[h.2];intro a m;cases m
 |.str _,_,_,h=>by rw[h.2];intro a m;cases m
 |.exc _,_,_,h=>by rw[h.2];intro a m;cases m
 |.tup xs,v,fp,h=>let ⟨a,vs,e,q,r⟩:=h;ai.own r
 | .lst .own xs,v,fp,h=>by
  obtain⟨a,vs,f,e,q,r,z⟩:=h;subst z;intro b hb;rcases Nq.mp hb with e|e
  ·subst e;exact⟨_,q,trivial⟩
  ·exact ai.own r b e
 |.lst .bor xs,v,fp,h=>by obtain⟨a,vs,e,q,r,z⟩:=h;rw[z];intro a m;cases m
 |.lst .ak xs,v,fp,h=>by obtain⟨a,vs,e,q,r,z⟩:=h;rw[z];intro a m;cases m
 |.lst (.len _) _,_,_,h=>h.elim
 | .dct (.len a) kd ks xs,v,fp,h=>by
  obtain⟨vs,f,e,q,r,z⟩:=h;subst z;intro b hb;rcases Nq.mp hb with e|e
  ·subst e;rcases q with ⟨y,kvs,ep,q,w⟩|⟨y,kvs,ep,q,w⟩
   ·exact⟨_,q,trivial⟩
   ·exact⟨_,q,trivial⟩
  ·exact ai.own r b e
 | .dct .own kd ks xs,v,fp,h=>by
  obtain⟨a,vs,f,e,q,r,z⟩:=h;subst z;intro b hb;rcases Nq.mp hb with e|e
  ·subst e;rcases q with ⟨y,kvs,ep,q,w⟩|⟨y,kvs,ep,q,w⟩
   ·exact⟨_,q,trivial⟩
   ·exact⟨_,q,trivial⟩
  ·exact ai.own r b e
 |.dct .bor kd ks xs,v,fp,h=>by obtain⟨a,vs,e,q,r,z⟩:=h;rw[z];intro a m;cases m
 |.dct .ak kd ks xs,v,fp,h=>by obtain⟨a,vs,e,q,r,z⟩:=h;rw[z];intro a m;cases m
def ai.own {B H:Hp}{S:Addr->Prop}:∀ {ds:List D}{vs:List V}{fp:List Addr},ai K B S H ds vs fp->∀ a∈fp,∃ o,H a=some o/\rJ o
 |[],_,_,h=>by rw[h.2];intro a m;cases m
 | d::ds,vs,fp,h=>by
  obtain⟨v,r,f,g,e,h1,h2,z⟩:=h;subst z;intro b hb;rcases Nk.mp hb with e|e
  ·exact Rep.own h1 b e
  ·exact ai.own h2 b e
end
def c9 (K:PySem.W.Frag)(B H:Hp):SD->L2.St->List Addr->Prop
 |[],σ,P=>σ=[]/\P=[]
 |none::r,σ,P=>∃ o τ,σ=o::τ/\c9 K B H r τ P
 |some d::r,σ,P=>∃ v τ f g,σ=some v::τ/\Rep K B No H d v f/\c9 K B H r τ g/\P=f++g
structure SI (K:PySem.W.Frag)(H0 B0 B H:Hp)(σ:L2.St)(τ:SD)(P:List Addr)(F:Addr->Prop):Prop where
 bh:aq B H
 h0:aq H0 H
 b0:aq B0 B
 nb:∀ a,B a≠none->B0 a≠none\/H0 a=none
 rep:c9 K B H τ σ P
 nd:P.Nodup
 own:∀ a∈P,B a=none/\H0 a=none/\¬ F a
 fr:∀ a,F a->B a=none/\H a≠none
structure fR (H0 B H:Hp)(P:List Addr)(F:Addr->Prop)(fp:List Addr):Prop where
 nd:fp.Nodup
 own:∀ a∈fp,B a=none/\H0 a=none/\H a≠none/\a∉P/\¬ F a
def fR.nil:fR H0 B H P F []:=⟨OG,λ a m=>by cases m⟩
def fR.sub{fq:List Addr}(h:fR H0 B H P F fp)(s:List.Sublist fq fp):fR H0 B H P F fq:=⟨h.nd.sublist s,λ a m=>h.own a (s.subset m)⟩
def c9.own {B H:Hp}:∀ {τ:SD}{σ:L2.St}{P:List Addr},c9 K B H τ σ P->∀ a∈P,∃ o,H a=some o/\rJ o
 |[],_,_,h=>by rw[h.2];intro a m;cases m
 |none::r,σ,P,h=>by obtain⟨o,τ,e,h⟩:=h;exact c9.own h
 | some d::r,σ,P,h=>by
  obtain⟨v,τ,f,g,e,h1,h2,z⟩:=h;subst z;intro b hb;rcases Nk.mp hb with e|e
  ·exact Rep.own h1 b e
  ·exact c9.own h2 b e
def c9.mono {B B' H H':Hp}(sH:aq H H')(sB:aq B B'):∀ {τ:SD}{σ:L2.St}{P:List Addr},c9 K B H τ σ P->c9 K B' H' τ σ P
 |[],_,_,h=>h
 |none::r,σ,P,h=>let ⟨o,τ,e,h⟩:=h;⟨o,τ,e,c9.mono sH sB h⟩
 |some d::r,σ,P,h=>let ⟨v,τ,f,g,e,h1,h2,z⟩:=h;⟨v,τ,f,g,e,Rep.mono sH sB (λ _ x=>x) h1,c9.mono sH sB h2,z⟩
def c9.get {B H:Hp}:∀ {τ:SD}{σ:L2.St}{P:List Addr}{i:Nat}{d:D},c9 K B H τ σ P->τ[i]?=some (some d)->∃ v f,σ[i]?=some (some v)/\Rep K B No H d v f/\List.Sublist f P
 |[],_,_,i,_,_,e=>by simp at e
 |none::r,σ,P,0,d,h,e=>by simp at e
 | none::r,σ,P,i+1,d,h,e=>by
  obtain⟨o,τ,e1,h⟩:=h;subst e1;obtain⟨v,f,a1,a2,a3⟩:=c9.get (i:=i) h (by simpa using e);exact⟨v,f,by simpa using a1,a2,a3⟩
 | some d::r,σ,P,0,d',h,e=>by
  obtain⟨v,τ,f,g,e1,h1,h2,z⟩:=h;have e:d=d':=by simpa using e
  subst e e1 z;exact⟨v,f,rfl,h1,NV _ _⟩
 | some d::r,σ,P,i+1,d',h,e=>by
  obtain⟨v,τ,f,g,e1,h1,h2,z⟩:=h;subst e1 z;obtain⟨w,f',a1,a2,a3⟩:=c9.get (i:=i) h2 (by simpa using e);exact⟨w,f',by simpa using a1,a2,a3.trans (NL _ _)⟩
def SI.stands (I:SI K H0 B0 B H σ τ P F)(h:a∈P):H a≠none:=by
 obtain⟨o,e,_⟩:=I.rep.own a h;rw[e];exact λ z=>by cases z
def SI.qi(I:SI K H0 B0 B H σ τ P F)(h:∀ a,F' a->F a):SI K H0 B0 B H σ τ P F':=
 ⟨I.bh,I.h0,I.b0,I.nb,I.rep,I.nd,λ a m=>let ⟨x,y,z⟩:=I.own a m;⟨x,y,λ q=>z (h a q)⟩,λ a m=>I.fr a (h a m)⟩
def SI.hold(I:SI K H0 B0 B H σ τ P F)(v:fR H0 B H P F fp):SI K H0 B0 B H σ τ P (λ a=>a∈fp\/F a):=
 ⟨I.bh,I.h0,I.b0,I.nb,I.rep,I.nd,λ a m=>let ⟨x,y,z⟩:=I.own a m;⟨x,y,λ q=>q.elim (λ r=>(v.own a r).2.2.2.1 m) z⟩,λ a m=>m.elim (λ r=>⟨(v.own a r).1,(v.own a r).2.2.1⟩) (I.fr a)⟩
def SI.grow(I:SI K H0 B0 B H σ τ P F)(s:aq H H'):SI K H0 B0 B H' σ τ P F:=
 ⟨I.bh.trans s,I.h0.trans s,I.b0,I.nb,I.rep.mono s (λ _ _ x=>x),I.nd,I.own,λ a m=>⟨(I.fr a m).1,λ z=>(I.fr a m).2 (s.free z)⟩⟩
def fR.grow(v:fR H0 B H P F fp)(s:aq H H')(hb:∀ a∈fp,B' a=none):fR H0 B' H' P F fp:=
 ⟨v.nd,λ a m=>let ⟨x,y,z,p,q⟩:=v.own a m;⟨hb a m,y,λ n=>z (s.free n),p,q⟩⟩
def SI.zx (I:SI K H0 B0 B H σ τ P F){p:Addr}(h:H p=none):B p=none/\H0 p=none/\p∉P/\¬ F p:=
 ⟨I.bh.free h,I.h0.free h,λ m=>I.stands m h,λ m=>(I.fr p m).2 h⟩
end
def ex8 {α β γ δ ε ζ:Sort _}{p q:α->β->γ->δ->ε->ζ->Prop}(h:∃ a b c d e f,p a b c d e f/\q a b c d e f)(k:∀ a b c d e f,p a b c d e f->q a b c d e f->C):C:=h.elim λ a h=>h.elim λ b h=>h.elim λ c h=>h.elim λ d h=>h.elim λ e h=>h.elim λ f h=>k a b c d e f h.1 h.2
def ex7 {α β γ δ ε:Sort _}{p q:α->β->γ->δ->ε->Prop}(h:∃ a b c d e,p a b c d e/\q a b c d e)(k:∀ a b c d e,p a b c d e->q a b c d e->C):C:=h.elim λ a h=>h.elim λ b h=>h.elim λ c h=>h.elim λ d h=>h.elim λ e h=>k a b c d e h.1 h.2
def ex12 {α β γ δ ε ζ η θ:Sort _}{p q r s:α->β->γ->δ->ε->ζ->η->θ->Prop}(h:∃ a b c d e f g i,p a b c d e f g i/\q a b c d e f g i/\r a b c d e f g i/\s a b c d e f g i)(k:∀ a b c d e f g i,p a b c d e f g i->q a b c d e f g i->r a b c d e f g i->s a b c d e f g i->C):C:=h.elim λ a h=>h.elim λ b h=>h.elim λ c h=>h.elim λ d h=>h.elim λ e h=>h.elim λ f h=>h.elim λ g h=>h.elim λ i h=>k a b c d e f g i h.1 h.2.1 h.2.2.1 h.2.2.2
structure XY where
 ex:Addr->L2.St->Hp->Prop
 ln:Bool
variable {Y:XY}
instance:CoeFun XY λ _=>Addr->L2.St->Hp->Prop:=⟨XY.ex⟩
abbrev zz:XY:=⟨λ _ _ _=>False,false⟩
section
variable (K:PySem.W.Frag)(Y:XY)(H0 B0 B H:Hp)(σ:L2.St)(τ:SD)(P:List Addr)(F:Addr->Prop)
def Out (Q:VK)(d:D):Prop:=∀ v H' B' fp,SI K H0 B0 B' H' σ τ P F->aq H H'->aq B B'->Rep K B' (· ∈ P) H' d v fp->fR H0 B' H' P F fp->Q v H'
def my (C:Addr):Prop:=∀ H' B',SI K H0 B0 B' H' σ τ P F->aq H H'->aq B B'->Y C σ H'
def Mh (Q:List V->Hp->Prop)(ds:List D):Prop:=∀ vs H' B' fp,SI K H0 B0 B' H' σ τ P F->aq H H'->aq B B'->ai K B' (· ∈ P) H' ds vs fp->fR H0 B' H' P F fp->Q vs H'
def Mg (Q:Bool->Hp->Prop)(b:Bool):Prop:=∀ H' B',SI K H0 B0 B' H' σ τ P F->aq H H'->aq B B'->Q b H'
def Goal (Q:VK):Res D->Prop
 |.ok d=>Out K H0 B0 B H σ τ P F Q d
 |.f7 C=>my K Y H0 B0 B H σ τ P F C
 |.bad=>False
def Kz (Q:List V->Hp->Prop):Res (List D)->Prop
 |.ok d=>Mh K H0 B0 B H σ τ P F Q d
 |.f7 C=>my K Y H0 B0 B H σ τ P F C
 |.bad=>False
def oX (Q:Bool->Hp->Prop):Res Bool->Prop
 |.ok d=>Mg K H0 B0 B H σ τ P F Q d
 |.f7 C=>my K Y H0 B0 B H σ τ P F C
 |.bad=>False
end
def tM (K:PySem.W.Frag)(Y:XY)(f:SD->Res D):TE:=λ σ H Q=>∃ H0 B0 B τ P F,SI K H0 B0 B H σ τ P F/\Goal K Y H0 B0 B H σ τ P F Q (f τ)
def pL (K:PySem.W.Frag)(Y:XY)(f:SD->Res (List D)):TA:=λ σ H Q=>∃ H0 B0 B τ P F,SI K H0 B0 B H σ τ P F/\Kz K Y H0 B0 B H σ τ P F Q (f τ)
def kq (K:PySem.W.Frag)(Y:XY)(f:SD->Res Bool):TT:=λ σ H Q=>∃ H0 B0 B τ P F,SI K H0 B0 B H σ τ P F/\oX K Y H0 B0 B H σ τ P F Q (f τ)
section
variable {K:PySem.W.Frag}
def my.later{C:Addr}(h:my K Y H0 B0 B H σ τ P F C)(sH:aq H H1)(sB:aq B B1)(hF:∀ a,F a->F' a):my K Y H0 B0 B1 H1 σ τ P F' C:=
 λ H' B' I s b=>h H' B' (I.qi hF) (sH.trans s) (sB.trans b)
def Out.later(h:Out K H0 B0 B H σ τ P F Q d)(sH:aq H H1)(sB:aq B B1):Out K H0 B0 B1 H1 σ τ P F Q d:=
 λ v H' B' fp I s b r k=>h v H' B' fp I (sH.trans s) (sB.trans b) r k
def Goal.later{r:Res D}(h:Goal K Y H0 B0 B H σ τ P F Q r)(sH:aq H H1)(sB:aq B B1):Goal K Y H0 B0 B1 H1 σ τ P F Q r:=by
 cases r with
 |ok d=>exact Out.later h sH sB|f7 C=>exact my.later h sH sB λ _ x=>x
 |bad=>exact h
def Out.here(h:Out K H0 B0 B H σ τ P F Q d)(I:SI K H0 B0 B H σ τ P F)(r:Rep K B (· ∈ P) H d v []):Q v H:=h v H B [] I (aq.refl _) (aq.refl _) r fR.nil
def Out.zy(h:Out K H0 B0 B H σ τ P F Q d)(I:SI K H0 B0 B H σ τ P F)(r:Rep K B (· ∈ P) H d v fp)(k:fR H0 B H P F fp):Q v H:=h v H B fp I (aq.refl _) (aq.refl _) r k
def dY {p:Addr}(h:H p=none):aq H (upd H p o):=λ b u e=>by
 rw[aN (bK e h)];exact e
def Out.CN{p:Addr}(h:Out K H0 B0 B H σ τ P F Q (.lst .own ds))(I:SI K H0 B0 B H σ τ P F)(r:ai K B (· ∈ P) H ds vs fp)(k:fR H0 B H P F fp)(hp:H p=none):Q (.ref p) (upd H p (.lst vs)):=by
 have s:=dY (o:=.lst vs) hp;obtain⟨n1,n2,n3,n4⟩:=I.zx hp;refine h (.ref p) _ B (p::fp) (I.grow s) s (aq.refl _) ⟨p,vs,fp,rfl,aK,r.mono s (aq.refl _) (λ _ x=>x),rfl⟩ ⟨Nv.mpr ⟨λ m=>(k.own p m).2.2.1 hp,k.nd⟩,λ a m=>?_⟩;rcases Nq.mp m with e|e
 ·subst e;exact⟨n1,n2,(by rw[aK];exact OH _),n3,n4⟩
 ·obtain⟨a1,a2,a3,a4,a5⟩:=k.own a e;exact⟨a1,a2,λ z=>a3 (s.free z),a4,a5⟩
def Out.Fy{p:Addr}(h:Out K H0 B0 B H σ τ P F Q (.tup ds))(I:SI K H0 B0 B H σ τ P F)(r:ai K B (· ∈ P) H ds vs fp)(k:fR H0 B H P F fp)(hp:H p=none):Q (.ref p) (upd H p (.tup vs)):=by
 have s:=dY (o:=.tup vs) hp;exact h (.ref p) _ B fp (I.grow s) s (aq.refl _) ⟨p,vs,rfl,aK,r.mono s (aq.refl _) (λ _ x=>x)⟩ (k.grow s λ a m=>(k.own a m).1)
def fR.both{g:List Addr}(k:fR H0 B H P F f)(sH:aq H H1)(I1:SI K H0 B0 B1 H1 σ τ P (λ a=>a∈f\/F a))(k':fR H0 B1 H1 P (λ a=>a∈f\/F a) g):fR H0 B1 H1 P F (f++g):=by
 refine⟨Np.mpr ⟨k.nd,k'.nd,λ a ha b hb e=>?_⟩,λ a m=>?_⟩
 ·subst e;exact(k'.own a hb).2.2.2.2 (.inl ha)
 ·rcases Nk.mp m with e|e
  ·obtain⟨a1,a2,a3,a4,a5⟩:=k.own a e;exact⟨(I1.fr a (.inl e)).1,a2,(I1.fr a (.inl e)).2,a4,a5⟩
  ·obtain⟨a1,a2,a3,a4,a5⟩:=k'.own a e;exact⟨a1,a2,a3,a4,λ z=>a5 (.inr z)⟩
def fR.left {g:List Addr}(k:fR H0 B H P F (f++g)):fR H0 B H P F f:=k.sub (NV _ _)
def fR.right {g:List Addr}(k:fR H0 B H P F (f++g)):fR H0 B H P F g:=k.sub (NL _ _)
def PE.imp{t t':TE}(h:PE X e t)(hi:∀ σ H Q,t' σ H Q->t σ H Q):PE X e t':=λ pins s σ H Q I hw=>h pins s σ H Q I (hi σ H Q hw)
def PT.imp{t t':TT}(h:PT X e t)(hi:∀ σ H Q,t' σ H Q->t σ H Q):PT X e t':=λ pins s σ H Q I hw=>h pins s σ H Q I (hi σ H Q hw)
def PA.imp{t t':TA}(h:PA X es t)(hi:∀ σ H Q,t' σ H Q->t σ H Q):PA X es t':=λ pos pins s σ H Q I hw=>h pos pins s σ H Q I (hi σ H Q hw)
def PS.imp{t t':TS}(h:PS X st t)(hi:∀ E σ H,t' E σ H->t E σ H):PS X st t':=λ pins s σ H E I hw=>h pins s σ H E I (hi E σ H hw)
def mQ.imp{st:List Stmt}{t t':TS}(h:mQ X st t)(hi:∀ E σ H,t' E σ H->t E σ H):mQ X st t':=λ pins s σ H E I hw=>h pins s σ H E I (hi E σ H hw)
def tM.seq {f:SD->Res D}{Q':V->Hp->Prop}{g:D->Res D}(I:SI K H0 B0 B H σ τ P F)(h:Goal K Y H0 B0 B H σ τ P F Q ((f τ).bind g))
  (k:∀ d v H1 B1 fp,f τ=.ok d->SI K H0 B0 B1 H1 σ τ P F->aq H H1->aq B B1->Rep K B1 (· ∈ P) H1 d v fp->fR H0 B1 H1 P F fp->Goal K Y H0 B0 B1 H1 σ τ P F Q (g d)->Q' v H1):tM K Y f σ H Q':=by
 refine⟨H0,B0,B,τ,P,F,I,?_⟩;cases e:f τ with
 | ok d =>
  rw[e]at h;intro v H1 B1 fp I1 s1 b1 r1 k1;exact k d v H1 B1 fp e I1 s1 b1 r1 k1 (Goal.later h s1 b1)
 |f7 C=>rw[e]at h;exact h|bad=>rw[e]at h;exact h
def tM.rK {f1 f2:SD->Res D}{Q':V->V->Hp->Prop}(I:SI K H0 B0 B H σ τ P F)(h:Goal K Y H0 B0 B H σ τ P F Q ((f1 τ).bind λ x=>(f2 τ).bind (g x)))
  (k:∀ d1 d2 v1 v2 H2 B2 fp1 fp2,f1 τ=.ok d1->f2 τ=.ok d2->SI K H0 B0 B2 H2 σ τ P F->aq H H2->aq B B2->Rep K B2 (· ∈ P) H2 d1 v1 fp1->Rep K B2 (· ∈ P) H2 d2 v2 fp2->fR H0 B2 H2 P F (fp1++fp2)->Goal K Y H0 B0 B2 H2 σ τ P F Q (g d1 d2)->Q' v1 v2 H2) :
  tM K Y f1 σ H λ x H1=>tM K Y f2 σ H1 λ y H2=>Q' x y H2:=by
 refine tM.seq (g:=λ x=>(f2 τ).bind (g x)) I h λ d1 v1 H1 B1 fp1 e1 I1 s1 b1 r1 k1 h1=>?_;refine⟨H0,B0,B1,τ,P,_,I1.hold k1,?_⟩;cases e:f2 τ with
 | ok d2 =>
  rw[e]at h1;intro v2 H2 B2 fp2 I2 s2 b2 r2 k2;exact k d1 d2 v1 v2 H2 B2 fp1 fp2 e1 e (I2.qi λ a x=>.inr x) (s1.trans s2) (b1.trans b2) (r1.mono s2 b2 λ _ x=>x) r2 (k1.both s2 I2 k2) (Goal.later h1 s2 b2)
 | f7 C =>
  rw[e]at h1;exact my.later h1 (aq.refl _) (aq.refl _) λ a x=>.inr x
 |bad=>rw[e]at h1;exact h1
def aa (i:Nat)(τ:SD):Res D:=match τ[i]? with
 |some (some d)=>.ok d.view
 |_=>.bad
def eC (d:D)(_:SD):Res D:=.ok d
def qv(i:Nat)(hN:X.N[i]?=some x:=by rfl)(hv:rD X.env.scope x:=by first|exact Or.inl rfl|exact Or.inr (Or.inl rfl)|exact Or.inr (Or.inr rfl))(hd:(x == ("__debug__" : Str))=false:=by decide)
  (hcd:(x == ("__classdict__" : Str))=false:=by decide):PE X (.Name x pos) (tM X.K Y (aa i)):=by
 refine PE.imp (dm hN hv hd hcd) ?_;rintro σ H Q ⟨H0,B0,B,τ,P,F,I,h⟩;unfold aa at h;cases e:τ[i]? with
 |none=>rw[e]at h;exact h.elim
 | some o =>
  cases o with
  |none=>rw[e]at h;exact h.elim
  | some d =>
   rw[e]at h;obtain⟨v,f,h1,h2,h3⟩:=I.rep.get e;exact⟨v,h1,Out.here h I (h2.view λ a m=>h3.subset m)⟩
def qc(h:PE X e (tC v))(hr:∀ K B S H,Rep K B S H d v []):PE X e (tM X.K Y (eC d)):=PE.imp h λ σ H Q hq=>ex8 hq λ H0 B0 B τ P F I h=>Out.here h I (hr _ _ _ _)
def av{i:Int}{j pos}:PE X (.Constant (.int i) j pos) (tM X.K Y (eC (.int i))):=qc HQ λ _ _ _ _=>⟨rfl,rfl⟩
def uh{b:Bool}{j pos}:PE X (.Constant (.bool b) j pos) (tM X.K Y (eC (.bl b))):=qc Kd λ _ _ _ _=>⟨rfl,rfl⟩
def vO{j pos}:PE X (.Constant .none j pos) (tM X.K Y (eC .bx)):=qc HX λ _ _ _ _=>⟨rfl,rfl⟩
def ou (K:PySem.W.Frag)(Y:XY)(r:R2)(g:D->D->Res D):Prop:=∀ {H0 B0 B H:Hp}{σ:L2.St}{τ:SD}{P:List Addr}{F:Addr->Prop}{d1 d2:D}{x y:V}{f1 f2:List Addr}{Q:VK},
 SI K H0 B0 B H σ τ P F->Rep K B (· ∈ P) H d1 x f1->Rep K B (· ∈ P) H d2 y f2->fR H0 B H P F (f1++f2)->Goal K Y H0 B0 B H σ τ P F Q (g d1 d2)->r x y H Q
def ah (g:D->D->Res D)(a b:SD->Res D)(τ:SD):Res D:=(a τ).bind λ x=>(b τ).bind (g x)
def jj.or{f:Value->Value->Sem Value}{r':R2}(h:jj X f r)(h':jj X f r'):jj X f (λ x y H Q=>r x y H Q\/r' x y H Q):=by
 intro pins s σ H x y v u Q I rx ry q;rcases q with q|q
 ·exact h pins s σ H x y v u Q I rx ry q
 ·exact h' pins s σ H x y v u Q I rx ry q
variable{a b c:Expr}{fa fb fc:SD->Res D}
def a6 {op:Operator}(ho:jj X (binaryOp op) r)(hg:ou X.K Y r g)(ha:PE X a (tM X.K Y fa))(hb:PE X b (tM X.K Y fb)):PE X (.BinOp a op b pos) (tM X.K Y (ah g fa fb)):=
 PE.imp (J2 ho ha hb) λ σ H Q hq=>ex8 hq λ H0 B0 B τ P F I h=>tM.rK I h λ d1 d2 v1 v2 H2 B2 f1 f2 _ _ I2 _ _ r1 r2 k h2=>hg I2 r1 r2 k h2
def Ky {op:CmpOp}(ho:jj X (compareOp op) r)(hg:ou X.K Y r g)(ha:PE X a (tM X.K Y fa))(hb:PE X b (tM X.K Y fb))(hm:behindInMarks op b=false):PE X (.Compare a [op] [b] pos) (tM X.K Y (ah g fa fb)):=
 PE.imp (E1 ho ha hb hm) λ σ H Q hq=>ex8 hq λ H0 B0 B τ P F I h=>tM.rK I h λ d1 d2 v1 v2 H2 B2 f1 f2 _ _ I2 _ _ r1 r2 k h2=>hg I2 r1 r2 k h2
def Mi(ho:EK X r)(hg:ou X.K Y r g)(ha:PE X a (tM X.K Y fa))(hb:PE X b (tM X.K Y fb))(hs:uf b):PE X (.Subscript a b pos) (tM X.K Y (ah g fa fb)):=
 PE.imp (Kh ho ha hb hs) λ σ H Q hq=>ex8 hq λ H0 B0 B τ P F I h=>tM.rK I h λ d1 d2 v1 v2 H2 B2 f1 f2 _ _ I2 _ _ r1 r2 k h2=>hg I2 r1 r2 k h2
def vn:D->Res Bool|.bl b=>.ok b|_=>.bad
def vP {Q:Bool->Hp->Prop}{r:Res D}(h:oX K Y H0 B0 B H σ τ P F Q (r.bind vn)):Goal K Y H0 B0 B H σ τ P F (λ x H1=>∃ c,x=.bl c/\Q c H1) r:=by
 cases r with
 | ok d =>
  intro v H' B' fp I s b r k;cases d with
  |bl c=>obtain⟨rfl,rfl⟩:=r;exact⟨c,rfl,h H' B' I s b⟩| _=>exact h.elim
 |f7 C=>exact h|bad=>exact h
def eT (f:SD->Res D)(τ:SD):Res Bool:=(f τ).bind vn
def uo (ha:PE X a (tM X.K Y fa))(he:∀ whole,isTrue a X.env whole=(do let v <-whole;standAt a.pos;holding [v] (truthy v)):=by intro _;rfl):PT X a (kq X.K Y (eT fa)):=
 PT.imp (Ht ha he) λ σ H Q hq=>ex8 hq λ H0 B0 B τ P F I h=>⟨H0,B0,B,τ,P,F,I,vP h⟩
def kJ {op:CmpOp}(ho:jj X (compareOp op) r)(hg:ou X.K Y r g)(ha:PE X a (tM X.K Y fa))(hb:PE X b (tM X.K Y fb))(hm:behindInMarks op b=false):PT X (.Compare a [op] [b] pos) (kq X.K Y (eT (ah g fa fb))):=
 PT.imp (EX ho ha hb hm) λ σ H Q hq=>ex8 hq λ H0 B0 B τ P F I h=>tM.rK I (vP h) λ d1 d2 v1 v2 H2 B2 f1 f2 _ _ I2 _ _ r1 r2 k h2=>hg I2 r1 r2 k h2
end
section
variable {K:PySem.W.Frag}
def Rep.lst (I:SI K H0 B0 B H σ τ P F){t:Tg}(r:Rep K B (· ∈ P) H (.lst t xs) v f):∃ a vs g,v=.ref a/\cY K H a vs/\ai K B (· ∈ P) H xs vs g/\List.Sublist g f:=by
 cases t with
 |len a=>exact False.elim r
 | own =>
  obtain⟨a,vs,g,e,q,r,z⟩:=r;subst z;exact⟨a,vs,g,e,cY.of q,r,P6 _ _⟩
 | bor =>
  obtain⟨a,vs,e,q,r,z⟩:=r;subst z;exact⟨a,vs,[],e,q.elim (λ y=>y.2) λ y=>eO I.bh y,r,Oq _⟩
 | ak =>
  obtain⟨a,vs,e,q,r,z⟩:=r;subst z;exact⟨a,vs,[],e,eO I.bh q,r.mono (aq.refl _) (aq.refl _) (λ _ x=>x.elim),Oq _⟩
def Rep.tp(r:Rep K B (· ∈ P) H (.tup xs) v f):∃ a vs,v=.ref a/\lq K H a vs/\ai K B (· ∈ P) H xs vs f:=let ⟨a,vs,e,q,r⟩:=r;⟨a,vs,e,lq.of q,r⟩
def gO(h:cY K H a vs):cY K H a vs:=h
def G7 (K:PySem.W.Frag):R2:=λ x y H Q=>∃ l b xs zs,x=.ref l/\y=.ref b/\cY K H l xs/\cY K H b zs/\xs.length+zs.length<=sizeLine/\∀ p,H p=none->Q (.ref p) (upd H p (.lst (xs++zs)))
def FD:jj X (binaryOp .Add) (G7 X.K):=by
 intro pins s σ H x y v u Q I rx ry h;obtain⟨l,b,xs,zs,rfl,rfl,hH,hB,hz,q⟩:=h;cases rx;cases ry;obtain⟨its,r,pl,z⟩:=I.list hH;obtain⟨its2,r2,pl2,z2⟩:=I.list hB;obtain⟨⟨cls,dd,data,sl⟩,ho,hc,n,hd⟩:=id pl.isList;obtain⟨⟨cls2,dd2,data2,sl2⟩,ho2,hc2,n2,hd2⟩:=id pl2.isList;simp only at hc hd hc2 hd2;subst hc hd hc2 hd2;have e:its.toArray++its2.toArray=(its++its2).toArray:=by simp
 have l1:=r.length;have l2:=r2.length;refine concat_meets ⟨_,ho,rfl⟩ ⟨_,ho2,rfl⟩ noFill_list_add seq_list_add PySem.F.slot_list_add PySem.F.entry_list_add (PySem.F.args_list_add_2 _ _) (list_addW l b its.toArray its2.toArray n n2 dd dd2 sl sl2 (by rw[Nh,Nh];omega)) ⟨ho,ho2,?_⟩;rw[e];exact⟨.ref _,_,I.Km (t':=s.toks) (r.append r2) (by rw[Nn];omega),rfl,q _ I.fresh⟩
def cy:D->D->Res D
 |.int i,.int j=>.ok (.int (i+j))
 |.str i,.str j=>if i.length+j.length<=16777216 then .ok (.str (i++j)) else .bad
 |.lst _ xs,.lst _ ys=>if xs.length+ys.length<=16777216 then .ok (.lst .own (xs++ys)) else .bad
 |.tup xs,.tup ys=>if xs≠[]/\ys≠[]/\xs.length+ys.length<=16777216 then .ok (.tup (xs++ys)) else .bad
 |_,_=>.bad
def Io(h:n<=16777216):n<=sizeLine:=by rw[Oc];exact h
def ai.lu {S:Addr->Prop}(r:ai K B S H xs vs f):vs=[]↔xs=[]:=by
 have:=r.length;cases xs<;>cases vs<;>simp_all
abbrev J3 (K:PySem.W.Frag):R2:=λ x y H Q=>Cd (λ i j=>.int (i+j)) x y H Q\/((∃ i j,x=.str i/\y=.str j/\i.length+j.length<=sizeLine/\Q (.str (i++j)) H)\/(G7 K x y H Q\/G4 K x y H Q))
def bw:jj X (binaryOp .Add) (J3 X.K):=jj.or HS (jj.or xy (jj.or FD Fg))
def dg:ou K Y (J3 K) cy:=by
 intro H0 B0 B H σ τ P F d1 d2 x y f1 f2 Q I r1 r2 k h;unfold cy at h;split at h
 ·obtain⟨rfl,rfl⟩:=r1;obtain⟨rfl,rfl⟩:=r2;exact .inl ⟨_,_,rfl,rfl,Out.here h I ⟨rfl,rfl⟩⟩
 ·obtain⟨rfl,rfl⟩:=r1;obtain⟨rfl,rfl⟩:=r2;split at h
  ·rename_i hl;exact .inr (.inl ⟨_,_,rfl,rfl,Io hl,Out.here h I ⟨rfl,rfl⟩⟩)
  ·exact h.elim
 ·obtain⟨a,vs,g1,rfl,q1,l1,s1⟩:=r1.lst I;obtain⟨b,ws,g2,rfl,q2,l2,s2⟩:=r2.lst I;split at h
  ·rename_i hl;refine .inr (.inr (.inl ⟨_,_,_,_,rfl,rfl,q1,q2,by rw[<-l1.length,<-l2.length];exact Io hl,λ p hp=>?_⟩));exact Out.CN h I (l1.append l2) (k.sub (s1.append s2)) hp
  ·exact h.elim
 ·obtain⟨a,vs,rfl,q1,l1⟩:=r1.tp;obtain⟨b,ws,rfl,q2,l2⟩:=r2.tp;split at h
  ·rename_i hl;obtain⟨n1,n2,hl⟩:=hl;refine .inr (.inr (.inr ⟨_,_,_,_,rfl,rfl,q1,q2,λ z=>n1 (l1.lu.mp z),by rw[<-l1.length,<-l2.length];exact Io hl,λ z=>absurd (l2.lu.mp z) n2,λ _ p hp=>?_⟩));exact Out.Fy h I (l1.append l2) k hp
  ·exact h.elim
 ·exact h.elim
def oY (C:Int->Int->Prop)[∀ i j,Decidable (C i j)](g:Int->Int->D):D->D->Res D
 |.int i,.int j=>if C i j then .ok (g i j) else .bad
 |_,_=>.bad
def rM (g:Int->Int->D):D->D->Res D
 |.int i,.int j=>.ok (g i j)
 |_,_=>.bad
def Bb {C:Int->Int->Prop}[∀ i j,Decidable (C i j)]{g:Int->Int->D}{gv:Int->Int->V}(hg:∀ i j K B S H,Rep K B S H (g i j) (gv i j) []):ou K Y (rI C gv) (oY C g):=by
 intro H0 B0 B H σ τ P F d1 d2 x y f1 f2 Q I r1 r2 k h;unfold oY at h;split at h
 ·obtain⟨rfl,rfl⟩:=r1;obtain⟨rfl,rfl⟩:=r2;split at h
  ·rename_i hc;exact⟨_,_,rfl,rfl,hc,Out.here h I (hg ..)⟩
  ·exact h.elim
 ·exact h.elim
def CQ {g:Int->Int->D}{gv:Int->Int->V}(hg:∀ i j K B S H,Rep K B S H (g i j) (gv i j) []):ou K Y (Cd gv) (rM g):=by
 intro H0 B0 B H σ τ P F d1 d2 x y f1 f2 Q I r1 r2 k h;unfold rM at h;split at h
 ·obtain⟨rfl,rfl⟩:=r1;obtain⟨rfl,rfl⟩:=r2;exact⟨_,_,rfl,rfl,Out.here h I (hg ..)⟩
 ·exact h.elim
instance (i j:Int):Decidable (iZ i j):=inferInstanceAs (Decidable (_/\_))
instance (i j:Int):Decidable (gK i j):=inferInstanceAs (Decidable (_/\_/\_))
instance (i j:Int):Decidable (Ck i j):=inferInstanceAs (Decidable ((_/\_)\/(_/\_)))
def lX (i j:Int):Prop:=Ck i j\/(i.natAbs<2^1024/\j.natAbs<2^1024)
instance (i j:Int):Decidable (lX i j):=inferInstanceAs (Decidable (_\/(_/\_)))
def sJ {i:Int}(h:i.natAbs<2^1024):Builtin.Int.intBits i<=2^20:=by
 unfold Builtin.Int.intBits;split
 ·exact OD _
 ·by_cases e:i.natAbs=0
  ·rw[e];decide
  ·have:=(Nat.log2_lt e).mpr h;omega
def nc:jj X (binaryOp .Mult) (rI lX λ i j=>.int (i*j)):=JP λ _ _ _ _ _ _ _ hc q=>mul_int q (hc.elim Ck.ok λ z=>IntMulOk.of_bits (sJ z.1) (sJ z.2))
abbrev Ip (g:Int->Int->Int):∀ i j K B S H,Rep K B S H (.int (g i j)) (.int (g i j)) []:=λ _ _ _ _ _ _=>⟨rfl,rfl⟩
abbrev MK (g:Int->Int->Bool):∀ i j K B S H,Rep K B S H (.bl (g i j)) (.bl (g i j)) []:=λ _ _ _ _ _ _=>⟨rfl,rfl⟩
abbrev Fz:=rM λ i j=>.int (i-j)
abbrev Bc:=oY lX λ i j=>.int (i*j)
abbrev fK:=oY iZ λ i j=>.int (i/j)
abbrev eQ:=oY (λ _ j=>0<j) λ i j=>.int (i%j)
abbrev rL:=oY gK λ i j=>.int (i^j.toNat)
abbrev Iq:=oY (λ _ j=>0<=j) λ i j=>.int (i/2^j.toNat)
abbrev CO:=oY gK λ i j=>.int (i*2^j.toNat)
abbrev FA:=rM λ i j=>.bl (decide (i<j))
abbrev KA:=rM λ i j=>.bl (decide (j<i))
def CP:ou K Y (Cd λ i j=>.int (i-j)) Fz:=CQ (Ip _)
def vQ:ou K Y (rI lX λ i j=>.int (i*j)) Bc:=Bb (Ip _)
def fF:ou K Y (rI iZ λ i j=>.int (i/j)) fK:=Bb (Ip _)
def dQ:ou K Y (rI (λ _ j=>0<j) λ i j=>.int (i%j)) eQ:=Bb (Ip _)
def zC:ou K Y (rI gK λ i j=>.int (i^j.toNat)) rL:=Bb (Ip λ i j=>i^j.toNat)
def KD:ou K Y (rI (λ _ j=>0<=j) λ i j=>.int (i/2^j.toNat)) Iq:=Bb (Ip λ i j=>i/2^j.toNat)
def KC:ou K Y (rI gK λ i j=>.int (i*2^j.toNat)) CO:=Bb (Ip λ i j=>i*2^j.toNat)
def Be:ou K Y (Cd λ i j=>.bl (decide (i<j))) FA:=CQ (MK λ i j=>decide (i<j))
def Im:ou K Y (Cd λ i j=>.bl (decide (j<i))) KA:=CQ (MK λ i j=>decide (j<i))
end
section
variable {K:PySem.W.Frag}{a b c:Expr}{fa fb fc:SD->Res D}{ga gb:SD->Res Bool}
def fR.KH(k:fR H0 B H P F f)(sH:aq H H1)(I1:SI K H0 B0 B1 H1 σ τ P (λ a=>a∈f\/F a)):fR H0 B1 H1 P F f:=⟨k.nd,λ a m=>let ⟨_,a2,_,a4,a5⟩:=k.own a m;⟨(I1.fr a (.inl m)).1,a2,(I1.fr a (.inl m)).2,a4,a5⟩⟩
def D.flat:D->Bool|.bx=>true|.bl _=>true|.int _=>true|.str _=>true|_=>false
def cZ:D->D->Option Bool
 |.bx,.bx=>some true|.bx,.int _=>some false|.int _,.bx=>some false|.bx,.bl _=>some false|.bl _,.bx=>some false|.bx,.str _=>some false|.str _,.bx=>some false
 |.int i,.int j=>some (decide (i=j))|.bl i,.bl j=>some (decide (i=j))|.str i,.str j=>some (decide (i=j))
 |.int _,.str _=>some false|.str _,.int _=>some false|.bl _,.str _=>some false|.str _,.bl _=>some false
 |_,_=>none
def sL {S S':Addr->Prop}{d1 d2:D}{x y:V}{f1 f2:List Addr}{r:Bool}(e:cZ d1 d2=some r)(r1:Rep K B S H d1 x f1)(r2:Rep K B S' H d2 y f2):HW x y=true/\decide (x=y)=r:=by
 cases d1<;>cases d2<;>first|(cases e;done)|(obtain⟨rfl,rfl⟩:=r1;obtain⟨rfl,rfl⟩:=r2;cases e;first|exact⟨rfl,rfl⟩|exact⟨rfl,by simp⟩)
def vo (neg:Bool):Option Bool->Res D|some b=>.ok (.bl (xor neg b))|none=>.bad
def kK (d1 d2:D):Res D:=vo false (cZ d1 d2)
def oZ (d1 d2:D):Res D:=vo true (cZ d1 d2)
def oz:ou K Y MF kK:=by
 intro H0 B0 B H σ τ P F d1 d2 x y f1 f2 Q I r1 r2 k h;unfold kK at h;cases e:cZ d1 d2 with
 |none=>rw[e]at h;exact h.elim
 | some r =>
  rw[e]at h;obtain⟨s,z⟩:=sL e r1 r2;refine⟨s,?_⟩;rw[z];exact Out.here h I ⟨by simp,rfl⟩
def CS:ou K Y MD oZ:=by
 intro H0 B0 B H σ τ P F d1 d2 x y f1 f2 Q I r1 r2 k h;unfold oZ at h;cases e:cZ d1 d2 with
 |none=>rw[e]at h;exact h.elim
 | some r =>
  rw[e]at h;obtain⟨s,z⟩:=sL e r1 r2;refine⟨s,?_⟩;rw[z];exact Out.here h I ⟨by simp,rfl⟩
def iC (neg:Bool):D->D->Res D
 |.bx,.bx=>.ok (.bl (!neg))
 |_,.bx=>.ok (.bl neg)
 |_,_=>.bad
def D.M0:D->Bool|.bx=>true|_=>false
def zD {S:Addr->Prop}(r:Rep K B S H d v f):decide (v=.bx)=d.M0:=by
 cases d with
 |bx=>rw[r.1];rfl|bl _=>rw[r.1];rfl|int _=>rw[r.1];rfl|str _=>rw[r.1];rfl|exc _=>obtain⟨⟨a,rfl,_⟩,_⟩:=r;rfl|tup _=>obtain⟨a,_,rfl,_⟩:=r;rfl|lst t _=>cases t<;>first|exact False.elim r|(obtain⟨a,_,r⟩:=r;first|(obtain⟨_,rfl,_⟩:=r;rfl)|(obtain⟨rfl,_⟩:=r;rfl))
 |dct t _ _ _=>cases t<;>(obtain⟨a,_,r⟩:=r;first|(obtain⟨_,rfl,_⟩:=r;rfl)|(obtain⟨rfl,_⟩:=r;rfl))
def G9:ou K Y (λ x y H Q=>y=.bx/\Q (.bl (decide (x=.bx))) H) (iC false):=by
 intro H0 B0 B H σ τ P F d1 d2 x y f1 f2 Q I r1 r2 k h;have e:=zD r1;unfold iC at h;split at h
 ·rw[r2.1];rw[e];exact⟨rfl,Out.here h I ⟨rfl,rfl⟩⟩
 ·rename_i hn;rw[r2.1];rw[e];refine⟨rfl,Out.here h I ⟨?_,rfl⟩⟩;cases d1<;>first|rfl|exact(hn rfl).elim
 ·exact h.elim
def Iu:ou K Y (λ x y H Q=>y=.bx/\Q (.bl (!decide (x=.bx))) H) (iC true):=by
 intro H0 B0 B H σ τ P F d1 d2 x y f1 f2 Q I r1 r2 k h;have e:=zD r1;unfold iC at h;split at h
 ·rw[r2.1];rw[e];exact⟨rfl,Out.here h I ⟨rfl,rfl⟩⟩
 ·rename_i hn;rw[r2.1];rw[e];refine⟨rfl,Out.here h I ⟨?_,rfl⟩⟩;cases d1<;>first|rfl|exact(hn rfl).elim
 ·exact h.elim
def Ir:D->D->Bool
 |.bx,.bx=>true
 |.bl a,.bl b=>a == b
 |.bl a,.int b=>(if a then 1 else 0) == b
 |.int a,.bl b=>a == (if b then 1 else 0)
 |.int a,.int b=>a == b
 |.str a,.str b=>a == b
 |_,_=>false
def lD (x:D)(xs:List D):Bool:=xs.any λ y=>Ir y x
def qj {S:Addr->Prop}(h:d.flat=true)(r:Rep K B S H d v f):lV v=true:=by
 cases d<;>first|exact absurd (show false=true from h) Nd|(obtain⟨rfl,_⟩:=r;rfl)
def Iv {S:Addr->Prop}{e:D}{u:V}{g:List Addr}(h:d.flat=true)(h':e.flat=true)(r:Rep K B S H d v f)(r':Rep K B S H e u g):EL v u=Ir d e:=by
 cases d<;>cases e<;>first|exact absurd (show false=true from h) Nd|exact absurd (show false=true from h') Nd|(obtain⟨rfl,_⟩:=r;obtain⟨rfl,_⟩:=r';rfl)
def qk {S:Addr->Prop}{x:D}{u:V}{g:List Addr}(hx:x.flat=true)(rx:Rep K B S H x u g):∀ {xs:List D}{vs:List V}{f:List Addr},xs.all D.flat=true->ai K B S H xs vs f->vs.all lV=true/\Lw u vs=lD x xs
 |[],vs,f,_,r=>by obtain⟨rfl,_⟩:=r;exact⟨rfl,rfl⟩
 | d::ds,vs,f,h,r=>by
  obtain⟨v,w,f1,f2,rfl,r1,r2,_⟩:=r;rw[Ru,NQ]at h;obtain⟨i1,i2⟩:=qk hx rx h.2 r2;refine⟨by rw[Ru,qj h.1 r1,i1];rfl,?_⟩;show(EL v u||Lw u w)=(Ir d x||lD x ds);rw[i2,Iv h.1 hx r1 rx]
def inD (neg:Bool):D->D->Res D
 |x,.lst _ xs=>if x.flat=true/\xs.all D.flat=true then .ok (.bl (if neg then !lD x xs else lD x xs)) else .bad
 |x,.tup xs=>if x.flat=true/\xs.all D.flat=true then .ok (.bl (if neg then !lD x xs else lD x xs)) else .bad
 |_,_=>.bad
def p9 (neg:Bool):ou K Y (L3 K neg) (inD neg):=by
 intro H0 B0 B H σ τ P F d1 d2 x y f1 f2 Q I r1 r2 k h;unfold inD at h;split at h
 ·split at h
  ·rename_i hc;obtain⟨a,vs,g,rfl,q,l,s⟩:=r2.lst I;obtain⟨z1,z2⟩:=qk hc.1 r1 hc.2 l;refine⟨a,vs,rfl,.inl (gO q),qj hc.1 r1,z1,?_⟩;rw[z2];exact Out.here h I ⟨rfl,rfl⟩
  ·exact h.elim
 ·split at h
  ·rename_i hc;obtain⟨a,vs,rfl,q,l⟩:=r2.tp;obtain⟨z1,z2⟩:=qk hc.1 r1 hc.2 l;refine⟨a,vs,rfl,.inr q,qj hc.1 r1,z1,?_⟩;rw[z2];exact Out.here h I ⟨rfl,rfl⟩
  ·exact h.elim
 ·exact h.elim
def cS:D->D->Res D
 |.lst _ xs,.int i=>match rH xs i with|some d=>.ok d|none=>.bad
 |.tup xs,.int i=>match rH xs i with|some d=>.ok d|none=>.bad
 |.str z,.int i=>if z.length<=16777216 then match rH z.cps.toList i with|some c=>.ok (.str ⟨#[c]⟩)|none=>.bad else .bad
 |_,_=>.bad
def ai.rH {S:Addr->Prop}{i:Int}(r:ai K B S H xs vs f)(e:rH xs i=some d):∃ v g,L2.rH vs i=some v/\Rep K B S H d v g/\List.Sublist g f:=by
 unfold L2.rH at e ⊢;rw[r.length]at e;cases z:Ff vs.length i with
 |none=>rw[z]at e;cases e
 | some j =>
  rw[z]at e;obtain⟨v,g,h1,h2,h3⟩:=r.get (i:=j) e;exact⟨v,g,h1,h2,h3⟩
def Ml:ou K Y (MG K) cS:=by
 intro H0 B0 B H σ τ P F d1 d2 x y f1 f2 Q I r1 r2 k h;unfold cS at h;split at h
 ·obtain⟨rfl,rfl⟩:=r2;obtain⟨a,vs,g,rfl,q,l,s⟩:=r1.lst I;split at h
  ·rename_i d e;obtain⟨v,g',e1,r',s'⟩:=l.rH e;exact .inl ⟨a,vs,_,v,rfl,rfl,gO q,e1,Out.zy h I r' (k.left.sub (s'.trans s))⟩
  ·exact h.elim
 ·obtain⟨rfl,rfl⟩:=r2;obtain⟨a,vs,rfl,q,l⟩:=r1.tp;split at h
  ·rename_i d e;obtain⟨v,g',e1,r',s'⟩:=l.rH e;exact .inr (.inl ⟨a,vs,_,v,rfl,rfl,q,e1,Out.zy h I r' (k.left.sub s')⟩)
  ·exact h.elim
 ·obtain⟨rfl,rfl⟩:=r2;obtain⟨rfl,rfl⟩:=r1;split at h
  ·rename_i hl;split at h
   ·rename_i c e;exact .inr (.inr ⟨_,_,c,rfl,rfl,Io hl,e,Out.here h I ⟨rfl,rfl⟩⟩)
   ·exact h.elim
  ·exact h.elim
 ·exact h.elim
def oX.later{Q:Bool->Hp->Prop}{r:Res Bool}(h:oX K Y H0 B0 B H σ τ P F Q r)(sH:aq H H1)(sB:aq B B1):oX K Y H0 B0 B1 H1 σ τ P F Q r:=by
 cases r with
 |ok d=>exact λ H' B' I s b=>h H' B' I (sH.trans s) (sB.trans b)
 |f7 C=>exact my.later h sH sB λ _ x=>x
 |bad=>exact h
def kq.seq {f:SD->Res Bool}{Q':Bool->Hp->Prop}{g:Bool->Res Bool}{Q:Bool->Hp->Prop}(I:SI K H0 B0 B H σ τ P F)(h:oX K Y H0 B0 B H σ τ P F Q ((f τ).bind g))
  (k:∀ d H1 B1,SI K H0 B0 B1 H1 σ τ P F->oX K Y H0 B0 B1 H1 σ τ P F Q (g d)->Q' d H1):kq K Y f σ H Q':=by
 refine⟨H0,B0,B,τ,P,F,I,?_⟩;cases e:f τ with
 |ok d=>rw[e]at h;exact λ H1 B1 I1 s1 b1=>k d H1 B1 I1 (oX.later h s1 b1)
 |f7 C=>rw[e]at h;exact h|bad=>rw[e]at h;exact h
def kq.Mj {f:SD->Res Bool}{Q':Bool->Hp->Prop}{g:Bool->Res D}(I:SI K H0 B0 B H σ τ P F)(h:Goal K Y H0 B0 B H σ τ P F Q ((f τ).bind g))
  (k:∀ d H1 B1,SI K H0 B0 B1 H1 σ τ P F->Goal K Y H0 B0 B1 H1 σ τ P F Q (g d)->Q' d H1):kq K Y f σ H Q':=by
 refine⟨H0,B0,B,τ,P,F,I,?_⟩;cases e:f τ with
 |ok d=>rw[e]at h;exact λ H1 B1 I1 s1 b1=>k d H1 B1 I1 (Goal.later h s1 b1)
 |f7 C=>rw[e]at h;exact h|bad=>rw[e]at h;exact h
def iM (f:SD->Res Bool)(τ:SD):Res Bool:=(f τ).bind λ b=>.ok (!b)
def fX (f g:SD->Res Bool)(τ:SD):Res Bool:=(f τ).bind λ b=>if b=true then g τ else .ok false
def pN (f g:SD->Res Bool)(τ:SD):Res Bool:=(f τ).bind λ b=>if b=true then .ok true else g τ
def xT (ha:PT X a (kq X.K Y ga)):PT X (.UnaryOp .Not a pos) (kq X.K Y (iM ga)):=
 PT.imp (HV ha) λ σ H Q hq=>ex8 hq λ H0 B0 B τ P F I h=>kq.seq I h λ d H1 B1 I1 h1=>h1 H1 B1 I1 (aq.refl _) (aq.refl _)
def PW.imp{t t':TT}(h:PW X e t)(hi:∀ σ H Q,t' σ H Q->t σ H Q):PW X e t':=λ wh pins s σ H Q I hw=>h wh pins s σ H Q I (hi σ H Q hw)
def nj (ha:PT X a (kq X.K Y ga)):PW X (.BoolOp .And [a] pos) (kq X.K Y ga):=ES ha
def xV (ha:PT X a (kq X.K Y ga)):PW X (.BoolOp .Or [a] pos) (kq X.K Y ga):=HJ ha
def ow {rest:List Expr}(ha:PT X a (kq X.K Y ga))(hb:PW X (.BoolOp .And (b::rest) pos) (kq X.K Y gb)):PW X (.BoolOp .And (a::b::rest) pos) (kq X.K Y (fX ga gb)):=
 PW.imp (HN ha hb) λ σ H Q hq=>ex8 hq λ H0 B0 B τ P F I h=>kq.seq I h λ d H1 B1 I1 h1=>by
  cases d with
  |true=>rw[Nr rfl]at h1 ⊢;exact⟨H0,B0,B1,τ,P,F,I1,h1⟩| false=>rw[Nu Nd]at h1 ⊢;exact h1 H1 B1 I1 (aq.refl _) (aq.refl _)
def vS {rest:List Expr}(ha:PT X a (kq X.K Y ga))(hb:PW X (.BoolOp .Or (b::rest) pos) (kq X.K Y gb)):PW X (.BoolOp .Or (a::b::rest) pos) (kq X.K Y (pN ga gb)):=
 PW.imp (Kg ha hb) λ σ H Q hq=>ex8 hq λ H0 B0 B τ P F I h=>kq.seq I h λ d H1 B1 I1 h1=>by
  cases d with
  |true=>rw[Nr rfl]at h1 ⊢;exact h1 H1 B1 I1 (aq.refl _) (aq.refl _)|false=>rw[Nu Nd]at h1 ⊢;exact⟨H0,B0,B1,τ,P,F,I1,h1⟩
def ur (c:SD->Res Bool)(f g:SD->Res D)(τ:SD):Res D:=(c τ).bind λ b=>if b=true then f τ else g τ
def Mk (hc:PT X c (kq X.K Y ga))(ha:PE X a (tM X.K Y fa))(hb:PE X b (tM X.K Y fb)):PE X (.IfExp c a b pos) (tM X.K Y (ur ga fa fb)):=
 PE.imp (Cg hc ha hb) λ σ H Q hq=>ex8 hq λ H0 B0 B τ P F I h=>kq.Mj I h λ d H1 B1 I1 h1=>by
  cases d with
  |true=>rw[Nr rfl]at h1 ⊢;exact⟨H0,B0,B1,τ,P,F,I1,h1⟩| false=>rw[Nu Nd]at h1 ⊢;exact⟨H0,B0,B1,τ,P,F,I1,h1⟩
def nh (g:D->Res D)(f:SD->Res D)(τ:SD):Res D:=(f τ).bind g
def jr:D->Res D|.int i=>.ok (.int (-i))|_=>.bad
def G8 (ha:PE X a (tM X.K Y fa)):PE X (.UnaryOp .USub a pos) (tM X.K Y (nh jr fa)):=
 PE.imp (JZ Hz ha) λ σ H Q hq=>ex8 hq λ H0 B0 B τ P F I h=>tM.seq I h λ d v H1 B1 fp _ I1 _ _ r1 _ h1=>by
  cases d with
  |int i=>exact⟨i,r1.1,Out.here h1 I1 ⟨rfl,rfl⟩⟩| _=>exact h1.elim
def ao (_:SD):Res (List D):=.ok []
def ae (f:SD->Res D)(g:SD->Res (List D))(τ:SD):Res (List D):=(f τ).bind λ d=>(g τ).bind λ ds=>.ok (d::ds)
variable{fs:SD->Res (List D)}
def c5:PA X [] (pL X.K Y ao):=PA.imp fE λ σ H Q hq=>ex8 hq λ H0 B0 B τ P F I h=>h [] H B [] I (aq.refl _) (aq.refl _) ⟨rfl,rfl⟩ fR.nil
def aO (ha:PE X e (tM X.K Y fe))(hr:PA X es (pL X.K Y fs))(hs:starEach (e::es) X.env=(false,eval e X.env)::starEach es X.env:=by rfl):PA X (e::es) (pL X.K Y (ae fe fs)):=by
 refine PA.imp (cT ha hr hs) λ σ H Q hq=>ex8 hq λ H0 B0 B τ P F I h=>?_;refine⟨H0,B0,B,τ,P,F,I,?_⟩;unfold ae at h;cases z:fe τ with
 |f7 C=>rw[z]at h;exact h|bad=>rw[z]at h;exact h
 | ok d =>
  rw[z]at h;intro v H1 B1 fp I1 s1 b1 r1 k1;refine⟨H0,B0,B1,τ,P,_,I1.hold k1,?_⟩;cases y:fs τ with
  |f7 C=>rw[y]at h;exact my.later h s1 b1 λ a x=>.inr x
  |bad=>rw[y]at h;exact h
  | ok ds =>
   rw[y]at h;intro vs H2 B2 fq I2 s2 b2 r2 k2;exact h (v::vs) H2 B2 (fp++fq) (I2.qi λ a x=>.inr x) (s1.trans s2) (b1.trans b2) ⟨v,vs,fp,fq,rfl,r1.mono s2 b2 (λ _ x=>x),r2,rfl⟩ (k1.both s2 I2 k2)
def pL.seq {f:SD->Res (List D)}{Q':List V->Hp->Prop}{g:List D->Res D}(I:SI K H0 B0 B H σ τ P F)(h:Goal K Y H0 B0 B H σ τ P F Q ((f τ).bind g))
  (k:∀ ds vs H1 B1 fp,f τ=.ok ds->SI K H0 B0 B1 H1 σ τ P F->aq H H1->aq B B1->ai K B1 (· ∈ P) H1 ds vs fp->fR H0 B1 H1 P F fp->Goal K Y H0 B0 B1 H1 σ τ P F Q (g ds)->Q' vs H1):pL K Y f σ H Q':=by
 refine⟨H0,B0,B,τ,P,F,I,?_⟩;cases e:f τ with
 | ok d =>
  rw[e]at h;intro v H1 B1 fp I1 s1 b1 r1 k1;exact k d v H1 B1 fp e I1 s1 b1 r1 k1 (Goal.later h s1 b1)
 |f7 C=>rw[e]at h;exact h|bad=>rw[e]at h;exact h
def il (ds:List D):Res D:=if ds.length<=16777216 then .ok (.tup ds) else .bad
def dw (ds:List D):Res D:=if ds.length<=16777216 then .ok (.lst .own ds) else .bad
def eA (g:List D->Res D)(f:SD->Res (List D))(τ:SD):Res D:=(f τ).bind g
def vR {x1}(h:PA X es (pL X.K Y fs)):PE X (.Tuple es x1 pos) (tM X.K Y (eA il fs)):=
 PE.imp (Cp h) λ σ H Q hq=>ex8 hq λ H0 B0 B τ P F I h=>pL.seq I h λ ds vs H1 B1 fp _ I1 _ _ r1 k1 h1=>by
  unfold il at h1;split at h1
  ·rename_i hl;exact⟨by rw[<-r1.length];exact Io hl,λ p hp=>Out.Fy h1 I1 r1 k1 hp⟩
  ·exact h1.elim
def iz (h:PA X es (pL X.K Y fs)):PE X (.List es pos) (tM X.K Y (eA dw fs)):=
 PE.imp (xF h) λ σ H Q hq=>ex8 hq λ H0 B0 B τ P F I h=>pL.seq I h λ ds vs H1 B1 fp _ I1 _ _ r1 k1 h1=>by
  unfold dw at h1;split at h1
  ·rename_i hl;exact⟨by rw[<-r1.length];exact Io hl,λ p hp=>Out.CN h1 I1 r1 k1 hp⟩
  ·exact h1.elim
def kL (K:PySem.W.Frag)(Y:XY)(r:List V->Hp->VK->Prop)(g:List D->Res D):Prop:=∀ {H0 B0 B H:Hp}{σ:L2.St}{τ:SD}{P:List Addr}{F:Addr->Prop}{ds:List D}{vs:List V}{f:List Addr}{Q:VK},
 SI K H0 B0 B H σ τ P F->ai K B (· ∈ P) H ds vs f->fR H0 B H P F f->Goal K Y H0 B0 B H σ τ P F Q (g ds)->r vs H Q
def FF{id:String}{r:List V->Hp->VK->Prop}{g:List D->Res D}(hc:eY X (.builtin id) r)(hgd:kL X.K Y r g)(hg:Gl X x)(hm:X.mg x=none)(hv:bootBuiltins x=some (.builtin id))(ha:PA X (e::es) (pL X.K Y fs))(hn:x ≠ "__name__" :=by decide)(hdb:(x == ("__debug__" : Str))=false:=by decide)
  (he:starEach (e::es) X.env=(false,eval e X.env)::starEach es X.env:=by rfl) (hpl:(backTo pos (starEach es X.env)).any (·.1)=false:=by rfl) :
  PE X (.Call (.Name x p) (e::es) [] pos) (tM X.K Y (eA g fs)):=
 PE.imp (pT hc hg hm hv ha hn hdb he hpl) λ σ H Q hq=>ex8 hq λ H0 B0 B τ P F I h=>pL.seq I h λ ds vs H1 B1 fp _ I1 _ _ r1 k1 h1=>hgd I1 r1 k1 h1
def CU{r:List V->Hp->VK->Prop}{g:List D->Res D}(hc:eY X (.type T) r)(hgd:kL X.K Y r g)(hg:Gl X x)(hm:X.mg x=none)(hv:bootBuiltins x=some (.type T))(ha:PA X (e::es) (pL X.K Y fs))(hn:x ≠ "__name__" :=by decide)(hdb:(x == ("__debug__" : Str))=false:=by decide)
  (he:starEach (e::es) X.env=(false,eval e X.env)::starEach es X.env:=by rfl) (hpl:(backTo pos (starEach es X.env)).any (·.1)=false:=by rfl) :
  PE X (.Call (.Name x p) (e::es) [] pos) (tM X.K Y (eA g fs)):=
 PE.imp (AK hc hg hm hv ha hn hdb he hpl) λ σ H Q hq=>ex8 hq λ H0 B0 B τ P F I h=>pL.seq I h λ ds vs H1 B1 fp _ I1 _ _ r1 k1 h1=>hgd I1 r1 k1 h1
def lY {S:Addr->Prop}(r:ai K B S H [d] vs f):∃ v,vs=[v]/\Rep K B S H d v f:=by
 obtain⟨v,w,f1,f2,rfl,r1,r2,rfl⟩:=r;obtain⟨rfl,rfl⟩:=r2;exact⟨v,rfl,by rw[NX];exact r1⟩
def zE {S:Addr->Prop}{e:D}(r:ai K B S H [d,e] vs f):∃ v u f1 f2,vs=[v,u]/\f=f1++f2/\Rep K B S H d v f1/\Rep K B S H e u f2:=by
 obtain⟨v,w,f1,f2,rfl,r1,r2,rfl⟩:=r;obtain⟨u,rfl,r3⟩:=lY r2;exact⟨v,u,f1,f2,rfl,rfl,r1,r3⟩
def df:List D->Res D
 |[.lst _ xs]=>.ok (.int xs.length)
 |[.tup xs]=>.ok (.int xs.length)
 |[.str z]=>if z.length<=16777216 then .ok (.int z.length) else .bad
 |_=>.bad
abbrev KG (K:PySem.W.Frag):List V->Hp->VK->Prop:=λ xs H Q=>(∃ p ys,xs=[.ref p]/\(cY K H p ys\/lq K H p ys)/\Q (.int ys.length) H)\/∃ z,xs=[.str z]/\z.length<=sizeLine/\Q (.int z.length) H
def bB:eY X (.builtin "len") (KG X.K):=eY.or ua uc
def fZ:kL K Y (KG K) df:=by
 intro H0 B0 B H σ τ P F ds vs f Q I r k h;unfold df at h;split at h
 ·obtain⟨v,rfl,r'⟩:=lY r;obtain⟨a,ws,g,rfl,q,l,s⟩:=r'.lst I;refine .inl ⟨a,ws,rfl,.inl (gO q),?_⟩;rw[<-l.length];exact Out.here h I ⟨rfl,rfl⟩
 ·obtain⟨v,rfl,r'⟩:=lY r;obtain⟨a,ws,rfl,q,l⟩:=r'.tp;refine .inl ⟨a,ws,rfl,.inr q,?_⟩;rw[<-l.length];exact Out.here h I ⟨rfl,rfl⟩
 ·obtain⟨v,rfl,r'⟩:=lY r;obtain⟨rfl,rfl⟩:=r';split at h
  ·rename_i hl;exact .inr ⟨_,rfl,Io hl,Out.here h I ⟨rfl,rfl⟩⟩
  ·exact h.elim
 ·exact h.elim
def eZ:List D->Res D|[.int i,.int j]=>.ok (.int (if j>i then j else i))|_=>.bad
def e9:List D->Res D|[.int i,.int j]=>.ok (.int (if j<i then j else i))|_=>.bad
def xU:kL K Y (λ xs H Q=>∃ i j,xs=[.int i,.int j]/\Q (.int (if j>i then j else i)) H) eZ:=by
 intro H0 B0 B H σ τ P F ds vs f Q I r k h;unfold eZ at h;split at h
 ·obtain⟨v,u,f1,f2,rfl,rfl,⟨rfl,rfl⟩,⟨rfl,rfl⟩⟩:=zE r;exact⟨_,_,rfl,Out.here h I ⟨rfl,rfl⟩⟩
 ·exact h.elim
def CT:kL K Y (λ xs H Q=>∃ i j,xs=[.int i,.int j]/\Q (.int (if j<i then j else i)) H) e9:=by
 intro H0 B0 B H σ τ P F ds vs f Q I r k h;unfold e9 at h;split at h
 ·obtain⟨v,u,f1,f2,rfl,rfl,⟨rfl,rfl⟩,⟨rfl,rfl⟩⟩:=zE r;exact⟨_,_,rfl,Out.here h I ⟨rfl,rfl⟩⟩
 ·exact h.elim
def cR:List D->Res D
 |[.lst _ xs]=>.ok (.tup xs)
 |[.tup xs]=>.ok (.tup xs)
 |_=>.bad
def uu:kL K Y (λ xs H Q=>∃ p ys,xs=[.ref p]/\((cY K H p ys/\∀ l,H l=none->Q (.ref l) (upd H l (.tup ys)))\/(lq K H p ys/\Q (.ref p) H))) cR:=by
 intro H0 B0 B H σ τ P F ds vs f Q I r k h;unfold cR at h;split at h
 ·obtain⟨v,rfl,r'⟩:=lY r;obtain⟨a,ws,g,rfl,q,l,s⟩:=r'.lst I;exact⟨a,ws,rfl,.inl ⟨gO q,λ p hp=>Out.Fy h I l (k.sub s) hp⟩⟩
 ·obtain⟨v,rfl,r'⟩:=lY r;obtain⟨a,ws,rfl,q,l⟩:=r'.tp;exact⟨a,ws,rfl,.inr ⟨q,Out.zy h I r' k⟩⟩
 ·exact h.elim
def eP (f:SD->Res D)(τ:SD):Res (Option Int):=(f τ).bind λ d=>match d with|.int i=>.ok (some i)|_=>.bad
def uq (_:SD):Res (Option Int):=.ok none
def Lx (K:PySem.W.Frag)(Y:XY)(f:SD->Res (Option Int)):TO:=λ σ H Q=>∃ H0 B0 B τ P F,SI K H0 B0 B H σ τ P F/\match f τ with
 |.ok o=>∀ H' B',SI K H0 B0 B' H' σ τ P F->aq H H'->aq B B'->Q o H'
 |.f7 C=>my K Y H0 B0 B H σ τ P F C
 |.bad=>False
def PO.imp {e:Option Expr}{t t':TO}(h:PO X e t)(hi:∀ σ H Q,t' σ H Q->t σ H Q):PO X e t':=λ pins s σ H Q I hw=>h pins s σ H Q I (hi σ H Q hw)
def FE:PO X none (Lx X.K Y uq):=PO.imp Fd λ σ H Q hq=>ex8 hq λ H0 B0 B τ P F I h=>h H B I (aq.refl _) (aq.refl _)
def FG (h:PE X e (tM X.K Y fe)):PO X (some e) (Lx X.K Y (eP fe)):=by
 refine PO.imp (Fi h) λ σ H Q hq=>ex8 hq λ H0 B0 B τ P F I h=>?_;refine⟨H0,B0,B,τ,P,F,I,?_⟩;unfold eP at h;cases z:fe τ with
 |f7 C=>rw[z]at h;exact h|bad=>rw[z]at h;exact h
 | ok d =>
  rw[z]at h;intro v H1 B1 fp I1 s1 b1 r1 k1;cases d with
  |int i=>exact⟨i,r1.1,h H1 B1 I1 s1 b1⟩| _=>exact h.elim
def cut(xs:List α)(lo hi:Option Int):List α:=(xs.drop (HT.fJ xs.length 0 lo)).take (HT.fJ xs.length xs.length hi-HT.fJ xs.length 0 lo)
def ai.drop {S:Addr->Prop}:∀ (n:Nat) {xs:List D}{vs:List V}{f:List Addr},ai K B S H xs vs f->∃ g,ai K B S H (xs.drop n) (vs.drop n) g/\List.Sublist g f
 |0,xs,vs,f,r=>⟨f,r,Oq _⟩
 | n+1,[],vs,f,r=>by
  obtain⟨rfl,rfl⟩:=r;exact⟨[],⟨rfl,rfl⟩,Oq _⟩
 | n+1,d::ds,vs,f,r=>by
  obtain⟨v,w,f1,f2,rfl,r1,r2,rfl⟩:=r;obtain⟨g,h1,h2⟩:=ai.drop n r2;exact⟨g,h1,h2.trans (NL _ _)⟩
def ai.take {S:Addr->Prop}:∀ (n:Nat) {xs:List D}{vs:List V}{f:List Addr},ai K B S H xs vs f->∃ g,ai K B S H (xs.take n) (vs.take n) g/\List.Sublist g f
 |0,xs,vs,f,r=>⟨[],⟨rfl,rfl⟩,List.nil_sublist _⟩
 | n+1,[],vs,f,r=>by
  obtain⟨rfl,rfl⟩:=r;exact⟨[],⟨rfl,rfl⟩,Oq _⟩
 | n+1,d::ds,vs,f,r=>by
  obtain⟨v,w,f1,f2,rfl,r1,r2,rfl⟩:=r;obtain⟨g,h1,h2⟩:=ai.take n r2;exact⟨f1++g,⟨v,_,f1,g,rfl,r1,h1,rfl⟩,Q2 (Oq _) h2⟩
def ai.cut {S:Addr->Prop}(r:ai K B S H xs vs f)(lo hi:Option Int):∃ g,ai K B S H (cut xs lo hi) (vD vs lo hi) g/\List.Sublist g f:=by
 unfold DL.cut vD;rw[r.length];obtain⟨g,h1,h2⟩:=r.drop (HT.fJ vs.length 0 lo);obtain⟨g',h3,h4⟩:=h1.take (HT.fJ vs.length vs.length hi-HT.fJ vs.length 0 lo);exact⟨g',h3,h4.trans h2⟩
def cutD (d:D)(lo hi:Option Int):Res D:=match d with
 |.lst _ xs=>.ok (.lst .own (cut xs lo hi))
 |.tup xs=>if HT.fJ xs.length 0 lo=0/\HT.fJ xs.length xs.length hi=xs.length then .bad else .ok (.tup (cut xs lo hi))
 |_=>.bad
def jt (f:SD->Res D)(lo hi:SD->Res (Option Int))(τ:SD):Res D:=(f τ).bind λ d=>(lo τ).bind λ l=>(hi τ).bind λ u=>cutD d l u
def FH {lo hi:Option Expr}{fl fh:SD->Res (Option Int)}{p2:Pos}(he:PE X e (tM X.K Y fe))(hl:PO X lo (Lx X.K Y fl))(hu:PO X hi (Lx X.K Y fh)):PE X (.Subscript e (.Slice lo hi none p2) pos) (tM X.K Y (jt fe fl fh)):=by
 refine PE.imp (Cy (G3.or Fb Ic) he hl hu) λ σ H Q hq=>ex8 hq λ H0 B0 B τ P F I h=>?_;refine tM.seq I h λ d v H1 B1 fp _ I1 s1 b1 r1 k1 h1=>?_;refine⟨H0,B0,B1,τ,P,_,I1.hold k1,?_⟩;cases z:fl τ with
 |f7 C=>rw[z]at h1;exact my.later h1 (aq.refl _) (aq.refl _) λ a x=>.inr x
 |bad=>rw[z]at h1;exact h1
 | ok l =>
  rw[z]at h1;intro H2 B2 I2 s2 b2;refine⟨H0,B0,B2,τ,P,_,I2,?_⟩;cases y:fh τ with
  |f7 C=>rw[y]at h1;exact my.later h1 s2 b2 λ a x=>.inr x
  |bad=>rw[y]at h1;exact h1
  | ok u =>
   rw[y]at h1;intro H3 B3 I3 s3 b3;have I4:=I3.qi (F':=F) λ a x=>.inr x;have k4:=k1.KH (s2.trans s3) I3;have r4:=r1.mono (s2.trans s3) (b2.trans b3) λ _ x=>x;have h4:Goal X.K Y H0 B0 B3 H3 σ τ P F Q (cutD d l u):=Goal.later h1 (s2.trans s3) (b2.trans b3);unfold cutD at h4;split at h4
   ·obtain⟨a,vs,g,rfl,q,l',s⟩:=r4.lst I4;obtain⟨g',l2,s2⟩:=l'.cut l u;exact .inl ⟨a,vs,rfl,gO q,λ p hp=>Out.CN h4 I4 l2 (k4.sub (s2.trans s)) hp⟩
   ·obtain⟨a,vs,rfl,q,l'⟩:=r4.tp;obtain⟨g',l2,s2⟩:=l'.cut l u;split at h4
    ·exact h4.elim
    ·rename_i hc;rw[l'.length]at hc;exact .inr ⟨a,vs,rfl,q,hc,λ p hp=>Out.Fy h4 I4 l2 (k4.sub s2) hp⟩
   ·exact h4.elim
end
inductive Fl where|nx (τ:SD)|rt (d:D)|bk (τ:SD)|ct (τ:SD)|ex (C:Addr)(τ:SD)|bad
abbrev SF:=SD->Fl
variable {b:SF}
def Tg.aT:Tg->Tg|.bor=>.ak|t=>t
mutual
def D.aT:D->D
 |.tup xs=>.tup (b7 xs)
 |.lst t xs=>.lst t.aT (b7 xs)
 |.dct t k ks vs=>.dct t.aT k ks (b7 vs)
 |d=>d
def b7:List D->List D
 |[]=>[]
 |d::r=>d.aT::b7 r
end
mutual
def vU:∀ d:D,d.az=false->d.aT=d
 |.bx,_=>rfl|.bl _,_=>rfl|.int _,_=>rfl|.str _,_=>rfl|.exc _,_=>rfl
 | .tup xs,h=>by
  have h:au xs=false:=h;show D.tup (b7 xs)=_;rw[ju xs h]
 | .lst t xs,h=>by
  have h:(decide (t=.bor)||au xs)=false:=h;rw[PD]at h;show D.lst t.aT (b7 xs)=_;rw[ju xs h.2];cases t<;>first|rfl|exact absurd h.1 (by decide)
 | .dct t k ks vs,h=>by
  have h:(decide (t=.bor)||au vs)=false:=h;rw[PD]at h;show D.dct t.aT k ks (b7 vs)=_;rw[ju vs h.2];cases t<;>first|rfl|exact absurd h.1 (by decide)
def ju:∀ xs:List D,au xs=false->b7 xs=xs
 |[],_=>rfl
 | d::r,h=>by
  have h:(d.az||au r)=false:=h;rw[PD]at h;show d.aT::b7 r=_;rw[vU d h.1,ju r h.2]
end
section
variable {K:PySem.W.Frag}
mutual
def Rep.aT {B B' H:Hp}{S:Addr->Prop}(sB:aq B B')(hs:∀ a o,S a->H a=some o->B' a=some o):∀ {d:D}{v:V}{fp:List Addr},Rep K B S H d v fp->Rep K B' No H d.aT v fp
 |.bx,_,_,h=>h
 |.bl _,_,_,h=>h
 |.int _,_,_,h=>h
 |.str _,_,_,h=>h
 |.exc _,_,_,h=>h
 |.tup xs,v,fp,h=>let ⟨a,vs,e,q,r⟩:=h;⟨a,vs,e,q,ai.aT sB hs r⟩
 |.lst .own xs,v,fp,h=>let ⟨a,vs,f,e,q,r,z⟩:=h;⟨a,vs,f,e,q,ai.aT sB hs r,z⟩
 |.lst .bor xs,v,fp,h=>let ⟨a,vs,e,q,r,z⟩:=h;⟨a,vs,e,CM sB hs q,ai.aT sB hs r,z⟩
 |.lst .ak xs,v,fp,h=>let ⟨a,vs,e,q,r,z⟩:=h;⟨a,vs,e,eO sB q,ai.aT sB (λ _ _ x=>x.elim) r,z⟩
 |.lst (.len _) _,_,_,h=>h.elim
 |.dct (.len a) kd ks xs,v,fp,h=>let ⟨vs,f,e,q,r,z⟩:=h;⟨vs,f,e,q,ai.aT sB hs r,z⟩
 |.dct .own kd ks xs,v,fp,h=>let ⟨a,vs,f,e,q,r,z⟩:=h;⟨a,vs,f,e,q,ai.aT sB hs r,z⟩
 |.dct .bor kd ks xs,v,fp,h=>let ⟨a,vs,e,q,r,z⟩:=h;⟨a,vs,e,lC sB hs q,ai.aT sB hs r,z⟩
 |.dct .ak kd ks xs,v,fp,h=>let ⟨a,vs,e,q,r,z⟩:=h;⟨a,vs,e,q.mono sB,ai.aT sB (λ _ _ x=>x.elim) r,z⟩
def ai.aT {B B' H:Hp}{S:Addr->Prop}(sB:aq B B')(hs:∀ a o,S a->H a=some o->B' a=some o):∀ {ds:List D}{vs:List V}{fp:List Addr},ai K B S H ds vs fp->ai K B' No H (b7 ds) vs fp
 |[],_,_,h=>h
 |d::ds,vs,fp,h=>let ⟨v,r,f,g,e,h1,h2,z⟩:=h;⟨v,r,f,g,e,Rep.aT sB hs h1,ai.aT sB hs h2,z⟩
end
def mS (H H':Hp):Prop:=∀ a o,H a=some o->¬ rJ o->H' a=some o
def mS.of(s:aq H H'):mS H H':=λ a o h _=>s a o h
def mS.refl (H:Hp):mS H H:=λ _ _ h _=>h
def mS.trans {H2:Hp}(a:mS H H1)(b:mS H1 H2):mS H H2:=λ x o h n=>b x o (a x o h n) n
structure jZ (K:PySem.W.Frag)(H0 B0 B H:Hp)(B' H':Hp)(σ':L2.St)(τ':SD)(P':List Addr):Prop where
 si:SI K H0 B0 B' H' σ' τ' P' No
 b:aq B B'
 vM:mS H H'
structure o4 (K:PySem.W.Frag)(H0 B0 B' H':Hp)(d:D)(v:V)(fp:List Addr):Prop where
 h0:aq H0 H'
 b0:aq B0 B'
 bh:aq B' H'
 nb:∀ a,B' a≠none->B0 a≠none\/H0 a=none
 rep:Rep K B' No H' d v fp
 nd:fp.Nodup
 own:∀ a∈fp,B' a=none/\H0 a=none/\H' a≠none
def ML (K:PySem.W.Frag)(H0 B0:Hp)(E:Ends):D->Prop
 |.tup [r,x]=>∀ B' H' v u f1 f2,o4 K H0 B0 B' H' r v f1->Rep K B' No H' x u f2->(f1++f2).Nodup->(∀ b∈f2,B' b=none/\H0 b=none/\H' b≠none)->E.rt v H'
 |_=>False
def b8 (K:PySem.W.Frag)(Y:XY)(H0 B0 B H:Hp)(E:Ends):Fl->Prop
 |.nx τ'=>∀ B' H' σ' P',jZ K H0 B0 B H B' H' σ' τ' P'->E.nx σ' H'
 |.bk τ'=>∀ B' H' σ' P',jZ K H0 B0 B H B' H' σ' τ' P'->E.bk σ' H'
 |.ct τ'=>∀ B' H' σ' P',jZ K H0 B0 B H B' H' σ' τ' P'->E.ct σ' H'
 |.ex C τ'=>∀ B' H' σ' P',jZ K H0 B0 B H B' H' σ' τ' P'->Y C σ' H'
 | .rt d=>match Y.ln with
  |false=>∀ B' H' v fp,o4 K H0 B0 B' H' d v fp->E.rt v H'
  |true=>ML K H0 B0 E d
 |.bad=>False
def jK (K:PySem.W.Frag)(Y:XY)(g:SF):TS:=λ E σ H=>∃ H0 B0 B τ P,SI K H0 B0 B H σ τ P No/\b8 K Y H0 B0 B H E (g τ)
variable{E:Ends}
def jZ.refl (I:SI K H0 B0 B H σ τ P No):jZ K H0 B0 B H B H σ τ P:=⟨I,aq.refl _,mS.refl _⟩
def jZ.grow(I:SI K H0 B0 B' H' σ τ P No)(sB:aq B B')(sH:aq H H'):jZ K H0 B0 B H B' H' σ τ P:=⟨I,sB,mS.of sH⟩
def jZ.trans {B2 H2:Hp}{σ1 σ2:L2.St}{τ1 τ2:SD}{P1 P2:List Addr}(a:jZ K H0 B0 B H B1 H1 σ1 τ1 P1)(b:jZ K H0 B0 B1 H1 B2 H2 σ2 τ2 P2):jZ K H0 B0 B H B2 H2 σ2 τ2 P2:=⟨b.si,a.b.trans b.b,a.vM.trans b.vM⟩
def b8.later{σ1:L2.St}{τ1:SD}{P1:List Addr}{r:Fl}(h:b8 K Y H0 B0 B H E r)(a:jZ K H0 B0 B H B1 H1 σ1 τ1 P1):b8 K Y H0 B0 B1 H1 E r:=by
 cases r with
 |nx τ'=>exact λ B' H' σ' P' b=>h B' H' σ' P' (a.trans b)
 |bk τ'=>exact λ B' H' σ' P' b=>h B' H' σ' P' (a.trans b)
 |ct τ'=>exact λ B' H' σ' P' b=>h B' H' σ' P' (a.trans b)
 |ex C τ'=>exact λ B' H' σ' P' b=>h B' H' σ' P' (a.trans b)
 |rt d=>exact h|bad=>exact h
def b8.rt(hl:Y.ln=false)(h:b8 K Y H0 B0 B H E (.rt d)):∀ B' H' v fp,o4 K H0 B0 B' H' d v fp->E.rt v H':=by
 have h:(match Y.ln with|false=>∀ B' H' v fp,o4 K H0 B0 B' H' d v fp->E.rt v H'|true=>ML K H0 B0 E d):=h;rw[hl]at h;exact h
def Fl.andThen (r:Fl)(s:SF):Fl:=match r with|.nx τ=>s τ|r=>r
def aC (a b:SF)(τ:SD):Fl:=(a τ).andThen b
def bj (τ:SD):Fl:=.nx τ
variable{rest:List Stmt}{g g1 g2:SF}
def cH:mQ X [] (jK X.K Y bj):=mQ.imp E2 λ E σ H hq=>ex7 hq λ H0 B0 B τ P I h=>h B H σ P (jZ.refl I)
def aD (h:PS X st (jK X.K Y g)):mQ X [st] (jK X.K Y g):=ET h
def aj (h1:PS X st (jK X.K Y g1))(h2:mQ X rest (jK X.K Y g2)):mQ X (st::rest) (jK X.K Y (aC g1 g2)):=by
 refine mQ.imp (Cf h1 h2) λ E σ H hq=>ex7 hq λ H0 B0 B τ P I h=>⟨H0,B0,B,τ,P,I,?_⟩;unfold aC at h;cases e:g1 τ with
 |nx τ'=>rw[e]at h;exact λ B' H' σ' P' a=>⟨H0,B0,B',τ',P',a.si,b8.later h a⟩
 |bk τ'=>rw[e]at h;exact h|ct τ'=>rw[e]at h;exact h|ex C τ'=>rw[e]at h;exact h|rt d=>rw[e]at h;exact h|bad=>rw[e]at h;exact h
def dB (_:SD):Fl:=.bad
def zF:PS X st (jK X.K Y dB):=λ _ _ _ _ _ _ ⟨_,_,_,_,_,_,h⟩=>h.elim
def Res.i8 (τ:SD)(r:Res D)(k:D->Fl):Fl:=match r with|.ok d=>k d|.f7 C=>.ex C τ|.bad=>.bad
def Res.ql (τ:SD)(r:Res Bool)(k:Bool->Fl):Fl:=match r with|.ok d=>k d|.f7 C=>.ex C τ|.bad=>.bad
def lZ {f:SD->Res D}{k:D->Fl}(I:SI K H0 B0 B H σ τ P No)(h:b8 K Y H0 B0 B H E ((f τ).i8 τ k))
  (c:∀ d v H1 B1 fp,f τ=.ok d->SI K H0 B0 B1 H1 σ τ P No->aq H H1->aq B B1->Rep K B1 (· ∈ P) H1 d v fp->fR H0 B1 H1 P No fp->b8 K Y H0 B0 B1 H1 E (k d)->Q v H1):tM K Y f σ H Q:=by
 refine⟨H0,B0,B,τ,P,No,I,?_⟩;cases e:f τ with
 | ok d =>
  rw[e]at h;intro v H1 B1 fp I1 s1 b1 r1 k1;exact c d v H1 B1 fp e I1 s1 b1 r1 k1 (b8.later h (jZ.grow I1 b1 s1))
 |f7 C=>rw[e]at h;exact λ H1 B1 I1 s1 b1=>h B1 H1 σ P (jZ.grow I1 b1 s1)
 |bad=>rw[e]at h;exact h
def Ha {f:SD->Res Bool}{k:Bool->Fl}{Q:Bool->Hp->Prop}(I:SI K H0 B0 B H σ τ P No)(h:b8 K Y H0 B0 B H E ((f τ).ql τ k))
  (c:∀ d H1 B1,f τ=.ok d->SI K H0 B0 B1 H1 σ τ P No->aq H H1->aq B B1->b8 K Y H0 B0 B1 H1 E (k d)->Q d H1):kq K Y f σ H Q:=by
 refine⟨H0,B0,B,τ,P,No,I,?_⟩;cases e:f τ with
 |ok d=>rw[e]at h;exact λ H1 B1 I1 s1 b1=>c d H1 B1 e I1 s1 b1 (b8.later h (jZ.grow I1 b1 s1))
 |f7 C=>rw[e]at h;exact λ H1 B1 I1 s1 b1=>h B1 H1 σ P (jZ.grow I1 b1 s1)
 |bad=>rw[e]at h;exact h
variable {c:Expr}
def fL (f:SD->Res D)(τ:SD):Fl:=(f τ).i8 τ λ _=>.nx τ
def IA (he:PE X e (tM X.K Y fe))(hs:swapsWith e none pos.line X.env=pure false:=by rfl):PS X (.Expr e pos) (jK X.K Y (fL fe)):=
 PS.imp (jO he hs) λ E σ H hq=>ex7 hq λ H0 B0 B τ P I h=>lZ I h λ d v H1 B1 fp _ I1 _ _ _ _ h1=>h1 B1 H1 σ P (jZ.refl I1)
def eE (c:SD->Res Bool)(a b:SF)(τ:SD):Fl:=(c τ).ql τ λ t=>if t=true then a τ else b τ
def gP {a b:List Stmt}(hc:PT X c (kq X.K Y gc))(ha:mQ X a (jK X.K Y g1))(hb:mQ X b (jK X.K Y g2)):PS X (.If c a b pos) (jK X.K Y (eE gc g1 g2)):=
 PS.imp (JV hc ha hb) λ E σ H hq=>ex7 hq λ H0 B0 B τ P I h=>Ha I h λ d H1 B1 _ I1 _ _ h1=>by
  cases d with
  |true=>rw[Nr rfl]at h1 ⊢;exact⟨H0,B0,B1,τ,P,I1,h1⟩| false=>rw[Nu Nd]at h1 ⊢;exact⟨H0,B0,B1,τ,P,I1,h1⟩
def atRest (B H:Hp)(S:Addr->Prop):Hp:=λ a=>by classical exact if S a then H a else B a
def eS {S:Addr->Prop}(h:aq B H):aq B (atRest B H S):=λ a o e=>by
 unfold atRest;split
 ·exact h a o e
 ·exact e
def ip {S:Addr->Prop}(s:S a)(h:H a=some o):atRest B H S a=some o:=by unfold atRest;rw[Nr s];exact h
def jP {S:Addr->Prop}(h:aq B H):aq (atRest B H S) H:=λ a o e=>by
 unfold atRest at e;split at e
 ·exact e
 ·exact h a o e
def gE {S:Addr->Prop}(s:¬ S a):atRest B H S a=B a:=by unfold atRest;rw[Nu s]
def cU (f:SD->Res D)(τ:SD):Fl:=(f τ).i8 τ λ d=>.rt d.aT
def CV(I:SI K H0 B0 B H σ τ P F)(r:Rep K B (· ∈ P) H d v fp)(k:fR H0 B H P F fp):o4 K H0 B0 (atRest B H (· ∈ P)) H d.aT v fp where
 h0:=I.h0
 b0:=I.b0.trans (eS I.bh)
 bh:=jP I.bh
 nb:=λ a n=>by
  by_cases m:a∈P
  ·exact .inr (I.own a m).2.1
  ·rw[gE m]at n;exact I.nb a n
 rep:=r.aT (eS I.bh) λ a o s h=>ip s h
 nd:=k.nd
 own:=λ a m=>let ⟨a1,a2,a3,a4,_⟩:=k.own a m;⟨by rw[gE a4];exact a1,a2,a3⟩
def dZ (he:PE X e (tM X.K Y fe))(hl:Y.ln=false:=by rfl):PS X (.Return (some e) pos) (jK X.K Y (cU fe)):=
 PS.imp (pV he) λ E σ H hq=>ex7 hq λ H0 B0 B τ P I h=>lZ I h λ d v H1 B1 fp _ I1 _ _ r1 k1 h1=>(b8.rt hl h1) _ H1 v fp (CV I1 r1 k1)
def dF (i:Nat)(τ:SD):Fl:=match τ[i]? with|some (some d)=>.rt d|_=>.bad
def mz (i:Nat)(hN:X.N[i]?=some x:=by rfl)(hv:rD X.env.scope x:=by first|exact Or.inl rfl|exact Or.inr (Or.inl rfl)|exact Or.inr (Or.inr rfl))(hd:(x == ("__debug__" : Str))=false:=by decide)
  (hcd:(x == ("__classdict__" : Str))=false:=by decide) (hl:Y.ln=false:=by rfl):PS X (.Return (some (.Name x pos')) pos) (jK X.K Y (dF i)):=by
 refine PS.imp (pV (dm hN hv hd hcd)) λ E σ H hq=>ex7 hq λ H0 B0 B τ P I h=>?_;unfold dF at h;cases e:τ[i]? with
 |none=>rw[e]at h;exact h.elim
 | some o =>
  cases o with
  |none=>rw[e]at h;exact h.elim
  | some d =>
   rw[e]at h;obtain⟨v,f,h1,h2,h3⟩:=I.rep.get e;refine⟨v,h1,(b8.rt hl h) B H v f ⟨I.h0,I.b0,I.bh,I.nb,h2,I.nd.sublist h3,λ a m=>?_⟩⟩;obtain⟨a1,a2,a3⟩:=I.own a (h3.subset m);exact⟨a1,a2,I.stands (h3.subset m)⟩
def c9.length {B H:Hp}:∀ {τ:SD}{σ:L2.St}{P:List Addr},c9 K B H τ σ P->τ.length=σ.length
 |[],_,_,h=>by rw[h.1];rfl
 |none::r,σ,P,h=>by obtain⟨o,t,rfl,h⟩:=h;rw[Ny,Ny,c9.length h]
 |some d::r,σ,P,h=>by obtain⟨v,t,f,g,rfl,_,h,_⟩:=h;rw[Ny,Ny,c9.length h]
def c9.cut {B H:Hp}:∀ {τ:SD}{σ:L2.St}{P:List Addr}{i:Nat},c9 K B H τ σ P->i<τ.length->∃ A f C,P=A++f++C/\(∀ d,τ[i]?=some (some d)->∃ v,σ[i]?=some (some v)/\Rep K B No H d v f) /\
  ∀ {B' H':Hp}{d':D}{v':V}{f':List Addr},(∀ d v g,Rep K B No H d v g->(∀ a∈g,a∈A++C)->Rep K B' No H' d v g)->Rep K B' No H' d' v' f'->c9 K B' H' (τ.set i (some d')) (σ.set i (some v')) (A++f'++C)
 |[],σ,P,i,h,hi=>absurd hi (PC _)
 | none::r,σ,P,0,h,hi=>by
  obtain⟨o,t,rfl,h⟩:=h;refine⟨[],[],P,rfl,λ d e=>by simp at e,λ {B' H' d' v' f'} hm hr=>⟨v',t,f',P,rfl,hr,?_,rfl⟩⟩
  revert hm
  have key:∀ {τ:SD}{σ:L2.St}{Q:List Addr},c9 K B H τ σ Q->(∀ d v g,Rep K B No H d v g->(∀ a∈g,a∈Q)->Rep K B' No H' d v g)->c9 K B' H' τ σ Q:=by
   intro τ
   induction τ with
   |nil=>intro σ Q h _;exact h
   | cons o r ih =>
    intro σ Q h hm;cases o with
    |none=>obtain⟨o,t,e,h⟩:=h;exact⟨o,t,e,ih h hm⟩
    | some d =>
     obtain⟨v,t,f,g,e,h1,h2,z⟩:=h;subst z;exact⟨v,t,f,g,e,hm d v f h1 (λ a m=>Nt _ m),ih h2 (λ d v g' hr hg=>hm d v g' hr λ a m=>Nz _ (hg a m)),rfl⟩
  exact λ hm=>key h hm
 | some d::r,σ,P,0,h,hi=>by
  obtain⟨v,t,f,g,rfl,h1,h2,rfl⟩:=h;refine⟨[],f,g,by simp,λ d' e=>⟨v,rfl,?_⟩,λ {B' H' d' v' f'} hm hr=>⟨v',t,f',g,rfl,hr,?_,rfl⟩⟩
  ·have e:d=d':=by simpa using e
   subst e;exact h1
  ·have key:∀ {τ:SD}{σ:L2.St}{Q:List Addr},c9 K B H τ σ Q->(∀ d v g,Rep K B No H d v g->(∀ a∈g,a∈Q)->Rep K B' No H' d v g)->c9 K B' H' τ σ Q:=by
    intro τ
    induction τ with
    |nil=>intro σ Q h _;exact h
    | cons o r ih =>
     intro σ Q h hm;cases o with
     |none=>obtain⟨o,t,e,h⟩:=h;exact⟨o,t,e,ih h hm⟩
     | some d =>
      obtain⟨v,t,f,g,e,h1,h2,z⟩:=h;subst z;exact⟨v,t,f,g,e,hm d v f h1 (λ a m=>Nt _ m),ih h2 (λ d v g' hr hg=>hm d v g' hr λ a m=>Nz _ (hg a m)),rfl⟩
   exact key h2 hm
 | none::r,σ,P,i+1,h,hi=>by
  obtain⟨o,t,rfl,h⟩:=h;obtain⟨A,f,C,e,h1,h2⟩:=c9.cut (i:=i) h (by simpa using hi);exact⟨A,f,C,e,λ d z=>h1 d (by simpa using z),λ hm hr=>⟨o,_,rfl,h2 hm hr⟩⟩
 | some d::r,σ,P,i+1,h,hi=>by
  obtain⟨v,t,f,g,rfl,r1,r2,rfl⟩:=h;obtain⟨A,f',C,e,h1,h2⟩:=c9.cut (i:=i) r2 (by simpa using hi);subst e;refine⟨f++A,f',C,by simp,λ d z=>h1 d (by simpa using z),λ {B' H' d' v' f''} hm hr=>?_⟩;refine⟨v,_,f,A++f''++C,rfl,hm d v f r1 λ a m=>by simp[m],h2 (λ d v g hr hg=>hm d v g hr λ a m=>?_) hr,by simp⟩;have:=hg a m;simp at this ⊢;rcases this with z|z
  ·exact .inr (.inl z)
  ·exact .inr (.inr z)
def SI.put{d':D}{v':V}{f':List Addr}(I:SI K H0 B0 B H σ τ P F)(hi:i<τ.length){A C:List Addr}(eP:P=A++f++C)
  (put:∀ {B' H':Hp}{d':D}{v':V}{f':List Addr},(∀ d v g,Rep K B No H d v g->(∀ a∈g,a∈A++C)->Rep K B' No H' d v g)->Rep K B' No H' d' v' f'->c9 K B' H' (τ.set i (some d')) (σ.set i (some v')) (A++f'++C))
  (kp:jq H H1 f) (r:Rep K B No H1 d' v' f') (nd:f'.Nodup) (own:∀ a∈f',a∈f\/(B a=none/\H0 a=none/\H a=none/\¬ F a)\/(a∉P/\B a=none/\H0 a=none/\¬ F a)) :
  SI K H0 B0 B H1 (σ.set i (some v')) (τ.set i (some d')) (A++f'++C) F:=by
 have nd0:=I.nd;rw[eP]at nd0;have ndA:A.Nodup:=(nd0.sublist (by simp)).sublist (NV A (f++C));have kb:∀ a o,B a=some o->a∉f:=λ a o e m=>by
  have:=(I.own a (by rw[eP];simp[m])).1;rw[e]at this;cases this
 have k0:∀ a o,H0 a=some o->a∉f:=λ a o e m=>by
  have:=(I.own a (by rw[eP];simp[m])).2.1;rw[e]at this;cases this
 have kf:∀ a,F a->a∉f:=λ a e m=>(I.own a (by rw[eP];simp[m])).2.2 e;have notin:∀ a∈f',a∉A/\a∉C:=λ a m=>by
  rcases own a m with q|q|q
  ·rw[NT,Np]at nd0;obtain⟨n1,n2,n3⟩:=nd0;rw[Np]at n2;exact⟨λ z=>n3 a z a (by simp[q]) rfl,λ z=>n2.2.2 a q a z rfl⟩
  ·exact⟨λ z=>I.stands (a:=a) (by rw[eP];simp[z]) q.2.2.1,λ z=>I.stands (a:=a) (by rw[eP];simp[z]) q.2.2.1⟩
  ·exact⟨λ z=>q.1 (by rw[eP];simp[z]),λ z=>q.1 (by rw[eP];simp[z])⟩
 refine⟨λ a o e=>kp.keep a o (I.bh a o e) (kb a o e),λ a o e=>kp.keep a o (I.h0 a o e) (k0 a o e),I.b0,I.nb,?_,?_,λ a m=>?_,λ a m=>⟨(I.fr a m).1,λ z=>?_⟩⟩
 ·refine put (λ d v g hr hg=>hr.keep kp λ a m z=>?_) r;have h1:=hg a m;rw[NT,Np]at nd0;obtain⟨n1,n2,n3⟩:=nd0;rw[Np]at n2;rcases Nk.mp h1 with q|q
  ·exact n3 a q a (by simp[z]) rfl
  ·exact n2.2.2 a z a q rfl
 ·rw[NT,Np]at nd0 ⊢;obtain⟨n1,n2,n3⟩:=nd0;rw[Np]at n2;refine⟨n1,Np.mpr ⟨nd,n2.2.1,λ a ha b hb e=>?_⟩,λ a ha b hb e=>?_⟩
  ·subst e;exact(notin a ha).2 hb
  ·subst e;rcases Nk.mp hb with q|q
   ·exact(notin a q).1 ha
   ·exact n3 a ha a (by simp[q]) rfl
 ·rcases Nk.mp m with q|q
  ·rcases Nk.mp q with q|q
   ·exact I.own a (by rw[eP];simp[q])
   ·rcases own a q with q|q|q
    ·exact I.own a (by rw[eP];simp[q])
    ·exact⟨q.1,q.2.1,q.2.2.2⟩
    ·exact⟨q.2.1,q.2.2.1,q.2.2.2⟩
  ·exact I.own a (by rw[eP];simp[q])
 ·obtain⟨o,e⟩:=Rb.mp (I.fr a m).2;rw[kp.keep a o e (kf a m)]at z;cases z
def jq.same(h:∀ a∈f,∃ o,H a=some o/\rJ o):jq H H f:=⟨λ _ _ h _=>h,h⟩
def cM (A f C:List Addr):∀ a∈f,a∈A++f++C:=λ a m=>by simp[m]
def SI.set(i:Nat)(I:SI K H0 B0 B H σ τ P F)(r:Rep K B No H d v fp)(k:fR H0 B H P F fp):∃ P',SI K H0 B0 B H (σ.set i (some v)) (τ.set i (some d)) P' F/\∀ a∈P',a∈P\/a∈fp:=by
 by_cases hi:i<τ.length
 ·obtain⟨A,f,C,e,h1,h2⟩:=I.rep.cut hi;refine⟨_,I.put hi e h2 (jq.same λ a m=>I.rep.own a (by rw[e];exact cM A f C a m)) r k.nd λ a m=>.inr (.inr ?_),λ a m=>?_⟩
  ·obtain⟨a1,a2,a3,a4,a5⟩:=k.own a m;exact⟨a4,a1,a2,a5⟩
  ·rw[e];simp at m ⊢;rcases m with m|m|m<;>simp[m]
 ·have e1:τ.set i (some d)=τ:=List.set_eq_of_length_le (by omega);have e2:σ.set i (some v)=σ:=List.set_eq_of_length_le (by rw[<-I.rep.length];omega);rw[e1,e2];exact⟨P,I,λ a m=>.inl m⟩
def jv (i:Nat)(τ:SD)(d:D):Fl:=if d.az=true then .bad else .nx (τ.set i (some d))
def aS (i:Nat)(f:SD->Res D)(τ:SD):Fl:=(f τ).i8 τ (jv i τ)
def KI(hN:X.N.Nodup)(hi:X.N[i]?=some x)(hx:Loc X.env.scope x)(he:PE X e (tM X.K Y fe))(hs:swapsWith e (some (.Name x pos')) pos.line X.env=pure false:=by rfl)(hf:X.fn x=true\/X.env.scope.names.lookup x=some .local:=by first|exact .inl rfl|exact .inr rfl) :
  PS X (.Assign [.Name x pos'] e pos) (jK X.K Y (aS i fe)):=
 PS.imp (xE hN hi hx he hs hf) λ E σ H hq=>ex7 hq λ H0 B0 B τ P I h=>lZ I h λ d v H1 B1 fp _ I1 _ _ r1 k1 h1=>by
  unfold jv at h1;split at h1
  ·exact h1.elim
  ·rename_i hb;obtain⟨P',I',_⟩:=I1.set i (r1.gD (by simpa using hb)) k1;exact h1 B1 H1 _ P' ⟨I',aq.refl _,mS.refl _⟩
def b9 (js:List Nat)(τ:SD):SD:=js.foldl (λ t j=>match t[j]? with|some (some d)=>t.set j (some d.ak)|_=>t) τ
def SI.Mm (j:Nat)(I:SI K H0 B0 B H σ τ P No)(hd:τ[j]?=some (some d)):∃ B' P',aq B B'/\SI K H0 B0 B' H σ (τ.set j (some d.ak)) P' No:=by
 have hi:j<τ.length:=(Ng.mp hd).1;obtain⟨A,f,C,e,h1,h2⟩:=I.rep.cut hi;obtain⟨v,e1,r1⟩:=h1 d hd;have sB:aq B (atRest B H (· ∈ f)):=eS I.bh;have nd0:=I.nd;rw[e]at nd0;have dis:∀ a∈A++C,a∉f:=λ a m z=>by
  rw[NT,Np]at nd0;obtain⟨n1,n2,n3⟩:=nd0;rw[Np]at n2;rcases Nk.mp m with q|q
  ·exact n3 a q a (by simp[z]) rfl
  ·exact n2.2.2 a z a q rfl
 have es:σ.set j (some v)=σ:=by
  refine OA λ k=>?_;by_cases hk:k=j
  ·subst hk;rw[Ol (Ng.mp e1).1,e1]
  ·rw[Om (OV hk)]
 have rr:=h2 (B':=atRest B H (· ∈ f)) (H':=H) (d':=d.ak) (v':=v) (f':=[]) (λ d v g hr hg=>hr.mono (aq.refl _) sB λ _ x=>x) (r1.ak sB (λ a o s=>s.elim) λ a m o ho=>ip m ho);rw[es]at rr;refine⟨atRest B H (· ∈ f),A++[]++C,sB,jP I.bh,I.h0,I.b0.trans sB,λ a n=>?_,rr,?_,λ a m=>?_,λ a m=>m.elim⟩
 ·by_cases m:a∈f
  ·exact .inr (I.own a (by rw[e];exact cM A f C a m)).2.1
  ·rw[gE m]at n;exact I.nb a n
 ·rw[NX];refine nd0.sublist ?_;rw[NT];exact Q2 (Oq _) (NL _ _)
 ·rw[NX]at m;obtain⟨a1,a2,a3⟩:=I.own a (by rw[e];rcases Nk.mp m with q|q<;>simp[q]);exact⟨by rw[gE (dis a m)];exact a1,a2,λ x=>x⟩
def SI.b9:∀ (js:List Nat) {B:Hp}{τ:SD}{P:List Addr},SI K H0 B0 B H σ τ P No->∃ B' P',aq B B'/\SI K H0 B0 B' H σ (DL.b9 js τ) P' No
 |[],B,τ,P,I=>⟨B,P,aq.refl _,I⟩
 | j::js,B,τ,P,I=>by
  unfold DL.b9;rw[RG];cases e:τ[j]? with
  |none=>exact SI.b9 js I
  | some o =>
   cases o with
   |none=>exact SI.b9 js I
   | some d =>
    obtain⟨B1,P1,s1,I1⟩:=I.Mm j e;obtain⟨B2,P2,s2,I2⟩:=SI.b9 js I1;exact⟨B2,P2,s1.trans s2,I2⟩
def iD (js:List Nat)(g:SF)(τ:SD):Fl:=g (b9 js τ)
def Hb (js:List Nat)(h:PS X st (jK X.K Y g)):PS X st (jK X.K Y (iD js g)):=PS.imp h λ E σ H hq=>ex7 hq λ H0 B0 B τ P I h=>by
 obtain⟨B',P',s,I'⟩:=I.b9 js;exact⟨H0,B0,B',_,P',I',b8.later h (jZ.grow I' s (aq.refl _))⟩
def dE (τ:SD)(i:Nat):Option (List D):=match τ[i]? with|some (some (.lst .own xs))=>some xs|_=>none
def fM(h:dE τ i=some xs):τ[i]?=some (some (.lst .own xs)):=by
 unfold dE at h;split at h
 ·rename_i e;cases h;exact e
 ·cases h
def SI.Bg{xs':List D}{gp:List Addr}{vs':List V}(I:SI K H0 B0 B H σ τ P No)(hi:τ[i]?=some (some (.lst .own xs)))(ev:σ[i]?=some (some (.ref a)))
  (k:fR H0 B H P No gp)
  (items:∀ f,H a=some (.lst vs)->ai K B No H xs vs f->∃ f',ai K B No H xs' vs' f'/\(∀ b∈f',b∈f\/b∈gp)/\(f.Nodup->(∀ b∈gp,b∉f)->f'.Nodup)) (hv:H a=some (.lst vs)) :
  ∃ P',jZ K H0 B0 B H B (upd H a (.lst vs')) σ (τ.set i (some (.lst .own xs'))) P':=by
 have hi':i<τ.length:=(Ng.mp hi).1;obtain⟨A,f,C,e,h1,h2⟩:=I.rep.cut hi';obtain⟨v,e1,r1⟩:=h1 _ hi;rw[ev]at e1;cases e1;obtain⟨a',ws,g,ea,hq,rl,ef⟩:=r1;cases ea;rw[hv]at hq;cases hq;subst ef;have nd0:=I.nd;rw[e]at nd0;have ndf:(a::g).Nodup:=(nd0.sublist (NV _ _)).sublist (NL _ _);have gdis:∀ b∈gp,b∉a::g:=λ b m z=>(k.own b m).2.2.2.1 (by rw[e];exact cM _ _ _ b z);obtain⟨f',r',s',n'⟩:=items g hv rl;obtain⟨na,ng⟩:=Nv.mp ndf;have hna:a∉f':=λ m=>(s' a m).elim na λ z=>gdis a z Na;have es:σ.set i (some (.ref a))=σ:=by
  refine OA λ k=>?_;by_cases hk:k=i
  ·subst hk;rw[Ol (Ng.mp ev).1,ev]
  ·rw[Om (OV hk)]
 have kp:jq H (upd H a (.lst vs')) [a]:=⟨λ b o h n=>by rw[aN (by simpa using n)];exact h,λ b m=>by
  have:b=a:=by simpa using m
  subst this;exact⟨_,hv,trivial⟩⟩
 have kpf:jq H (upd H a (.lst vs')) (a::g):=⟨λ b o h n=>kp.keep b o h (λ z=>n (Nq.mpr (.inl (NY.mp z)))),λ b m=>I.rep.own b (by rw[e];exact cM _ _ _ b m)⟩;have key:=I.put (i:=i) (H1:=upd H a (.lst vs')) (d':=.lst .own xs') (v':=.ref a) (f':=a::f') hi' e h2 kpf ⟨a,vs',f',rfl,aK,r'.keep kp λ b m=>by
   have:b≠a:=λ z=>hna (z▸m);simpa using this,rfl⟩ (Nv.mpr ⟨hna,n' ng λ b m z=>gdis b m (Nb _ z)⟩) λ b m=>?_
 ·rw[es]at key;exact⟨_,key,aq.refl _,λ b o h n=>kp.vM h n⟩
 ·rcases Nq.mp m with q|q
  ·exact .inl (by simp[q])
  ·rcases s' b q with z|z
   ·exact .inl (Nb _ z)
   ·obtain⟨a1,a2,a3,a4,a5⟩:=k.own b z;exact .inr (.inr ⟨a4,a1,a2,a5⟩)
end
section
variable {K:PySem.W.Frag}{E:Ends}{c:Expr}
def SI.listAt(I:SI K H0 B0 B H σ τ P F)(h:τ[i]?=some (some (.lst .own xs))):∃ a vs,σ[i]?=some (some (.ref a))/\H a=some (.lst vs)/\xs.length=vs.length:=by
 obtain⟨v,f,h1,h2,h3⟩:=I.rep.get h;obtain⟨a,vs,g,rfl,q,r,z⟩:=h2;exact⟨a,vs,h1,q,r.length⟩
def fY (i:Nat)(f:SD->Res D)(τ:SD):Fl:=match dE τ i with
 |some xs=>(f τ).i8 τ λ d=>if d.az=true then .bad else if xs.length<16777216 then .nx (τ.set i (some (.lst .own (xs++[d])))) else .bad
 |none=>.bad
def vV (i:Nat){apos cpos:Pos}(he:PE X e (tM X.K Y fe))(hN:X.N[i]?=some x:=by rfl)(hv:rD X.env.scope x:=by first|exact Or.inl rfl|exact Or.inr (Or.inl rfl)|exact Or.inr (Or.inr rfl))(hd:(x == ("__debug__" : Str))=false:=by decide)(hcd:(x == ("__classdict__" : Str))=false:=by decide)
  (hbase:attributeBase (.Name x p1) "append" X.env (eval (.Name x p1) X.env)=eval (.Name x p1) X.env:=by rfl)
  (hfew:((backTo cpos (starEach [e] X.env)).all (λ x=>!x.1)&&(backToKw cpos (keywordEach [] X.env)).all (λ x=>x.1.isSome)
   && decide ([e].length+([]:List Keyword).length+(if ([]:List Keyword).isEmpty then 0 else 1)<30))=true:=by rfl)
  (hline:(apos.endLine == cpos.line)=true:=by rfl) (hs:starEach [e] X.env=(false,eval e X.env)::starEach [] X.env:=by rfl) (hplain:(backTo cpos (starEach [] X.env)).any (·.1)=false:=by rfl)
  (hsw:swapsWith (.Call (.Attribute (.Name x p1) "append" apos) [e] [] cpos) none pos.line X.env=pure false:=by rfl) :
  PS X (.Expr (.Call (.Attribute (.Name x p1) "append" apos) [e] [] cpos) pos) (jK X.K Y (fY i fe)):=by
 refine PS.imp (jO (p7 Ow Qi Qj ly (dm hN hv hd hcd) (cT he fE hs) hbase hfew hline hs hplain) hsw) λ E σ H hq=>ex7 hq λ H0 B0 B τ P I h=>?_;unfold fY at h;cases z:dE τ i with
 |none=>rw[z]at h;exact h.elim
 | some xs =>
  rw[z]at h;have hi:=fM z;obtain⟨a,vs,ea,ha,hl⟩:=I.listAt hi;refine⟨.ref a,ea,.inl ⟨rfl,vs,cY.of ha⟩,lZ I h λ d v H1 B1 fp _ I1 s1 b1 r1 k1 h1=>?_⟩;split at h1
  ·exact h1.elim
  ·rename_i hb;split at h1
   ·rename_i hz;have ha1:=s1 a _ ha;refine⟨a,vs,v,rfl,rfl,ha1,by rw[<-hl,Oc];exact hz,?_⟩;obtain⟨P',I'⟩:=I1.Bg (xs':=xs++[d]) (vs':=vs++[v]) hi ea k1 (λ f _ rl=>⟨f++fp,rl.append (ai.one (r1.gD (by simpa using hb))),λ b m=>Nk.mp m,λ nf dis=>Np.mpr ⟨nf,k1.nd,λ a ha b hb e=>dis b hb (e▸ha)⟩⟩) ha1;exact h1 B1 _ σ P' I'
   ·exact h1.elim
def jw (i:Nat)(τ:SD):Fl:=match dE τ i with|some xs=>.nx (τ.set i (some (.lst .own xs.reverse)))|none=>.bad
def ai.reverse {S:Addr->Prop}:∀ {xs:List D}{vs:List V}{f:List Addr},ai K B S H xs vs f->∃ g,ai K B S H xs.reverse vs.reverse g/\f.Perm g
 |[],vs,f,r=>by obtain⟨rfl,rfl⟩:=r;exact⟨[],⟨rfl,rfl⟩,Ox _⟩
 | d::ds,vs,f,r=>by
  obtain⟨v,w,f1,f2,rfl,r1,r2,rfl⟩:=r;obtain⟨g,h1,h2⟩:=ai.reverse r2;refine⟨g++f1,?_,List.perm_append_comm.trans (h2.append_right f1)⟩;rw[Qw,Qw];exact h1.append (ai.one r1)
def KN (i:Nat){apos cpos:Pos}(hN:X.N[i]?=some x:=by rfl)(hv:rD X.env.scope x:=by first|exact Or.inl rfl|exact Or.inr (Or.inl rfl)|exact Or.inr (Or.inr rfl))(hd:(x == ("__debug__" : Str))=false:=by decide)(hcd:(x == ("__classdict__" : Str))=false:=by decide)
  (hbase:attributeBase (.Name x p1) "reverse" X.env (eval (.Name x p1) X.env)=eval (.Name x p1) X.env:=by rfl) (hline:(apos.endLine == cpos.line)=true:=by rfl)
  (hsw:swapsWith (.Call (.Attribute (.Name x p1) "reverse" apos) [] [] cpos) none pos.line X.env=pure false:=by rfl) :
  PS X (.Expr (.Call (.Attribute (.Name x p1) "reverse" apos) [] [] cpos) pos) (jK X.K Y (jw i)):=by
 refine PS.imp (jO (xG Ow PySem.F.slot_list_reverse PySem.F.type_list_reverse xN (dm hN hv hd hcd) hbase hline) hsw) λ E σ H hq=>ex7 hq λ H0 B0 B τ P I h=>?_;unfold jw at h;cases z:dE τ i with
 |none=>rw[z]at h;exact h.elim
 | some xs =>
  rw[z]at h;have hi:=fM z;obtain⟨a,vs,ea,ha,hl⟩:=I.listAt hi;refine⟨.ref a,ea,.inl ⟨rfl,vs,cY.of ha⟩,a,vs,rfl,rfl,ha,?_⟩;obtain⟨P',I'⟩:=I.Bg (xs':=xs.reverse) (vs':=vs.reverse) (gp:=[]) hi ea fR.nil (λ f _ rl=>let ⟨g,h1,h2⟩:=rl.reverse;⟨g,h1,λ b m=>.inl (h2.mem_iff.mpr m),λ nf _=>h2.nodup_iff.mp nf⟩) ha;exact h B _ σ P' I'
structure Hc (K:PySem.W.Frag)(J:It)(ds:List D)(B H:Hp):Prop where
 go:∀ B' H' i d,aq B B'->aq B' H'->mS H H'->ds[i]?=some d->J.go i H'
 zd:∀ B' H' i d x H'',aq B B'->aq B' H'->mS H H'->ds[i]?=some d->J.zd i H' x H''->aq H' H''/\Rep K B' No H'' d x []
 stop:∀ B' H',aq B B'->aq B' H'->mS H H'->J.stop ds.length H'
def Hd (K:PySem.W.Frag)(J:It)(ds:List D)(fl:Bool)(B H:Hp)(P fp:List Addr):Prop:=
 ∀ Bx:Hp,aq B Bx->aq Bx H->(∀ a∈fp,∀ o,H a=some o->Bx a=some o)->(fl=true->∀ a∈P,∀ o,H a=some o->Bx a=some o)->Hc K J (aG ds) Bx H
def Cc (K:PySem.W.Frag)(Y:XY)(f:SD->Res (Bool×List D)):TI:=λ σ H R=>∃ H0 B0 B τ P F,SI K H0 B0 B H σ τ P F/\match f τ with
 |.ok (fl,ds)=>∀ J H' B' fp,SI K H0 B0 B' H' σ τ P F->aq H H'->aq B B'->fR H0 B' H' P F fp->Hd K J ds fl B' H' P fp->R J H'
 |.f7 C=>my K Y H0 B0 B H σ τ P F C
 |.bad=>False
def PI.imp {it:Expr}{t t':TI}(h:PI X tg it t)(hi:∀ σ H R,t' σ H R->t σ H R):PI X tg it t':=λ pins s σ H R I hw=>h pins s σ H R I (hi σ H R hw)
def bH:D->Res (Bool×List D)
 |.lst t xs=>.ok ((D.lst t xs).az,xs)
 |.tup xs=>.ok ((D.tup xs).az,xs)
 |_=>.bad
def cV (f:SD->Res D)(τ:SD):Res (Bool×List D):=(f τ).bind bH
def IC {l:Expr}{tl:TE}(hl:PE X l tl):PI X tg l (λ σ H R=>tl σ H λ x H1=>(∃ a,x=.ref a/\(∃ xs,cY X.K H1 a xs)/\R (LK X.K a) H1)\/∃ a,x=.ref a/\(∃ xs,lq X.K H1 a xs)/\R (LM X.K a) H1):=by
 intro pins s σ H R I h;refine eK (hl pins s σ H _ I h) λ v s1 hq5=>L2.ex5 hq5 λ x H1 I1 r1 q1=>?_;rcases q1 with ⟨a,e,⟨xs,hq⟩,q⟩|⟨a,e,⟨xs,hq⟩,q⟩
 ·subst e;cases r1;obtain⟨its,rv,p,hz⟩:=I1.list hq;refine Rq p.isList ?_;refine⟨s1.heap.objs.size,[s1.heap.objs.size],_,_,H1,rfl,I1.kept (t':=s1.toks) λ b o e=>M8 _ e,AX a _,⟨_,Nj _ rfl,rfl,rfl⟩,λ b hb=>?_,q⟩;have e:b=s1.heap.objs.size:=by simpa using hb
  subst e;exact I1.AR (Nm _) (I1.hok.fresh (Nm _))
 ·subst e;cases r1;obtain⟨its,rv,p,hz⟩:=I1.tuple hq;refine wpAny_pyIter_tuple (show s1.heap.IsTuple a its.toArray from p) ?_;refine⟨s1.heap.objs.size,[s1.heap.objs.size],_,_,H1,rfl,I1.kept (t':=s1.toks) λ b o e=>M8 _ e,xA a _,⟨_,Nj _ rfl,rfl,rfl⟩,λ b hb=>?_,q⟩;have e:b=s1.heap.objs.size:=by simpa using hb
  subst e;exact I1.AR (Nm _) (I1.hok.fresh (Nm _))
def SI.KJ(I:SI K H0 B0 B H σ τ P F)(k:fR H0 B H P F fp):SI K H0 B0 (atRest B H (· ∈ fp)) H σ τ P F/\aq B (atRest B H (· ∈ fp)):=by
 have sB:aq B (atRest B H (· ∈ fp)):=eS I.bh;refine⟨⟨jP I.bh,I.h0,I.b0.trans sB,λ a n=>?_,I.rep.mono (aq.refl _) sB,I.nd,λ a m=>?_,λ a m=>?_⟩,sB⟩
 ·by_cases m:a∈fp
  ·exact .inr (k.own a m).2.1
  ·rw[gE m]at n;exact I.nb a n
 ·obtain⟨a1,a2,a3⟩:=I.own a m;exact⟨by rw[gE λ z=>(k.own a z).2.2.2.1 m];exact a1,a2,a3⟩
 ·obtain⟨a1,a2⟩:=I.fr a m;exact⟨by rw[gE λ z=>(k.own a z).2.2.2.2 m];exact a1,a2⟩
mutual
def Rep.stay {B B' H H':Hp}(sB:aq B B')(im:mS H H'):∀ {d:D}{v:V}{fp:List Addr},fp=[]->Rep K B No H d v fp->Rep K B' No H' d v fp
 |.bx,_,_,_,h=>h
 |.bl _,_,_,_,h=>h
 |.int _,_,_,_,h=>h
 |.str _,_,_,_,h=>h
 |.exc _,_,_,_,h=>let ⟨⟨a,e,t,tb,u,h1⟩,r⟩:=h;⟨⟨a,e,t,tb,u,im _ _ h1 (λ x=>x)⟩,r⟩
 | .tup xs,v,fp,ef,h=>by
  obtain⟨a,vs,e,q,r⟩:=h;exact⟨a,vs,e,im _ _ q (λ x=>x),ai.stay sB im ef r⟩
 |.lst .own xs,v,fp,ef,h=>by obtain⟨a,vs,f,e,q,r,z⟩:=h;rw[ef]at z;cases z
 |.lst .bor xs,v,fp,ef,h=>let ⟨a,vs,e,q,r,z⟩:=h;⟨a,vs,e,.inr (eO sB (q.resolve_left λ y=>y.1)),ai.stay sB im rfl r,z⟩
 |.lst .ak xs,v,fp,ef,h=>let ⟨a,vs,e,q,r,z⟩:=h;⟨a,vs,e,eO sB q,ai.stay sB im rfl r,z⟩
 |.lst (.len _) _,_,_,_,h=>h.elim
 |.dct (.len a) kd ks xs,v,fp,ef,h=>by obtain⟨vs,f,e,q,r,z⟩:=h;rw[ef]at z;cases z
 |.dct .own kd ks xs,v,fp,ef,h=>by obtain⟨a,vs,f,e,q,r,z⟩:=h;rw[ef]at z;cases z
 |.dct .bor kd ks xs,v,fp,ef,h=>let ⟨a,vs,e,q,r,z⟩:=h;⟨a,vs,e,.inr ((q.resolve_left λ y=>y.1).mono sB),ai.stay sB im rfl r,z⟩
 |.dct .ak kd ks xs,v,fp,ef,h=>let ⟨a,vs,e,q,r,z⟩:=h;⟨a,vs,e,q.mono sB,ai.stay sB im rfl r,z⟩
def ai.stay {B B' H H':Hp}(sB:aq B B')(im:mS H H'):∀ {ds:List D}{vs:List V}{fp:List Addr},fp=[]->ai K B No H ds vs fp->ai K B' No H' ds vs fp
 |[],_,_,_,h=>h
 | d::ds,vs,fp,ef,h=>by
  obtain⟨v,r,f,g,e,h1,h2,z⟩:=h;rw[ef]at z;obtain⟨z1,z2⟩:=lW z;exact⟨v,r,f,g,e,Rep.stay sB im z1 h1,ai.stay sB im z2 h2,by rw[ef,z1,z2];rfl⟩
end
def pO(h:List.Sublist f []):f=[]:=List.sublist_nil.mp h
def CY(q:cY K B a vs)(r:ai K B No H ds vs []):Hc K (LK K a) ds B H where
 go:=λ B' H' i d s1 s2 im e=>by
  obtain⟨v,f,h1,_⟩:=r.get e;exact⟨vs,v,gO (eO (s1.trans s2) q),h1⟩
 zd:=λ B' H' i d x H'' s1 s2 im e y=>by
  obtain⟨rfl,y⟩:=y;obtain⟨v,f,h1,h2,h3⟩:=r.get e;have z:=y vs (gO (eO (s1.trans s2) q));rw[h1]at z;cases z;cases pO h3;exact⟨aq.refl _,h2.stay s1 im rfl⟩
 stop:=λ B' H' s1 s2 im=>⟨vs,gO (eO (s1.trans s2) q),by rw[r.length];exact Nm _⟩
def pP(im:mS H H')(q:lq K H a vs):lq K H' a vs:=by
 rcases q with (q|⟨o,q⟩)|q
 ·exact .inl (.inl (im _ _ q (λ x=>x)))
 ·exact .inl (.inr ⟨o,im _ _ q (λ x=>x)⟩)
 ·exact .inr q
def FI(q:lq K H a vs)(r:ai K B No H ds vs []):Hc K (LM K a) ds B H where
 go:=λ B' H' i d s1 s2 im e=>by
  obtain⟨v,f,h1,_⟩:=r.get e;exact⟨vs,v,pP im q,h1⟩
 zd:=λ B' H' i d x H'' s1 s2 im e y=>by
  obtain⟨rfl,y⟩:=y;obtain⟨v,f,h1,h2,h3⟩:=r.get e;have z:=y vs (pP im q);rw[h1]at z;cases z;cases pO h3;exact⟨aq.refl _,h2.stay s1 im rfl⟩
 stop:=λ B' H' s1 s2 im=>⟨vs,pP im q,by rw[r.length];exact Nm _⟩
def sN {lo:Int}:Hc K (J4 lo n) ((List.range n).map λ k:Nat=>D.int (lo+k)) B H where
 go:=λ B' H' i d s1 s2 im e=>by
  have:=(Ng.mp e).1;show i<n;simpa using this
 zd:=λ B' H' i d x H'' s1 s2 im e y=>by
  obtain⟨rfl,rfl⟩:=y;have hi:=(Ng.mp e).1;rw[M7,NO]at hi;rw[NG,Oi hi]at e;cases e;exact⟨aq.refl _,rfl,rfl⟩
 stop:=λ B' H' s1 s2 im=>by
  show n<=_;rw[M7,NO];exact Nm _
def lH {Bx:Hp}(r:Rep K B (· ∈ P) H d v fp)(sB:aq B Bx)(h1:∀ a∈fp,∀ o,H a=some o->Bx a=some o)(h2:d.az=true->∀ a∈P,∀ o,H a=some o->Bx a=some o):Rep K Bx No H d.ak v []:=by
 by_cases hb:d.az=true
 ·exact r.ak sB (λ a o s h=>h2 hb a s o h) h1
 ·exact(r.gD (by simpa using hb)).ak sB (λ a o s=>s.elim) h1
def bV(he:PE X e (tM X.K Y fe)):PI X tg e (Cc X.K Y (cV fe)):=by
 refine PI.imp (IC he) λ σ H R hq=>ex8 hq λ H0 B0 B τ P F I h=>⟨H0,B0,B,τ,P,F,I,?_⟩;cases z:fe τ with
 |f7 C=>simp only[cV,z,Res.jo]at h;exact h|bad=>simp only[cV,z,Res.jn]at h
 | ok d =>
  simp only[cV,z,Res.aH]at h;intro v H1 B1 fp I1 s1 b1 r1 k1;cases d with
  | lst t xs =>
   simp only[bH]at h;obtain⟨a,vs,g,rfl,q,_⟩:=r1.lst I1;refine .inl ⟨a,rfl,⟨vs,gO q⟩,h _ H1 _ fp I1 s1 b1 k1 λ Bx sB sH h1 h2=>?_⟩;obtain⟨a',ws,ea,q',rl,_⟩:Rep X.K Bx No H1 (D.lst .ak (aG xs)) (.ref a) []:=lH r1 sB h1 h2;cases ea;exact CY q' rl
  | tup xs =>
   simp only[bH]at h;obtain⟨a,vs,rfl,q,_⟩:=r1.tp;refine .inr ⟨a,rfl,⟨vs,q⟩,h _ H1 _ fp I1 s1 b1 k1 λ Bx sB sH h1 h2=>?_⟩;obtain⟨a',ws,ea,q',rl⟩:Rep X.K Bx No H1 (D.tup (aG xs)) (.ref a) []:=lH r1 sB h1 h2;cases ea;exact FI (lq.of q') rl
  |_=>exact h.elim
def aV (f:Nat->Int)(l:List Nat):aG (l.map λ k=>D.int (f k))=l.map λ k=>D.int (f k):=by
 induction l with
 |nil=>rfl|cons a r ih=>rw[ND,aG,ih];rfl
def lF:List D->Res (Bool×List D)
 |[.int j]=>if -1000000000<=j/\j<=1000000000 then .ok (false,(List.range j.toNat).map λ k:Nat=>.int (0+k)) else .bad
 |_=>.bad
def lE:List D->Res (Bool×List D)
 |[.int i,.int j]=>if -1000000000<=i/\i<=1000000000 /\ -1000000000<=j/\j<=1000000000 then .ok (false,(List.range (j-i).toNat).map λ k:Nat=>.int (i+k)) else .bad
 |_=>.bad
def bN (f:SD->Res (List D))(τ:SD):Res (Bool×List D):=(f τ).bind lF
def dR (f:SD->Res (List D))(τ:SD):Res (Bool×List D):=(f τ).bind lE
def C1 {fs:SD->Res (List D)}{R:It->Hp->Prop}:Cc X.K Y (bN fs) σ H R->GX (pL X.K Y fs) σ H R:=by
 rintro⟨H0,B0,B,τ,P,F,I,h⟩;refine⟨H0,B0,B,τ,P,F,I,?_⟩;cases z:fs τ with
 |f7 C=>simp only[bN,z,Res.jo]at h;exact h|bad=>simp only[bN,z,Res.jn]at h
 | ok ds =>
  simp only[bN,z,Res.aH]at h;intro vs H1 B1 fp I1 s1 b1 r1 k1;cases y:lF ds with
  |f7 C=>exfalso;unfold lF at y;split at y<;>first|(split at y<;>cases y)|cases y
  |bad=>rw[y]at h;exact h.elim
  | ok es =>
   rw[y]at h;unfold lF at y;split at y
   ·split at y
    ·rename_i hc;cases y;obtain⟨v,rfl,rfl,rfl⟩:=lY r1;exact⟨_,rfl,(by omega),(by omega),h _ H1 B1 [] I1 s1 b1 fR.nil λ Bx _ _ _ _=>by rw[aV];exact sN⟩
    ·cases y
   ·cases y
def jx {a:Expr}{fs:SD->Res (List D)}(hg:Gl X "range")(hm:X.mg "range" = none)(ha:PA X [a] (pL X.K Y fs))(hs:starEach [a] X.env=[(false,eval a X.env)]:=by rfl):PI X tg (.Call (.Name "range" p) [a] [] pos) (Cc X.K Y (bN fs)):=
 PI.imp (AO hg hm ha hs) λ σ H R h=>C1 h
def Bh {a b:Expr}{fs:SD->Res (List D)}(hg:Gl X "range")(hm:X.mg "range" = none)(ha:PA X [a,b] (pL X.K Y fs))(hs:starEach [a,b] X.env=[(false,eval a X.env),(false,eval b X.env)]:=by rfl)(hs2:starEach [b] X.env=[(false,eval b X.env)]:=by rfl) :
  PI X tg (.Call (.Name "range" p) [a,b] [] pos) (Cc X.K Y (dR fs)):=by
 refine PI.imp (AS hg hm ha hs hs2) λ σ H R hq=>ex8 hq λ H0 B0 B τ P F I h=>⟨H0,B0,B,τ,P,F,I,?_⟩;cases z:fs τ with
 |f7 C=>simp only[dR,z,Res.jo]at h;exact h|bad=>simp only[dR,z,Res.jn]at h
 | ok ds =>
  simp only[dR,z,Res.aH]at h;intro vs H1 B1 fp I1 s1 b1 r1 k1;cases y:lE ds with
  |f7 C=>exfalso;unfold lE at y;split at y<;>first|(split at y<;>cases y)|cases y
  |bad=>rw[y]at h;exact h.elim
  | ok es =>
   rw[y]at h;unfold lE at y;split at y
   ·split at y
    ·rename_i hc;cases y;obtain⟨v,u,f1,f2,rfl,rfl,⟨rfl,rfl⟩,⟨rfl,rfl⟩⟩:=zE r1;exact⟨_,_,rfl,⟨by omega,by omega,by omega,by omega⟩,h _ H1 B1 [] I1 s1 b1 fR.nil λ Bx _ _ _ _=>by rw[aV];exact sN⟩
    ·cases y
   ·cases y
abbrev uv:=D->SD->Option SD
def FL (K:PySem.W.Frag)(g:uv):TG:=λ v σ H Q=>∃ H0 B0 B τ P F d fp,SI K H0 B0 B H σ τ P F/\Rep K B No H d v fp/\fR H0 B H P F fp/\match g d τ with
 |some τ'=>∀ H' σ' P',SI K H0 B0 B H' σ' τ' P' F->H'=H->Q σ' H'
 |none=>False
def gN (i:Nat)(d:D)(τ:SD):Option SD:=some (τ.set i (some d))
def PG.imp{t t':TG}(h:PG X tg t)(hi:∀ v σ H Q,t' v σ H Q->t v σ H Q):PG X tg t':=λ pins s σ H v u Q I r hw=>h pins s σ H v u Q I r (hi v σ H Q hw)
def IB(hN:X.N.Nodup)(hi:X.N[i]?=some x)(hx:Loc X.env.scope x)(hf:X.fn x=true\/X.env.scope.names.lookup x=some .local:=by first|exact .inl rfl|exact .inr rfl):PG X (.Name x pos) (FL X.K (gN i)):=
 PG.imp (zk hN hi hx hf) λ v σ H Q hq=>ex12 hq λ H0 B0 B τ P F d fp I r k h=>by
  obtain⟨P',I',_⟩:=I.set i r k;exact h H _ P' I' rfl
abbrev CW:=List D->SD->Option SD
def FJ (K:PySem.W.Frag)(g:CW):EO:=λ vs σ H Q=>∃ H0 B0 B τ P F ds fp,SI K H0 B0 B H σ τ P F/\ai K B No H ds vs fp/\fR H0 B H P F fp/\match g ds τ with
 |some τ'=>∀ H' σ' P',SI K H0 B0 B H' σ' τ' P' F->H'=H->Q σ' H'
 |none=>False
def dG (ds:List D)(τ:SD):Option SD:=match ds with|[]=>some τ|_=>none
def bz (i:Nat)(g:CW)(ds:List D)(τ:SD):Option SD:=match ds with|d::r=>g r (τ.set i (some d))|[]=>none
def AZ.imp {tgs:List Expr}{t t':EO}(h:AZ X tgs t)(hi:∀ v σ H Q,t' v σ H Q->t v σ H Q):AZ X tgs t':=λ pins s σ H v u Q I r hw=>h pins s σ H v u Q I r (hi v σ H Q hw)
def xW:AZ X [] (FJ X.K dG):=AZ.imp EV λ vs σ H Q hq=>ex12 hq λ H0 B0 B τ P F ds fp I r k h=>by
 cases ds with
 |nil=>exact⟨r.1,h H σ P I rfl⟩| cons d ds=>exact h.elim
def lG{g:CW}(hN:X.N.Nodup)(hi:X.N[i]?=some x)(hx:Loc X.env.scope x)(h2:AZ X es (FJ X.K g))(hf:X.fn x=true\/X.env.scope.names.lookup x=some .local:=by first|exact .inl rfl|exact .inr rfl)
  (hs:(assignEach (.Name x pos::es) X.env).map (·.2)=assign (.Name x pos) X.env::(assignEach es X.env).map (·.2):=by rfl):AZ X (.Name x pos::es) (FJ X.K (bz i g)):=
 AZ.imp (Ci (zk hN hi hx hf) h2 hs) λ vs σ H Q hq=>ex12 hq λ H0 B0 B τ P F ds fp I r k h=>by
  cases ds with
  |nil=>exact h.elim
  | cons d ds =>
   obtain⟨v,w,f1,f2,rfl,r1,r2,rfl⟩:=r;obtain⟨P',I',s'⟩:=I.set i r1 k.left;refine⟨v,w,rfl,H0,B0,B,_,P',F,ds,f2,I',r2,⟨k.right.nd,λ a m=>?_⟩,h⟩;obtain⟨a1,a2,a3,a4,a5⟩:=k.right.own a m;refine⟨a1,a2,a3,λ z=>?_,a5⟩;rcases s' a z with y|y
   ·exact a4 y
   ·exact(Np.mp k.nd).2.2 a y a m rfl
def gT (n:Nat)(g:CW)(d:D)(τ:SD):Option SD:=match d with|.tup ds=>if ds.length=n then g ds τ else none|_=>none
def CZ{k:Nat}{g:CW}(hc:X.calm=true)(h:AZ X es (FJ X.K g))
  (hn:(assignEach es X.env).length=n:=by rfl) (hst:(assignEach es X.env).findIdx? (·.1)=none:=by rfl):PG X (.Tuple es k pos) (FL X.K (gT n g)):=
 PG.imp (Hx hc h hn hst) λ v σ H Q hq=>ex12 hq λ H0 B0 B τ P F d fp I r k h=>by
  cases d with
  | tup ds =>
   obtain⟨a,vs,rfl,q,rl⟩:=r;unfold gT at h;by_cases hl:ds.length=n
   ·simp only[hl,PN]at h;exact⟨a,vs,rfl,lq.of q,by rw[<-rl.length];exact hl,H0,B0,B,τ,P,F,ds,fp,I,rl,k,h⟩
   ·simp only[hl,PV]at h
  |_=>exact h.elim
def bW (tg:uv)(body:SF):List D->SF
 |[],τ=>.nx τ
 | d::r,τ=>match tg d τ with
  |none=>.bad
  | some τ'=>match body τ' with
   |.nx t=>bW tg body r t
   |.ct t=>bW tg body r t
   |.bk t=>.nx t
   |o=>o
def b6 (js:List Nat)(it:SD->Res (Bool×List D))(tg:uv)(body:SF)(τ:SD):Fl:=match it (b9 js τ) with
 |.ok (false,ds)=>bW tg body (aG ds) (b9 js τ)
 |.ok (true,_)=>.bad
 |.f7 C=>.ex C (b9 js τ)
 |.bad=>.bad
def gF (js:List Nat){iter:Expr}{body:List Stmt}{tgd:uv}{g:SF}(hp:PassesOwn (model X.prog X.w) X.A X.env X.xe)(hc:X.calm=true)(hi:PI X tg iter (Cc X.K Y it))(hg:PG X tg (FL X.K tgd))(hb:mQ X body (jK X.K Y g))
  (hs:∀ x,foldedSetIterable iter X.env x=pure x:=by intro _;rfl):PS X (.For tg iter body [] pos) (jK X.K Y (b6 js it tgd g)):=by
 refine PS.imp (HG hp hc hi hg hb hs) λ E σ H hq=>ex7 hq λ H0 B0 B τ P I h=>?_;obtain⟨Bf,Pf,sf,If⟩:=I.b9 js;have h:b8 X.K Y H0 B0 Bf H E (b6 js it tgd g τ):=b8.later h (jZ.grow If sf (aq.refl _));unfold b6 at h;refine⟨H0,B0,Bf,_,Pf,No,If,?_⟩;cases z:it (b9 js τ) with
 |f7 C=>rw[z]at h;exact λ H1 B1 I1 s1 b1=>h B1 H1 σ Pf (jZ.grow I1 b1 s1)
 |bad=>rw[z]at h;exact h.elim
 | ok q =>
  obtain⟨fl,ds0⟩:=q;rw[z]at h;intro J H1 B1' fp I1' s1 b1' k1 JA;cases fl with
  |true=>exact h.elim|false=>
  obtain⟨I1,b2⟩:=I1'.KJ k1;have b1:=b1'.trans b2;have J1:=JA _ b2 (jP I1'.bh) (λ a m o h=>ip m h) (λ z=>Bool.noConfusion z);generalize atRest B1' H1 (· ∈ fp)=B1 at I1 b1 J1;have h:b8 X.K Y H0 B0 Bf H E (bW tgd g (aG ds0) (b9 js τ)):=h;generalize aG ds0=ds at h J1;have h:b8 X.K Y H0 B0 B1 H1 E (bW tgd g ds (b9 js τ)):=b8.later h (jZ.grow I1 b1 s1);refine⟨λ i m σ' H'=>m=ds.length-i/\i<=ds.length/\∃ B' τ' P',jZ X.K H0 B0 B1 H1 B' H' σ' τ' P'/\b8 X.K Y H0 B0 B' H' E (bW tgd g (ds.drop i) τ'),⟨_,rfl,OD _,B1,_,Pf,jZ.refl I1,h⟩,?_⟩;rintro i m σ' H' ⟨rfl,hle,B',τ',P',a,gl⟩;by_cases hlt:i<ds.length
  ·obtain⟨d,hd⟩:∃ d,ds[i]?=some d:=⟨ds[i],M9 hlt⟩;have hdrop:ds.drop i=d::ds.drop (i+1):=by
    rw[Py hlt]
    congr 1
    rw[M9 hlt]at hd;exact N6 hd
   rw[hdrop]at gl;unfold bW at gl;refine .inr ⟨J1.go B' H' i d a.b a.si.bh a.vM hd,λ σ2 H2=>∃ B2 τ2 P2,jZ X.K H0 B0 B1 H1 B2 H2 σ2 τ2 P2/\b8 X.K Y H0 B0 B2 H2 E (bW tgd g (ds.drop (i+1)) τ2),λ σ2 H2 w=>⟨_,by omega,rfl,hlt,w⟩,λ x H'' y=>?_⟩;obtain⟨sy,ry⟩:=J1.zd B' H' i d x H'' a.b a.si.bh a.vM hd y;have Iy:=a.si.grow sy;refine⟨H0,B0,B',τ',P',No,d,[],Iy,ry,fR.nil,?_⟩;cases w:tgd d τ' with
   |none=>rw[w]at gl;exact gl.elim
   | some τ2 =>
    rw[w]at gl;intro H3 σ3 P3 I3 e3;subst e3;have ay:jZ X.K H0 B0 B' H' B' H3 σ3 τ2 P3:=⟨I3,aq.refl _,mS.of sy⟩;refine⟨H0,B0,B',τ2,P3,I3,?_⟩;cases u:g τ2 with
    | nx t =>
     simp only[u]at gl;exact λ B4 H4 σ4 P4 a4=>⟨B4,t,P4,(a.trans ay).trans a4,b8.later gl (ay.trans a4)⟩
    | ct t =>
     simp only[u]at gl;exact λ B4 H4 σ4 P4 a4=>⟨B4,t,P4,(a.trans ay).trans a4,b8.later gl (ay.trans a4)⟩
    | bk t =>
     simp only[u]at gl;exact λ B4 H4 σ4 P4 a4=>gl B4 H4 σ4 P4 (ay.trans a4)
    |rt d=>simp only[u]at gl;exact gl|ex C t=>simp only[u]at gl;exact λ B4 H4 σ4 P4 a4=>gl B4 H4 σ4 P4 (ay.trans a4)
    |bad=>simp only[u]at gl;exact gl
  ·have e:i=ds.length:=by omega
   subst e;rw[List.drop_length]at gl;exact .inl ⟨J1.stop B' H' a.b a.si.bh a.vM,gl B' H' σ' P' (jZ.refl a.si)⟩
def bU (c:SD->Res Bool)(body:SF):Nat->SF
 |0,_=>.bad
 | n+1,τ=>(c τ).ql τ λ b=>if b=true then (match body τ with
   |.nx t=>bU c body n t
   |.ct t=>bU c body n t
   |.bk t=>.nx t
   |o=>o) else .nx τ
def jQ (c:SD->Res Bool)(body:SF)(τ:SD):Fl:=by classical exact if h:∃ n,bU c body n τ ≠ .bad then bU c body h.choose τ else .bad
def kM {c:SD->Res Bool}{body:SF}:∀ {n:Nat}{τ:SD},bU c body n τ ≠ .bad->bU c body (n+1) τ=bU c body n τ
 |0,_,h=>absurd rfl h
 | n+1,τ,h=>by
  rw[bU]at h
  conv=>lhs;rw[bU]
  conv=>rhs;rw[bU]
  cases e:c τ with
  |f7 C=>rfl|bad=>rfl
  | ok b =>
   rw[e]at h;cases b with
   |false=>rfl
   | true =>
    simp only[Res.ql,PN]at h ⊢;cases u:body τ with
    |nx t=>simp only[u]at h ⊢;exact kM h|ct t=>simp only[u]at h ⊢;exact kM h|bk t=>rfl|rt d=>rfl|ex C t=>rfl|bad=>rfl
def sM {c:SD->Res Bool}{body:SF}(h:bU c body n τ ≠ .bad):∀ {m:Nat},n<=m->bU c body m τ=bU c body n τ:=by
 intro m hm
 induction hm with
 |refl=>rfl|step hm ih=>rw[kM (by rw[ih];exact h),ih]
def sO {c:SD->Res Bool}{body:SF}(h:bU c body n τ ≠ .bad):jQ c body τ=bU c body n τ:=by
 have ex:∃ n,bU c body n τ ≠ .bad:=⟨n,h⟩;unfold jQ;rw[dif_pos ex];rcases Nat.le_total n ex.choose with q|q
 ·exact sM h q
 ·exact(sM ex.choose_spec q).symm
def zG {body:List Stmt}{g:SF}(hp:PassesOwn (model X.prog X.w) X.A X.env X.xe)(hc:PT X c (kq X.K Y gc))(hb:mQ X body (jK X.K Y g)):PS X (.While c body [] pos) (jK X.K Y (jQ gc g)):=by
 refine PS.imp (Cj hp hc hb) λ E σ H hq=>ex7 hq λ H0 B0 B τ P I h=>?_;obtain⟨n,hn⟩:∃ n,b8 X.K Y H0 B0 B H E (bU gc g n τ):=by
  unfold jQ at h;split at h
  ·exact⟨_,h⟩
  ·exact h.elim
 refine⟨λ m σ' H'=>∃ B' τ' P',SI X.K H0 B0 B' H' σ' τ' P' No/\b8 X.K Y H0 B0 B' H' E (bU gc g m τ'),⟨n,B,τ,P,I,hn⟩,?_⟩;rintro m σ' H' ⟨B',τ',P',I',gl⟩;cases m with
 |zero=>exact gl.elim
 | succ m =>
  rw[bU]at gl;refine Ha I' gl λ d H1 B1 _ I1 s1 b1 h1=>?_;cases d with
  |false=>rw[Nu Nd]at h1 ⊢;exact h1 B1 H1 σ' P' (jZ.refl I1)
  | true =>
   rw[Nr rfl]at h1 ⊢;refine⟨λ σ2 H2=>∃ B2 τ2 P2,SI X.K H0 B0 B2 H2 σ2 τ2 P2 No/\b8 X.K Y H0 B0 B2 H2 E (bU gc g m τ2),λ σ2 H2 w=>⟨m,QL _,w⟩,H0,B0,B1,τ',P',I1,?_⟩;cases u:g τ' with
   |nx t=>simp only[u]at h1;exact λ B4 H4 σ4 P4 a4=>⟨B4,t,P4,a4.si,b8.later h1 a4⟩
   |ct t=>simp only[u]at h1;exact λ B4 H4 σ4 P4 a4=>⟨B4,t,P4,a4.si,b8.later h1 a4⟩
   |bk t=>simp only[u]at h1;exact h1|rt d=>simp only[u]at h1;exact h1|ex C t=>simp only[u]at h1;exact h1|bad=>simp only[u]at h1;exact h1
end
variable {tgd:uv}
abbrev DF:=List D->Res D
variable {G:DF}
def lR (K:PySem.W.Frag)(G:DF):Sp:=λ vs H Q _=>∃ B0 ds,aq B0 H/\ai K B0 No H ds vs []/\match G ds with
 |.ok d=>∀ B' H' v fp,o4 K H B0 B' H' d v fp->Q v H'
 |.f7 _=>False
 |.bad=>False
def Res.Ly (r:Res D):Res D:=match r with|.f7 _=>.bad|r=>r
@[simp] theorem Res.Mn (d:D):(Res.ok d).Ly=.ok d:=rfl
def dS (G:DF)(ds:List D):Res D:=if au ds=true then (G (aG ds)).Ly.map D.aM else (G (aG ds)).Ly
def aw (G:DF)(fs:SD->Res (List D))(τ:SD):Res D:=(fs τ).bind (dS G)
section
variable {K:PySem.W.Frag}{fs:SD->Res (List D)}
def SI.called {S:Addr->Prop}{fq:List Addr}(I:SI K H0 B0 B H σ τ P F)(k:fR H0 B H P F fp)(hS:∀ a,S a->a∈P)(r:o4 K H (atRest B H (λ a=>S a\/a∈fp)) B' H' d v fq) :
  ∃ B'',SI K H0 B0 B'' H' σ τ P F/\aq B B''/\fR H0 B'' H' P F fq/\(∀ a o,B' a=some o->B'' a=some o\/(S a/\a∈P)):=by
 classical
 have sP:∀ a o,B a=some o->a∉P:=λ a o e m=>by
  have:=(I.own a m).1;rw[e]at this;cases this
 have up:∀ a,B' a≠none->B a≠none\/S a\/a∈fp\/H a=none:=λ a n=>by
  rcases r.nb a n with q|q
  ·by_cases hs:S a\/a∈fp
   ·exact .inr (hs.elim .inl λ z=>.inr (.inl z))
   ·rw[gE hs]at q;exact .inl q
  ·exact .inr (.inr (.inr q))
 refine⟨λ a=>if a∈P then none else B' a,?_,λ a o e=>?_,⟨r.nd,λ a m=>?_⟩,λ a o e=>?_⟩
 ·have sB:aq B (λ a=>if a∈P then none else B' a):=λ a o e=>by
   show(if a∈P then none else B' a)=some o;rw[Nu (sP a o e)];exact r.b0 a o (eS I.bh a o e)
  refine⟨λ a o e=>?_,I.h0.trans r.h0,I.b0.trans sB,λ a n=>?_,I.rep.mono r.h0 sB,I.nd,λ a m=>?_,λ a m=>?_⟩
  ·have e:(if a∈P then none else B' a)=some o:=e;split at e
   ·cases e
   ·exact r.bh a o e
  ·have n:(if a∈P then none else B' a)≠none:=n;split at n
   ·exact absurd rfl n
   ·rename_i hp;rcases up a n with q|q|q|q
    ·exact I.nb a q
    ·exact absurd (hS a q) hp
    ·exact .inr (k.own a q).2.1
    ·exact .inr (I.h0.free q)
  ·refine⟨?_,(I.own a m).2⟩;show(if a∈P then none else B' a)=none;rw[Nr m]
  ·obtain⟨a1,a2⟩:=I.fr a m;refine⟨?_,λ z=>a2 (r.h0.free z)⟩;show(if a∈P then none else B' a)=none;split
   ·rfl
   ·rename_i hp;cases e:B' a with
    |none=>rfl
    | some o =>
     exfalso;rcases up a (by rw[e];exact OH _) with q|q|q|q
     ·exact q a1
     ·exact hp (hS a q)
     ·exact(k.own a q).2.2.2.2 m
     ·exact a2 q
 ·show(if a∈P then none else B' a)=some o;rw[Nu (sP a o e)];exact r.b0 a o (eS I.bh a o e)
 ·obtain⟨a1,a2,a3⟩:=r.own a m;obtain⟨n1,n2,n3,n4⟩:=I.zx a2;refine⟨?_,n2,a3,n3,n4⟩;show(if a∈P then none else B' a)=none;rw[Nu n3];exact a1
 ·by_cases hp:a∈P
  ·rcases up a (by rw[e];exact OH _) with q|q|q|q
   ·obtain⟨o',e'⟩:=Rb.mp q;exact absurd hp (sP a o' e')
   ·exact .inr ⟨q,hp⟩
   ·exact absurd hp (k.own a q).2.2.2.1
   ·exact absurd q (I.stands hp)
  ·left;show(if a∈P then none else B' a)=some o;rw[Nu hp];exact e
def KO {k:Nat}(C:oh X.prog X.w X.K X.mg X.base k x ps (lR X.K G))(hr:gz k X.A)(hg:Gl X x)(ha:PA X (e::es) (pL X.K Y fs))(hdb:(x == ("__debug__" : Str))=false:=by decide)
  (he:starEach (e::es) X.env=(false,eval e X.env)::starEach es X.env:=by rfl) (hpl:(backTo pos (starEach es X.env)).any (·.1)=false:=by rfl):PE X (.Call (.Name x p) (e::es) [] pos) (tM X.K Y (aw G fs)):=by
 refine PE.imp (Ik C hr hg ha hdb he hpl) λ σ H Q hq=>ex8 hq λ H0 B0 B τ P F I h=>pL.seq I h λ ds vs H1 B1 fp _ I1 s1 b1 r1 k1 h1=>?_;rw[NX];unfold dS at h1;split at h1
 ·refine⟨atRest B1 H1 (λ a=>a∈P\/a∈fp),aG ds,jP I1.bh,r1.ak (eS I1.bh) (λ a o s h=>ip (.inl s) h) (λ a m o h=>ip (.inr m) h),?_⟩;cases z:G (aG ds) with
  |f7 c=>rw[z]at h1;exact h1.elim|bad=>rw[z]at h1;exact h1.elim
  | ok d =>
   rw[z]at h1;intro B' H' v fq r;obtain⟨B2,I2,s2,k2,hb⟩:=I1.called k1 (S:=λ a=>a∈P) (λ a s=>s) r;exact h1 v H' B2 fq I2 r.h0 s2 (r.rep.aM r.bh λ a o e=>(hb a o e).imp id λ z=>z.2) k2
 ·rename_i hb;have hb:au ds=false:=by simpa using hb
  refine⟨atRest B1 H1 (λ a=>False\/a∈fp),aG ds,jP I1.bh,(r1.gD hb).ak (eS I1.bh) (λ a o s=>s.elim) (λ a m o h=>ip (.inr m) h),?_⟩;cases z:G (aG ds) with
  |f7 c=>rw[z]at h1;exact h1.elim|bad=>rw[z]at h1;exact h1.elim
  | ok d =>
   rw[z]at h1;intro B' H' v fq r;obtain⟨B2,I2,s2,k2,hb⟩:=I1.called k1 (S:=λ _=>False) (λ a s=>s.elim) r;refine h1 v H' B2 fq I2 r.h0 s2 ?_ k2;have sb:aq B' B2:=λ a o e=>(hb a o e).resolve_right λ z=>z.1;exact r.rep.mono (aq.refl _) sb λ _ x=>x.elim
def Fl.out:Fl->Res D
 |.rt d=>.ok d
 |.nx _=>.ok .bx
 |.ex C _=>.f7 C
 |_=>.bad
def cz (n N:Nat)(g:SF)(ds:List D):Res D:=if ds.length=n then (g (ds.map some++List.replicate (N-n) none)).out else .bad
def qm:∀ {ds:List D}{vs:List V} (m:Nat),ai K B No H ds vs []->c9 K B H (ds.map some++List.replicate m none) (vs.map some++List.replicate m none) []
 | [],vs,m,r=>by
  obtain⟨rfl,_⟩:=r
  induction m with
  |zero=>exact⟨rfl,rfl⟩| succ m ih=>exact⟨none,_,rfl,ih⟩
 | d::ds,vs,m,r=>by
  obtain⟨v,w,f1,f2,rfl,r1,r2,z⟩:=r;obtain⟨rfl,rfl⟩:=lW z;exact⟨v,_,[],[],rfl,r1,qm m r2,rfl⟩
def zI {P:Program}{k:Nat}{g:SF}{f:Addr}{fd:FuncData}(D:Fq K x x st f fd)(S:aX N ps (aB st))
  (hbody:∀ (f:Addr) (cdv:Value) (A:Around) (outer:List Env) (s:Shared) (H:Hp),gz k (A.deeper (envOfC x (aB st) s.heap.objs.size f cdv)) ->
   mQ (rF A6 P w K mg base N x (aB st) f cdv A outer s H E0).GY (eN st) (jK K zz g)):pW P w K mg base A6 (k+1) f fd ps (lR K (cz ps.length N.length g)):=by
 refine D.ok S (λ vs H Q E h=>?_) λ cdv A outer s H vs Q E hr h=>?_
 ·obtain⟨B0,ds,_,r,h⟩:=h;rw[<-r.length];unfold cz at h;by_cases hl:ds.length=ps.length
  ·exact hl
  ·rw[Nu hl]at h;exact h.elim
 ·obtain⟨B0,ds,sB,r,h⟩:=h;unfold cz at h;by_cases hl:ds.length=ps.length
  ·rw[Nr hl]at h;have e:L2.start N vs=vs.map some++List.replicate (N.length-ps.length) none:=by
    unfold L2.start;rw[<-r.length,hl]
   refine⟨_,hbody f cdv A outer s H hr,H,B0,B0,ds.map some++List.replicate (N.length-ps.length) none,[],⟨sB,aq.refl _,aq.refl _,λ a n=>.inl n,by rw[e];exact qm _ r,OG,(λ a m=>by cases m),λ a m=>m.elim⟩,?_⟩;cases z:g (ds.map some++List.replicate (N.length-ps.length) none) with
   |rt d=>rw[z]at h;exact λ B' H' v fp q=>h B' H' v fp q
   | nx t =>
    rw[z]at h;intro B' H' σ' P' a;exact h B' H' .bx [] ⟨a.si.h0,a.si.b0,a.si.bh,a.si.nb,⟨rfl,rfl⟩,OG,λ a m=>by cases m⟩
   |bk t=>rw[z]at h;exact h.elim|ct t=>rw[z]at h;exact h.elim|ex C t=>rw[z]at h;exact h.elim|bad=>rw[z]at h;exact h.elim
  ·rw[Nu hl]at h;exact h.elim
def ID {P:Program}{k:Nat}{g:SF}(D:oV K mg x st ps)(S:aX N ps (aB st))
  (hbody:∀ (f:Addr) (cdv:Value) (A:Around) (outer:List Env) (s:Shared) (H:Hp),gz k (A.deeper (envOfC x (aB st) s.heap.objs.size f cdv)) ->
   mQ (rF A6 P w K mg base N x (aB st) f cdv A outer s H E0).GY (eN st) (jK K zz g)):oh P w K mg base (k+1) x ps (lR K (cz ps.length N.length g)):=by
 obtain⟨f,fd,F,hm,hb⟩:=D.ex;exact⟨f,fd,hm,F.kp,hb,zI F S hbody⟩
end
mutual
def D.bI:D->Bool
 |.tup xs=>bA xs
 |.lst t xs=>t.kH||bA xs
 |.dct t _ _ vs=>t.kH||bA vs
 |_=>false
def bA:List D->Bool
 |[]=>false
 |d::r=>d.bI||bA r
end
mutual
def vW:∀ d:D,d.pure=true->d.bI=false
 |.bx,_=>rfl|.bl _,_=>rfl|.int _,_=>rfl|.str _,_=>rfl|.exc _,_=>rfl|.tup xs,h=>jR xs h
 |.lst _ _,h=>by cases h
 |.dct _ _ _ _,h=>by cases h
def jR:∀ xs:List D,aI xs=true->bA xs=false
 |[],_=>rfl
 | d::r,h=>by
  have h:(d.pure&&aI r)=true:=h;rw[NQ]at h;show(d.bI||bA r)=false;rw[vW d h.1,jR r h.2];rfl
end
section
variable {K:PySem.W.Frag}
mutual
def Rep.noOwn {B H:Hp}{S:Addr->Prop}:∀ {d:D}{v:V}{fp:List Addr},d.bI=false->Rep K B S H d v fp->fp=[]
 |.bx,_,_,_,h=>h.2
 |.bl _,_,_,_,h=>h.2
 |.int _,_,_,_,h=>h.2
 |.str _,_,_,_,h=>h.2
 |.exc _,_,_,_,h=>h.2
 |.tup xs,v,fp,p,h=>let ⟨a,vs,e,q,r⟩:=h;ai.noOwn (ds:=xs) p r
 |.lst .own xs,v,fp,p,h=>by simp[D.bI,Tg.kH]at p
 |.lst .bor xs,v,fp,p,h=>let ⟨a,vs,e,q,r,z⟩:=h;z
 |.lst .ak xs,v,fp,p,h=>let ⟨a,vs,e,q,r,z⟩:=h;z
 |.lst (.len _) _,_,_,_,h=>h.elim
 |.dct (.len a) kd ks xs,v,fp,p,h=>by simp[D.bI,Tg.kH]at p
 |.dct .own kd ks xs,v,fp,p,h=>by simp[D.bI,Tg.kH]at p
 |.dct .bor kd ks xs,v,fp,p,h=>let ⟨a,vs,e,q,r,z⟩:=h;z
 |.dct .ak kd ks xs,v,fp,p,h=>let ⟨a,vs,e,q,r,z⟩:=h;z
def ai.noOwn {B H:Hp}{S:Addr->Prop}:∀ {ds:List D}{vs:List V}{fp:List Addr},bA ds=false->ai K B S H ds vs fp->fp=[]
 |[],_,_,_,h=>h.2
 | d::ds,vs,fp,p,h=>by
  obtain⟨v,r,f,g,e,h1,h2,z⟩:=h;have p:(d.bI||bA ds)=false:=p;rw[PD]at p;rw[z,Rep.noOwn p.1 h1,ai.noOwn p.2 h2];rfl
end
def cN (τ:SD)(cap:List (Str×Nat)):SD:=cap.map λ p=>((τ[p.2]?).join).map D.ak
def cE (τ:SD)(cap:List (Str×Nat)):Bool:=cap.any λ p=>match (τ[p.2]?).join with|some d=>d.bI|none=>false
def fT (tg:uv)(tt:SD->Res Bool)(elt:SD->Res D):List D->SD->Res (List D)
 |[],_=>.ok []
 | d::r,τ=>match tg d τ with
  |none=>.bad
  |some τ'=>(tt τ').bind λ b=>if b=true then (elt τ').bind λ x=>if x.az=true then .bad else (fT tg tt elt r τ').bind λ xs=>.ok (x::xs) else fT tg tt elt r τ'
def aJ (it:SD->Res (Bool×List D))(tg:uv)(tt:SD->Res Bool)(elt:SD->Res D)(k:Nat)(cap:List (Str×Nat))(τ:SD):Res D:=(it τ).bind λ q=>
 match fT tg tt elt (aG q.2) (List.replicate k none++cN τ cap) with
 |.ok xs=>if xs.length<=16777216 then .ok (.lst .own (if (q.1||cE τ cap)=true then bu xs else xs)) else .bad
 |_=>.bad
def C2 {Bx:Hp}(I:SI K H0 B0 B H σ τ P F)(sB:aq B Bx)(cap:List (Str×Nat))(hx:cE τ cap=true->∀ a∈P,∀ o,H a=some o->Bx a=some o):c9 K Bx H (cN τ cap) (qa σ cap) []:=by
 induction cap with
 |nil=>exact⟨rfl,rfl⟩
 | cons p r ih =>
  have ih:=ih λ z=>hx (by unfold cE at z ⊢;rw[Pp,z,Bool.or_true]);unfold cN qa at ih ⊢;rw[ND,ND];cases e:(τ[p.2]?).join with
  |none=>exact⟨_,_,rfl,ih⟩
  | some d =>
   have e':τ[p.2]?=some (some d):=by
    cases z:τ[p.2]? with
    |none=>rw[z]at e;cases e|some o=>rw[z]at e;exact OQ some e
   obtain⟨v,f,h1,h2,h3⟩:=I.rep.get e';refine⟨v,_,[],[],?_,?_,ih,rfl⟩
   ·rw[h1];rfl
   ·by_cases ho:d.bI=true
    ·have hc:cE τ (p::r)=true:=by
      unfold cE;rw[Pp,e];simp[ho]
     exact h2.ak sB (λ a o s=>s.elim) λ a m o h=>hx hc a (h3.subset m) o h
    ·have hf:=h2.noOwn (by simpa using ho);subst hf;exact h2.ak sB (λ a o s=>s.elim) λ a m=>by cases m
def sR {Bx:Hp}:∀ (k:Nat) {τ:SD}{σ:L2.St},c9 K Bx H τ σ []->c9 K Bx H (List.replicate k none++τ) (List.replicate k none++σ) []
 |0,_,_,h=>h
 |k+1,_,_,h=>⟨none,_,rfl,sR k h⟩
def SI.IE{o':HO}(I:SI K H0 B0 B H σ τ P F')(hF:F' a)(hH0:H0 a=none)(ha:H a=some o)(mu:rJ o):SI K H0 B0 B (upd H a o') σ τ P F':=by
 have kp:jq H (upd H a o') [a]:=⟨λ b u h n=>by rw[aN (by simpa using n)];exact h,λ b m=>by
  have:b=a:=by simpa using m
  subst this;exact⟨o,ha,mu⟩⟩
 have kr:∀ {τ:SD}{σ:L2.St}{P:List Addr},(∀ b∈P,b≠a)->c9 K B H τ σ P->c9 K B (upd H a o') τ σ P:=by
  intro τ
  induction τ with
  |nil=>intro σ P _ h;exact h
  | cons q r ih =>
   intro σ P hp h;cases q with
   |none=>obtain⟨x,t,e,h⟩:=h;exact⟨x,t,e,ih hp h⟩
   | some d =>
    obtain⟨v,t,f,g,e,h1,h2,z⟩:=h;subst z;exact⟨v,t,f,g,e,h1.keep kp λ b m=>by
     have:=hp b (Nt _ m);simpa using this,ih (λ b m=>hp b (Nz _ m)) h2,rfl⟩
 refine⟨λ b u e=>?_,λ b u e=>?_,I.b0,I.nb,kr (λ b m z=>(I.own b m).2.2 (z▸hF)) I.rep,I.nd,I.own,λ b m=>⟨(I.fr b m).1,?_⟩⟩
 ·rw[aN]
  ·exact I.bh b u e
  ·intro z;subst z;rw[(I.fr b hF).1]at e;cases e
 ·rw[aN]
  ·exact I.h0 b u e
  ·intro z;subst z;rw[hH0]at e;cases e
 ·by_cases z:b=a
  ·subst z;rw[aK];exact OH _
  ·rw[aN z];exact(I.fr b m).2
def aH{r:Res α}{f:α->Res β}{b:β}(h:r.bind f=.ok b):∃ a,r=.ok a/\f a=.ok b:=by
 cases r with
 |ok a=>exact⟨a,rfl,h⟩| f7 C=>cases h|bad=>cases h
def Bk{k:Nat}{fl:Bool}{J:It}(I1:SI K H0 B0 B1 H1 σ τ P F)(k1:fR H0 B1 H1 P F fp)(JA:Hd K J ds fl B1 H1 P fp)
  (h:Goal K Y H0 B0 B1 H1 σ τ P F Q (match fT tgd tt elt (aG ds) (List.replicate k none++cN τ cap) with
   |.ok xs=>if xs.length<=16777216 then .ok (.lst .own (if (fl||cE τ cap)=true then bu xs else xs)) else .bad
   |_=>.bad)):sF (λ _ _ R=>R J H1) (FL K tgd) (kq K zz tt) (tM K zz elt) k cap σ H1 Q:=by
 intro acc hacc;cases zc:fT tgd tt elt (aG ds) (List.replicate k none++cN τ cap) with
 |f7 C=>rw[zc]at h;exact h.elim|bad=>rw[zc]at h;exact h.elim
 | ok xs =>
  rw[zc]at h;simp only at h;by_cases hxl:xs.length<=16777216
  ·rw[Nr hxl]at h
   let S:Addr->Prop:=λ a=>(fl||cE τ cap)=true/\a∈P
   let Bx:Hp:=atRest B1 H1 (λ a=>S a\/a∈fp)
   have sBx:aq B1 Bx:=eS I1.bh;have uBx:aq Bx H1:=jP I1.bh;have J1:Hc K J (aG ds) Bx H1:=JA Bx sBx uBx (λ a m o e=>ip (.inr m) e) (λ hf a m o e=>ip (.inl ⟨by rw[hf];rfl,m⟩) e);have c0:c9 K Bx H1 (List.replicate k none++cN τ cap) (List.replicate k none++qa σ cap) []:=sR k (C2 I1 sBx cap λ hc a m o e=>ip (.inl ⟨by rw[hc,Bool.or_true],m⟩) e);have sacc:aq H1 (upd H1 acc (.lst [])):=dY hacc;have C0:SI K H1 Bx Bx (upd H1 acc (.lst [])) (List.replicate k none++qa σ cap) (List.replicate k none++cN τ cap) [] (λ a=>a=acc\/a∈([]:List Addr)):=
    ⟨uBx.trans sacc,sacc,aq.refl _,λ a n=>.inl n,c0.mono sacc (aq.refl _),OG,(λ a m=>by cases m),λ a m=>by
     have:a=acc:=m.elim id λ z=>by cases z
     subst this;exact⟨uBx.free hacc,by rw[aK];exact OH _⟩⟩
   refine⟨λ i m τv ys H'=>m=(aG ds).length-i/\i<=(aG ds).length/\∃ B' τb Pb es fe rest,SI K H1 Bx B' H' τv τb Pb (λ a=>a=acc\/a∈fe)/\H' acc=some (.lst ys)/\ai K B' No H' es ys fe/\fe.Nodup /\
     (∀ a∈fe,H1 a=none/\a≠acc)/\fT tgd tt elt ((aG ds).drop i) τb=.ok rest/\xs=es++rest/\acc∉fe,⟨_,rfl,OD _,Bx,_,[],[],[],xs,C0,aK,⟨rfl,rfl⟩,OG,(λ a m=>by cases m),zc,rfl,by simp⟩,?_⟩
   rintro i m τv ys H' ⟨rfl,hle,B',τb,Pb,es,fe,rest,C,ha,re,ndf,own,ec,ex,hna⟩;have im:mS H1 H':=mS.of C.h0;by_cases hlt:i<(aG ds).length
   ·obtain⟨d,hd⟩:∃ d,(aG ds)[i]?=some d:=⟨(aG ds)[i],M9 hlt⟩;have hdrop:(aG ds).drop i=d::(aG ds).drop (i+1):=by
     rw[Py hlt]
     congr 1
     rw[M9 hlt]at hd;exact N6 hd
    rw[hdrop]at ec;unfold fT at ec;refine .inr ⟨J1.go B' H' i d C.b0 C.bh im hd,λ x H'' y=>?_⟩;obtain⟨sy,ry⟩:=J1.zd B' H' i d x H'' C.b0 C.bh im hd y;cases w:tgd d τb with
    |none=>rw[w]at ec;cases ec
    | some τ2 =>
     rw[w]at ec;simp only at ec;refine⟨H1,Bx,B',τb,Pb,_,d,[],C.grow sy,ry,fR.nil,?_⟩;rw[w];intro H3 σ3 P3 I3 e3;subst e3;obtain⟨b,eb,ec⟩:=aH ec;refine⟨H1,Bx,B',τ2,P3,_,I3,?_⟩;rw[eb];intro H4 B4 I4 s4 b4;have re4:ai K B4 No H4 es ys fe:=re.mono (sy.trans s4) b4 λ _ x=>x;have ha4:H4 acc=some (.lst ys):=s4 _ _ (sy _ _ ha);cases b with
     | false =>
      rw[Nu Nd]at ec ⊢;exact⟨_,by omega,rfl,hlt,B4,τ2,P3,es,fe,rest,I4,ha4,re4,ndf,own,ec,ex,hna⟩
     | true =>
      rw[Nr rfl]at ec ⊢;obtain⟨x',ex',ec⟩:=aH ec;refine⟨H1,Bx,B4,τ2,P3,_,I4,?_⟩;rw[ex'];intro v H5 B5 fv I5 s5 b5 r5 k5;by_cases hb:x'.az=true
      ·rw[Nr hb]at ec;cases ec
      ·rw[Nu hb]at ec;obtain⟨rest',er',ec⟩:=aH ec;cases ec;have hb:x'.az=false:=by simpa using hb
       have ha5:H5 acc=some (.lst ys):=s5 _ _ ha4;have re5:ai K B5 No H5 es ys fe:=re4.mono s5 b5 λ _ x=>x;have hlen:ys.length<sizeLine:=by
        rw[<-re.length,Oc];have:=OQ List.length ex;simp at this;omega
       refine⟨ha5,hlen,_,by omega,rfl,hlt,?_⟩;have Ih:=I5.hold k5;have fdis:∀ a∈fv,a∉fe/\a≠acc:=λ a m=>⟨λ z=>(k5.own a m).2.2.2.2 (.inr z),λ z=>(k5.own a m).2.2.2.2 (.inl z)⟩;have Ih2:SI K H1 Bx B5 H5 σ3 τ2 P3 (λ a=>a=acc\/a∈fe++fv):=Ih.qi λ a m=>by
        rcases m with m|m
        ·exact .inr (.inl m)
        ·rcases Nk.mp m with m|m
         ·exact .inr (.inr m)
         ·exact .inl m
       have Iw:=Ih2.IE (o':=.lst (ys++[v])) (.inl rfl) hacc ha5 trivial;have kp:jq H5 (upd H5 acc (.lst (ys++[v]))) [acc]:=⟨λ b u h n=>by rw[aN (by simpa using n)];exact h,λ b m=>by
        have:b=acc:=by simpa using m
        subst this;exact⟨_,ha5,trivial⟩⟩
       refine⟨B5,τ2,P3,es++[x'],fe++fv,rest',Iw,aK,?_,Np.mpr ⟨ndf,k5.nd,λ a h1 b h2 e=>(fdis b h2).1 (e▸h1)⟩,λ a m=>?_,er',by rw[ex];simp,λ m=>?_⟩
       ·refine ai.append (re5.keep kp λ a m z=>?_) (ai.one ((r5.gD hb).keep kp λ a m z=>?_))
        ·have:a=acc:=by simpa using z
         exact hna (this▸m)
        ·have:a=acc:=by simpa using z
         exact(fdis a m).2 this
       ·rcases Nk.mp m with m|m
        ·exact own a m
        ·exact⟨(k5.own a m).2.1,(fdis a m).2⟩
       ·rcases Nk.mp m with m|m
        ·exact hna m
        ·exact(fdis acc m).2 rfl
   ·have e:i=(aG ds).length:=by omega
    subst e;rw[List.drop_length]at ec;unfold fT at ec;cases ec;rw[NX]at ex;subst ex;refine .inl ⟨J1.stop B' H' C.b0 C.bh im,?_⟩;have ro:o4 K H1 Bx B' H' (.lst .own xs) (.ref acc) (acc::fe):=⟨C.h0,C.b0,C.bh,C.nb,⟨acc,ys,fe,rfl,ha,re,rfl⟩,Nv.mpr ⟨hna,ndf⟩,λ a m=>by
     rcases Nq.mp m with m|m
     ·subst m;exact⟨(C.fr a (.inl rfl)).1,hacc,(C.fr a (.inl rfl)).2⟩
     ·exact⟨(C.fr a (.inr m)).1,(own a m).1,(C.fr a (.inr m)).2⟩⟩
    obtain⟨B2,I2,s2,k2,hb⟩:=I1.called k1 (S:=S) (λ a s=>s.2) ro;by_cases hl:(fl||cE τ cap)=true
    ·rw[Nr hl]at h;exact h (.ref acc) H' B2 _ I2 C.h0 s2 (ro.rep.aM ro.bh λ a o e=>(hb a o e).imp id λ z=>z.2) k2
    ·rw[Nu hl]at h;have sb:aq B' B2:=λ a o e=>(hb a o e).resolve_right λ z=>hl z.1.1;exact h (.ref acc) H' B2 _ I2 C.h0 s2 (ro.rep.mono (aq.refl _) sb λ _ x=>x.elim) k2
  ·rw[Nu hxl]at h;exact h.elim
def sU{k:Nat}(I:SI K H0 B0 B H σ τ P F)(h:Goal K Y H0 B0 B H σ τ P F Q (aJ it tgd tt elt k cap τ)) :
  sF (Cc K Y it) (FL K tgd) (kq K zz tt) (tM K zz elt) k cap σ H Q:=by
 refine⟨H0,B0,B,τ,P,F,I,?_⟩;unfold aJ at h;cases z:it τ with
 |f7 C=>rw[z]at h;exact h|bad=>rw[z]at h;exact h
 | ok q =>
  obtain⟨fl,ds⟩:=q;rw[z]at h;simp only[Res.aH]at h;intro J H1 B1 fp I1 s1 b1 k1 JA;exact Bk I1 k1 JA (Goal.later h s1 b1)
variable {elt iter:Expr}{ifs:List Expr}{scope:Scope}{own:List Str}
def i9 (ok:gM X scope own cap)(hc:X.calm=true)(hi:PI X tg iter (Cc X.K Y it))(Bl:iQ X scope own cap tg ifs elt (FL X.K tgd) (kq X.K zz tt) (tM X.K zz fe))(hs:∀ x,foldedSetIterable iter X.env x=pure x:=by intro _;rfl) :
  PE X (.ListComp elt [⟨tg,iter,ifs,0⟩] scope pos) (tM X.K Y (aJ it tgd tt fe own.length cap)):=
 PE.imp (Fx ok hc hi Bl hs) λ σ H Q hq=>ex8 hq λ H0 B0 B τ P F I h=>sU I h
def Bj{y:Str}{py spos:Pos}(hN:X.N.Nodup)(hi':X.N[i]?=some y)(hy:Loc X.env.scope y)(ok:gM X scope own cap)(hc:X.calm=true)(hi:PI X tg iter (Cc X.K Y it))(Bl:iQ X scope own cap tg ifs elt (FL X.K tgd) (kq X.K zz tt) (tM X.K zz fe))
  (hsw:swapsWith (.ListComp elt [⟨tg,iter,ifs,0⟩] scope pos) (some (.Name y py)) spos.line X.env=pure true:=by rfl)
  (hf:X.fn y=true\/X.env.scope.names.lookup y=some .local:=by first|exact .inl rfl|exact .inr rfl) (hs:∀ x,foldedSetIterable iter X.env x=pure x:=by intro _;rfl) :
  PS X (.Assign [.Name y py] (.ListComp elt [⟨tg,iter,ifs,0⟩] scope pos) spos) (jK X.K Y (aS i (aJ it tgd tt fe own.length cap))):=by
 refine PS.imp (xS hN hi' hy ok hc hi Bl hsw hf hs) λ E σ H hq=>ex7 hq λ H0 B0 B τ P I h=>?_;have key:tM X.K Y (aJ it tgd tt fe own.length cap) σ H (λ x H1=>su i x σ H1 E.nx):=lZ I h λ d v H1 B1 fp _ I1 _ _ r1 k1 h1=>by
  unfold jv at h1;split at h1
  ·exact h1.elim
  ·rename_i hb;obtain⟨P',I',_⟩:=I1.set i (r1.gD (by simpa using hb)) k1;exact h1 B1 H1 _ P' ⟨I',aq.refl _,mS.refl _⟩
 obtain⟨H0',B0',B',τ',P',F',I',h'⟩:=key;exact sU I' h'
def bP (_:SD):Res Bool:=.ok true
def iS:Kw X [] (kq X.K Y bP):=λ pins s σ H Q I ⟨H0,B0,B,τ,P,F,I',h⟩=>Fw pins s σ H Q I (h H B I' (aq.refl _) (aq.refl _))
def dU {c:Expr}(h:PT X c (kq X.K Y gc)):Kw X [c] (kq X.K Y gc):=Fv h
end
section
variable {K:PySem.W.Frag}
def Lz:D->String|.bx=>"NoneType" |.bl _=>"bool" |.int _=>"int" |.str _=>"str" |.tup _=>"tuple" |.lst _ _=>"list" |.dct _ _ _ _=>"dict" |.exc _=>""
def D.isExc:D->Bool|.exc _=>true|_=>false
def uA:eY X (.builtin "isinstance") (λ xs H Q=>∃ x t b,xs=[x,.ty T]/\(mT X.K H x t\/(∃ a vs,x=.ref a/\lq X.K H a vs/\t=.type "tuple")\/(∃ a vs,x=.ref a/\cY X.K H a vs/\t=.type "list"))/\PySem.W.kitOne X.K t (.type T)=some b/\Q (.bl b) H):=by
 intro pins s σ H xs us Q I r h;obtain⟨x,t,b,rfl,ty,e,q⟩:=h;obtain⟨u,v,rfl,ru,rv⟩:=vals2 r;cases rv;rcases ty with ty|⟨a,vs,rfl,hq,rfl⟩|⟨a,vs,rfl,hq,rfl⟩
 ·exact AQ I ru ty e λ tk=>⟨.bl b,H,I.tok tk,rfl,q⟩
 ·cases ru;obtain⟨its,_,⟨o,h1,h2,_⟩,_⟩:=I.tuple hq;exact Ov PySem.W.kitx_tuple I.tZ ⟨o,h1,h2⟩ e (λ z=>nomatch z) λ tk=>⟨.bl b,H,I.tok tk,rfl,q⟩
 ·cases ru;obtain⟨its,_,pl,_⟩:=I.list hq;obtain⟨o,h1,h2,_⟩:=pl.isList;exact Ov Ro I.tZ ⟨o,h1,h2⟩ e (λ z=>nomatch z) λ tk=>⟨.bl b,H,I.tok tk,rfl,q⟩
def C4(I:SI K H0 B0 B H σ τ P F)(r:Rep K B (· ∈ P) H d v f)(ne:d.isExc=false):mT K H v (.type (Lz d))\/(∃ a vs,v=.ref a/\lq K H a vs/\(Value.type (Lz d))=.type "tuple")\/(∃ a vs,v=.ref a/\cY K H a vs/\(Value.type (Lz d))=.type "list"):=by
 cases d with
 |bx=>rw[r.1];exact .inl .bx|bl b=>rw[r.1];exact .inl (.bl b)|int b=>rw[r.1];exact .inl (.int b)|str b=>rw[r.1];exact .inl (.str b)|exc _=>cases ne|tup xs=>obtain⟨a,vs,rfl,q,_⟩:=r;exact .inr (.inl ⟨a,vs,rfl,lq.of q,rfl⟩)
 | lst t xs =>
  obtain⟨a,vs,g,rfl,q,_⟩:=r.lst I;exact .inr (.inr ⟨a,vs,rfl,q,rfl⟩)
 | dct t k ks xs =>
  have:∃ a vs,v=.ref a/\DictAt H a k ks vs:=by
   cases t with
   |len a=>obtain⟨vs,g,e,q,_⟩:=r;exact⟨a,vs,e,q⟩| own=>obtain⟨a,vs,g,e,q,_⟩:=r;exact⟨a,vs,e,q⟩| bor=>obtain⟨a,vs,e,q,_⟩:=r;exact⟨a,vs,e,q.elim (λ y=>y.2) λ y=>y.mono I.bh⟩| ak=>obtain⟨a,vs,e,q,_⟩:=r;exact⟨a,vs,e,q.mono I.bh⟩
  obtain⟨a,vs,rfl,⟨_,kvs,ep,q,_⟩|⟨_,kvs,ep,q,_⟩⟩:=this
  ·exact .inl (.dK q)
  ·exact .inl (.dT q)
def uw:D->Bool|.bl _=>true|_=>false
def uz:D->Bool|.lst _ _=>true|_=>false
def xX (T:String)(g:D->Bool):Prop:=∀ (K:PySem.W.Frag) (d:D),d.isExc=false->PySem.W.kitOne K (.type (Lz d)) (.type T)=some (g d)
def Bm:xX "bool" uw:=λ K d h=>by cases d<;>first|rfl|cases h
def Bo:xX "list" uz:=λ K d h=>by cases d<;>first|rfl|cases h
def d7 (g:D->Bool)(d:D):Res D:=if d.isExc=true then .bad else .ok (.bl (g d))
def C3{g:D->Bool}{ty:Expr}{pt:Pos}(hI:xX T g)(hg:Gl X "isinstance")(hm:X.mg "isinstance" = none)(he:PE X e (tM X.K Y fe))(hgT:Gl X x)(hmT:X.mg x=none)(hbT:bootBuiltins x=some (.type T))
  (hs:starEach [e,.Name x pt] X.env=(false,eval e X.env)::starEach [.Name x pt] X.env:=by rfl) (hs2:starEach [.Name x pt] X.env=(false,eval (.Name x pt) X.env)::starEach [] X.env:=by rfl) (hpl:(backTo pos (starEach [.Name x pt] X.env)).any (·.1)=false:=by rfl) (hn:x ≠ "__name__" :=by decide) (hdb:(x == ("__debug__" : Str))=false:=by decide) :
  PE X (.Call (.Name "isinstance" p) [e,.Name x pt] [] pos) (tM X.K Y (nh (d7 g) fe)):=by
 refine PE.imp (pT (uA (T:=T)) hg hm (by decide +kernel) (cT he (cT (EU hgT hmT hbT (show RelV (.ty T) _ from rfl) hn hdb) fE hs2) hs) (he:=hs) (hpl:=hpl)) λ σ H Q hq=>ex8 hq λ H0 B0 B τ P F I h=>?_;refine tM.seq (g:=d7 g) I h λ d v H1 B1 fp _ I1 s1 b1 r1 k1 h1=>?_;unfold d7 at h1;split at h1
 ·exact h1.elim
 ·rename_i hx;have hx:d.isExc=false:=by simpa using hx
  exact⟨v,_,_,rfl,C4 I1 r1 hx,hI _ d hx,Out.here h1 I1 ⟨rfl,rfl⟩⟩
def intsOf:List D->Option (List Int)
 |[]=>some []
 |.int i::r=>(intsOf r).map (i :: ·)
 |_::_=>none
def dC (ns:List Int):intsOf (ns.map D.int)=some ns:=by
 induction ns with
 |nil=>rfl|cons n r ih=>rw[ND,intsOf,ih];rfl
def fO:∀ {xs:List D}{ns:List Int},intsOf xs=some ns->xs=ns.map D.int
 |[],ns,h=>by cases h;rfl
 | .int i::r,ns,h=>by
  unfold intsOf at h;cases e:intsOf r with
  |none=>rw[e]at h;cases h|some m=>rw[e]at h;cases h;rw[ND,<-fO e]
 |.bx::_,_,h=>by cases h
 |.bl _::_,_,h=>by cases h
 |.str _::_,_,h=>by cases h
 |.tup _::_,_,h=>by cases h
 |.lst _ _::_,_,h=>by cases h
 |.dct _ _ _ _::_,_,h=>by cases h
 |.exc _::_,_,h=>by cases h
def fN {S:Addr->Prop}:∀ {ns:List Int}{vs:List V}{f:List Addr},ai K B S H (ns.map D.int) vs f->vs=ns.map V.int/\f=[]
 |[],vs,f,r=>r
 | n::ns,vs,f,r=>by
  obtain⟨v,w,f1,f2,rfl,⟨rfl,rfl⟩,r2,rfl⟩:=r;obtain⟨rfl,rfl⟩:=fN r2;exact⟨rfl,rfl⟩
def lI {S:Addr->Prop}:∀ (ns:List Int),ai K B S H (ns.map D.int) (ns.map V.int) []
 |[]=>⟨rfl,rfl⟩
 |n::ns=>⟨_,_,[],[],rfl,⟨rfl,rfl⟩,lI ns,rfl⟩
def sortI (ns:List Int):List Int:=ns.mergeSort (λ a b=>decide (a<=b))
def sortI_perm (ns:List Int):(sortI ns).Perm ns:=List.mergeSort_perm ns _
def iq (ns:List Int):(sortI ns).Pairwise (· <= ·):=by
 have h:=List.pairwise_mergeSort (le:=λ a b:Int=>decide (a<=b)) (λ a b c h1 h2=>by simp at *;omega) (λ a b=>by simp;omega) ns;exact h.imp λ h=>by simpa using h
def gk:∀ {l m:List Int},l.Perm m->l.Pairwise (· <= ·)->m.Pairwise (· <= ·)->l=m
 |[],m,hp,_,_=>(List.Perm.nil_eq hp)
 | x::r,m,hp,h1,h2=>by
  match m,hp,h2 with
  |[],hp,_=>exact absurd hp.length_eq (by simp)
  | y::r',hp,h2 =>
   obtain⟨a1,a2⟩:=Rc.mp h1;obtain⟨b1,b2⟩:=Rc.mp h2;have e:x=y:=by
    have m1:x∈y::r':=hp.mem_iff.mp Na;have m2:y∈x::r:=hp.mem_iff.mpr Na;rcases Nq.mp m1 with q|q
    ·exact q
    ·rcases Nq.mp m2 with q'|q'
     ·exact q'.symm
     ·have:=b1 x q;have:=a1 y q';omega
   subst e;rw[gk ((List.perm_cons _).mp hp) a2 b2]
def bY:List D->Res D
 |[.lst _ xs]=>match intsOf xs with|some ns=>if ns.length<64 then .ok (.lst .own ((sortI ns).map D.int)) else .bad|none=>.bad
 |_=>.bad
def vX:kL K Y (λ xs H Q=>∃ (a:Addr) (ns:List Int),xs=[.ref a]/\cY K H a (ns.map V.int)/\ns.length<64/\∀ (p:Addr) (ns':List Int),H p=none->ns'.Perm ns->ns'.Pairwise (· <= ·)->Q (.ref p) (upd H p (.lst (ns'.map V.int)))) bY:=by
 intro H0 B0 B H σ τ P F ds vs f Q I r k h;unfold bY at h;split at h
 ·obtain⟨v,rfl,r'⟩:=lY r;obtain⟨a,ws,g,rfl,q,l,s⟩:=r'.lst I;split at h
  ·rename_i ns e;split at h
   ·rename_i hl;have ex:=fO e;subst ex;obtain⟨rfl,rfl⟩:=fN l;refine⟨a,ns,rfl,gO q,hl,λ p ns' hp h1 h2=>?_⟩;have e2:ns'=sortI ns:=gk (h1.trans (sortI_perm ns).symm) h2 (iq ns);subst e2;exact Out.CN h I (lI _) fR.nil hp
   ·exact h.elim
  ·exact h.elim
 ·exact h.elim
end
def kj:D->Option Key|.int i=>some (.inl i)|.str x=>some (.inr x)|_=>none
def dH:List D->Option (List Key)
 |[]=>some []
 |d::r=>(kj d).bind λ k=>(dH r).map (k :: ·)
def ff:D->Option KT
 |.int i=>some (.inl (.inl i))
 |.str x=>some (.inl (.inr x))
 |.tup ds=>(dH ds).map .inr
 |_=>none
def KT.kind:KT->Bool|.inl _=>false|.inr _=>true
def d8:List KT->List D->KT->Option D
 |k::ks,d::ds,q=>if k=q then some d else d8 ks ds q
 |_,_,_=>none
def pG (ks:List KT)(q:KT):Bool:=ks.any λ k=>decide (k=q)
def j3 (ks:List KT)(q:KT):List KT:=if pG ks q=true then ks else ks++[q]
def zJ:List KT->List D->KT->D->List D
 |k::ks,d::ds,q,x=>(if k=q then x else d)::zJ ks ds q x
 |_,ds,_,_=>ds
def j0 (ks:List KT)(ds:List D)(q:KT)(d:D):List D:=if pG ks q=true then zJ ks ds q d else ds++[d]
section
variable {K:PySem.W.Frag}
def Rep.dc (I:SI K H0 B0 B H σ τ P F){t:Tg}{k:Bool}(r:Rep K B (· ∈ P) H (.dct t k ks xs) v f):∃ a vs g,v=.ref a/\DictAt H a k ks vs/\ai K B (· ∈ P) H xs vs g/\List.Sublist g f:=by
 cases t with
 | len a =>
  obtain⟨vs,g,e,q,r,z⟩:=r;subst z;exact⟨a,vs,g,e,q,r,P6 _ _⟩
 | own =>
  obtain⟨a,vs,g,e,q,r,z⟩:=r;subst z;exact⟨a,vs,g,e,q,r,P6 _ _⟩
 | bor =>
  obtain⟨a,vs,e,q,r,z⟩:=r;subst z;exact⟨a,vs,[],e,q.elim (λ y=>y.2) λ y=>y.mono I.bh,r,Oq _⟩
 | ak =>
  obtain⟨a,vs,e,q,r,z⟩:=r;subst z;exact⟨a,vs,[],e,q.mono I.bh,r.mono (aq.refl _) (aq.refl _) (λ _ x=>x.elim),Oq _⟩
def sV {S:Addr->Prop}:∀ {ds:List D}{k:List Key}{vs:List V}{f:List Addr},dH ds=some k->ai K B S H ds vs f->vs=k.map kV
 |[],k,vs,f,h,r=>by cases h;exact r.1
 | d::ds,k,vs,f,h,r=>by
  obtain⟨v,w,f1,f2,rfl,r1,r2,_⟩:=r;unfold dH at h;cases e1:kj d with
  |none=>rw[e1]at h;cases h
  | some q =>
   rw[e1]at h;cases e2:dH ds with
   |none=>rw[e2]at h;cases h
   | some m =>
    rw[e2]at h;cases h;rw[sV e2 r2,ND]
    congr 1
    cases d<;>first|(cases e1;exact r1.1)|cases e1
def qo {S:Addr->Prop}{k:Key}(h:ff d=some (.inl k))(r:Rep K B S H d v f):v=kV k:=by
 cases d with
 |int i=>cases h;exact r.1|str i=>cases h;exact r.1
 | tup ds =>
  have h:(dH ds).map Sum.inr=some (Sum.inl k):=h;cases e:dH ds<;>rw[e]at h<;>cases h
 |_=>cases h
def C6 {S:Addr->Prop}{k:List Key}(h:ff d=some (.inr k))(r:Rep K B S H d v f):∃ b,v=.ref b/\H b=some (.tup (k.map kV)):=by
 cases d with
 | tup ds =>
  have h:(dH ds).map Sum.inr=some (Sum.inr k):=h;cases e:dH ds with
  |none=>rw[e]at h;cases h
  | some m =>
   rw[e]at h;cases h;obtain⟨a,vs,rfl,q,rl⟩:=r;rw[sV e rl]at q;exact⟨a,rfl,q⟩
 |int i=>cases h|str i=>cases h|_=>cases h
def lJ {κ:Type}[DecidableEq κ](ι:κ->KT)(inj:∀ a b,ι a=ι b->a=b){S:Addr->Prop}:∀ {kvs:List (κ×V)}{xs:List D}{f:List Addr}{k:κ},ai K B S H xs (kvs.map (·.2)) f ->
  match d8 (kvs.map λ p=>ι p.1) xs (ι k) with
  |some d=>∃ v g,jk kvs k=some v/\Rep K B S H d v g/\List.Sublist g f
  |none=>jk kvs k=none
 |[],xs,f,k,r=>by cases xs<;>rfl
 |p::kvs,[],f,k,r=>by obtain⟨h,_⟩:=r;cases h
 | p::kvs,d::ds,f,k,r=>by
  obtain⟨v,w,f1,f2,e,r1,r2,rfl⟩:=r;rw[ND]at e;cases e;rw[ND,d8];by_cases h:p.1=k
  ·rw[Nr (OQ ι h)];exact⟨_,f1,kD h,r1,NV _ _⟩
  ·rw[Nu λ z=>h (inj _ _ z)];have ih:=lJ ι inj (k:=k) r2;split at ih
   ·rename_i d' e';obtain⟨v',g,h1,h2,h3⟩:=ih;exact⟨v',g,by rw[jl h];exact h1,h2,h3.trans (NL _ _)⟩
   ·rename_i e';rw[jl h];exact ih
def FN{k:Bool}{g:List Addr}{q:KT}{dk:D}{y:V}(hd:DictAt H a k ks vs)(r:ai K B (· ∈ P) H xs vs g)(hk:ff dk=some q)(rk:Rep K B (· ∈ P) H dk y f)(hq:q.kind=k) :
  match d8 ks xs q with
  |some d=>∃ v g',mY H a y (some v)/\Rep K B (· ∈ P) H d v g'/\List.Sublist g' g
  |none=>mY H a y none:=by
 rcases hd with ⟨rfl,kvs,ep,ha,rfl,rfl⟩|⟨rfl,kvs,ep,ha,rfl,rfl⟩
 ·cases q with
  |inr q=>cases hq
  | inl q =>
   have ev:=qo hk rk;subst ev;have ih:=lJ Sum.inl (λ a b h=>PZ h) (k:=q) r;split at ih
   ·rename_i d e;rw[e];obtain⟨v,g',h1,h2,h3⟩:=ih;exact⟨v,g',h1▸mY.k ⟨ep,ha⟩,h2,h3⟩
   ·rename_i e;rw[e];exact ih▸mY.k ⟨ep,ha⟩
 ·cases q with
  |inl q=>cases hq
  | inr q =>
   obtain⟨b,rfl,hb⟩:=C6 hk rk;have ih:=lJ Sum.inr (λ a b h=>Sum.inr.inj h) (k:=q) r;split at ih
   ·rename_i d e;rw[e];obtain⟨v,g',h1,h2,h3⟩:=ih;exact⟨v,g',h1▸mY.t ⟨ep,ha⟩ hb,h2,h3⟩
   ·rename_i e;rw[e];exact ih▸mY.t ⟨ep,ha⟩ hb
def e8 (k:Bool)(_:SD):Res D:=.ok (.dct .own k [] [])
def newDict{k:Bool}{pa:Addr}(h:Out K H0 B0 B H σ τ P F Q (.dct .own k [] []))(I:SI K H0 B0 B H σ τ P F)(hp:H pa=none)(ho:DictAt (upd H pa o) pa k [] []):Q (.ref pa) (upd H pa o):=by
 have s:=dY (o:=o) hp;obtain⟨n1,n2,n3,n4⟩:=I.zx hp;refine h (.ref pa) _ B [pa] (I.grow s) s (aq.refl _) ⟨pa,[],[],rfl,ho,⟨rfl,rfl⟩,rfl⟩ ⟨by simp,λ a m=>?_⟩;have e:a=pa:=by simpa using m
 subst e;exact⟨n1,n2,(by rw[aK];exact OH _),n3,n4⟩
def FO:PE X (.Dict [] [] pos) (tM X.K Y (e8 true)):=PE.imp CB λ σ H Q ⟨H0,B0,B,τ,P,F,I,h⟩ p hp=>newDict h I hp (.inr ⟨rfl,[],0,aK,rfl,rfl⟩)
def uB:PE X (.Dict [] [] pos) (tM X.K Y (e8 false)):=PE.imp CD λ σ H Q ⟨H0,B0,B,τ,P,F,I,h⟩ p hp=>newDict h I hp (.inl ⟨rfl,[],0,aK,rfl,rfl⟩)
variable {o i:Expr}{fo fi:SD->Res D}
def cD (dd dk:D):Res D:=match dd with
 | .dct _ k ks vs=>match ff dk with
  |some q=>if q.kind=k then (match d8 ks vs q with|some d=>.ok d|none=>.bad) else .bad
  |none=>.bad
 |_=>.bad
def iE (hu:X.A.units+1<cLine)(ho:PE X o (tM X.K Y fo))(hi:PE X i (tM X.K Y fi))(hs:Fp i):PE X (.Subscript o i pos) (tM X.K Y (ah cD fo fi)):=
 PE.imp (zu hu ho hi hs) λ σ H Q hq=>ex8 hq λ H0 B0 B τ P F I h=>tM.rK I h λ d1 d2 v1 v2 H2 B2 f1 f2 _ _ I2 _ _ r1 r2 k h2=>by
  unfold cD at h2;split at h2
  ·split at h2
   ·rename_i q hk;split at h2
    ·rename_i hq;obtain⟨a,vs,g,rfl,hd,rl,sg⟩:=r1.dc I2;have key:=FN hd rl hk r2 hq;split at key
     ·rename_i d e;rw[e]at h2;obtain⟨v,g',k1,k2,k3⟩:=key;exact⟨a,v,rfl,k1,Out.zy h2 I2 k2 (k.left.sub (k3.trans sg))⟩
     ·rename_i e;rw[e]at h2;exact h2.elim
    ·exact h2.elim
   ·exact h2.elim
  ·exact h2.elim
def Rep.bJ {t:Tg}{k:Bool}{S:Addr->Prop}(ht:t.kH=true)(r:Rep K B S H (.dct t k ks xs) v fp) :
  ∃ a vs f,v=.ref a/\DictAt H a k ks vs/\ai K B S H xs vs f/\fp=a::f/\∀ {B' H':Hp}{S':Addr->Prop}{ks':List KT}{xs':List D}{vs':List V}{f':List Addr},DictAt H' a k ks' vs'->ai K B' S' H' xs' vs' f'->Rep K B' S' H' (.dct t k ks' xs') (.ref a) (a::f'):=by
 cases t with
 |own=>obtain⟨a,vs,f,e,q,r,z⟩:=r;exact⟨a,vs,f,e,q,r,z,λ q' r'=>⟨a,_,_,rfl,q',r',rfl⟩⟩| len a=>obtain⟨vs,f,e,q,r,z⟩:=r;exact⟨a,vs,f,e,q,r,z,λ q' r'=>⟨_,_,rfl,q',r',rfl⟩⟩| bor=>cases ht|ak=>cases ht
def cW (τ:SD)(i:Nat):Option (Tg×Bool×List KT×List D):=match τ[i]? with|some (some (.dct t k ks xs))=>if t.kH=true then some (t,k,ks,xs) else none|_=>none
def mD{i:Nat}{t:Tg}{k:Bool}(h:cW τ i=some (t,k,ks,xs)):τ[i]?=some (some (.dct t k ks xs))/\t.kH=true:=by
 unfold cW at h;split at h
 ·rename_i e;split at h
  ·rename_i ht;cases h;exact⟨e,ht⟩
  ·cases h
 ·cases h
def vY {κ:Type}[DecidableEq κ](ι:κ->KT)(inj:∀ a b,ι a=ι b->a=b)(k:κ):∀ kvs:List (κ×V),pG (kvs.map λ p=>ι p.1) (ι k)=kvs.any λ kv=>decide (kv.1=k)
 |[]=>rfl
 | p::r=>by
  have ih:=vY ι inj k r;unfold pG at ih ⊢;rw[ND,Pp,Pp,ih]
  congr 1
  by_cases h:p.1=k
  ·simp[h]
  ·rw[NN h,NN λ z=>h (inj _ _ z)]
def xY {κ:Type}[DecidableEq κ](ι:κ->KT)(inj:∀ a b,ι a=ι b->a=b){kvs:List (κ×V)}{k:κ}(r:ai K B No H xs (kvs.map (·.2)) f)(rv:Rep K B No H d v fp)(hp:pG (kvs.map λ p=>ι p.1) (ι k)=true->d.pure=true) :
  j3 (kvs.map λ p=>ι p.1) (ι k)=(putK kvs k v).map (λ p=>ι p.1)/\∃ f',ai K B No H (j0 (kvs.map λ p=>ι p.1) xs (ι k) d) ((putK kvs k v).map (·.2)) f'/\(∀ b∈f',b∈f\/b∈fp)/\(f.Nodup->fp.Nodup->(∀ b∈fp,b∉f)->f'.Nodup):=by
 unfold j3 j0 putK;rw[vY ι inj k kvs]at hp ⊢;by_cases h:(kvs.any λ kv=>decide (kv.1=k))=true
 ·rw[Nr h,Nr h,Nr h];have hpu:=hp h;have hfp:fp=[]:=m9.1 d hpu rv;subst hfp;refine⟨?_,?_⟩
  ·rw[NK];refine NJ λ p _=>?_;show _=ι (if p.1=k then (p.1,v) else p).1;split<;>rfl
  ·have key:∀ {kvs:List (κ×V)}{xs:List D}{f:List Addr},ai K B No H xs (kvs.map (·.2)) f->∃ f',ai K B No H (zJ (kvs.map λ p=>ι p.1) xs (ι k) d) ((kvs.map λ kv=>if kv.1=k then (kv.1,v) else kv).map (·.2)) f'/\List.Sublist f' f:=by
    intro kvs
    induction kvs with
    | nil=>intro xs f r; cases xs with
     |nil=>exact⟨f,r,Oq _⟩| cons x xs=>obtain⟨_,_,_,_,e,_⟩:=r;cases e
    | cons p kvs ih =>
     intro xs f r;cases xs with
     |nil=>obtain⟨e,_⟩:=r;cases e
     | cons x xs =>
      obtain⟨u,w,f1,f2,e,r1,r2,rfl⟩:=r;rw[ND]at e;cases e;obtain⟨g,h1,h2⟩:=ih r2;rw[ND,ND,ND,zJ];by_cases hk:p.1=k
      ·rw[Nr hk,Nr (OQ ι hk)];exact⟨g,⟨v,_,[],g,rfl,rv,h1,rfl⟩,h2.trans (NL _ _)⟩
      ·rw[Nu hk,Nu λ z=>hk (inj _ _ z)];exact⟨f1++g,⟨_,_,f1,g,rfl,r1,h1,rfl⟩,Q2 (Oq _) h2⟩
   obtain⟨g,h1,h2⟩:=key r;exact⟨g,h1,λ b m=>.inl (h2.subset m),λ n _ _=>n.sublist h2⟩
 ·rw[Nu h,Nu h,Nu h];refine⟨by rw[Nx];rfl,f++fp,?_,λ b m=>Nk.mp m,λ n1 n2 n3=>Np.mpr ⟨n1,n2,λ a ha b hb e=>n3 b hb (e▸ha)⟩⟩;rw[Nx];exact r.append (ai.one rv)
def SI.IF {i:Nat}{t:Tg}(ht:t.kH=true){k:Bool}{ks':List KT}{xs':List D}{gp:List Addr}{o':HO}(I:SI K H0 B0 B H σ τ P No)(hi:τ[i]?=some (some (.dct t k ks xs)))(ev:σ[i]?=some (some (.ref a)))(kv:fR H0 B H P No gp)(mu:∃ o,H a=some o/\rJ o)
  (items:∀ vs f,DictAt H a k ks vs->ai K B No H xs vs f->∃ vs' f',DictAt (upd H a o') a k ks' vs'/\ai K B No H xs' vs' f'/\(∀ b∈f',b∈f\/b∈gp)/\(f.Nodup->(∀ b∈gp,b∉f)->f'.Nodup)) :
  ∃ P',jZ K H0 B0 B H B (upd H a o') σ (τ.set i (some (.dct t k ks' xs'))) P':=by
 have hi':i<τ.length:=(Ng.mp hi).1;obtain⟨A,f,C,e,h1,h2⟩:=I.rep.cut hi';obtain⟨v,e1,r1⟩:=h1 _ hi;rw[ev]at e1;cases e1;obtain⟨a',ws,g,ea,hq,rl,ef,back⟩:=r1.bJ ht;cases ea;subst ef;have nd0:=I.nd;rw[e]at nd0;have ndf:(a::g).Nodup:=(nd0.sublist (NV _ _)).sublist (NL _ _);have gdis:∀ b∈gp,b∉a::g:=λ b m z=>(kv.own b m).2.2.2.1 (by rw[e];exact cM _ _ _ b z);obtain⟨vs',f',dq',r',s',n'⟩:=items ws g hq rl;obtain⟨na,ng⟩:=Nv.mp ndf;have hna:a∉f':=λ m=>(s' a m).elim na λ z=>gdis a z Na;have es:σ.set i (some (.ref a))=σ:=by
  refine OA λ k=>?_;by_cases hk:k=i
  ·subst hk;rw[Ol (Ng.mp ev).1,ev]
  ·rw[Om (OV hk)]
 have kp:jq H (upd H a o') [a]:=⟨λ b o h n=>by rw[aN (by simpa using n)];exact h,λ b m=>by
  have:b=a:=by simpa using m
  subst this;exact mu⟩
 have kpf:jq H (upd H a o') (a::g):=⟨λ b o h n=>kp.keep b o h (λ z=>n (Nq.mpr (.inl (NY.mp z)))),λ b m=>I.rep.own b (by rw[e];exact cM _ _ _ b m)⟩;have key:=I.put (i:=i) (H1:=upd H a o') (d':=.dct t k ks' xs') (v':=.ref a) (f':=a::f') hi' e h2 kpf (back dq' (r'.keep kp λ b m=>by
   have:b≠a:=λ z=>hna (z▸m);simpa using this)) (Nv.mpr ⟨hna,n' ng λ b m z=>gdis b m (Nb _ z)⟩) λ b m=>?_
 ·rw[es]at key;exact⟨_,key,aq.refl _,λ b o h n=>kp.vM h n⟩
 ·rcases Nq.mp m with q|q
  ·exact .inl (by simp[q])
  ·rcases s' b q with z|z
   ·exact .inl (Nb _ z)
   ·obtain⟨a1,a2,a3,a4,a5⟩:=kv.own b z;exact .inr (.inr ⟨a4,a1,a2,a5⟩)
def fg (i:Nat)(fk fv:SD->Res D)(τ:SD):Fl:=(fv τ).i8 τ λ d=>match cW τ i with
 | some (t,k,ks,xs)=>(fk τ).i8 τ λ dk=>match ff dk with
  |some q=>if q.kind=k/\d.az=false/\ks.length<16777216/\(pG ks q=true->d.pure=true) then .nx (τ.set i (some (.dct t k (j3 ks q) (j0 ks xs q d)))) else .bad
  |none=>.bad
 |none=>.bad
def C5 (i:Nat){ke value:Expr}{fk fv:SD->Res D}(hu:X.A.units+1<cLine)(hk:PE X ke (tM X.K Y fk))(hv:PE X value (tM X.K Y fv))(hN:X.N[i]?=some x:=by rfl)(hvi:rD X.env.scope x:=by first|exact Or.inl rfl|exact Or.inr (Or.inl rfl)|exact Or.inr (Or.inr rfl))(hd:(x == ("__debug__" : Str))=false:=by decide)(hcd:(x == ("__classdict__" : Str))=false:=by decide)
  (hs:swapsWith value (some (.Subscript (.Name x p1) ke pos')) pos.line X.env=pure false:=by rfl):PS X (.Assign [.Subscript (.Name x p1) ke pos'] value pos) (jK X.K Y (fg i fk fv)):=by
 refine PS.imp (zt hu (dm hN hvi hd hcd) hk hv hs) λ E σ H hq=>ex7 hq λ H0 B0 B τ P I h=>?_;refine lZ I h λ d v H1 B1 fp _ I1 s1 b1 r1 k1 h1=>?_;cases z:cW τ i with
 |none=>rw[z]at h1;exact h1.elim
 | some t =>
  obtain⟨t,k,ks,xs⟩:=t;rw[z]at h1;obtain⟨hi,ht⟩:=mD z;obtain⟨w,f,e1,r2,sf⟩:=I1.rep.get hi;obtain⟨a,ws,g,rfl,dq,rl,ef,_⟩:=r2.bJ ht;refine⟨.ref a,e1,?_⟩;refine⟨H0,B0,B1,τ,P,_,I1.hold k1,?_⟩;simp only at h1;cases y:fk τ with
  |f7 C=>rw[y]at h1;exact λ H2 B2 I2 s2 b2=>h1 B2 H2 σ P (jZ.grow (I2.qi λ _ x=>x.elim) b2 s2)
  |bad=>rw[y]at h1;exact h1
  | ok dk =>
   rw[y]at h1;intro vk H2 B2 fq I2 s2 b2 rk kk;have I3:SI X.K H0 B0 B2 H2 σ τ P No:=I2.qi λ _ x=>x.elim;have h2:=b8.later h1 (jZ.grow I3 b2 s2);simp only[Res.i8]at h2;cases hkk:ff dk with
   |none=>rw[hkk]at h2;exact h2.elim
   | some q =>
    rw[hkk]at h2;simp only at h2;split at h2
    ·rename_i hc;obtain⟨c1,c2,c3,c4⟩:=hc;have kv:fR H0 B2 H2 P No fp:=⟨k1.nd,λ a m=>let ⟨_,a2,_,a4,a5⟩:=k1.own a m;⟨(I2.fr a (.inl m)).1,a2,(I2.fr a (.inl m)).2,a4,a5⟩⟩;have rd:=(r1.gD c2).mono s2 b2 λ _ x=>x;have dq2:=dq.mono s2;have rl2:=rl.mono s2 b2 λ _ x=>x;have mu:∃ o,H2 a=some o/\rJ o:=by
      rcases dq2 with ⟨_,kvs,ep,q,_⟩|⟨_,kvs,ep,q,_⟩
      ·exact⟨_,q,trivial⟩
      ·exact⟨_,q,trivial⟩
     rcases dq2 with ⟨rfl,kvs,ep,ha,hks,hws⟩|⟨rfl,kvs,ep,ha,hks,hws⟩
     ·cases q with
      |inr q=>cases c1
      | inl q =>
       have ev:=qo hkk rk;subst ev;subst hks hws;have A:∀ en:Nat,∃ P',_:=λ en=>I3.IF ht (o':=.dK (putK kvs q v) en) (ks':=j3 (kvs.map λ p=>Sum.inl p.1) (.inl q)) (xs':=j0 (kvs.map λ p=>Sum.inl p.1) xs (.inl q) d) hi e1 kv mu λ vs f hda hr=>by
        rcases hda with ⟨_,kvs',ep',q1,q2,q3⟩|⟨q0,_⟩
        ·rw[ha]at q1;cases q1;subst q3;obtain⟨p1,f',p2,p3,p4⟩:=xY Sum.inl (λ a b h=>PZ h) (k:=q) hr rd c4;exact⟨_,f',.inl ⟨rfl,_,en,aK,p1,rfl⟩,p2,p3,λ n1 n2=>p4 n1 kv.nd n2⟩
        ·cases q0
       exact⟨a,rfl,.inl ⟨kvs,q,⟨ep,ha⟩,rfl,(by rw[Oc];simpa using c3),λ en=>let ⟨P',A'⟩:=A en;h2 B2 _ σ P' A'⟩⟩
     ·cases q with
      |inl q=>cases c1
      | inr q =>
       obtain⟨b,rfl,hb⟩:=C6 hkk rk;subst hks hws;have A:∀ en:Nat,∃ P',_:=λ en=>I3.IF ht (o':=.dT (putK kvs q v) en) (ks':=j3 (kvs.map λ p=>Sum.inr p.1) (.inr q)) (xs':=j0 (kvs.map λ p=>Sum.inr p.1) xs (.inr q) d) hi e1 kv mu λ vs f hda hr=>by
        rcases hda with ⟨q0,_⟩|⟨_,kvs',ep',q1,q2,q3⟩
        ·cases q0
        ·rw[ha]at q1;cases q1;subst q3;obtain⟨p1,f',p2,p3,p4⟩:=xY Sum.inr (λ a b h=>Sum.inr.inj h) (k:=q) hr rd c4;exact⟨_,f',.inr ⟨rfl,_,en,aK,p1,rfl⟩,p2,p3,λ n1 n2=>p4 n1 kv.nd n2⟩
       exact⟨a,rfl,.inr ⟨kvs,q,b,⟨ep,ha⟩,rfl,hb,(by rw[Oc];simpa using c3),λ en=>let ⟨P',A'⟩:=A en;h2 B2 _ σ P' A'⟩⟩
    ·exact h2.elim
end
section
variable {P:Program}{K:PySem.W.Frag}
def bO{k:Nat}{g:SF}(D:oV K mg x st ps)(S:aX N ps (aB st))(hn:ps.length=n)(hm:N.length=m)
  (hbody:∀ (f:Addr) (cdv:Value) (A:Around) (outer:List Env) (s:Shared) (H:Hp),gz k (A.deeper (envOfC x (aB st) s.heap.objs.size f cdv)) ->
   mQ (rF A6 P w K mg base N x (aB st) f cdv A outer s H E0).GY (eN st) (jK K zz g)):oh P w K mg base (k+1) x ps (lR K (cz n m g)):=by
 subst hn hm;exact ID D S hbody
def C7{k:Nat}{g:SF}{f:Addr}{fd:FuncData}(D:Fq K x x st f fd)(S:aX N ps (aB st))(hn:ps.length=n)(hm:N.length=m)
  (hbody:∀ (f:Addr) (cdv:Value) (A:Around) (outer:List Env) (s:Shared) (H:Hp),gz k (A.deeper (envOfC x (aB st) s.heap.objs.size f cdv)) ->
   mQ (rF A6 P w K mg base N x (aB st) f cdv A outer s H E0).GY (eN st) (jK K zz g)):pW P w K mg base A6 (k+1) f fd ps (lR K (cz n m g)):=by
 subst hn hm;exact zI D S hbody
def II {h:Heap}{f:Addr}{oc:Value}{od an:Option Addr}{osl:Array (Option Value)}{kV doc pm cdv ct:Value}(KX:K.In h)(G:h.Ns mainGlobals mg)(a:PySem.W.nsIn K mainGlobals x=some (some (.ref f)))
  (l:K.lookup f=some ⟨oc,od,.func (PySem.W.fnOf x x (iP st) (eN st) (aB st) .none kV doc pm an cdv ct),osl⟩) (c:PySem.W.codeIn K cdv x=true) (k:PySem.W.keepIn K (.ref f)=true)
  (hb:∀ (kV doc pm:Value) (an:Option Addr) (cdv ct:Value) (us:List Value),us.length=ps.length->bindArgs (PySem.W.fnOf x x (iP st) (eN st) (aB st) .none kV doc pm an cdv ct) ⟨us,[]⟩=pure (ps.zip us)):oV K mg x st ps:=
 ⟨f,_,xP l c k,PySem.W.mg_of KX G a,(xP l c k).binds hb⟩
def IG{ns:List Int}(hS:cY K H a (ns.map V.int))(h:G [.lst .ak (ns.map D.int)]=.ok (.bl true)):lR K G [.ref a] H (λ v _=>v=.bl true) λ _ _ _=>False:=by
 refine⟨H,[.lst .ak (ns.map D.int)],aq.refl _,ai.one ⟨a,_,rfl,hS,lI ns,rfl⟩,?_⟩;rw[h];exact λ B' H' v fp r=>r.rep.1
end
def af (ns:List Int):aI (ns.map D.int)=true:=bo λ d hd=>by obtain⟨n,_,rfl⟩:=Ni.mp hd;rfl
@[simp] theorem JR (ns:List Int):bG (ns.map D.int)=ns.map D.int:=dX _ (af ns)
@[simp] theorem a7 (ns:List Int):aG (ns.map D.int)=ns.map D.int:=dO _ (af ns)
@[simp] theorem nu (ns:List Int):au (ns.map D.int)=false:=bM _ (af ns)
@[simp] theorem C8 (ns:List Int):bA (ns.map D.int)=false:=jR _ (af ns)
@[simp] theorem IK (ns:List Int):bu (ns.map D.int)=ns.map D.int:=dW _ (af ns)
@[simp] theorem IQ (ns:List Int):b7 (ns.map D.int)=ns.map D.int:=ju _ (nu ns)
@[simp] theorem ints_map (ns:List Int):intsOf (ns.map D.int)=some ns:=dC ns
@[simp] theorem IS (τ:SD)(s:SF):(Fl.nx τ).andThen s=s τ:=rfl
@[simp] theorem IJ (d:D)(s:SF):(Fl.rt d).andThen s=.rt d:=rfl
@[simp] theorem IP (τ:SD)(s:SF):(Fl.bk τ).andThen s=.bk τ:=rfl
@[simp] theorem IL (τ:SD)(s:SF):(Fl.ct τ).andThen s=.ct τ:=rfl
@[simp] theorem IM (C:PySem.Addr)(τ:SD)(s:SF):(Fl.ex C τ).andThen s=.ex C τ:=rfl
@[simp] theorem Hg (s:SF):Fl.bad.andThen s=.bad:=rfl
@[simp] theorem ir (τ:SD)(d:D)(k:D->Fl):(Res.ok d).i8 τ k=k d:=rfl
@[simp] theorem KQ (τ:SD)(C:PySem.Addr)(k:D->Fl):(Res.f7 C:Res D).i8 τ k=.ex C τ:=rfl
@[simp] theorem KP (τ:SD)(k:D->Fl):(Res.bad:Res D).i8 τ k=.bad:=rfl
@[simp] theorem nv (τ:SD)(d:Bool)(k:Bool->Fl):(Res.ok d).ql τ k=k d:=rfl
@[simp] theorem JS (τ:SD)(C:PySem.Addr)(k:Bool->Fl):(Res.f7 C:Res Bool).ql τ k=.ex C τ:=rfl
@[simp] theorem JQ (τ:SD)(k:Bool->Fl):(Res.bad:Res Bool).ql τ k=.bad:=rfl
@[simp] theorem LA:(Res.bad:Res D).Ly=.bad:=rfl
@[simp] theorem Mr (d:D):(Fl.rt d).out=.ok d:=rfl
@[simp] theorem Mp (τ:SD):(Fl.nx τ).out=.ok .bx:=rfl
@[simp] theorem Mq (C:PySem.Addr)(τ:SD):(Fl.ex C τ).out=.f7 C:=rfl
@[simp] theorem LB:Fl.bad.out=.bad:=rfl
def bf{a b:SD->Res D}{x y:D}(ha:a τ=.ok x)(hb:b τ=.ok y):ah g a b τ=g x y:=by unfold ah;rw[ha,hb];rfl
def Hf{a:SF}{t:Bool}(h:c τ=.ok t):eE c a b τ=if t=true then a τ else b τ:=by unfold eE;rw[h];rfl
def iF(h:n<=1000000000):lF [.int n]=.ok (false,(List.range n).map λ k:Nat=>.int k):=by
 have h1 : -1000000000<=(n:Int)/\(n:Int)<=1000000000:=by omega
 simp[lF,h1]
def x6(hm:m<=1000000000)(h:n<=1000000000):lE [.int m,.int n]=.ok (false,(List.range (n-m)).map λ k:Nat=>.int (m+k)):=by
 have h1 : -1000000000<=(m:Int)/\(m:Int)<=1000000000 /\ -1000000000<=(n:Int)/\(n:Int)<=1000000000:=by omega
 have h2:((n:Int)-m).toNat=n-m:=by omega
 simp[lE,h1,h2]
def aA {a:SF}{τ':SD}(h:a τ=.nx τ'):aC a b τ=b τ':=by unfold aC;rw[h];rfl
def uC {a:SF}(Q:Fl->Prop)(τ':SD)(h:a τ=.nx τ')(k:Q (b τ')):Q (aC a b τ):=by rw[aA h];exact k
def aP{e:SD->Res D}(h:e τ=.ok d)(hb:d.az=false):aS i e τ=.nx (τ.set i (some d)):=by
 unfold aS jv;rw[h,ir,hb];rfl
def lK{e:SD->Res D}(Q:Fl->Prop)(d:D)(h:e τ=.ok d)(hb:d.az=false)(k:Q (b (τ.set i (some d)))):Q (aC (aS i e) b τ):=uC Q _ (aP h hb) k
def sW{e:SD->Res D}(Q:Fl->Prop)(Pd:D->Prop)(hc:∃ t,c τ=.ok t/\(t=true->∃ d,e τ=.ok d/\d.az=false/\Pd d))(h0:∃ d,τ[i]?=some (some d)/\Pd d)(k:∀ d,Pd d->Q (b (τ.set i (some d)))):Q (aC (eE c (aS i e) bj) b τ):=by
 obtain⟨t,h1,h2⟩:=hc;cases t with
 | true =>
  obtain⟨d,h3,h4,h5⟩:=h2 rfl;refine uC Q (τ.set i (some d)) ?_ (k d h5);unfold eE;rw[h1,nv,Nr rfl];exact aP h3 h4
 | false =>
  obtain⟨d,h3,h5⟩:=h0;have es:τ.set i (some d)=τ:=by
   refine OA λ k=>?_;by_cases hk:k=i
   ·subst hk;rw[Ol (Ng.mp h3).1,h3]
   ·rw[Om (OV hk)]
  refine uC Q (τ.set i (some d)) ?_ (k d h5);unfold eE;rw[h1,nv,Nu Nd,es];rfl
def Bq{a:SF}(Q:Fl->Prop)(hc:∃ t,c τ=.ok t/\(t=true->∃ d,a τ=.rt d/\Q (.rt d))/\(t=false->Q (b τ))):Q (aC (eE c a bj) b τ):=by
 obtain⟨t,h1,h2,h3⟩:=hc;cases t with
 | true =>
  obtain⟨d,h4,h5⟩:=h2 rfl;have:aC (eE c a bj) b τ=.rt d:=by
   unfold aC eE;rw[h1,nv,Nr rfl,h4];rfl
  rw[this];exact h5
 | false =>
  refine uC Q τ ?_ (h3 rfl);unfold eE;rw[h1,nv,Nu Nd];rfl
def C9{xs:List α}{i:Int}{j:Nat}{v:α}(hi:i=j)(h:xs[j]?=some v):rH xs i=some v:=by subst hi;exact Fc h
def zK {tg:uv}{body:SF}(st:Nat->SD):∀ {ds:List D} (i:Nat),(∀ j d,ds[j]?=some d->∃ τ',tg d (st (i+j))=some τ'/\body τ'=.nx (st (i+j+1)))->bW tg body ds (st i)=.nx (st (i+ds.length))
 |[],i,_=>rfl
 | d::r,i,h=>by
  obtain⟨τ',h1,h2⟩:=h 0 d rfl;unfold bW;simp only[Nat.add_zero]at h1 h2;rw[h1];simp only[h2];have ih:=zK st (ds:=r) (i+1) λ j e he=>by
   have:=h (j+1) e (by simpa using he);rw[show i+(j+1)=i+1+j by omega]at this;exact this
  rw[ih,Ny]
  congr 2
  omega
def gG {tg:uv}{body:SF}(Pv:Nat->SD->Prop):∀ {ds:List D} (i:Nat) (τ:SD),Pv i τ->(∀ j d τ,ds[j]?=some d->Pv (i+j) τ->∃ τ' t,tg d τ=some τ'/\(body τ'=.nx t\/body τ'=.ct t)/\Pv (i+j+1) t)->∃ t,bW tg body ds τ=.nx t/\Pv (i+ds.length) t
 |[],i,τ,h0,_=>⟨τ,rfl,h0⟩
 | d::r,i,τ,h0,h=>by
  obtain⟨τ',t,h1,h2,h3⟩:=h 0 d τ rfl h0;have ih:=gG Pv (ds:=r) (i+1) t h3 λ j e τ he hp=>by
   have:=h (j+1) e τ (by simpa using he) (by rw[show i+(j+1)=i+1+j by omega];exact hp);rw[show i+(j+1)=i+1+j by omega]at this;exact this
  obtain⟨u,h4,h5⟩:=ih;refine⟨u,?_,by rw[Ny,show i+(r.length+1)=i+1+r.length by omega];exact h5⟩;unfold bW;rw[h1];rcases h2 with h2|h2<;>(simp only[h2];exact h4)
def sX {tt:SD->Res Bool}{elt:SD->Res D}{caps:SD}(p:D->Bool)(f:D->D):∀ {ds:List D} (o:Option D),(∀ d∈ds,tt (some d::caps)=.ok (p d))->(∀ d∈ds,p d=true->elt (some d::caps)=.ok (f d)/\(f d).az=false)->fT (gN 0) tt elt ds (o::caps)=.ok ((ds.filter p).map f)
 |[],o,_,_=>rfl
 | d::r,o,ht,he=>by
  have ih:=sX p f (ds:=r) (some d) (λ e m=>ht e (Nb _ m)) λ e m=>he e (Nb _ m);unfold fT;simp only[gN,List.set_cons_zero];rw[ht d Na];simp only[Res.aH];by_cases hp:p d=true
  ·obtain⟨h1,h2⟩:=he d Na hp;simp only[hp,PN,h1,Res.aH,h2,NR,PV,ih];rw[List.filter_cons_of_pos hp,ND]
  ·simp only[hp,PV,ih,NR];rw[List.filter_cons_of_neg hp]
def Bp{caps:SD}(f:D->D)(o:Option D)(he:∀ d∈ds,elt (some d::caps)=.ok (f d)/\(f d).az=false):fT (gN 0) bP elt ds (o::caps)=.ok (ds.map f):=by
 have:=sX (tt:=bP) (λ _=>true) f o (λ d _=>rfl) λ d m _=>he d m;rw[List.filter_eq_self.mpr λ _ _=>rfl]at this;exact this
def xZ(h:G (aG ds)=.ok d)(hp:d.pure=true):dS G ds=.ok d:=by
 unfold dS;rw[h];split
 ·simp[qg d hp]
 ·rfl
def Br(h:G (aG ds)=.ok d)(hb:au ds=false):dS G ds=.ok d:=by
 unfold dS;rw[h,hb];rfl
def c6{fs:SD->Res (List D)}(ha:fs τ=.ok ds)(h:G (aG ds)=.ok d)(hp:d.pure=true):aw G fs τ=.ok d:=by
 unfold aw;rw[ha];exact xZ h hp
def fP{fs:SD->Res (List D)}(ha:fs τ=.ok ds)(h:G (aG ds)=.ok d)(hb:au ds=false):aw G fs τ=.ok d:=by
 unfold aw;rw[ha];exact Br h hb
def sY{cap:List (PySem.Str×Nat)}{fl:Bool}(f:D->D)(hit:it τ=.ok (fl,ds))(he:∀ d∈aG ds,elt (some d::cN τ cap)=.ok (f d)/\(f d).pure=true)(hl:ds.length<=16777216) :
  aJ it (gN 0) bP elt 1 cap τ=.ok (.lst .own ((aG ds).map f)):=by
 have hp:aI ((aG ds).map f)=true:=bo λ d m=>by
  obtain⟨x,hx,rfl⟩:=Ni.mp m;exact(he x hx).2
 have hl':((aG ds).map f).length<=16777216:=by rw[M7,iR,M7];exact hl
 have hc:fT (gN 0) bP elt (aG ds) (List.replicate 1 none++cN τ cap)=.ok ((aG ds).map f):=Bp f none λ d m=>⟨(he d m).1,ck _ (he d m).2⟩;unfold aJ;rw[hit,Res.aH];simp only[hc,Nr hl',dW _ hp,ite_self]
def E7 (n d a:Nat):HT.fJ n d (some (a:Int))=min a n:=by
 unfold HT.fJ;have h:¬ (a:Int)<0:=by omega
 simp only[h,PV];omega
def Dc(xs:List α)(a:Nat):cut xs (some (a:Int)) none=xs.drop a:=by
 unfold cut;rw[E7,show HT.fJ xs.length xs.length none=xs.length from rfl];by_cases h:a<=xs.length
 ·rw[RH h,List.take_of_length_le (by simp)]
 ·rw[P7 (by omega:xs.length<=a),P7 (by omega),List.take_nil]
def cI(h:aI xs=true):(D.lst .own xs).az=false:=by
 show(false||au xs)=false;rw[bM xs h];rfl
def ig {g:List D->Res D}{f:SD->Res (List D)}(h:f τ=.ok ds):eA g f τ=g ds:=by unfold eA;rw[h];rfl
def aQ {f:SD->Res D}{g:SD->Res (List D)}(h1:f τ=.ok d)(h2:g τ=.ok ds):ae f g τ=.ok (d::ds):=by unfold ae;rw[h1,h2];rfl
def cO {f:SD->Res D}(h1:f τ=.ok d):ae f ao τ=.ok [d]:=aQ h1 rfl
def kN {e:SD->Res D}(h:e τ=.ok d)(hb:d.az=false):cU e τ=.rt d:=by unfold cU;rw[h,ir,vU d hb]
def dI(h:τ[i]?=some (some d))(hp:d.pure=true):aa i τ=.ok d:=by unfold aa;rw[h];simp[sI d hp]
def cQ(h:τ[i]?=some (some (.lst .ak xs)))(hp:aI xs=true):aa i τ=.ok (.lst .ak xs):=by unfold aa;rw[h];simp[D.view,Tg.view,dX xs hp]
def eV(h:τ[i]?=some (some (.lst .own xs)))(hp:aI xs=true):aa i τ=.ok (.lst .bor xs):=by unfold aa;rw[h];simp[D.view,Tg.view,dX xs hp]
end DL
namespace L2
open PySem PySem.Spec PyProof.Rows
variable {a l l1 l2:Addr}{A:Around}{xs:Array Value}{b:Bool}{X:Cx}{prog:Program}{s:Shared}{E:Value->Shared->Prop}{w:World}
structure mE (a it:Addr)(its:Array Value)(seq:Heap->Prop)(nx:Nat->Obj->Prop):Prop where
 ext:∀ {h h':Heap},seq h->(∀ o,h.get? a=some o->h'.get? a=some o)->seq h'
 item:∀ {P:Program}{w:World}{A:Around}{E:Value->Shared->Prop}{s:Shared}{i:Nat}{x:Value}{Q:Value->Shared->Prop},seq s.heap->(∃ o,s.heap.get? it=some o/\nx i o)->its[i]?=some x ->
  (∀ h',(∃ o,h'.get? it=some o/\nx (i+1) o)->Heap.SameBut it s.heap h'->Q x { s with heap:=h' })->wpAny (model P w) A (Builtin.SmallTypes.nextOf (.ref it)) Q E s
 done:∀ {P:Program}{w:World}{A:Around}{E:Value->Shared->Prop}{s:Shared}{i:Nat}{Q:Value->Shared->Prop},A.handled=none->seq s.heap->(∃ o,s.heap.get? it=some o/\nx i o)->its[i]?=none ->
  (∀ h' e,Heap.ExtBut it s.heap h'->(∃ o,h'.get? e=some o/\o.cls=.type "StopIteration")->E (.ref e) { s with heap:=h' })->wpAny (model P w) A (Builtin.SmallTypes.nextOf (.ref it)) Q E s
abbrev MN (a:Addr)(i:Nat)(o:Obj):Prop:=o.cls=.type "list_iterator" /\ o.data=.fields #[.ref a,.int i 0]
abbrev MM (a:Addr)(i:Nat)(o:Obj):Prop:=o.cls=.type "tuple_iterator" /\ o.data=.fields #[.ref a,.int i 0]
def De (a it:Addr)(its:Array Value):mE a it its (λ h=>h.IsList a its) (MN a) where
 ext:=λ x k=>x.at k
 item:=λ hs ⟨o,h1,h2,h3⟩ hx hQ=>wpAny_nextOf_list_item ⟨o,h1,h2,h3⟩ hs hx λ h' st sb=>hQ h' st sb
 done:=λ hh hs ⟨o,h1,h2,h3⟩ hx hE=>wpAny_nextOf_list_end hh ⟨o,h1,h2,h3⟩ hs hx hE
def FP (a it:Addr)(its:Array Value):mE a it its (λ h=>h.IsTuple a its) (MM a) where
 ext:=λ ⟨o,h1,h2⟩ k=>⟨o,k o h1,h2⟩
 item:=λ hs ⟨o,h1,h2,h3⟩ hx hQ=>pF ⟨o,h1,h2,h3⟩ hs hx λ h' st sb=>hQ h' st sb
 done:=λ hh hs ⟨o,h1,h2,h3⟩ hx hE=>qf hh ⟨o,h1,h2,h3⟩ hs hx hE
section
variable{z TI TO i1 i2:Addr}{k:Nat}{ys:Array Value}{a b:Value}{seq1 rK:Heap->Prop}{nx1 nx2:Nat->Obj->Prop}
def Bs {x y:Value}{Q:Option Value->Shared->Prop}(S1:mE l1 i1 xs seq1 nx1)(S2:mE l2 i2 ys rK nx2)(D:ZipApart z TI TO i1 i2 l1 l2)(hz:IsZip s.heap z TI TO .none)(hI:IsPair s.heap TI (.ref i1) (.ref i2))(hO:IsPair s.heap TO a b)
  (h1:∃ o,s.heap.get? i1=some o/\nx1 k o) (h2:∃ o,s.heap.get? i2=some o/\nx2 k o) (hl1:seq1 s.heap) (hl2:rK s.heap) (hx:xs[k]?=some x) (hy:ys[k]?=some y)
  (hQ:∀ h',IsZip h' z TI TO (rawInt s.heap.objs.size)->IsPair h' TO x y->(∃ o,h'.get? i1=some o/\nx1 (k+1) o)->(∃ o,h'.get? i2=some o/\nx2 (k+1) o)->IsPair h' s.heap.objs.size x y ->
   (∀ c o,c≠z->c≠TO->c≠i1->c≠i2->s.heap.get? c=some o->h'.get? c=some o)->Q (some (.ref s.heap.objs.size)) { s with heap:=h' }):wpAny (model prog w) A (pyNext (.ref z)) Q E s:=by
 have hT:s.TypeIs (.ref z) "zip" :=⟨_,hz,rfl⟩;unfold pyNext;refine M6 (PK (N7 (name:=Str.ofString "__next__") hT QW (N1 QW hT F.entry_zip_next ?_ (F.args_zip_next_1 _))));show wpAny _ _ (field (.ref z) 2 >>= _) _ _ _;refine M6 (OC hz rfl (x:=.bool false) rfl (show wpAny _ _ (field (.ref z) 3 >>= _) _ _ _ from M6 (OC hz rfl (x:=.ref TI) rfl (M6 (OP hI rfl ?_)))));show wpAny _ _ (Builtin.SmallTypes.ownedTupleIsFree (.ref z) >>= _) _ _ _;refine M6 ?_;unfold Builtin.SmallTypes.ownedTupleIsFree;refine M6 (OC hz rfl (x:=.none) rfl (Nc ?_));simp only[PN];refine M6 (Qa (M6 (OC hz rfl (x:=.ref TO) rfl (M6 (NZ hz (by simp) λ g1 hz1 hs1=>?_)))));replace hz1:IsZip g1 z TI TO .ellipsis:=hz1;refine M6 ?_;simp only[List.zipIdx_cons,List.zipIdx_nil,Qn,Q9];refine M6 (M6 (Rw (show wpAny _ _ (Builtin.SmallTypes.nextOf (.ref i1) >>= _) _ _ _ from M6 (S1.item (S1.ext hl1 λ o q=>hs1.extBut _ _ D.l1z q) (h1.imp λ o q=>⟨hs1.extBut _ _ D.i1z q.1,q.2⟩) hx λ g2 h12 hs2=>Nc ?_))));have hO2:IsPair g2 TO a b:=hs2.extBut _ _ D.TOi1 (hs1.extBut _ _ D.TOz hO);refine M6 (OP hO2 rfl (M6 (QQ hO2 λ g3 hO3 hs3=>?_)));replace hO3:IsPair g3 TO x b:=hO3;refine M6 (wpAny_letGo (Nc (M6 (M6 (Rw (show wpAny _ _ (Builtin.SmallTypes.nextOf (.ref i2) >>= _) _ _ _ from M6 (S2.item (S2.ext hl2 λ o q=>hs3.extBut _ _ D.l2TO (hs2.extBut _ _ D.l2i1 (hs1.extBut _ _ D.l2z q))) (h2.imp λ o q=>⟨hs3.extBut _ _ D.TOi2.symm (hs2.extBut _ _ D.i12.symm (hs1.extBut _ _ D.i2z q.1)),q.2⟩) hy λ g4 h24 hs4=>Nc ?_)))))));have hO4:IsPair g4 TO x b:=hs4.extBut _ _ D.TOi2 hO3;refine M6 (OP hO4 rfl (M6 (QQ hO4 λ g5 hO5 hs5=>?_)));replace hO5:IsPair g5 TO x y:=hO5;refine M6 (wpAny_letGo (Nc (Nc (M6 (OP hO5 rfl (M6 (wpAny_newTuple ?_)))))));have sz:g5.objs.size=s.heap.objs.size:=by rw[hs5.1,hs4.1,hs3.1,hs2.1,hs1.1]
 have hz5:IsZip g5 z TI TO .ellipsis:=hs5.extBut _ _ D.TOz.symm (hs4.extBut _ _ D.i2z.symm (hs3.extBut _ _ D.TOz.symm (hs2.extBut _ _ D.i1z.symm hz1)));have kp:∀ c o,c≠z->c≠TO->c≠i1->c≠i2->s.heap.get? c=some o->g5.get? c=some o:=λ c o c1 c2 c3 c4 e=>hs5.extBut _ _ c2 (hs4.extBut _ _ c4 (hs3.extBut _ _ c2 (hs2.extBut _ _ c3 (hs1.extBut _ _ c1 e))));have n1:∃ o,g5.get? i1=some o/\nx1 (k+1) o:=h12.imp λ o q=>⟨hs5.extBut _ _ D.TOi1.symm (hs4.extBut _ _ D.i12 (hs3.extBut _ _ D.TOi1.symm q.1)),q.2⟩;have n2:∃ o,g5.get? i2=some o/\nx2 (k+1) o:=h24.imp λ o q=>⟨hs5.extBut _ _ D.TOi2.symm q.1,q.2⟩;have zlt:z<g5.objs.size:=Nl hz5;show wpAny _ _ (Builtin.SmallTypes.ownedTupleHandOut (.ref z) (.ref g5.objs.size) >>= _) _ _ _;refine M6 ?_;unfold Builtin.SmallTypes.ownedTupleHandOut;have hz6:IsZip (g5.push { cls:=.type "tuple",data:=.seq #[x,y] }) z TI TO .ellipsis:=M8 _ hz5;refine M6 (NZ hz6 (by simp) λ g7 hz7 hs7=>?_);replace hz7:IsZip g7 z TI TO (rawInt g5.objs.size):=hz7;refine NZ hz7 (by simp) λ g8 hz8 hs8=>?_;replace hz8:IsZip g8 z TI TO (rawInt g5.objs.size):=hz8;have up:∀ c o,c≠z->g5.get? c=some o->g8.get? c=some o:=λ c o c1 e=>hs8.extBut _ _ c1 (hs7.extBut _ _ c1 (M8 _ e));have hT8:IsPair g8 g5.objs.size x y:=hs8.extBut _ _ (P0 zlt) (hs7.extBut _ _ (P0 zlt) (Nj _ rfl));rw[sz]at hz8 hT8;refine Nc ⟨_,rfl,Nc ?_⟩;show Q (some (.ref g5.objs.size)) _;rw[sz];exact hQ g8 hz8 (up _ _ D.TOz hO5) (n1.imp λ o q=>⟨up _ o D.i1z q.1,q.2⟩) (n2.imp λ o q=>⟨up _ o D.i2z q.1,q.2⟩) hT8 λ c o c1 c2 c3 c4 e=>up c o c1 (kp c o c1 c2 c3 c4 e)
def Dd {Q:Option Value->Shared->Prop}(hh:A.handled=none)(S1:mE l1 i1 xs seq1 nx1)(S2:mE l2 i2 ys rK nx2)(D:ZipApart z TI TO i1 i2 l1 l2)(hz:IsZip s.heap z TI TO .none)(hI:IsPair s.heap TI (.ref i1) (.ref i2))(hO:IsPair s.heap TO a b)
  (h1:∃ o,s.heap.get? i1=some o/\nx1 k o) (h2:∃ o,s.heap.get? i2=some o/\nx2 k o) (hl1:seq1 s.heap) (hl2:rK s.heap) (he:xs[k]?=none\/ys[k]?=none)
  (hQ:∀ h',(∀ c o,c≠z->c≠TO->c≠i1->c≠i2->s.heap.get? c=some o->h'.get? c=some o)->Q none { s with heap:=h' }):wpAny (model prog w) A (pyNext (.ref z)) Q E s:=by
 have hT:s.TypeIs (.ref z) "zip" :=⟨_,hz,rfl⟩;unfold pyNext;refine M6 (PK (N7 (name:=Str.ofString "__next__") hT QW (N1 QW hT F.entry_zip_next ?_ (F.args_zip_next_1 _))));have fin:∀ (h':Heap) (e:Addr),(∀ c o,c≠z->c≠TO->c≠i1->c≠i2->s.heap.get? c=some o->h'.get? c=some o)->(∃ o,h'.get? e=some o/\o.cls=.type "StopIteration") ->
   wpAny (model prog w) A (do let b <-isInstance (.ref e) (.type "StopIteration");if b=true then pure none else throw (.ref e)) Q E { s with heap:=h' }:=λ h' e kp ⟨o,ho,hc⟩=>M6 (Qe (T:="StopIteration") (b:=true) ⟨o,ho,hc⟩ isSubtype_stop (Nc (hQ h' kp)))
 show wpAny _ _ (field (.ref z) 2 >>= _) _ _ _;refine M6 (OC hz rfl (x:=.bool false) rfl (show wpAny _ _ (field (.ref z) 3 >>= _) _ _ _ from M6 (OC hz rfl (x:=.ref TI) rfl (M6 (OP hI rfl ?_)))));show wpAny _ _ (Builtin.SmallTypes.ownedTupleIsFree (.ref z) >>= _) _ _ _;refine M6 ?_;unfold Builtin.SmallTypes.ownedTupleIsFree;refine M6 (OC hz rfl (x:=.none) rfl (Nc ?_));simp only[PN];refine M6 (Qa (M6 (OC hz rfl (x:=.ref TO) rfl (M6 (NZ hz (by simp) λ g1 hz1 hs1=>?_)))));replace hz1:IsZip g1 z TI TO .ellipsis:=hz1;refine M6 ?_;simp only[List.zipIdx_cons,List.zipIdx_nil,Qn,Q9];refine M6 (M6 (Rw (show wpAny _ _ (Builtin.SmallTypes.nextOf (.ref i1) >>= _) _ _ _ from M6 ?_)));have b1:=S1.ext hl1 λ o q=>hs1.extBut _ _ D.l1z q;have c1:∃ o,g1.get? i1=some o/\nx1 k o:=h1.imp λ o q=>⟨hs1.extBut _ _ D.i1z q.1,q.2⟩;cases hx:xs[k]? with
 | none =>
  refine S1.done hh b1 c1 hx λ g2 e hs2 ⟨oe,ho,hc⟩=>?_;have hz2:IsZip g2 z TI TO .ellipsis:=hs2 _ _ D.i1z.symm hz1;have hne:e≠z:=λ x=>by subst x;rw[hz2]at ho;cases ho;simp at hc
  refine NZ hz2 (by simp) λ g3 _ hs3=>fin g3 e (λ c o c1 _ c3 _ x=>hs3.extBut _ _ c1 (hs2 _ _ c3 (hs1.extBut _ _ c1 x))) ⟨oe,hs3.extBut _ _ hne ho,hc⟩
 | some x =>
  have hy:ys[k]?=none:=he.resolve_left λ q=>by rw[hx]at q;cases q
  refine S1.item b1 c1 hx λ g2 h12 hs2=>Nc ?_;have hO2:IsPair g2 TO a b:=hs2.extBut _ _ D.TOi1 (hs1.extBut _ _ D.TOz hO);refine M6 (OP hO2 rfl (M6 (QQ hO2 λ g3 hO3 hs3=>?_)));refine M6 (wpAny_letGo (Nc (M6 (M6 (Rw (show wpAny _ _ (Builtin.SmallTypes.nextOf (.ref i2) >>= _) _ _ _ from M6 (S2.done hh (S2.ext hl2 λ o q=>hs3.extBut _ _ D.l2TO (hs2.extBut _ _ D.l2i1 (hs1.extBut _ _ D.l2z q))) (h2.imp λ o q=>⟨hs3.extBut _ _ D.TOi2.symm (hs2.extBut _ _ D.i12.symm (hs1.extBut _ _ D.i2z q.1)),q.2⟩) hy λ g4 e hs4 ⟨oe,ho,hc⟩=>?_)))))));have hz4:IsZip g4 z TI TO .ellipsis:=hs4 _ _ D.i2z.symm (hs3.extBut _ _ D.TOz.symm (hs2.extBut _ _ D.i1z.symm hz1));have hne:e≠z:=λ x=>by subst x;rw[hz4]at ho;cases ho;simp at hc
  refine NZ hz4 (by simp) λ g5 _ hs5=>fin g5 e (λ c o c1 c2 c3 c4 x=>hs5.extBut _ _ c1 (hs4 _ _ c4 (hs3.extBut _ _ c2 (hs2.extBut _ _ c3 (hs1.extBut _ _ c1 x))))) ⟨oe,hs5.extBut _ _ hne ho,hc⟩
end
def vZ (b:Bool)(l:Addr):Obj:={ cls:=.type (if b=true then "tuple_iterator" else "list_iterator"),data:=.fields #[.ref l,.int 0 0] }
def pH (b:Bool)(h:Heap)(l:Addr)(xs:Array Value):Prop:=if b=true then h.IsTuple l xs else h.IsList l xs
def Bt{h:Heap}(x:pH b h l xs)(o:Obj):pH b (h.push o) l xs:=by
 cases b
 ·exact Heap.IsList.push x o
 ·obtain⟨u,h1,h2⟩:=x;exact⟨u,M8 _ h1,h2⟩
def zH (b1 b2:Bool)(h:Heap)(l1 l2:Addr):Heap:=((((h.push (vZ b1 l1)).push (vZ b2 l2)).push { cls:=.type "tuple",data:=.seq #[.ref h.objs.size,.ref (h.objs.size+1)] }).push { cls:=.type "tuple",data:=.seq #[.none,.none] }).push { cls:=.type "zip",data:=.fields #[.none,.bool false,.bool false,.ref (h.objs.size+2),.ref (h.objs.size+3)] }
def j4{Q:Value->Shared->Prop}(h:pH b s.heap l xs)(k:Q (.ref s.heap.objs.size) { s with heap:=s.heap.push (vZ b l) }):wpAny (model prog w) A (pyIter (.ref l)) Q E s:=by
 cases b
 ·exact Rq h k
 ·exact wpAny_pyIter_tuple h k
def uD (b1 b2:Bool)(l1 l2:Addr)(xs ys:Array Value) :
  Meets (Builtin.«zip.__new__» ⟨[.type "zip",.ref l1,.ref l2],[]⟩) (λ _ R s=>pH b1 s.heap l1 xs/\pH b2 s.heap l2 ys/\R (.ok (.ret (.ref (s.heap.objs.size+4)))) { s with heap:=zH b1 b2 s.heap l1 l2 }):=
 .of_wp λ prog w A R s h=>by
  obtain⟨hp,g,d,tk,os⟩:=s;obtain⟨hl1,hl2,h⟩:=h;have hsub:=sub_zip;have q1:pH b1 (Shared.heap ⟨hp,g,d,tk,os⟩) l1 xs:=hl1;have q2:pH b2 (Shared.heap ⟨hp.push (vZ b1 l1),g,d,tk,os⟩) l2 ys:=Bt hl2 _
  wp_walk using j4 q1,j4 q2
  refine⟨_,rfl,?_⟩;simp only[Oo];exact h
def v8{b1 b2:Bool}{ys:Array Value}{Q:Value->Shared->Prop}(h1:pH b1 s.heap l1 xs)(h2:pH b2 s.heap l2 ys)
  (h:∀ h',IsZip h' (s.heap.objs.size+4) (s.heap.objs.size+2) (s.heap.objs.size+3) .none->IsPair h' (s.heap.objs.size+2) (.ref s.heap.objs.size) (.ref (s.heap.objs.size+1))->IsPair h' (s.heap.objs.size+3) .none .none->h'.get? s.heap.objs.size=some (vZ b1 l1)->h'.get? (s.heap.objs.size+1)=some (vZ b2 l2) ->
   (∀ c o,s.heap.get? c=some o->h'.get? c=some o)->Q (.ref (s.heap.objs.size+4)) { s with heap:=h' }):wpAny (model prog w) A (call (.type "zip") [.ref l1,.ref l2]) Q E s:=by
 refine callType_new F.called_zip (by decide) (F.typeCall_zip_2 _ _) (F.newCall_zip_2 _ _) (λ obj=>F.args_object_init_3 obj _ _) F.entry_zip_new (uD b1 b2 l1 l2 xs ys) ⟨h1,h2,?_⟩;have e5:(zH b1 b2 s.heap l1 l2).get? (s.heap.objs.size+4)=some { cls:=.type "zip",data:=.fields #[.none,.bool false,.bool false,.ref (s.heap.objs.size+2),.ref (s.heap.objs.size+3)] }:=by
  have:=Nj ((((s.heap.push (vZ b1 l1)).push (vZ b2 l2)).push { cls:=.type "tuple",data:=.seq #[.ref s.heap.objs.size,.ref (s.heap.objs.size+1)] }).push { cls:=.type "tuple",data:=.seq #[.none,.none] }) (o:={ cls:=.type "zip",data:=.fields #[.none,.bool false,.bool false,.ref (s.heap.objs.size+2),.ref (s.heap.objs.size+3)] }) rfl;simp only[Oo]at this;exact this
 have e4:(zH b1 b2 s.heap l1 l2).get? (s.heap.objs.size+3)=some { cls:=.type "tuple",data:=.seq #[.none,.none] }:=by
  have:=Nj (((s.heap.push (vZ b1 l1)).push (vZ b2 l2)).push { cls:=.type "tuple",data:=.seq #[.ref s.heap.objs.size,.ref (s.heap.objs.size+1)] }) (o:={ cls:=.type "tuple",data:=.seq #[.none,.none] }) rfl;simp only[Oo]at this;exact M8 _ this
 have e3:(zH b1 b2 s.heap l1 l2).get? (s.heap.objs.size+2)=some { cls:=.type "tuple",data:=.seq #[.ref s.heap.objs.size,.ref (s.heap.objs.size+1)] }:=by
  have:=Nj ((s.heap.push (vZ b1 l1)).push (vZ b2 l2)) (o:={ cls:=.type "tuple",data:=.seq #[.ref s.heap.objs.size,.ref (s.heap.objs.size+1)] }) rfl;simp only[Oo]at this;exact M8 _ (M8 _ this)
 have e2:(zH b1 b2 s.heap l1 l2).get? (s.heap.objs.size+1)=some (vZ b2 l2):=by
  have:=Nj (s.heap.push (vZ b1 l1)) (o:=vZ b2 l2) rfl;simp only[Oo]at this;exact M8 _ (M8 _ (M8 _ this))
 have e1:(zH b1 b2 s.heap l1 l2).get? s.heap.objs.size=some (vZ b1 l1):=M8 _ (M8 _ (M8 _ (M8 _ (Nj _ rfl))));exact⟨⟨_,e5,rfl⟩,h _ e5 e3 e4 e1 e2 λ c o x=>M8 _ (M8 _ (M8 _ (M8 _ (M8 _ x))))⟩
def Df (K:PySem.W.Frag)(b:Bool)(a:Addr)(H:Hp)(xs:List V):Prop:=if b=true then lq K H a xs else cY K H a xs
def KR (b:Bool)(a:Addr)(i:Nat)(o:Obj):Prop:=if b=true then MM a i o else MN a i o
def uE (b:Bool)(a it:Addr)(its:Array Value):mE a it its (λ h=>pH b h a its) (KR b a):=by
 cases b
 ·exact De a it its
 ·exact FP a it its
def zM{i:Nat}{o:Obj}(h:KR b a i o):∀ v,o.data ≠ .cell v:=λ v z=>by
 cases b
 ·rw[show o.data=_ from h.2]at z;cases z
 ·rw[show o.data=_ from h.2]at z;cases z
def zO (b:Bool)(a:Addr):KR b a 0 (vZ b a):=by
 cases b
 ·exact⟨rfl,rfl⟩
 ·exact⟨rfl,rfl⟩
def oA{pins:List (Addr×Obj)}{σ:St}{H:Hp}{xs:List V}(I:Inv X pins σ H s)(h:Df X.K b a H xs):∃ its,Vals xs its/\pH b s.heap a its.toArray:=by
 cases b
 ·obtain⟨its,rv,p,_⟩:=I.list h;exact⟨its,rv,p.isList⟩
 ·obtain⟨its,rv,p,_⟩:=I.tuple h;exact⟨its,rv,mw p⟩
def zL{pins:List (Addr×Obj)}{σ:St}{H:Hp}{xs ys:List V}(I:Inv X pins σ H s)(h:Df X.K b a H xs)(h':Df X.K b a H ys):xs=ys:=by
 cases b
 ·exact I.vz h h'
 ·exact I.sd h h'
def Iz (src1 src2:Hp->List V->Prop):It:=
 ⟨λ i H=>∃ xs x ys y,src1 H xs/\xs[i]?=some x/\src2 H ys/\ys[i]?=some y,λ i H v H'=>∃ p y1 y2,v=.ref p/\H p=none/\H'=upd H p (.tup [y1,y2])/\(∀ xs,src1 H xs->xs[i]?=some y1)/\∀ ys,src2 H ys->ys[i]?=some y2,λ i H=>∃ xs ys,src1 H xs/\src2 H ys/\(xs.length<=i\/ys.length<=i)⟩
def M1 (b1 b2:Bool)(z TI TO i1 i2 l1 l2:Addr)(i:Nat)(h:Heap):Prop:=IsZip h z TI TO .none/\IsPair h TI (.ref i1) (.ref i2)/\(∃ a b,IsPair h TO a b)/\(∃ o,h.get? i1=some o/\KR b1 l1 i o)/\∃ o,h.get? i2=some o/\KR b2 l2 i o
def Dg {P:Program}{K:PySem.W.Frag}{elts:List Expr}{x1:Nat}{tp:Pos}{z TI TO i1 i2:Addr}(b1 b2:Bool)(D:ZipApart z TI TO i1 i2 l1 l2) :
  Turn P w K (.Tuple elts x1 tp) (Iz (Df K b1 l1) (Df K b2 l2)) [z,TI,TO,i1,i2] z (M1 b1 b2 z TI TO i1 i2 l1 l2) where
 mem:=by simp
 obj:=λ i h st b hb=>by
  obtain⟨h1,h2,⟨u,v,h3⟩,⟨o1,h4,h5⟩,o2,h6,h7⟩:=st;simp only[Nq,Oe,or_false]at hb;rcases hb with q|q|q|q|q<;>subst q
  ·exact⟨_,h1,λ v z=>by cases z⟩
  ·exact⟨_,h2,λ v z=>by cases z⟩
  ·exact⟨_,h3,λ v z=>by cases z⟩
  ·exact⟨o1,h4,zM h5⟩
  ·exact⟨o2,h6,zM h7⟩
 keep:=λ i h h' st k=>by
  obtain⟨h1,h2,⟨u,v,h3⟩,⟨o1,h4,h5⟩,o2,h6,h7⟩:=st;exact⟨k z (by simp) _ h1,k TI (by simp) _ h2,⟨u,v,k TO (by simp) _ h3⟩,⟨o1,k i1 (by simp) _ h4,h5⟩,o2,k i2 (by simp) _ h6,h7⟩
 item:=by
  intro X hP hw hK hc i pins s σ H E I hf st hg;obtain⟨xs,x,ys,y,hq1,hx,hq2,hy⟩:=hg;obtain⟨h1,h2,⟨u,v,h3⟩,h4,h5⟩:=st;subst hP hw hK;obtain⟨its1,rv1,sq1⟩:=oA I hq1;obtain⟨its2,rv2,sq2⟩:=oA I hq2;obtain⟨ux,hux,rux⟩:=rv1.get hx;obtain⟨uy,huy,ruy⟩:=rv2.get hy;have zlt:z<s.heap.objs.size:=Nl h1;refine Bs (uE b1 l1 i1 its1.toArray) (uE b2 l2 i2 its2.toArray) D h1 h2 h3 h4 h5 sq1 sq2 (by simpa using hux) (by simpa using huy) λ h' k1 k2 k3 k4 k5 k6=>⟨_,rfl,wpAny_letOwnedTupleGo_zip k1 λ h'' m1 m2=>?_⟩;have m2:Heap.SameBut z h' h'':=m2;have fr:H s.heap.objs.size=none:=I.fresh;have kp:∀ b o,b∉[z,TI,TO,i1,i2]->s.heap.get? b=some o->h''.get? b=some o:=λ b o hb q=>(m2.2 b λ e=>hb (by simp[e])).trans (k6 b o (λ e=>hb (by simp[e])) (λ e=>hb (by simp[e])) (λ e=>hb (by simp[e])) (λ e=>hb (by simp[e])) q);have hTI:IsPair h'' TI (.ref i1) (.ref i2):=(m2.2 TI D.TIz).trans (k6 TI _ D.TIz D.TITO D.TIi1 D.TIi2 h2);have tp:h''.get? s.heap.objs.size=some { cls:=.type "tuple",data:=.seq #[ux,uy] }:=(m2.2 _ (P0 zlt)).trans k5;have ok1:ki X.prog X.w H h'':=λ b o hb=>(I.hok b o hb).stay (λ c v hcb q=>kp c v (λ e=>by
    have n:=(hf c e).1;rcases hcb with e2|e2
    ·subst e2;rw[n]at hb;cases hb
    ·rw[n]at e2;cases e2) q) (λ _ e=>e) λ _ _ e=>e
  have ok2:ki X.prog X.w (upd H s.heap.objs.size (.tup [x,y])) h'':=zv ok1 fr ⟨by show 2<=sizeLine;decide,[ux,uy],.cons rux (.cons ruy .nil),⟨_,tp⟩⟩;have I2:Inv X pins σ (upd H s.heap.objs.size (.tup [x,y])) { s with heap:=h'' }:=by
   refine I.step (t':=s.toks) (g':=s.gens) (d':=s.drawn) (ch:=[z,TI,TO,i1,i2]) (λ b hb=>?_) (λ b o _ _ hb q _=>kp b o hb q) (λ b o _ _ hb q _=>⟨o.slots,kp b o hb q⟩)
    (λ b o _ q n=>by rw[aN (NH (Nl q))];exact n) (λ b o hb q=>⟨o,kp b o hb q⟩)
    (λ b ys q=>by rw[aN (bK q fr)];exact q) (λ b o v q=>by rw[aN (bK q fr)];exact q) (λ b ps q=>⟨#[],by rw[aN (bK q fr),Rf];exact q⟩)
    (λ m hm=>hm.at λ o q=>kp _ o (λ e=>(hf _ e).2.1 rfl) q) ok2 I.bare
   obtain⟨f0,f1,f2,f3,f4,f5⟩:=hf b hb;exact⟨f3,f1,f4,f5⟩
  refine⟨.ref s.heap.objs.size,_,I2,rfl,⟨_,x,y,rfl,fr,rfl,λ ws hw=>by rw[zL I hw hq1];exact hx,λ ws hw=>by rw[zL I hw hq2];exact hy⟩,⟨m1,hTI,⟨ux,uy,(m2.2 TO D.TOz).trans k2⟩,k3.imp λ o q=>⟨(m2.2 i1 D.i1z).trans q.1,q.2⟩,k4.imp λ o q=>⟨(m2.2 i2 D.i2z).trans q.1,q.2⟩⟩,λ b hb=>?_⟩;have lt:b<s.heap.objs.size:=by
   simp only[Nq,Oe,or_false]at hb;rcases hb with q|q|q|q|q<;>subst q
   ·exact zlt
   ·exact Nl h2
   ·exact Nl h3
   ·obtain⟨_,q,_⟩:=h4;exact Nl q
   ·obtain⟨_,q,_⟩:=h5;exact Nl q
  rw[aN (NH lt)];exact(hf b hb).1
 done:=by
  intro X hP hw hK hc i pins s σ H E I hf st hg;obtain⟨xs,ys,hq1,hq2,he⟩:=hg;obtain⟨h1,h2,⟨u,v,h3⟩,h4,h5⟩:=st;subst hP hw hK;obtain⟨its1,rv1,sq1⟩:=oA I hq1;obtain⟨its2,rv2,sq2⟩:=oA I hq2;have e1:=rv1.length;have e2:=rv2.length;refine Dd (I.ok.hd hc) (uE b1 l1 i1 its1.toArray) (uE b2 l2 i2 its2.toArray) D h1 h2 h3 h4 h5 sq1 sq2 (he.imp (λ q=>by simp;omega) λ q=>by simp;omega) λ h' k6=>⟨rfl,?_⟩;have kp:∀ b o,b∉[z,TI,TO,i1,i2]->s.heap.get? b=some o->h'.get? b=some o:=λ b o hb q=>k6 b o (λ e=>hb (by simp[e])) (λ e=>hb (by simp[e])) (λ e=>hb (by simp[e])) (λ e=>hb (by simp[e])) q;have ok1:ki X.prog X.w H h':=λ b o hb=>(I.hok b o hb).stay (λ c v hcb q=>kp c v (λ e=>by
    have n:=(hf c e).1;rcases hcb with e2|e2
    ·subst e2;rw[n]at hb;cases hb
    ·rw[n]at e2;cases e2) q) (λ _ e=>e) λ _ _ e=>e
  refine I.step (t':=s.toks) (g':=s.gens) (d':=s.drawn) (ch:=[z,TI,TO,i1,i2]) (λ b hb=>?_) (λ b o _ _ hb q _=>kp b o hb q) (λ b o _ _ hb q _=>⟨o.slots,kp b o hb q⟩)
   (λ _ _ _ _ n=>n) (λ b o hb q=>⟨o,kp b o hb q⟩) (λ _ _ q=>q) (λ _ _ _ q=>q) (λ b ps q=>⟨#[],by rw[Rf];exact q⟩)
   (λ m hm=>hm.at λ o q=>kp _ o (λ e=>(hf _ e).2.1 rfl) q) ok1 I.bare
  obtain⟨f0,f1,f2,f3,f4,f5⟩:=hf b hb;exact⟨f3,f1,f4,f5⟩
 self:=λ _ _ _ _ _ st h=>wpAny_pyIter_zip st.1 h
def zN{h:Heap}(x:pH b h l xs):l<h.objs.size:=by
 cases b
 ·obtain⟨o,e,_⟩:=x;exact Nl e
 ·obtain⟨o,e,_⟩:=x;exact Nl e
def IT{elts:List Expr}{x1:Nat}{tp p pos:Pos}{l m:Expr}{ta:TA}(hg:Gl X "zip")(hm:X.mg "zip" = none)(ha:PA X [l,m] ta)(hs:starEach [l,m] X.env=[(false,eval l X.env),(false,eval m X.env)]:=by rfl)(hs2:starEach [m] X.env=[(false,eval m X.env)]:=by rfl) :
  PI X (.Tuple elts x1 tp) (.Call (.Name "zip" p) [l,m] [] pos) (λ σ H R=>ta σ H λ vs H1=>∃ b1 b2 a1 a2 xs ys,vs=[.ref a1,.ref a2]/\Df X.K b1 a1 H1 xs/\Df X.K b2 a2 H1 ys/\R (Iz (Df X.K b1 a1) (Df X.K b2 a2)) H1):=by
 intro pins s σ H R I h;refine O4 (jM I hg hm (by decide +kernel:bootBuiltins "zip" = some (.type "zip")) ?_);refine OI (eK (ha pos pins s σ H _ I h) λ us s1 hq5=>L2.ex5 hq5 λ vs H1 I1 r1 q1=>?_) (by rw[hs,hs2]) (by rw[hs2];rfl);obtain⟨b1,b2,a1,a2,xs,ys,rfl,hq1,hq2,q⟩:=q1;obtain⟨u,u',rfl,ru,ru'⟩:=vals2 r1;cases ru;cases ru';obtain⟨its1,rv1,sq1⟩:=oA I1 hq1;obtain⟨its2,rv2,sq2⟩:=oA I1 hq2;refine v8 sq1 sq2 λ h' e1 e2 e3 e4 e5 e6=>wpAny_pyIter_zip e1 ?_;have I2:Inv X pins σ H1 { s1 with heap:=h' }:=I1.kept (t':=s1.toks) e6;refine⟨_,_,_,_,H1,rfl,I2,Dg b1 b2 (zipApart_new (zN sq1) (zN sq2)),⟨e1,e2,⟨_,_,e3⟩,⟨_,e4,zO b1 a1⟩,⟨_,e5,zO b2 a2⟩⟩,λ b hb=>?_,q⟩;have le:s1.heap.objs.size<=b:=by
  simp only[Nq,Oe,or_false]at hb;rcases hb with e|e|e|e|e<;>(rw[e];first|exact Nm _|exact Rz _ _)
 exact I1.AR le (I1.hok.fresh le)
end L2
namespace DL
open PySem PySem.Spec PyProof.Rows L2
section
variable {K:PySem.W.Frag}{Y:XY}{H0 B0 B H:Hp}{σ:L2.St}{τ:SD}{P:List Addr}{F:Addr->Prop}{X:Cx}{pos:Pos}
def lT (xs ys:List D):List D:=List.zipWith (λ x y=>D.tup [x,y]) xs ys
def KS:List D->Res (Bool×List D)
 |[d,e]=>(bH d).bind λ p=>(bH e).bind λ q=>.ok (p.1||q.1,lT p.2 q.2)
 |_=>.bad
def uG (f:SD->Res (List D))(τ:SD):Res (Bool×List D):=(f τ).bind KS
def wa:∀ xs ys:List D,aG (lT xs ys)=lT (aG xs) (aG ys)
 |[],_=>rfl|_::_,[]=>rfl
 | x::xs,y::ys=>by
  show(D.tup [x,y]).ak::aG (lT xs ys)=D.tup [x.ak,y.ak]::lT (aG xs) (aG ys);rw[wa xs ys];rfl
def uF (xs ys:List D):(lT xs ys).length=min xs.length ys.length:=by simp[lT]
def Di {xs ys:List D}{i:Nat}{d:D}(h:(lT xs ys)[i]?=some d):∃ x y,xs[i]?=some x/\ys[i]?=some y/\d=.tup [x,y]:=by
 unfold lT at h;rw[QD]at h;cases hx:xs[i]? with
 |none=>rw[hx]at h;cases h
 | some x =>
  cases hy:ys[i]? with
  |none=>rw[hx,hy]at h;cases h
  | some y =>
   rw[hx,hy]at h;cases h;exact⟨x,y,rfl,rfl,rfl⟩
def FQ {src1 src2:Hp->List V->Prop}{ds es:List D}{vs ws:List V}(r:ai K B No H ds vs [])(r':ai K B No H es ws [])(q:∀ B' H':Hp,aq B B'->aq B' H'->mS H H'->src1 H' vs)(q':∀ B' H':Hp,aq B B'->aq B' H'->mS H H'->src2 H' ws):Hc K (Iz src1 src2) (lT ds es) B H where
 go:=λ B' H' i d s1 s2 im e=>by
  obtain⟨x,y,h1,h2,rfl⟩:=Di e;obtain⟨v,f,a1,_⟩:=r.get h1;obtain⟨w,g,a2,_⟩:=r'.get h2;exact⟨vs,v,ws,w,q B' H' s1 s2 im,a1,q' B' H' s1 s2 im,a2⟩
 zd:=λ B' H' i d x H'' s1 s2 im e y=>by
  obtain⟨p,w1,w2,rfl,hp,rfl,hy1,hy2⟩:=y;obtain⟨dx,dy,h1,h2,rfl⟩:=Di e;obtain⟨v,f,a1,a2,a3⟩:=r.get h1;obtain⟨w,g,c1,c2,c3⟩:=r'.get h2;have z1:=hy1 vs (q B' H' s1 s2 im);have z2:=hy2 ws (q' B' H' s1 s2 im);rw[z1]at a1;cases a1;rw[z2]at c1;cases c1;cases pO a3;cases pO c3;have s:=dY (o:=.tup [w1,w2]) hp;exact⟨s,p,[w1,w2],rfl,aK,w1,[w2],[],[],rfl,(a2.stay s1 im rfl).mono s (aq.refl _) (λ _ x=>x),ai.one ((c2.stay s1 im rfl).mono s (aq.refl _) (λ _ x=>x)),rfl⟩
 stop:=λ B' H' s1 s2 im=>⟨vs,ws,q B' H' s1 s2 im,q' B' H' s1 s2 im,by
  have e1:=r.length;have e2:=r'.length;rw[uF];omega⟩
def v9 {d:D}{fl:Bool}{xs:List D}{v:V}{f:List Addr}(hi:bH d=.ok (fl,xs))(I:SI K H0 B0 B H σ τ P F)(r:Rep K B (· ∈ P) H d v f) :
  ∃ b a vs,v=.ref a/\Df K b a H vs/\∀ Bx:Hp,aq B Bx->(∀ a∈f,∀ o,H a=some o->Bx a=some o)->(fl=true->∀ a∈P,∀ o,H a=some o->Bx a=some o)->∃ ws,ai K Bx No H (aG xs) ws []/\∀ B' H':Hp,aq Bx B'->aq B' H'->mS H H'->Df K b a H' ws:=by
 cases d with
 | lst t ys =>
  cases hi;obtain⟨a,vs,g,rfl,q,_⟩:=r.lst I;refine⟨false,a,vs,rfl,q,λ Bx sB h1 h2=>?_⟩;obtain⟨a',ws,ea,q',rl,_⟩:Rep K Bx No H (D.lst .ak (aG xs)) (.ref a) []:=lH r sB h1 h2;cases ea;exact⟨ws,rl,λ B' H' z1 z2 _=>eO (z1.trans z2) q'⟩
 | tup ys =>
  cases hi;obtain⟨a,vs,rfl,q,_⟩:=r.tp;refine⟨true,a,vs,rfl,q,λ Bx sB h1 h2=>?_⟩;obtain⟨a',ws,ea,q',rl⟩:Rep K Bx No H (D.tup (aG xs)) (.ref a) []:=lH r sB h1 h2;cases ea;exact⟨ws,rl,λ B' H' z1 z2 im=>pP im (lq.of q')⟩
 |_=>cases hi
def Dh {elts:List Expr}{x1:Nat}{tp p:Pos}{l m:Expr}{fs:SD->Res (List D)}(hg:Gl X "zip")(hm:X.mg "zip" = none)(ha:PA X [l,m] (pL X.K Y fs))(hs:starEach [l,m] X.env=[(false,eval l X.env),(false,eval m X.env)]:=by rfl)(hs2:starEach [m] X.env=[(false,eval m X.env)]:=by rfl) :
  PI X (.Tuple elts x1 tp) (.Call (.Name "zip" p) [l,m] [] pos) (Cc X.K Y (uG fs)):=by
 refine PI.imp (IT hg hm ha hs hs2) λ σ H R hq=>ex8 hq λ H0 B0 B τ P F I h=>⟨H0,B0,B,τ,P,F,I,?_⟩;cases z:fs τ with
 |f7 C=>simp only[uG,z,Res.jo]at h;exact h|bad=>simp only[uG,z,Res.jn]at h
 | ok ds =>
  simp only[uG,z,Res.aH]at h;intro vs H1 B1 fp I1 s1 b1 r1 k1
  match ds,r1,h with
  | [d,e],r1,h =>
   obtain⟨v,u,f1,f2,rfl,rfl,rd,re⟩:=zE r1;simp only[KS]at h;cases hd:bH d with
   |f7 C=>exfalso;cases d<;>cases hd
   |bad=>rw[hd]at h;exact h.elim
   | ok p =>
    obtain⟨g1,xs⟩:=p;rw[hd,Res.aH]at h;cases he:bH e with
    |f7 C=>exfalso;cases e<;>cases he
    |bad=>rw[he]at h;exact h.elim
    | ok p =>
     obtain⟨g2,ys⟩:=p;rw[he,Res.aH]at h;obtain⟨c1,a1,vs1,rfl,q1,k2⟩:=v9 hd I1 rd;obtain⟨c2,a2,vs2,rfl,q2,k3⟩:=v9 he I1 re;refine⟨c1,c2,a1,a2,vs1,vs2,rfl,q1,q2,h _ H1 _ (f1++f2) I1 s1 b1 k1 λ Bx sB sH h1 h2=>?_⟩;obtain⟨w1,rl1,m1⟩:=k2 Bx sB (λ a m=>h1 a (Nt _ m)) λ t=>h2 (by rw[t];rfl);obtain⟨w2,rl2,m2⟩:=k3 Bx sB (λ a m=>h1 a (Nz _ m)) λ t=>h2 (by rw[t];simp);rw[wa];exact FQ rl1 rl2 m1 m2
  |[],r1,h=>exact h.elim|[_],r1,h=>exact h.elim|_::_::_::_,r1,h=>exact h.elim
end
section
variable {K:PySem.W.Frag}{Y:XY}{H0 B0 B H:Hp}{σ:L2.St}{τ:SD}{P:List Addr}{F:Addr->Prop}{X:Cx}{pos:Pos}{e:Expr}{fe:SD->Res D}
def FT (i:Nat)(xs:List D)(τ:SD):D->Fl
 |.lst .own ys=>if au ys=true then .bad else if xs.length+ys.length<=16777216 then .nx (τ.set i (some (.lst .own (xs++ys)))) else .bad
 |_=>.bad
def x8 (i:Nat)(f:SD->Res D)(τ:SD):Fl:=match dE τ i with
 |some xs=>(f τ).i8 τ (FT i xs τ)
 |none=>.bad
def Hh (i:Nat){x:Str}{p1 apos cpos:Pos}(he:PE X e (tM X.K Y fe))(hN:X.N[i]?=some x:=by rfl)(hv:rD X.env.scope x:=by first|exact Or.inl rfl|exact Or.inr (Or.inl rfl)|exact Or.inr (Or.inr rfl))(hd:(x == ("__debug__" : Str))=false:=by decide)(hcd:(x == ("__classdict__" : Str))=false:=by decide)
  (hbase:attributeBase (.Name x p1) "extend" X.env (eval (.Name x p1) X.env)=eval (.Name x p1) X.env:=by rfl)
  (hfew:((backTo cpos (starEach [e] X.env)).all (λ x=>!x.1)&&(backToKw cpos (keywordEach [] X.env)).all (λ x=>x.1.isSome)
   && decide ([e].length+([]:List Keyword).length+(if ([]:List Keyword).isEmpty then 0 else 1)<30))=true:=by rfl)
  (hline:(apos.endLine == cpos.line)=true:=by rfl) (hs:starEach [e] X.env=(false,eval e X.env)::starEach [] X.env:=by rfl) (hplain:(backTo cpos (starEach [] X.env)).any (·.1)=false:=by rfl)
  (hsw:swapsWith (.Call (.Attribute (.Name x p1) "extend" apos) [e] [] cpos) none pos.line X.env=pure false:=by rfl) :
  PS X (.Expr (.Call (.Attribute (.Name x p1) "extend" apos) [e] [] cpos) pos) (jK X.K Y (x8 i fe)):=by
 refine PS.imp (jO (p7 Ow PySem.F.slot_list_extend PySem.F.type_list_extend sD (dm hN hv hd hcd) (cT he fE hs) hbase hfew hline hs hplain) hsw) λ E σ H hq=>ex7 hq λ H0 B0 B τ P I h=>?_;unfold x8 at h;cases z:dE τ i with
 |none=>rw[z]at h;exact h.elim
 | some xs =>
  rw[z]at h;have hi:=fM z;obtain⟨a,vs,ea,ha,hl⟩:=I.listAt hi;refine⟨.ref a,ea,.inl ⟨rfl,vs,cY.of ha⟩,lZ I h λ d v H1 B1 fp _ I1 s1 b1 r1 k1 h1=>?_⟩;unfold FT at h1;split at h1
  ·rename_i ys hfe;obtain⟨b,ws,f,rfl,hb,rl2,rfl⟩:=r1;split at h1
   ·exact h1.elim
   ·rename_i hnb;split at h1
    ·rename_i hz;have ha1:=s1 a _ ha;have hl2:=rl2.length;refine⟨a,b,vs,ws,rfl,rfl,ha1,hb,by rw[<-hl,<-hl2,Oc];exact hz,?_⟩;have k2:fR H0 B1 H1 P No f:=k1.sub (P6 _ _);obtain⟨P',I'⟩:=I1.Bg (xs':=xs++ys) (vs':=vs++ws) hi ea k2 (λ g _ rl=>⟨g++f,rl.append (rl2.gD (by simpa using hnb)),λ b m=>Nk.mp m,λ nf dis=>Np.mpr ⟨nf,k2.nd,λ a ha b hb e=>dis b hb (e▸ha)⟩⟩) ha1;exact h1 B1 _ σ P' I'
    ·exact h1.elim
  ·exact h1.elim
end
end DL
namespace L2
open PySem PySem.Spec PyProof.Rows
section
variable {X:Cx}
end
end L2
namespace DL
open PySem PySem.Spec PyProof.Rows L2
end DL
namespace L2
open PySem PySem.Spec PyProof.Rows
def Dj {P:Program}{w:World}{A:Around}{E:Value->Shared->Prop}{s:Shared}{items:Array Value}{x:Value}{e:Value->Bool}(he:∀ y,y∈items->MeetsSeq.EqGives y x (e y)){j:Nat}(hj:j<items.size)(hit:e items[j]=true)(hno:∀ m (hm:m<items.size),m<j->e items[m]=false)
  {Q:Option PySem.Fin×Unit->Shared->Prop} (hQ:Q (some (.done (.ret (.int j s.toks))),()) { s with toks:=s.toks+1 }):∀ (k i:Nat),i+k=items.size->i<=j ->
  wpAny (model P w) A (forIn (List.range' i k) ((none,()):Option PySem.Fin×Unit) λ (i:Nat) (_:Option PySem.Fin×Unit)=>(match items[i]? with
   | some y=>do
    let b <-eqBool y x
    if b=true then do
      let r <-retInt (i:Int)
      pure (ForInStep.done (some r,()))
     else pure (ForInStep.yield (none,()))
   |_=>pure (ForInStep.yield (none,()):ForInStep (Option PySem.Fin×Unit)):Sem (ForInStep (Option PySem.Fin×Unit)))) Q E s
 |0,i,h1,h2=>by omega
 | k+1,i,h1,h2=>by
  have hi:i<items.size:=by omega
  rw[List.range'_succ,Qn];refine M6 ?_;rw[NB hi];refine M6 (he _ (Array.getElem_mem hi) P w _ _ _ _ ?_);by_cases q:i=j
  ·subst q;rw[hit];exact M6 (M6 (wpAny_mkInt (Nc (Nc (Nc hQ)))))
  ·rw[hno i hi (by omega)];refine Nc ?_;exact Dj he hj hit hno hQ k (i+1) (by omega) (by omega)
def pI (t:Addr)(items:Array Value)(x:Value)(e:Value->Bool)(he:∀ y,y∈items->MeetsSeq.EqGives y x (e y))(j:Nat)(hj:j<items.size)(hit:e items[j]=true)(hno:∀ m (hm:m<items.size),m<j->e items[m]=false) :
  Meets (Builtin.«tuple.index» ⟨[.ref t,x],[]⟩) (λ _ R s=>s.heap.IsTuple t items/\R (.ok (.ret (.int j s.toks))) { s with toks:=s.toks+1 }):=
 .of_wp λ prog w A R s h=>by
  obtain⟨⟨o,ho,hc,n,hd⟩,h⟩:=h;unfold Builtin.«tuple.index»;show wpAny _ _ (Builtin.Tuple.tupleItemsOf (.ref t) >>= _) _ _ _;unfold Builtin.Tuple.tupleItemsOf;refine M6 (M6 (OP ho hd (Nc ?_)));show wpAny _ _ (forIn [0:min items.size items.size] ((none,()):Option PySem.Fin×Unit) _ >>= _) _ _ _;refine M6 ?_;rw[Nat.min_self,Std.Legacy.Range.forIn_eq_forIn_range'];have sz:Std.Legacy.Range.size [0:items.size]=items.size:=by simp[Std.Legacy.Range.size]
  rw[sz];refine Dj he hj hit hno ?_ items.size 0 (OW _) (OD _);exact Nc ⟨_,rfl,h⟩
section
variable {X:Cx}
def Ms:V->List V->Hp->VK->Prop:=λ x vs H Q=>∃ (a:Addr) (ns:List Int) (k:Int) (j:Nat),x=.ref a/\vs=[.int k]/\H a=some (.tup (ns.map V.int))/\ns[j]?=some k/\(∀ m,m<j->ns[m]?≠some k)/\Q (.int j) H
def IU:G1 X "tuple.index" Ms:=by
 intro pins s σ H x vs v us Q I rx rv h;obtain⟨a,ns,k,j,rfl,rfl,hH,hj,hno,q⟩:=h;cases rx;obtain⟨u,rfl,ru⟩:=rv.one;obtain⟨t,rfl⟩:=ru;obtain⟨its,r,p,hz⟩:=I.tuple (lq.of hH);have hi:=intsAre_of r;have hl:=r.length;rw[M7]at hl;have hjl:j<its.toArray.size:=by
  have:=(Ng.mp hj).1;simp;omega
 have at_:∀ m (hm:m<its.toArray.size),∃ tk,its.toArray[m]=.int (ns.getD m 0) tk:=λ m hm=>by
  have hm':m<ns.length:=by
   simp at hm;omega
  obtain⟨w,hw,rw'⟩:=r.get (i:=m) (x:=.int ns[m]) (by simp[hm']);obtain⟨tk,e⟩:=rw';refine⟨tk,?_⟩;have e2:its[m]?=some its.toArray[m]:=by simp at hm;simp[hm]
  rw[e2]at hw;cases hw;rw[e];simp[hm']
 have gj:ns.getD j 0=k:=by simp[Nf,hj]
 refine QK F.slot_tuple_index (mw p).typeIs F.entry_tuple_index (F.args_tuple_index_2 _ _) (pI a its.toArray (.int k t) (isInt k) (λ y hy=>eq_isInt k t hi y (by simpa using hy)) j hjl ?_ ?_) ⟨mw p,?_⟩
 ·obtain⟨tk,e⟩:=at_ j hjl;rw[e,gj];simp[isInt]
 ·intro m hm hmj;obtain⟨tk,e⟩:=at_ m hm;rw[e];have hm':m<ns.length:=by
   simp at hm;omega
  have ne:=hno m hmj;simp[isInt];intro z;apply ne;rw[M9 hm'];simpa[Nf,hm'] using z
 ·exact⟨.int j,H,I.tok (s.toks+1),⟨_,rfl⟩,q⟩
variable {o e:Expr}{es:List Expr}{to:TE}{t:TA}{name:Str}{apos cpos:Pos}{id:String}{r:V->List V->Hp->VK->Prop}
def KU (slot:Slot "tuple" name id)(hty:typeOf (.builtin id)=pure (.type "method_descriptor"))(hm:G1 X id r)(ho:PE X o to)(ha:PA X (e::es) t)
  (hbase:attributeBase o name X.env (eval o X.env)=eval o X.env:=by rfl)
  (hfew:((backTo cpos (starEach (e::es) X.env)).all (λ x=>!x.1)&&(backToKw cpos (keywordEach [] X.env)).all (λ x=>x.1.isSome)
   && decide ((e::es).length+([]:List Keyword).length+(if ([]:List Keyword).isEmpty then 0 else 1)<30))=true:=by rfl)
  (hline:(apos.endLine == cpos.line)=true:=by rfl) (hs:starEach (e::es) X.env=(false,eval e X.env)::starEach es X.env:=by rfl) (hplain:(backTo cpos (starEach es X.env)).any (·.1)=false:=by rfl) :
  PE X (.Call (.Attribute o name apos) (e::es) [] cpos) (λ σ H Q=>to σ H λ x H1=>(∃ a xs,x=.ref a/\H1 a=some (.tup xs))/\t σ H1 λ xs H2=>r x xs H2 Q):=by
 intro pins s σ H Q I h;refine wpAny_Call_method_late hbase hfew hline rfl (eK (ho pins s σ H _ I h) λ v s1 ⟨x,H1,I1,r1,ty,q1⟩=>?_);obtain⟨a,xs,rfl,hH⟩:=ty;have r1':=r1;cases r1';obtain⟨_,its,_,n,hg⟩:=(show bZ X.prog X.w H1 s1.heap a (.tup xs) from I1.hok a _ hH);refine⟨"tuple",id,PySem.F.plainAttrs_tuple,slot,hty,⟨_,hg,rfl⟩,λ b e=>?_,?_⟩
 ·cases e;exact⟨_,hg,rfl⟩
 ·have hA:=ha cpos pins s1 σ H1 _ I1 q1;rw[hs]at hA ⊢;refine Pj (by show(false||(backTo cpos (starEach es X.env)).any (·.1))=false;rw[hplain]<;>rfl) (Calls.evalArgs_plain ?_);exact eK hA λ us s2 hq5=>L2.ex5 hq5 λ vs H2 I2 r2 q2=>hm pins s2 σ H2 _ vs _ us Q I2 r1 r2 q2
end
end L2
namespace DL
open PySem PySem.Spec PyProof.Rows L2
section
variable {K:PySem.W.Frag}{Y:XY}{X:Cx}{o e:Expr}{fo fe:SD->Res D}{apos cpos:Pos}
def x9 (ns:List Int)(k:Int):Option Nat:=ns.findIdx? λ n=>decide (n=k)
def isTup (d:D):Bool:=match d with|.tup _=>true|_=>false
def FU:D->D->Res D
 |.tup xs,.int k=>match intsOf xs with|some ns=>(match x9 ns k with|some j=>.ok (.int j)|none=>.bad)|none=>.bad
 |_,_=>.bad
def FW (a b:SD->Res D)(τ:SD):Res D:=(a τ).bind λ x=>if isTup x=true then (b τ).bind (FU x) else .bad
def Bu {ns:List Int}{k:Int}{j:Nat}(h:x9 ns k=some j):ns[j]?=some k/\∀ m,m<j->ns[m]?≠some k:=by
 unfold x9 at h;rw[Px]at h;obtain⟨h1,h2,h3⟩:=h;refine⟨by rw[M9 h1];simpa using h2,λ m hm z=>?_⟩;have:=h3 m hm;rw[M9 (by omega)]at z;cases z;simp at this
def KW (ho:PE X o (tM X.K Y fo))(he:PE X e (tM X.K Y fe))(hbase:attributeBase o "index" X.env (eval o X.env)=eval o X.env:=by rfl)
  (hfew:((backTo cpos (starEach [e] X.env)).all (λ x=>!x.1)&&(backToKw cpos (keywordEach [] X.env)).all (λ x=>x.1.isSome)
   && decide ([e].length+([]:List Keyword).length+(if ([]:List Keyword).isEmpty then 0 else 1)<30))=true:=by rfl)
  (hline:(apos.endLine == cpos.line)=true:=by rfl) (hs:starEach [e] X.env=(false,eval e X.env)::starEach [] X.env:=by rfl) (hplain:(backTo cpos (starEach [] X.env)).any (·.1)=false:=by rfl) :
  PE X (.Call (.Attribute o "index" apos) [e] [] cpos) (tM X.K Y (FW fo fe)):=by
 refine PE.imp (KU PySem.F.slot_tuple_index PySem.F.type_tuple_index IU ho (cT he fE hs) hbase hfew hline hs hplain) λ σ H Q hq=>ex8 hq λ H0 B0 B τ P F I h=>?_;refine tM.seq (g:=λ x=>if isTup x=true then (fe τ).bind (FU x) else .bad) I h λ d1 v1 H1 B1 fp1 _ I1 s1 b1 r1 k1 h1=>?_;by_cases hdc:isTup d1=true
 ·rw[Nr hdc]at h1;cases d1 with
  | tup xs =>
   obtain⟨a,vs,rfl,hq,rl⟩:=r1;refine⟨⟨a,vs,rfl,hq⟩,?_⟩;have I1h:=I1.hold k1;refine⟨H0,B0,B1,τ,P,_,I1h,?_⟩;cases z:fe τ with
   |f7 C=>rw[z]at h1;exact my.later h1 (aq.refl _) (aq.refl _) λ a x=>.inr x
   |bad=>rw[z]at h1;exact h1
   | ok d2 =>
    rw[z]at h1;intro v2 H2 B2 fp2 I2 s2 b2 r2 k2;have I4:=I2.qi (F':=F) λ a x=>.inr x;have h4:Goal X.K Y H0 B0 B2 H2 σ τ P F Q (FU (.tup xs) d2):=Goal.later h1 s2 b2;cases d2 with
    | int k =>
     simp only[FU]at h4;split at h4
     ·rename_i ns e;split at h4
      ·rename_i j hj;have ex:=fO e;subst ex;obtain⟨rfl,_⟩:=fN rl;obtain⟨rfl,_⟩:=r2;obtain⟨c1,c2⟩:=Bu hj;exact⟨a,ns,k,j,rfl,rfl,s2 a _ hq,c1,c2,Out.here h4 I4 ⟨rfl,rfl⟩⟩
      ·exact h4.elim
     ·exact h4.elim
    |_=>exact h4.elim
  |_=>cases hdc
 ·rw[Nu hdc]at h1;exact h1.elim
end
end DL
namespace XF
open PySem
def eX (cls:Value)(t:Addr)(tb:Value):Obj:={ cls:=cls,data:=.fields #[.ref t,tb,.none,.none,.bool false,.none] }
def Mt (cls:Value)(t:Addr)(tb x:Value):Obj.mapFields (·.setIfInBounds 1 x) (eX cls t tb)=eX cls t x:=rfl
section
variable {M:Model}{A:Around}{E:Value->Shared->Prop}{s:Shared}{B:Heap}{env:Env}{outer:List Env}{L e t:Addr}{cls tb head:Value}{Q:Unit->Shared->Prop}
end
end XF
namespace XF
open PySem PySem.Spec PyProof.Rows L2 DL
section
variable {K:PySem.W.Frag}{Y:XY}{H0 B0 B H:Hp}{σ:L2.St}{τ:SD}{P:List Addr}{F:Addr->Prop}{X:Cx}{pos p:Pos}{e:Expr}{es:List Expr}{fs:SD->Res (List D)}
end
end XF
namespace XF
open PySem
section
variable {prog:Program}{w:World}{A:Around}{E:Value->Shared->Prop}{s:Shared}
end
end XF
namespace XF
open PySem PySem.Spec PyProof.Rows L2 DL
section
variable {X:Cx}{tg:Expr}
end
section
variable {K:PySem.W.Frag}{Y:XY}{X:Cx}{tg elt iter:Expr}{ifs:List Expr}{scope:Scope}{pos:Pos}{own:List Str}{cap:List (Str×Nat)}{it:SD->Res (Bool×List D)}{tgd:uv}{tt:SD->Res Bool}{fe:SD->Res D}
end
end XF
namespace XF
open PySem
section
variable {M:Model}{A:Around}{E:Value->Shared->Prop}{h:Heap}{g:Array GenState}{d:Drawn}{t:Nat}{os:OsState}{e C D:Addr}{oe:Obj}{bm bn:List Value}{Q:Bool->Shared->Prop}
end
end XF
namespace XF
open PySem PySem.Spec PyProof.Rows L2 DL
section
variable {X:Cx}{pins:List (Addr×Obj)}{σ:L2.St}{H:Hp}{e C:Addr}{B:Heap}{s:Shared}
end
end XF
namespace XF
open PySem PySem.W PySem.Spec PyProof.Rows
section
variable {prog:Program}{w:World}{A:Around}{E:Value->Shared->Prop}{s:Shared}{K:Frag}{x C:Addr}{ox:Obj}
end
end XF
namespace XF
open PySem PySem.Spec PyProof.Rows L2 DL
section
variable {K:PySem.W.Frag}{Y:XY}{H0 B0 B H:Hp}{σ:L2.St}{τ:SD}{P:List Addr}{F:Addr->Prop}{X:Cx}{pos p pt:Pos}{e:Expr}{fe:SD->Res D}
end
section
variable {K:PySem.W.Frag}{mg:Str->Option Value}{x y:Str}{C D NE:Addr}{bm bd:List Value}
end
end XF
namespace L2
open PySem PySem.Spec PyProof.Rows
section
variable {X:Cx}
def KY (K:PySem.W.Frag):V->List V->Hp->VK->Prop:=λ x vs H Q=>∃ l b xs zs,x=.ref l/\vs=[.ref b]/\H l=some (.lst xs)/\(H b=some (.lst zs)\/H b=some (.tup zs))/\xs.length+zs.length<=sizeLine/\Q .bx (upd H l (.lst (xs++zs)))
def FZ:G1 X "list.extend" (KY X.K):=by
 intro pins s σ H x vs v us Q I rx rv h;obtain⟨l,b,xs,zs,rfl,rfl,hH,hB,hz,q⟩:=h;rcases hB with hB|hB
 ·exact sD pins s σ H _ _ v us Q I rx rv ⟨l,b,xs,zs,rfl,rfl,hH,hB,hz,q⟩
 cases rx;obtain⟨u,rfl,ru⟩:=rv.one;cases ru;obtain⟨z,its,n,r,hl,e⟩:=I.A1 hH;obtain⟨_,its2,r2,n2,e2⟩:=(show bZ X.prog X.w H s.heap b (.tup zs) from I.hok b _ hB);have hl2:=r2.length;have hsz:its.toArray.size+its2.toArray.size<=sizeLine:=by rw[Nh,Nh];omega
 have hlong:¬ (!its.toArray.isEmpty&&Builtin.List.listTooLong (its.toArray.size+its2.toArray.size))=true:=by
  rw[vE hsz,Bool.and_false];exact Nd
 refine QK F.slot_list_extend ⟨_,e,rfl⟩ F.entry_list_extend (F.args_list_extend_2 _ _)
  (AutoSeq1.list_extend_list_tuple_0 l its.toArray n b its2.toArray n2 hlong (by rw[Nh];omega) (by omega)) ⟨e,e2,?_⟩
 refine⟨.bx,_,I.Cu (its':=its++its2) hH e (by simp) (r.append r2) ?_,rfl,q⟩;rw[Nn];omega
end
end L2
namespace DL
open PySem PySem.Spec PyProof.Rows L2
section
variable {K:PySem.W.Frag}{Y:XY}{H0 B0 B H:Hp}{σ:L2.St}{τ:SD}{P:List Addr}{F:Addr->Prop}{X:Cx}{pos:Pos}{e:Expr}{fe:SD->Res D}
mutual
def D.plain:D->Bool
 |.tup xs=>kO xs
 |.lst _ _=>false
 |.dct _ _ _ _=>false
 |.exc _=>false
 |_=>true
def kO:List D->Bool
 |[]=>true
 |d::r=>d.plain&&kO r
end
mutual
def Rep.oB {B' H':Hp}{S S':Addr->Prop}(m:mS H H'):∀ {d:D}{v:V}{f:List Addr},d.plain=true->Rep K B S H d v f->f=[]/\Rep K B' S' H' d v []
 |.bx,v,f,_,r=>by obtain⟨h1,h2⟩:=r;exact⟨h2,h1,rfl⟩
 |.bl b,v,f,_,r=>by obtain⟨h1,h2⟩:=r;exact⟨h2,h1,rfl⟩
 |.int i,v,f,_,r=>by obtain⟨h1,h2⟩:=r;exact⟨h2,h1,rfl⟩
 |.str x,v,f,_,r=>by obtain⟨h1,h2⟩:=r;exact⟨h2,h1,rfl⟩
 | .tup xs,v,f,p,r=>by
  obtain⟨a,vs,e,h,rl⟩:=r;obtain⟨e2,r2⟩:=ai.oB m (d:=xs) p rl;exact⟨e2,a,vs,e,m a _ h (λ z=>z),r2⟩
 |.lst _ _,_,_,p,_=>by cases p
 |.dct _ _ _ _,_,_,p,_=>by cases p
 |.exc _,_,_,p,_=>by cases p
def ai.oB {B' H':Hp}{S S':Addr->Prop}(m:mS H H'):∀ {d:List D}{v:List V}{f:List Addr},kO d=true->ai K B S H d v f->f=[]/\ai K B' S' H' d v []
 |[],v,f,_,r=>by obtain⟨h1,h2⟩:=r;exact⟨h2,h1,rfl⟩
 | d::ds,v,f,p,r=>by
  obtain⟨x,w,f1,f2,e,r1,r2,ef⟩:=r;have p:(d.plain&&kO ds)=true:=p;rw[NQ]at p;obtain⟨e1,q1⟩:=Rep.oB m p.1 r1;obtain⟨e2,q2⟩:=ai.oB m p.2 r2;subst e1 e2;exact⟨ef,x,w,[],[],e,q1,q2,rfl⟩
end
def ai.dropLast {S:Addr->Prop}{xs:List D}{vs:List V}{f:List Addr}(r:ai K B S H xs vs f):∃ g,ai K B S H xs.dropLast vs.dropLast g/\List.Sublist g f:=by
 obtain⟨g,h1,h2⟩:=r.take (xs.length-1);have hl:=r.length;rw[List.dropLast_eq_take,List.dropLast_eq_take,<-hl];exact⟨g,h1,h2⟩
def F0 (j i:Nat)(xs:List D)(τ:SD):Option D->Fl
 |some d=>if d.plain=true then .nx ((τ.set i (some (.lst .own xs.dropLast))).set j (some d)) else .bad
 |none=>.bad
def FY (j i:Nat)(τ:SD):Fl:=match dE τ i with
 |some xs=>F0 j i xs τ xs[xs.length-1]?
 |none=>.bad
def s_pop (j i:Nat){x y:Str}{p0 p1 apos cpos:Pos}(hN:X.N.Nodup)(hj:X.N[j]?=some y)(hx:Loc X.env.scope y)(hi:X.N[i]?=some x:=by rfl)(hv:rD X.env.scope x:=by first|exact Or.inl rfl|exact Or.inr (Or.inl rfl)|exact Or.inr (Or.inr rfl))(hd:(x == ("__debug__" : Str))=false:=by decide)(hcd:(x == ("__classdict__" : Str))=false:=by decide)
  (hbase:attributeBase (.Name x p1) "pop" X.env (eval (.Name x p1) X.env)=eval (.Name x p1) X.env:=by rfl) (hline:(apos.endLine == cpos.line)=true:=by rfl)
  (hsw:swapsWith (.Call (.Attribute (.Name x p1) "pop" apos) [] [] cpos) (some (.Name y p0)) pos.line X.env=pure false:=by rfl) (hf:X.fn y=true\/X.env.scope.names.lookup y=some .local:=by first|exact .inl rfl|exact .inr rfl) :
  PS X (.Assign [.Name y p0] (.Call (.Attribute (.Name x p1) "pop" apos) [] [] cpos) pos) (jK X.K Y (FY j i)):=by
 refine PS.imp (xE hN hj hx (xG Ow PySem.F.slot_list_pop PySem.F.type_list_pop Cv (dm hi hv hd hcd) hbase hline) hsw hf) λ E σ H hq=>ex7 hq λ H0 B0 B τ P I h=>?_;unfold FY at h;cases z:dE τ i with
 |none=>rw[z]at h;exact h.elim
 | some xs =>
  rw[z]at h;replace h:b8 X.K Y H0 B0 B H E (F0 j i xs τ xs[xs.length-1]?):=h;have hi:=fM z;obtain⟨a,vs,ea,ha,hl⟩:=I.listAt hi;cases hd:xs[xs.length-1]? with
  |none=>rw[hd]at h;exact h.elim
  | some d =>
   rw[hd]at h;unfold F0 at h;split at h
   ·rename_i d' hp;cases hp;split at h
    ·rename_i hpl;obtain⟨v0,f0,g1,r0,_⟩:=I.rep.get hi;obtain⟨a',ws,g,ea',q',rl,_⟩:=r0;rw[ea]at g1;cases g1;cases ea';have hw:ws=vs:=by
      rw[ha]at q';cases q';rfl
     subst hw;obtain⟨v,f,hv',rv,_⟩:=rl.get hd;have hlast:ws[ws.length-1]?=some v:=by rw[<-hl];exact hv'
     refine⟨.ref a,ea,.inl ⟨rfl,ws,cY.of ha⟩,a,ws,v,rfl,rfl,ha,hlast,?_⟩;obtain⟨P',I'⟩:=I.Bg (xs':=xs.dropLast) (vs':=ws.dropLast) (gp:=[]) hi ea fR.nil (λ f _ rl=>by
      obtain⟨g,h1,h2⟩:=rl.dropLast;exact⟨g,h1,λ b m=>.inl (h2.subset m),λ nf _=>nf.sublist h2⟩) ha
     obtain⟨_,rv'⟩:=Rep.oB (B':=B) (S':=No) I'.vM hpl rv;obtain⟨P'',I'',_⟩:=I'.si.set j rv' fR.nil;exact h B _ _ P'' ⟨I'',I'.b,I'.vM⟩
    ·exact h.elim
   ·exact h.elim
def Mu:D->Res Bool
 |.bl b=>.ok b
 |.lst _ xs=>.ok (!xs.isEmpty)
 |.tup xs=>.ok (!xs.isEmpty)
 |_=>.bad
def JT (f:SD->Res D)(τ:SD):Res Bool:=(f τ).bind Mu
def wb {S:Addr->Prop}{xs:List D}{vs:List V}{f:List Addr}(r:ai K B S H xs vs f):(!vs.isEmpty) = !xs.isEmpty:=by
 have:=r.length;cases xs<;>cases vs<;>simp_all
def Dk {a:Expr}{fa:SD->Res D}(ha:PE X a (tM X.K Y fa))(he:∀ whole,isTrue a X.env whole=(do let v <-whole;standAt a.pos;holding [v] (truthy v)):=by intro _;rfl):PT X a (kq X.K Y (JT fa)):=
 PT.imp (Cm ha he) λ σ H Q hq=>ex8 hq λ H0 B0 B τ P F I h=>by
  refine⟨H0,B0,B,τ,P,F,I,?_⟩;unfold JT at h;cases e:fa τ with
  |bad=>rw[e]at h;exact h.elim|f7 C=>rw[e]at h;exact h
  | ok d =>
   rw[e]at h;intro v H' B' fp I' s b r k;cases d with
   |bl c=>obtain⟨rfl,rfl⟩:=r;exact⟨c,rfl,h H' B' I' s b⟩
   | lst t xs =>
    obtain⟨p,ws,g,rfl,q,l,_⟩:=Rep.lst I' r;exact⟨_,.inl ⟨ws,q,rfl⟩,by rw[wb l];exact h H' B' I' s b⟩
   | tup xs =>
    obtain⟨p,ws,rfl,q,l⟩:=Rep.tp r;exact⟨_,.inr (.inl ⟨ws,q,rfl⟩),by rw[wb l];exact h H' B' I' s b⟩
   |bx=>exact h.elim|int i=>exact h.elim|str x=>exact h.elim|dct t k2 ks vs=>exact h.elim|exc C=>exact h.elim
end
end DL
namespace SR
open PySem PySem.Spec PyProof.Rows PySem.W
variable {p:Array Nat}{n:Nat}{α:Type}
def fG {α:Type}(n:Nat)(L:α->Prop):KasT α->Prop
 |.ret a=>L a
 |.ask i j k=>i<n/\j<n/\∀ b,fG n L (k b)
def fG.bind {α β:Type}{n:Nat}{L:α->Prop}{L':β->Prop}{f:α->KasT β}(hf:∀ a,L a->fG n L' (f a)):∀ {t:KasT α},fG n L t->fG n L' (t.bind f)
 |.ret a,x=>by unfold KasT.bind;exact hf a x
 |.ask i j k,x=>by unfold KasT.bind;exact⟨x.1,x.2.1,λ b=>fG.bind hf (x.2.2 b)⟩
def ba {α:Type}(c:Nat->Nat->Bool):KasT α->α
 |.ret a=>a
 |.ask i j k=>ba c (k (c i j))
def fG.run {α:Type}{n:Nat}{L:α->Prop}(c:Nat->Nat->Bool):∀ {t:KasT α},fG n L t->L (ba c t)
 |.ret a,x=>x
 |.ask i j k,x=>show L (ba c (k (c i j))) from fG.run (n:=n) c (x.2.2 (c i j))
def fG.wp {α:Type}{n:Nat}{L:α->Prop}{c:Nat->Nat->Bool}{cmp:Nat->Nat->(Bool->Shared->Prop)->Shared->Prop}{Q:α->Shared->Prop}{s:Shared}(hc:∀ i j C,i<n->j<n->C (c i j) s->cmp i j C s):∀ {t:KasT α},fG n L t->Q (ba c t) s->KasT.kasWp cmp t Q s
 |.ret a,x,h=>by unfold KasT.kasWp;exact h
 |.ask i j k,x,h=>by unfold KasT.kasWp;exact hc i j _ x.1 x.2.1 (fG.wp hc (x.2.2 (c i j)) h)
abbrev Pm (n:Nat)(p:Array Nat):Prop:=p.Perm (List.range n).toArray
def Pm.get(h:Pm n p)(hn:0<n)(i:Nat):p.getD i 0<n:=by
 rw[N8];cases e:p[i]? with
 |none=>exact hn
 | some x =>
  have m:x∈p:=Array.mem_of_getElem? e;have m':x∈(List.range n).toArray:=h.mem_iff.mp m;have:x∈List.range n:=by simpa using m'
  exact NC.mp this
section
variable(hn:0<n)
include hn
theorem uH {p:Array Nat}(h:Pm n p):∀ f k,fG n (λ _=>True) (kas_asc p f k)
 |0,k=>by unfold kas_asc;exact trivial
 | f+1,k=>by
  unfold kas_asc;refine⟨h.get hn _,h.get hn _,λ b=>?_⟩;cases b
  ·exact uH h f (k+1)
  ·exact trivial
theorem nC:∀ f {p:Array Nat} k a,Pm n p->fG n (λ r=>Pm n r.1) (kas_desc f p k a)
 |0,p,k,a,h=>by unfold kas_desc;exact h
 | f+1,p,k,a,h=>by
  unfold kas_desc;refine⟨h.get hn _,h.get hn _,λ b=>?_⟩;cases b
  ·refine⟨h.get hn _,h.get hn _,λ b=>?_⟩;cases b
   ·exact nC f _ _ h
   ·exact h
  ·show fG n _ (if a>0 then kas_desc f (kas_rev p (k-(a+1)) k) (k+1) 0 else kas_desc f p (k+1) 0);split
   ·exact nC f _ _ ((mirror_perm p _ _ _).trans h)
   ·exact nC f _ _ h
theorem wc(h:Pm n p)(m r:Nat):fG n (λ r=>Pm n r.2) (kas_tail3 m r p):=by
 have h2:Pm n (kas_rev p 0 m):=(mirror_perm p _ _ _).trans h;unfold kas_tail3;exact fG.bind (L':=λ r:Nat×Array Nat=>Pm n r.2) (λ a _=>(show fG n _ (KasT.ret (a,kas_rev p 0 m)) from h2)) (uH hn h2 _ _)
theorem nz(h:Pm n p)(m r:Nat):fG n (λ r=>Pm n r.2) (kas_descPart m r p):=by
 unfold kas_descPart;refine fG.bind (λ a ha=>?_) (nC hn _ _ _ h);split
 ·exact wc hn ((mirror_perm a.1 _ _ _).trans ha) _ _
 ·exact wc hn ha _ _
theorem Bv(h:Pm n p)(r:Nat):fG n (λ r=>Pm n r.2) (kas_count r p):=by
 unfold kas_count;refine fG.bind (λ a _=>?_) (uH hn h _ _);split
 ·exact h
 ·split
  ·refine⟨h.get hn _,h.get hn _,λ b=>?_⟩;cases b
   ·exact nz hn ((mirror_perm p _ _ _).trans h) _ _
   ·exact h
  ·exact nz hn h _ _
theorem oE {p:Array Nat}(h:Pm n p)(k:Nat):∀ f a b,fG n (λ _=>True) (kas_place p k f a b)
 |0,a,b=>by unfold kas_place;exact trivial
 | f+1,a,b=>by
  unfold kas_place;split
  ·exact trivial
  ·refine⟨h.get hn _,h.get hn _,λ c=>?_⟩;cases c
   ·exact oE h k f _ _
   ·exact oE h k f _ _
theorem zP:∀ f {p:Array Nat} k,Pm n p->fG n (Pm n) (kas_bin f p k)
 |0,p,k,h=>by unfold kas_bin;exact h
 | f+1,p,k,h=>by
  unfold kas_bin;exact fG.bind (λ l _=>zP f _ ((bubble_perm p _ _).trans h)) (oE hn h k _ _ _)
theorem ny:fG n (Pm n) (kas_sort n):=by
 unfold kas_sort;refine fG.bind (λ r hr=>?_) (Bv hn (Array.Perm.refl _) n);split
 ·exact zP hn _ _ hr
 ·exact hr
end
def ordered(d:α)(c:Nat->Nat->Bool)(vs:List α):List α:=if vs.length<2 then vs else (ba c (kas_sort vs.length)).toList.map λ i=>vs.getD i d
def nD(d:α)(c:Nat->Nat->Bool)(vs:List α):(ordered d c vs).Perm vs:=by
 unfold ordered;split
 ·exact Ox _
 ·rename_i h;have hp:=OX.mp (fG.run (L:=Pm vs.length) c (ny (n:=vs.length) (by omega)));have hp':(ba c (kas_sort vs.length)).toList.Perm (List.range vs.length):=by simpa using hp
  refine(hp'.map _).trans ?_;have e3:(List.range vs.length).map (λ i=>vs.getD i d)=vs:=by
   refine OS (by simp) λ i h1 h2=>?_;simp;rw[M9 h2];rfl
  rw[e3]
def yc(M:Model)(A:Around)(h:Heap)(t:Sem α)(r:α):Prop:=∀ (Q:α->Shared->Prop) (E:Value->Shared->Prop) (s:Shared),(∀ b o,h.get? b=some o->s.heap.get? b=some o)->Q r s->wpAny M A t Q E s
def yb (M:Model)(A:Around)(h:Heap)(ks:List Value)(c:Nat->Nat->Bool):Prop:=2<=ks.length->∃ κ,yc M A h (keyKind' ks.toArray) κ/\∀ i j,i<ks.length->j<ks.length->yc M A h (keyLt' κ (ks.getD i .none) (ks.getD j .none)) (c i j)
section
variable {prog:Program}{w:World}{A:Around}{E:Value->Shared->Prop}{s:Shared}{a:Addr}{vs:List Value}{h:Heap}{P:Fin->Shared->Prop}
def rN (ho:s.heap.get? a=some (seqObj "list" vs.toArray n))(hl:vs.length<64){c:Nat->Nat->Bool}(K:yb (model prog w) A h vs c)(hx:∀ b o,h.get? b=some o->b≠a/\s.heap.get? b=some o)
  (hP:P (.done (.ret .none)) { s with heap:=sortedHeap s.heap a vs (ordered .none c vs).toArray }) :
  wpAny (model prog w) A (Builtin.«list.sort» ⟨[.ref a],[]⟩) P E s:=by
 rw[list_sort_plain];refine M6 (listItems_at ho rfl ?_);refine M6 ?_;show wpAny _ _ (updateSeq a λ _=>#[]) _ _ _;refine QX ho rfl ?_ (by simp[Oc];omega) (by simp);have ho1:=O2 (Obj.mapSeq λ _=>(#[]:Array Value)) ho rfl;refine M6 (seqEpoch_at ho1 rfl ?_);refine M6 (wpAny_newTuple ?_ (by simp[Oc];omega));refine M6 (wpAny_newList ?_ (by simp));refine O6 ?_;have ho3:((((s.heap.update a (Obj.mapSeq λ _=>(#[]:Array Value))).push (seqObj "tuple" vs.toArray 0)).push (seqObj "list" #[] 0))).get? a=some (Obj.mapSeq (λ _=>#[]) (seqObj "list" vs.toArray n)):=M8 _ (M8 _ ho1);have hx3:∀ b o,h.get? b=some o->((((s.heap.update a (Obj.mapSeq λ _=>(#[]:Array Value))).push (seqObj "tuple" vs.toArray 0)).push (seqObj "list" #[] 0))).get? b=some o:=λ b o e=>by
  obtain⟨h1,h2⟩:=hx b o e;exact M8 _ (M8 _ ((Pk _ _ (OV h1)).trans h2))
 dsimp only;have zs:(vs.toArray.zip vs.toArray).map (λ x=>x.2)=vs.toArray:=by
  apply Array.ext
  ·simp
  ·intro i h1 h2;simp
 have fin:∀ (st:SortSt) (k:Nat->Sem PySem.Fin),failedOf st=none->(arrOf st).map (λ x=>x.2)=(ordered Value.none c vs).toArray->(∀ Q:PySem.Fin->Shared->Prop,∀ s',Q (.done (.ret .none)) s'->wpAny (model prog w) A (k (if ((#[]:Array Value).size == vs.toArray.size)=true then n else n+1)) Q E s') ->
   wpAny (model prog w) A (do let e <-seqEpoch a;Builtin.List.listUpdate (.ref a) λ _=>(arrOf st).map (λ x=>x.2);k e) P E { s with heap:=(((s.heap.update a (Obj.mapSeq λ _=>(#[]:Array Value))).push (seqObj "tuple" vs.toArray 0)).push (seqObj "list" #[] 0)) }:=by
  intro st k hf hp hk;refine M6 (seqEpoch_at ho3 rfl ?_);refine M6 ?_;show wpAny _ _ (updateSeq a λ _=>(arrOf st).map (λ x=>x.2)) _ _ _;rw[hp];have hlen:(ordered Value.none c vs).toArray.size=vs.length:=by rw[Nh,(nD _ _ _).length_eq]
  refine QX ho3 rfl ?_ (by simp) (by simp only[hlen,Oc];omega);exact hk _ _ hP
 by_cases h2:vs.toArray.size<2
 ·rw[Nr h2];refine M6 (Nc ?_);rw[Nr h2];refine M6 (show wpAny _ _ (pure ((),SortSt.mk' general' (vs.toArray.zip vs.toArray) #[] 7 none)) _ _ _ from Nc ?_);refine fin (SortSt.mk' general' (vs.toArray.zip vs.toArray) #[] 7 none) _ rfl ?_ λ Q s' hQ=>?_
  ·show(vs.toArray.zip vs.toArray).map (λ x=>x.2)=_;rw[zs];unfold ordered;rw[Nr (by simpa using h2)]
  ·show wpAny _ _ (if _ then _ else ret Value.none) _ _ _;rw[Nu (by simp)];exact Nc hQ
 ·have h2':2<=vs.length:=by simpa using h2
  obtain⟨κ,k1,k2⟩:=K h2';rw[Nu h2];refine M6 (k1 _ _ _ hx3 ?_);rw[Nu h2];have hn:0<vs.length:=by omega
  have run:=kat_run (prog:=prog) (w:=w) (A:=A) (E:=E) (s:={ s with heap:=(((s.heap.update a (Obj.mapSeq λ _=>(#[]:Array Value))).push (seqObj "tuple" vs.toArray 0)).push (seqObj "list" #[] 0)) }) (κ:=κ) (ks:=vs) (vs:=vs) (Q:=λ st s'=>failedOf st=none/\s'={ s with heap:=(((s.heap.update a (Obj.mapSeq λ _=>(#[]:Array Value))).push (seqObj "tuple" vs.toArray 0)).push (seqObj "list" #[] 0)) }/\(arrOf st).map (λ x=>x.2)=(ordered Value.none c vs).toArray) (G:=λ p s'=>p=ba c (kas_sort vs.length)/\s'={ s with heap:=(((s.heap.update a (Obj.mapSeq λ _=>(#[]:Array Value))).push (seqObj "tuple" vs.toArray 0)).push (seqObj "list" #[] 0)) }) rfl h2' hl (λ p st' s' hs he hf hG=>by
   obtain⟨hp,hs'⟩:=hG;refine⟨hf,hs',?_⟩;have e1:(arrOf st').map (λ x=>x.2)=p.map λ i=>vs.getD i .none:=by
    rw[he,Array.map_map];refine Array.map_congr_left λ i hi=>?_;have:=kas_item_eq vs i;show(kas_item (vs.toArray.zip vs.toArray) i).2=_;have e:vs.toArray.zip vs.toArray=pairsOf vs:=rfl;rw[e,this]
   rw[e1,hp];unfold ordered;rw[Nu (by omega)];exact Array.toList_inj.mp (by rw[Array.toList_map])) (fG.wp (n:=vs.length) (c:=c) (λ i j C hi hj hC=>k2 i j hi hj _ _ _ hx3 hC) (ny hn) ⟨rfl,rfl⟩)
  refine M6 (O3 run (λ r s' hr=>?_) λ _ _ x=>x);obtain⟨hf,rfl,hp⟩:=hr;refine fin r.2 _ hf hp λ Q s' hQ=>?_;rw[hf];show wpAny _ _ (if _ then _ else ret Value.none) _ _ _;rw[Nu (by simp)];exact Nc hQ
def ya(hL:s.heap.IsList a vs.toArray)(hl:vs.length<64){c:Nat->Nat->Bool}(K:yb (model prog w) A.in1.in1 s.heap vs c){Q:Value->Shared->Prop}
  (hQ:∀ (h':Heap) (q:Addr),(∀ b o,s.heap.get? b=some o->h'.get? b=some o)->s.heap.objs.size<=q->(∃ e,h'.get? q=some (seqObj "list" (ordered .none c vs).toArray e))->Q (.ref q) { s with heap:=h' }) :
  wpAny (model prog w) A (call (.builtin "sorted") [.ref a]) Q E s:=by
 refine Calls.call_function_entry kind_sorted plain_sorted entry_sorted (args_sorted1 _) ?_;unfold Builtin.«sorted»;refine M6 (m:=checkCount "sorted" 1 1 _) (Nc ?_);refine M6 (collect_list (A:=A.in1) hL ?_ (by rw[Oc];omega));have hlt:a<s.heap.objs.size:=by obtain⟨o,ho,_⟩:=hL;exact Nl ho
 generalize hh1:(s.heap.push (seqObj "list" #[] 0)).update s.heap.objs.size (Obj.mapSeq λ x=>x++vs.toArray)=h1;have kp:∀ b o,s.heap.get? b=some o->h1.get? b=some o:=λ b o e=>by
  rw[<-hh1];exact(Pk _ _ (OV (NH (Nl e)))).trans (M8 _ e)
 have hsz:s.heap.objs.size<=h1.objs.size:=by
  obtain⟨o,ho,_⟩:=hL;have e0:(s.heap.push (seqObj "list" #[] 0)).get? s.heap.objs.size=some (seqObj "list" #[] 0):=Nj _ rfl;have e1:=O2 (Obj.mapSeq λ x=>x++vs.toArray) e0 rfl;rw[hh1]at e1;exact Ph (Nl e1)
 refine M6 (wpAny_newList ?_ (by rw[Oc];omega));have hoL:(h1.push (seqObj "list" vs.toArray 0)).get? h1.objs.size=some (seqObj "list" vs.toArray 0):=Nj _ rfl;show wpAny _ _ _ _ _ ({ s with heap:=h1.push (seqObj "list" vs.toArray 0) }:Shared);refine M6 (O6 (N1 slot_list_sort ⟨_,hoL,rfl⟩ entry_list_sort (rN (h:=s.heap) hoL hl K (λ b o e=>⟨NH (Nl (kp b o e)),M8 _ (kp b o e)⟩) ⟨_,rfl,?_⟩) (args_list_sort _)));refine Nc ⟨_,rfl,hQ _ h1.objs.size (λ b o e=>?_) hsz (sortedHeap_at hoL)⟩;have hlt:=Nl (kp b o e);have hne:b≠h1.objs.size:=NH hlt;have sh:(sortedHeap (h1.push (seqObj "list" vs.toArray 0)) h1.objs.size vs (ordered Value.none c vs).toArray).get? b=(h1.push (seqObj "list" vs.toArray 0)).get? b:=sortedHeap_old hne (by rw[Oo];exact P9 hlt);show(sortedHeap (h1.push (seqObj "list" vs.toArray 0)) h1.objs.size vs (ordered Value.none c vs).toArray).get? b=some o;rw[sh];exact M8 _ (kp b o e)
end
section
variable {prog:Program}{w:World}{h:Heap}
end
end SR
namespace L2
open PySem PySem.Spec PyProof.Rows
section
variable {X:Cx}
def wd {f:Nat->V}{g:Nat->Value}:∀ {is:List Nat},(∀ i∈is,RelV (f i) (g i))->Vals (is.map f) (is.map g)
 |[],_=>.nil
 |i::r,h=>.cons (h i Na) (wd λ j m=>h j (Nb _ m))
def Vals.getD {ws:List V}{its:List Value}(r:Vals ws its):∀ i,i<ws.length->RelV (ws.getD i .bx) (its.getD i .none):=λ i hi=>by
 have e:ws[i]?=some (ws[i]):=M9 hi;obtain⟨u,hu,ru⟩:=r.get e;rw[Nf,Nf,e,hu];exact ru
def Vals.ordered {ws:List V}{its:List Value}(r:Vals ws its)(c:Nat->Nat->Bool):Vals (SR.ordered .bx c ws) (SR.ordered .none c its):=by
 have hl:=r.length;unfold SR.ordered;rw[<-hl];split
 ·exact r
 ·rename_i h;refine wd λ i m=>r.getD i ?_;have hp:=OX.mp (SR.fG.run (L:=SR.Pm ws.length) c (SR.ny (n:=ws.length) (by omega)));have hp':(SR.ba c (PySem.W.kas_sort ws.length)).toList.Perm (List.range ws.length):=by simpa using hp
  exact NC.mp (hp'.mem_iff.mp m)
end
end L2
namespace DL
open PySem PySem.Spec PyProof.Rows L2
section
variable {K:PySem.W.Frag}{Y:XY}{H0 B0 B H:Hp}{σ:L2.St}{τ:SD}{P:List Addr}{F:Addr->Prop}
end
end DL
namespace L2
open PySem PySem.Spec PyProof.Rows
section
variable {X:Cx}
def least (ns:List Int):Int:=ns.getD (argBest (λ i j=>decide (ns.getD i 0<ns.getD j 0)) (ns.length-1)) 0
def we:∀ {ns:List Int}{its:List Value},Vals (ns.map V.int) its->∃ xs:Array (Int×Tok),intItems xs=its.toArray/\xs.size=ns.length/\∀ i,numAt xs i=ns.getD i 0:=by
 intro ns its r;have h:∃ ts:List Tok,its=(ns.zip ts).map (λ p=>Value.int p.1 p.2)/\ts.length=ns.length:=by
  induction ns generalizing its with
  |nil=>cases r;exact⟨[],rfl,rfl⟩
  | cons n ns ih =>
   cases r with
   | cons r1 r2 =>
    obtain⟨t,rfl⟩:=r1;obtain⟨ts,rfl,hl⟩:=ih r2;exact⟨t::ts,rfl,by rw[Ny,Ny,hl]⟩
 obtain⟨ts,rfl,hl⟩:=h;refine⟨(ns.zip ts).toArray,?_,by simp[hl],λ i=>?_⟩
 ·unfold intItems;simp
 ·unfold numAt;by_cases hi:i<ns.length
  ·simp[hi,hl]
  ·simp[hi,hl]
def Bw (hc:X.calm=true):eY X (.builtin "min") (λ xs H Q=>∃ (a:Addr) (ns:List Int),xs=[.ref a]/\cY X.K H a (ns.map V.int)/\0<ns.length/\Q (.int (least ns)) H):=by
 intro pins s σ H xs us Q I r h;obtain⟨a,ns,rfl,hq,hn,q⟩:=h;obtain⟨u,rfl,ru⟩:=vals1 r;cases ru;obtain⟨its,rv,pl,hz⟩:=I.list hq;obtain⟨ys,e1,e2,e3⟩:=we rv;refine min_intList (xs:=ys) (I.ok.hd hc) (by rw[e1];exact pl.isList) (by omega) λ v h' tk hv kp=>?_;obtain⟨t,rfl⟩:=intItems_at hv;have e:numAt ys (argBest (λ i j=>decide (numAt ys i<numAt ys j)) (ys.size-1))=least ns:=by
  unfold least;rw[e3,e2];simp only[e3]
 rw[e];exact⟨.int (least ns),H,I.kept (t':=tk) kp,⟨t,rfl⟩,q⟩
end
end L2
namespace DL
open PySem PySem.Spec PyProof.Rows L2
section
variable {K:PySem.W.Frag}{Y:XY}
def wg:List D->Res D
 |[.lst _ xs]=>match intsOf xs with|some ns=>if 0<ns.length then .ok (.int (least ns)) else .bad|none=>.bad
 |_=>.bad
def IV:kL K Y (λ xs H Q=>∃ (a:Addr) (ns:List Int),xs=[.ref a]/\cY K H a (ns.map V.int)/\0<ns.length/\Q (.int (least ns)) H) wg:=by
 intro H0 B0 B H σ τ P F ds vs f Q I r k h;unfold wg at h;split at h
 ·obtain⟨v,rfl,r'⟩:=lY r;obtain⟨a,ws,g,rfl,q,l,s⟩:=r'.lst I;split at h
  ·rename_i ns e;split at h
   ·rename_i hl;have ex:=fO e;subst ex;obtain⟨rfl,rfl⟩:=fN l;exact⟨a,ns,rfl,gO q,hl,Out.here h I ⟨rfl,rfl⟩⟩
   ·exact h.elim
  ·exact h.elim
 ·exact h.elim
end
end DL
namespace SR
open PySem PySem.Spec PyProof.Rows PySem.W
section
variable {prog:Program}{w:World}{A:Around}{E:Value->Shared->Prop}{s:Shared}{a:Addr}{vs:List Value}{n:Nat}{f:Value}{kz:List Int}{P:Fin->Shared->Prop}{Base:List Int->Shared->Prop}
end
section
variable {prog:Program}{w:World}{A:Around}{E:Value->Shared->Prop}{s:Shared}{vs:List Value}{l q:Addr}
end
end SR
namespace L2
open PySem PySem.Spec PyProof.Rows
section
variable {X:Cx}{k:Nat}{f l:Addr}{fd:FuncData}{ps:List Str}{sp:Sp}{pins:List (Addr×Obj)}{s:Shared}{σ:St}{H:Hp}{ws:List V}{Q:VK}
end
section
variable {X:Cx}{k:Nat}{ps:List Str}{sp:Sp}
end
end L2
namespace DL
open PySem PySem.Spec PyProof.Rows L2
section
variable {K:PySem.W.Frag}{Y:XY}{H0 B0 B H:Hp}{σ:L2.St}{τ:SD}{P:List Addr}{F:Addr->Prop}{X:Cx}{G:DF}
end
section
variable {K:PySem.W.Frag}{Y:XY}{H0 B0 B H:Hp}{σ:L2.St}{τ:SD}{P:List Addr}{F:Addr->Prop}{X:Cx}{pos p:Pos}{e:Expr}{es:List Expr}{fs:SD->Res (List D)}
end
section
variable {P:Program}{w:World}{K:PySem.W.Frag}{mg:Str->Option Value}{base:Heap}
end
section
variable {Y:XY}{X:Cx}{pos:Pos}{a b c:Expr}{fa fb fc:SD->Res D}
end
end DL
namespace L2
open PySem PySem.Spec PyProof.Rows
end L2
namespace DL
open PySem PySem.Spec PyProof.Rows L2
section
variable {X:Cx}{Y:XY}{o e:Expr}{fo fe:SD->Res D}{apos cpos:Pos}
end
end DL
namespace XF
open PySem PySem.Spec PyProof.Rows L2 DL
end XF
namespace L2
open PySem PySem.Spec PyProof.Rows
section
variable {X:Cx}
section
variable {prog:Program}{w:World}{A:Around}{R:Result->Shared->Prop}{it:Addr}{fp wr:List Addr}{n:Nat}{P:Nat->Value->Prop}{St:Nat->Heap->Prop}{d:Value}
end
def nE {ns:List Int}{its:List Value}(r:Vals (ns.map V.int) its){i:Nat}{v:Value}(h:its.toArray[i]?=some v):∃ t,v=.int (ns.getD i 0) t:=by
 have h:its[i]?=some v:=by simpa using h
 have hl:=r.length;rw[M7]at hl;have hi:i<its.length:=(Ng.mp h).1;obtain⟨u,hu,ru⟩:=r.get (show(ns.map V.int)[i]?=some (.int (ns.getD i 0)) by
  rw[NG,M9 (by omega:i<ns.length),Nf,M9 (by omega:i<ns.length)];rfl)
 rw[hu]at h;cases h;obtain⟨t,rfl⟩:=ru;exact⟨t,rfl⟩
def in1_units (A:Around):A.in1.units=A.units+1:=rfl
end
end L2
namespace DL
open PySem PySem.Spec PyProof.Rows L2
section
variable {K:PySem.W.Frag}{Y:XY}{H0 B0 B H:Hp}{σ:L2.St}{τ:SD}{P:List Addr}{F:Addr->Prop}{E:Ends}{X:Cx}{pos:Pos}{e c:Expr}{fe:SD->Res D}{gc:SD->Res Bool}
end
end DL
namespace L2
open PySem PySem.Spec PyProof.Rows
section
variable {X:Cx}
end
end L2
namespace DL
open PySem PySem.Spec PyProof.Rows L2
section
variable {K:PySem.W.Frag}{Y:XY}
end
end DL
namespace L2
open PySem PySem.Spec PyProof.Rows
variable {X:Cx}
end L2
namespace DL
open PySem PySem.Spec PyProof.Rows L2
variable {F:Addr->Prop}{X:Cx}{e elt iter tg:Expr}{B B0 H H0:Hp}{σ:L2.St}{P:List Addr}{es:List Expr}{p pos:Pos}{τ:SD}{fe:SD->Res D}{scope:Scope}{x:Str}{Y:XY}
variable {K:PySem.W.Frag}
section
variable{fs:SD->Res (List D)}
end
section
variable (K:PySem.W.Frag)(H0 B0 B H:Hp)(σ:L2.St)(P:List Addr)(F:Addr->Prop)
end
section
variable{fs:SD->Res (List D)}
end
section
variable{f:SD->Res (D×SD)}
end
section
variable{own:List Str}{it:SD->Res (Bool×List D)}
end
section
def c9.drop:∀ {τ:SD}{σ:L2.St}{P:List Addr}{i:Nat}{d:D},c9 K B H τ σ P->τ[i]?=some (some d)->∃ v A f C,σ[i]?=some (some v)/\Rep K B No H d v f/\P=A++f++C/\c9 K B H (τ.set i none) σ (A++C)
 |[],_,_,i,_,_,e=>by simp at e
 |none::r,σ,P,0,d,h,e=>by simp at e
 | none::r,σ,P,i+1,d,h,e=>by
  obtain⟨o,t,rfl,h⟩:=h;obtain⟨v,A,f,C,h1,h2,h3,h4⟩:=c9.drop (i:=i) h (by simpa using e);exact⟨v,A,f,C,by simpa using h1,h2,h3,⟨o,t,rfl,h4⟩⟩
 | some d::r,σ,P,0,d',h,e=>by
  obtain⟨v,t,f,g,rfl,h1,h2,rfl⟩:=h;have e:d=d':=by simpa using e
  subst e;exact⟨v,[],f,g,rfl,h1,rfl,⟨some v,t,rfl,h2⟩⟩
 | some d::r,σ,P,i+1,d',h,e=>by
  obtain⟨v,t,f,g,rfl,h1,h2,rfl⟩:=h;obtain⟨w,A,f',C,a1,a2,a3,a4⟩:=c9.drop (i:=i) h2 (by simpa using e);subst a3;exact⟨w,f++A,f',C,by simpa using a1,a2,by simp,⟨v,t,f,A++C,rfl,h1,a4,by simp⟩⟩
def Dl (f:SD->Res D)(i:Nat)(τ:SD):Fl:=(f τ).i8 τ λ d=>if d.az=true then .bad else match τ[i]? with|some (some u)=>.rt (.tup [d,u])|_=>.bad
def IX (i:Nat){x1:Nat}{pos' pt:Pos}(he:PE X e (tM X.K Y fe))(hN:X.N[i]?=some x:=by rfl)(hv:rD X.env.scope x:=by first|exact Or.inl rfl|exact Or.inr (Or.inl rfl)|exact Or.inr (Or.inr rfl))(hd:(x == ("__debug__" : Str))=false:=by decide)
  (hcd:(x == ("__classdict__" : Str))=false:=by decide) (hl:Y.ln=false:=by rfl) (hs:starEach [e,.Name x pos'] X.env=(false,eval e X.env)::starEach [.Name x pos'] X.env:=by rfl) (hs2:starEach [.Name x pos'] X.env=(false,eval (.Name x pos') X.env)::starEach [] X.env:=by rfl) :
  PS X (.Return (some (.Tuple [e,.Name x pos'] x1 pt)) pos) (jK X.K Y (Dl fe i)):=by
 refine PS.imp (pV (Cp (x1:=x1) (cT he (cT (dm hN hv hd hcd) fE hs2) hs))) λ E σ H hq=>ex7 hq λ H0 B0 B τ P I h=>?_;refine lZ I h λ d v H1 B1 fp _ I1 s1 b1 r1 k1 h1=>?_;split at h1
 ·exact h1.elim
 ·rename_i hb;split at h1
  ·rename_i u e;obtain⟨w,g,q1,q2,q3⟩:=I1.rep.get e;refine⟨w,q1,by rw[Oc];show 2<=_;decide,λ p hp=>?_⟩;have s:=dY (o:=.tup [v,w]) hp;refine(b8.rt hl h1) B1 _ (.ref p) (fp++g) ⟨I1.h0.trans s,I1.b0,I1.bh.trans s,I1.nb,⟨p,[v,w],rfl,aK,v,[w],fp,g,rfl,(r1.gD (by simpa using hb)).mono s (aq.refl _) (λ _ x=>x),ai.one (q2.mono s (aq.refl _) λ _ x=>x),rfl⟩,Np.mpr ⟨k1.nd,I1.nd.sublist q3,λ a ha b hb e=>?_⟩,λ a m=>?_⟩
   ·subst e;exact(k1.own a ha).2.2.2.1 (q3.subset hb)
   ·rcases Nk.mp m with m|m
    ·obtain⟨a1,a2,a3,_⟩:=k1.own a m;exact⟨a1,a2,λ z=>a3 (s.free z)⟩
    ·obtain⟨a1,a2,_⟩:=I1.own a (q3.subset m);exact⟨a1,a2,λ z=>I1.stands (q3.subset m) (s.free z)⟩
  ·exact h1.elim
def zR (i j:Nat)(τ:SD):Fl:=match dE τ i,dE τ j with
 |some xs,some ys=>if kO ys=true/\xs.length+ys.length<=16777216 then .nx (τ.set i (some (.lst .own (xs++ys)))) else .bad
 |_,_=>.bad
def IW (i j:Nat){y:Str}{p1 p2 apos cpos:Pos}(hN:X.N[i]?=some x:=by rfl)(hM:X.N[j]?=some y:=by rfl)(hv:rD X.env.scope x:=by first|exact Or.inl rfl|exact Or.inr (Or.inl rfl)|exact Or.inr (Or.inr rfl))(hw:rD X.env.scope y:=by first|exact Or.inl rfl|exact Or.inr (Or.inl rfl)|exact Or.inr (Or.inr rfl))
  (hd:(x == ("__debug__" : Str))=false:=by decide) (hcd:(x == ("__classdict__" : Str))=false:=by decide) (hd':(y == ("__debug__" : Str))=false:=by decide) (hcd':(y == ("__classdict__" : Str))=false:=by decide)
  (hbase:attributeBase (.Name x p1) "extend" X.env (eval (.Name x p1) X.env)=eval (.Name x p1) X.env:=by rfl)
  (hfew:((backTo cpos (starEach [.Name y p2] X.env)).all (λ x=>!x.1)&&(backToKw cpos (keywordEach [] X.env)).all (λ x=>x.1.isSome)
   && decide (([.Name y p2]:List Expr).length+([]:List Keyword).length+(if ([]:List Keyword).isEmpty then 0 else 1)<30))=true:=by rfl)
  (hline:(apos.endLine == cpos.line)=true:=by rfl) (hs:starEach [.Name y p2] X.env=(false,eval (.Name y p2) X.env)::starEach [] X.env:=by rfl) (hplain:(backTo cpos (starEach [] X.env)).any (·.1)=false:=by rfl)
  (hsw:swapsWith (.Call (.Attribute (.Name x p1) "extend" apos) [.Name y p2] [] cpos) none pos.line X.env=pure false:=by rfl) :
  PS X (.Expr (.Call (.Attribute (.Name x p1) "extend" apos) [.Name y p2] [] cpos) pos) (jK X.K Y (zR i j)):=by
 refine PS.imp (jO (p7 Ow PySem.F.slot_list_extend PySem.F.type_list_extend FZ (dm hN hv hd hcd) (cT (dm hM hw hd' hcd') fE hs) hbase hfew hline hs hplain) hsw) λ E σ H hq=>ex7 hq λ H0 B0 B τ P I h=>?_;unfold zR at h;split at h
 ·rename_i xs ys z z';split at h
  ·rename_i hc;have hi:=fM z;obtain⟨a,vs,ea,ha,hl⟩:=I.listAt hi;obtain⟨w,f,h1,r,s⟩:=I.rep.get (fM z');obtain⟨b,ws,g,rfl,hb,rl,rfl⟩:=r;have hl2:=rl.length;refine⟨.ref a,ea,.inl ⟨rfl,vs,cY.of ha⟩,.ref b,h1,a,b,vs,ws,rfl,rfl,ha,.inl hb,by rw[<-hl,<-hl2,Oc];exact hc.2,?_⟩;obtain⟨_,rl3⟩:=ai.oB (B':=B) (S':=No) (mS.refl H) hc.1 rl;obtain⟨P',I'⟩:=I.Bg (xs':=xs++ys) (vs':=vs++ws) (gp:=[]) hi ea fR.nil (λ g _ rl=>⟨g++[],rl.append rl3,λ b m=>by rw[NX]at m;exact .inl m,λ nf _=>by rw[NX];exact nf⟩) ha;exact h B _ σ P' I'
  ·exact h.elim
 ·exact h.elim
end
section
variable{f:SD->Res (D×SD)}
end
section
variable{ifs:List Expr}{own:List Str}{cap:List (Str×Nat)}{it:SD->Res (D×SD)}{tgd:uv}{tt:SD->Res Bool}
end
section
variable{a b:Expr}{fa fb:SD->Res D}{fs:SD->Res (List D)}
def f9{id:String}{r:List V->Hp->VK->Prop}{g:List D->Res D}(hc:eY X (.builtin id) r)(hgd:kL X.K Y r g)(hm:X.mg x=none)(ha:PA X (e::es) (pL X.K Y fs))(hv:bootBuiltins x=some (.builtin id):=by decide +kernel)(hg:Gl X x:=by rfl)(hn:x ≠ "__name__" :=by decide)(hdb:(x == ("__debug__" : Str))=false:=by decide)
  (he:starEach (e::es) X.env=(false,eval e X.env)::starEach es X.env:=by rfl) (hpl:(backTo pos (starEach es X.env)).any (·.1)=false:=by rfl):PE X (.Call (.Name x p) (e::es) [] pos) (tM X.K Y (eA g fs)):=FF hc hgd hg hm hv ha hn hdb he hpl
def IY{id:String}{r:List V->Hp->VK->Prop}{g:List D->Res D}(hc:eY X (.type id) r)(hgd:kL X.K Y r g)(hm:X.mg x=none)(ha:PA X (e::es) (pL X.K Y fs))(hv:bootBuiltins x=some (.type id):=by decide +kernel)(hg:Gl X x:=by rfl)(hn:x ≠ "__name__" :=by decide)(hdb:(x == ("__debug__" : Str))=false:=by decide)
  (he:starEach (e::es) X.env=(false,eval e X.env)::starEach es X.env:=by rfl) (hpl:(backTo pos (starEach es X.env)).any (·.1)=false:=by rfl):PE X (.Call (.Name x p) (e::es) [] pos) (tM X.K Y (eA g fs)):=CU hc hgd hg hm hv ha hn hdb he hpl
def cP (ha:PE X a (tM X.K Y fa))(hb:PE X b (tM X.K Y fb))(hs:uf b:=by intro _ _;rfl):PE X (.Subscript a b pos) (tM X.K Y (ah cS fa fb)):=Mi Ie Ml ha hb hs
def IZ {op:CmpOp}{r:R2}{g:D->D->Res D}(ho:jj X (compareOp op) r)(hg:ou X.K Y r g)(ha:PE X a (tM X.K Y fa))(hb:PE X b (tM X.K Y fb))(hm:behindInMarks op b=false:=by first|exact pZ _|with_unfolding_all rfl):PE X (.Compare a [op] [b] pos) (tM X.K Y (ah g fa fb)):=Ky ho hg ha hb hm
def aL {op:CmpOp}{r:R2}{g:D->D->Res D}(ho:jj X (compareOp op) r)(hg:ou X.K Y r g)(ha:PE X a (tM X.K Y fa))(hb:PE X b (tM X.K Y fb))(hm:behindInMarks op b=false:=by first|exact pZ _|with_unfolding_all rfl):PT X (.Compare a [op] [b] pos) (kq X.K Y (eT (ah g fa fb))):=kJ ho hg ha hb hm
def jy (ha:PE X e (tM X.K Y fe))(hs:starEach [e] X.env=(false,eval e X.env)::starEach [] X.env:=by rfl):PA X [e] (pL X.K Y (ae fe ao)):=aO ha c5 hs
def j5 (ha:PE X e (tM X.K Y fe))(hb:PE X b (tM X.K Y fb))(hs:starEach [e,b] X.env=(false,eval e X.env)::starEach [b] X.env:=by rfl)(hs2:starEach [b] X.env=(false,eval b X.env)::starEach [] X.env:=by rfl):PA X [e,b] (pL X.K Y (ae fe (ae fb ao))):=aO ha (jy hb hs2) hs
def aW{pos':Pos}(i:Nat)(hN:X.N.Nodup)(he:PE X e (tM X.K Y fe))(hi:X.N[i]?=some x:=by rfl)(hx:Loc X.env.scope x:=by first|exact Or.inl rfl|exact Or.inr rfl)(hs:swapsWith e (some (.Name x pos')) pos.line X.env=pure false:=by rfl)(hf:X.fn x=true\/X.env.scope.names.lookup x=some .local:=by first|exact .inl rfl|exact .inr rfl) :
  PS X (.Assign [.Name x pos'] e pos) (jK X.K Y (aS i fe)):=KI hN hi hx he hs hf
def aR(i:Nat)(hN:X.N.Nodup)(hi:X.N[i]?=some x:=by rfl)(hx:Loc X.env.scope x:=by first|exact Or.inl rfl|exact Or.inr rfl)(hf:X.fn x=true\/X.env.scope.names.lookup x=some .local:=by first|exact .inl rfl|exact .inr rfl):PG X (.Name x pos) (FL X.K (gN i)):=IB hN hi hx hf
def aZ {k m:Nat}{ps:List Str}{G:DF}(C:oh X.prog X.w X.K X.mg X.base k x ps (lR X.K G))(hr:gz m X.A)(ha:PA X (e::es) (pL X.K Y fs))(hk:k<=m:=by first|decide|omega)(hg:Gl X x:=by rfl)(hdb:(x == ("__debug__" : Str))=false:=by decide)
  (he:starEach (e::es) X.env=(false,eval e X.env)::starEach es X.env:=by rfl) (hpl:(backTo pos (starEach es X.env)).any (·.1)=false:=by rfl):PE X (.Call (.Name x p) (e::es) [] pos) (tM X.K Y (aw G fs)):=KO C (hr.mono hk) hg ha hdb he hpl
end
section
variable{ifs:List Expr}{cap:List (Str×Nat)}{it:SD->Res (Bool×List D)}{tgd:uv}{tt:SD->Res Bool}{n:Nat}
def cF {y:Str}{own:List Str}{py spos:Pos}(i:Nat)(hN:X.N.Nodup)(ok:gM X scope own cap)(hc:X.calm=true)(hi:PI X tg iter (Cc X.K Y it))(Bl:iQ X scope own cap tg ifs elt (FL X.K tgd) (kq X.K zz tt) (tM X.K zz fe))(hi':X.N[i]?=some y:=by rfl)(hy:Loc X.env.scope y:=by first|exact Or.inl rfl|exact Or.inr rfl)
  (hsw:swapsWith (.ListComp elt [⟨tg,iter,ifs,0⟩] scope pos) (some (.Name y py)) spos.line X.env=pure true:=by rfl)
  (hf:X.fn y=true\/X.env.scope.names.lookup y=some .local:=by first|exact .inl rfl|exact .inr rfl) (hs:∀ x,foldedSetIterable iter X.env x=pure x:=by intro _;rfl) :
  PS X (.Assign [.Name y py] (.ListComp elt [⟨tg,iter,ifs,0⟩] scope pos) spos) (jK X.K Y (aS i (aJ it tgd tt fe own.length cap))):=Bj hN hi' hy ok hc hi Bl hsw hf hs
def iN (l:List Str)(h:l.Nodup:=by decide +kernel):l.Nodup:=h
end
end DL
namespace L2
open PySem
def pQ {N P:List Str}{sc:Scope}(h1:sc.kind=.function:=by rfl)(h2:sc.isCoroutine=false:=by rfl)(h3:sc.isGenerator=false:=by rfl)(h4:N.Nodup:=by decide +kernel)(h5:N.take P.length=P:=by rfl)(h6:∀ x∈P,sc.names.lookup x=some .local\/sc.names.lookup x=some .cell:=by decide +kernel)(h7:∀ y∈sc.names,y.2 ≠ .free:=by decide +kernel):aX N P sc:=⟨h1,h2,h3,h4,h5,h6,h7⟩
end L2
namespace L2
open PySem PySem.Spec PyProof.Rows
def wk:∀ {ns ms:List Int},ns.length=ms.length->((List.range ns.length).all λ j=>ns.getD j 0 == ms.getD j 0)=decide (ns=ms):=by
 intro ns ms h;rw[O0,Og,Qd];constructor
 ·intro a;refine OS h λ j h1 h2=>?_;have:=a j (NC.mpr h1);rw[Nf,Nf,M9 h1,M9 h2]at this;simpa using this
 ·intro e j _;rw[e];exact RA _
section
variable {X:Cx}
def zQ {s:Shared}{A:Around}{ns ms:List Int}{i1 i2:List Value}(r1:Vals (ns.map V.int) i1)(r2:Vals (ms.map V.int) i2)(j:Nat)(h1:j<i1.toArray.size)(h2:j<i2.toArray.size):SeqAt.EqAt A s i1.toArray[j] i2.toArray[j] (ns.getD j 0 == ms.getD j 0):=by
 obtain⟨t,e1⟩:=nE r1 (NB h1);obtain⟨t',e2⟩:=nE r2 (NB h2);rw[e1,e2];exact SeqAt.EqAt.int_int (A:=A) (s:=s) (ns.getD j 0) t (ms.getD j 0) t'
end
end L2
namespace DL
open PySem PySem.Spec PyProof.Rows L2
section
variable {K:PySem.W.Frag}{Y:XY}{X:Cx}{pos p:Pos}{e:Expr}{fe:SD->Res D}
end
section
variable (K:PySem.W.Frag)(H0 B0 B H:Hp)(σ:L2.St)(F:Addr->Prop)
end
section
variable {K:PySem.W.Frag}{Y:XY}{H0 B0 B H:Hp}{σ:L2.St}{τ:SD}{P:List Addr}{F:Addr->Prop}{X:Cx}{pos p:Pos}{e e2:Expr}{fe fv:SD->Res D}{f g:SD->Res (D×SD)}
end
end DL
namespace SR
open PySem PySem.Spec PyProof.Rows
variable {a b:Addr}{xs ys:Array Value}{h:Heap}{ms ns:List Int}
def lexLt:List Int->List Int->Bool
 |[],[]=>false
 |[],_::_=>true
 |_::_,[]=>false
 |x::r,y::q=>if x=y then lexLt r q else decide (x<y)
section
variable {prog:Program}{w:World}{A:Around}{E:Value->Shared->Prop}{s:Shared}
def entry_eq_loop:entryFor table "list.__eq__.loop" = some Builtin.«list.__eq__.loop» :=entryFor_of_tree (by kernel_rfl)
def plain_eq_loop:plainId "list.__eq__.loop" = true:=by decide +kernel
def nH:∀ {vs:List Value}{ns:List Int},IntsAre vs ns->vs.length=ns.length
 |_,_,.nil=>rfl|_,_,.cons n t r=>by rw[Ny,Ny,nH r]
def zS(hi:IntsAre xs.toList ns){k:Nat}(hk:k<ns.length):∃ t,xs[k]?=some (.int ns[k] t):=by
 have hl:=nH hi;rw[NI]at hl;have hk':k<xs.size:=by omega
 obtain⟨t,e⟩:=IntsAre.int_at hi k xs[k] (by rw[N3];exact NB hk');refine⟨t,?_⟩;rw[NB hk',e,Nf,M9 hk];rfl
def F1{n1 n2:Nat}{d1 d2:Option Addr}{s1 s2:Array (Option Value)}(i1:IntsAre xs.toList ns)(i2:IntsAre ys.toList ms)(e1:s.heap.get? a=some ⟨.type "list",d1,.seq xs n1,s1⟩)(e2:s.heap.get? b=some ⟨.type "list",d2,.seq ys n2,s2⟩){R:Result->Shared->Prop} :
  ∀ (m k:Nat),ns.length-k=m->k<=ns.length->k<=ms.length->R (.ok (.ret (.bool (lexLt (ns.drop k) (ms.drop k))))) s->codeAny (model prog w) A (.builtin "list.__eq__.loop" ⟨[.ref a,.ref b,rawInt k,rawInt 0],[]⟩) R s:=by
 have l1:=nH i1;have l2:=nH i2;rw[NI]at l1 l2;intro m
 induction m with
 | zero =>
  intro k hk hk3 hk4 hR;refine Pe entry_eq_loop ?_;rw[OT plain_eq_loop _];unfold Builtin.«list.__eq__.loop»
  wp_walk
  have z1:xs[((k:Int)).toNat]?=none:=by rw[NS];exact Pn (by omega)
  simp only[z1]
  wp_walk
  have dz:ns.drop k=[]:=P7 (by omega);rw[dz]at hR;have es:lexLt [] (ms.drop k)=decide (xs.size<ys.size):=by
   cases hd:ms.drop k with
   | nil =>
    have:=List.drop_eq_nil_iff.mp hd;rw[NN (by omega)];rfl
   | cons y r =>
    have:(ms.drop k).length≠0:=by rw[hd];simp
    rw[QJ]at this;rw[NP (by omega)];rfl
  rw[es]at hR;exact hR
 | succ m ih =>
  intro k hk hk3 hk4 hR;have hk1:k<ns.length:=by omega
  obtain⟨t,g1⟩:=zS i1 hk1;refine Pe entry_eq_loop ?_;rw[OT plain_eq_loop _];unfold Builtin.«list.__eq__.loop»
  wp_walk
  rw[Py hk1]at hR;by_cases hk2:k<ms.length
  ·obtain⟨u,g2⟩:=zS i2 hk2;rw[Py hk2,lexLt]at hR;simp only[NS,g1,g2];refine M6 (wpAny_eqBool_int ?_);by_cases e:ns[k]=ms[k]
   ·rw[Nr e]at hR;rw[show(ns[k] == ms[k])=true by simpa using e,Nr rfl];refine Nc ⟨Qk plain_eq_loop _,?_⟩;have:=ih (k+1) (by omega) (by omega) (by omega) hR;exact this
   ·rw[Nu e]at hR;rw[show(ns[k] == ms[k])=false by simpa using e,Nu Nd]
    wp_walk
    simp only[NS,g1,g2];refine M6 (lt_int ?_);exact Nc hR
  ·have z2:ys[k]?=none:=Pn (by omega);simp only[NS,g1,z2];have dz:ms.drop k=[]:=P7 (by omega);rw[dz,lexLt]at hR
   wp_walk
   have es:false=decide (xs.size<ys.size):=(NN (by omega)).symm;rw[es]at hR;exact hR
def lt_meets{n1 n2:Nat}{d1 d2:Option Addr}{s1 s2:Array (Option Value)}(i1:IntsAre xs.toList ns)(i2:IntsAre ys.toList ms) :
  Meets (Builtin.«list.__lt__» ⟨[.ref a,.ref b],[]⟩) (λ _ R s=>s.heap.get? a=some ⟨.type "list",d1,.seq xs n1,s1⟩/\s.heap.get? b=some ⟨.type "list",d2,.seq ys n2,s2⟩/\R (.ok (.ret (.bool (lexLt ns ms)))) s):=by
 intro prog w A R s ⟨e1,e2,hR⟩;have sub:=AutoSeq1.sub_list_list
 wp_walk
 exact⟨Qk plain_eq_loop _,F1 i1 i2 e1 e2 _ 0 rfl (OD _) (OD _) hR⟩
def Dm{Q:Bool->Shared->Prop}(hl:s.heap.IsList a xs)(hb:s.heap.IsList b ys)(i1:IntsAre xs.toList ns)(i2:IntsAre ys.toList ms)(hu:A.units<cLine)(hQ:Q (lexLt ns ms) s) :
  wpAny (model prog w) A (oneLt' true (.ref a) (.ref b)) Q E s:=by
 rw[oneLt'_eq,Nr rfl];have Ta:s.TypeIs (.ref a) "list" :=hl.typeIs;refine M6 (wpAny_cRoomFor hu ?_);obtain⟨⟨c1,d1,t1,s1⟩,e1,k1,n1,q1⟩:=id hl;obtain⟨⟨c2,d2,t2,s2⟩,e2,k2,n2,q2⟩:=id hb;simp only at k1 q1 k2 q2;subst k1 q1 k2 q2;refine M6 (wpAny_callSpecialIfBound?_slot Ta F.slot_list_lt (QK F.slot_list_lt Ta F.entry_list_lt (F.args_list_lt_2 _ _) (lt_meets i1 i2) ⟨e1,e2,?_⟩));exact Nc hQ
def nG (h:Heap)(v:Value)(ns:List Int):Prop:=∃ a xs,v=.ref a/\h.IsList a xs/\IntsAre xs.toList ns
def nG.keep {h':Heap}{v:Value}(k:∀ b o,h.get? b=some o->h'.get? b=some o)(x:nG h v ns):nG h' v ns:=by
 obtain⟨a,xs,e,⟨o,ho,r⟩,i⟩:=x;exact⟨a,xs,e,⟨o,k _ _ ho,r⟩,i⟩
def yd {v:Value}{Q:Option Value->Shared->Prop}(hv:nG s.heap v ns)(hQ:Q none s):wpAny (model prog w) A (firstOfTuple' v) Q E s:=by
 obtain⟨a,xs,rfl,hl,_⟩:=hv;show wpAny _ _ (typeOf (.ref a) >>= _) _ _ _;refine M6 (Q5 hl.typeIs ?_);exact Nc hQ
def mF {α:Type}{f:Value->Sem α}{g:Value->α}:∀ (vs:List Value) {Q:List α->Shared->Prop},(∀ v∈vs,∀ Q':α->Shared->Prop,Q' (g v) s->wpAny (model prog w) A (f v) Q' E s)->Q (vs.map g) s->wpAny (model prog w) A (vs.mapM f) Q E s
 |[],Q,_,hQ=>by rw[List.mapM_nil];exact Nc hQ
 | v::vs,Q,h,hQ=>by
  rw[List.mapM_cons];exact M6 (h v Na _ (M6 (mF vs (λ u hu=>h u (Nb _ hu)) (Nc hQ))))
end
section
variable {prog:Program}{w:World}{A:Around}{E:Value->Shared->Prop}{s:Shared}
def ye {vs:List Value}(hv:∀ v∈vs,∃ ns,nG h v ns)(hn:vs≠[]):yc (model prog w) A h (keyKind' vs.toArray) oneType':=by
 intro Q E s k hQ;have hv':∀ v∈vs,∃ ns,nG s.heap v ns:=λ v m=>let ⟨ns,x⟩:=hv v m;⟨ns,x.keep k⟩
 rw[keyKind'_eq];refine M6 ?_;rw[List.mapM_toArray];refine wpAny_map ?_;refine mF (g:=λ _=>none) vs (λ v m Q' hQ'=>let ⟨ns,x⟩:=hv' v m;yd x hQ') ?_;obtain⟨v0,vr,rfl⟩:∃ v0 vr,vs=v0::vr:=by
  cases vs with
  |nil=>exact absurd rfl hn|cons a b=>exact⟨a,b,rfl⟩
 simp;refine wpAny_map ?_;rw[oneTypeOnly'_eq,List.mapM_toArray];refine M6 (wpAny_map (mF (g:=λ _=>Value.type "list") (v0::vr) (λ v m Q' hQ'=>?_) ?_))
 ·obtain⟨ns,a,xs,rfl,hl,_⟩:=hv' v m;exact Q5 hl.typeIs hQ'
 ·have h0:(List.map (λ _=>Value.type "list") (v0::vr)).toArray[0]?=some (Value.type "list"):=by simp
  have ha:((List.map (λ _=>Value.type "list") (v0::vr)).toArray.all λ x=>x == Value.type "list")=true:=by
   simp only[List.all_toArray,List.all_map,Qd];intro _ _;rfl
  rw[h0];simp only[ha,PN];exact Nc hQ
end
end SR
namespace SR
open PySem PySem.Spec PyProof.Rows PySem.W
variable {p:Array Nat}{n:Nat}
def iw {α β:Type}(c:Nat->Nat->Bool)(f:α->KasT β):∀ t:KasT α,ba c (t.bind f)=ba c (f (ba c t))
 |.ret a=>rfl|.ask i j k=>iw c f (k (c i j))
structure Ord (n:Nat)(c:Nat->Nat->Bool):Prop where
 tr:∀ i j k,c i j=true->c j k=true->c i k=true
 tot:∀ i j,i<n->j<n->i≠j->c i j=true\/c j i=true
abbrev eF (p:Array Nat)(i:Nat):Nat:=p.getD i 0
def Up (c:Nat->Nat->Bool)(p:Array Nat)(k:Nat):Prop:=∀ i j,i<j->j<k->c (eF p i) (eF p j)=true
def Dn (c:Nat->Nat->Bool)(p:Array Nat)(k:Nat):Prop:=∀ i j,i<j->j<k->c (eF p j) (eF p i)=true
def uI {q:Array Nat}{i j:Nat}(h:p[i]?=q[j]?):eF p i=eF q j:=by
 unfold eF;rw[N8,N8,h]
def Pm.size(h:Pm n p):p.size=n:=by
 have:=h.size_eq;simpa using this
def Pm.unlike(h:Pm n p){i j:Nat}(hi:i<n)(hj:j<n)(hn:i≠j):eF p i≠eF p j:=by
 have nd:p.toList.Nodup:=by
  have h':p.toList.Perm (List.range n):=by simpa using OX.mp h
  exact h'.nodup_iff.mpr Pq
 have hs:=h.size;have gi:eF p i=p.toList[i]'(by rw[NI];omega):=by
  unfold eF;rw[N8,NB (by omega)];rfl
 have gj:eF p j=p.toList[j]'(by rw[NI];omega):=by
  unfold eF;rw[N8,NB (by omega)];rfl
 rw[gi,gj];intro e;exact hn ((Rx nd).mp e)
section
variable{c:Nat->Nat->Bool}(o:Ord n c)(hn:0<n)
include o hn
theorem Up.more{k:Nat}(h:Pm n p)(u:Up c p k)(hk:1<=k)(hkn:k<n)(hc:c (eF p k) (eF p (k-1))=false):Up c p (k+1):=by
 have hl:c (eF p (k-1)) (eF p k)=true:=by
  rcases o.tot (eF p (k-1)) (eF p k) (h.get hn _) (h.get hn _) (h.unlike (by omega) hkn (by omega)) with z|z
  ·exact z
  ·rw[hc]at z;cases z
 intro i j hij hj;by_cases e:j=k
 ·subst e;by_cases e2:i=j-1
  ·subst e2;exact hl
  ·exact o.tr _ _ _ (u i (j-1) (by omega) (by omega)) hl
 ·exact u i j hij (by omega)
theorem Dn.more{k:Nat}(u:Dn c p k)(hk:1<=k)(hc:c (eF p k) (eF p (k-1))=true):Dn c p (k+1):=by
 intro i j hij hj;by_cases e:j=k
 ·subst e;by_cases e2:i=j-1
  ·subst e2;exact hc
  ·exact o.tr _ _ _ hc (u i (j-1) (by omega) (by omega))
 ·exact u i j hij (by omega)
theorem yf {p:Array Nat}(h:Pm n p):∀ (f k:Nat),1<=k->k+f<=n->Up c p k->k<=ba c (kas_asc p f k)/\ba c (kas_asc p f k)<=k+f/\Up c p (ba c (kas_asc p f k))/\(ba c (kas_asc p f k)<k+f->c (eF p (ba c (kas_asc p f k))) (eF p (ba c (kas_asc p f k)-1))=true)
 |0,k,hk,hf,u=>⟨Nm _,Nm _,u,λ z=>absurd z (Ot _)⟩
 | f+1,k,hk,hf,u=>by
  have e:ba c (kas_asc p (f+1) k)=ba c (if c (eF p k) (eF p (k-1))=true then KasT.ret k else kas_asc p f (k+1)):=rfl;rw[e];cases hc:c (eF p k) (eF p (k-1)) with
  | true =>
   rw[Nr rfl];exact⟨Nm _,Rz _ _,u,λ _=>hc⟩
  | false =>
   rw[Nu Nd];obtain⟨a1,a2,a3,a4⟩:=yf h f (k+1) (by omega) (by omega) (u.more o hn h hk (by omega) hc);exact⟨by omega,by omega,a3,λ z=>a4 (by omega)⟩
theorem zT {p:Array Nat}(h:Pm n p):∀ (f k:Nat),1<=k->k+f<=n->Dn c p k->∃ m,ba c (kas_desc f p k 0)=(p,m,0)/\k<=m/\m<=k+f/\Dn c p m
 |0,k,hk,hf,u=>⟨k,rfl,Nm _,Nm _,u⟩
 | f+1,k,hk,hf,u=>by
  have e:ba c (kas_desc (f+1) p k 0)=ba c (if c (eF p k) (eF p (k-1))=true then (if (0:Nat)>0 then kas_desc f (kas_rev p (k-(0+1)) k) (k+1) 0 else kas_desc f p (k+1) 0) else .ask (eF p (k-1)) (eF p k) λ d=>if d=true then .ret (p,k,0) else kas_desc f p (k+1) (0+1)):=rfl;rw[e];cases hc:c (eF p k) (eF p (k-1)) with
  | true =>
   rw[Nr rfl,Nu (Ot 0)];obtain⟨m,a1,a2,a3,a4⟩:=zT h f (k+1) (by omega) (by omega) (u.more o hn hk hc);exact⟨m,a1,by omega,by omega,a4⟩
  | false =>
   rw[Nu Nd];have hl:c (eF p (k-1)) (eF p k)=true:=by
    rcases o.tot (eF p (k-1)) (eF p k) (h.get hn _) (h.get hn _) (h.unlike (by omega) (by omega) (by omega)) with z|z
    ·exact z
    ·rw[hc]at z;cases z
   refine⟨k,?_,Nm _,by omega,u⟩;show ba c (if c (eF p (k-1)) (eF p k)=true then KasT.ret (p,k,0) else _)=_;rw[Nr hl];rfl
theorem I0(h:Pm n p){m:Nat}(hm:m<=n)(u:Dn c p m):Pm n (kas_rev p 0 m)/\Up c (kas_rev p 0 m) m:=by
 refine⟨(mirror_perm p _ _ _).trans h,λ i j hij hj=>?_⟩;have g:∀ k,k<m->eF (kas_rev p 0 m) k=eF p (m-1-k):=λ k hk=>by
  refine uI ?_;unfold kas_rev;rw[getElem?_mirror_all (by rw[h.size];exact hm),Nr ⟨OD _,hk⟩]
  congr 1
  omega
 rw[g i (by omega),g j hj];exact u _ _ (by omega) (by omega)
theorem F2(h:Pm n p){m:Nat}(h1:1<=m)(hm:m<=n)(u:Dn c p m):Pm n (ba c (kas_tail3 m n p)).2/\Up c (ba c (kas_tail3 m n p)).2 (ba c (kas_tail3 m n p)).1/\1<=(ba c (kas_tail3 m n p)).1/\(ba c (kas_tail3 m n p)).1<=n:=by
 obtain⟨q1,q2⟩:=I0 o hn h hm u;obtain⟨a1,a2,a3,_⟩:=yf o hn q1 (n-m) m h1 (by omega) q2;have e:ba c (kas_tail3 m n p)=(ba c (kas_asc (kas_rev p 0 m) (n-m) m),kas_rev p 0 m):=by
  unfold kas_tail3;rw[iw];rfl
 rw[e];exact⟨q1,a3,by show 1<=ba c _;omega,by show ba c _<=n;omega⟩
theorem Dp(h:Pm n p):Pm n (ba c (kas_count n p)).2/\Up c (ba c (kas_count n p)).2 (ba c (kas_count n p)).1/\1<=(ba c (kas_count n p)).1/\(ba c (kas_count n p)).1<=n:=by
 have u1:Up c p 1:=λ i j h1 h2=>by omega
 obtain⟨a1,a2,a3,a4⟩:=yf o hn h (n-1) 1 (Nm _) (by omega) u1;have e:ba c (kas_count n p)=ba c (if ((ba c (kas_asc p (n-1) 1)) == n)=true then .ret (ba c (kas_asc p (n-1) 1),p) else if ba c (kas_asc p (n-1) 1)>1 then .ask (eF p 0) (eF p (ba c (kas_asc p (n-1) 1)-1)) λ d=>if d=true then .ret (ba c (kas_asc p (n-1) 1),p) else kas_descPart (ba c (kas_asc p (n-1) 1)) n (kas_rev p 0 (ba c (kas_asc p (n-1) 1))) else kas_descPart (ba c (kas_asc p (n-1) 1)) n p):=by
  unfold kas_count;rw[iw]
 rw[e];generalize hm:ba c (kas_asc p (n-1) 1)=m at *;by_cases e1:m=n
 ·rw[Nr (by simpa using e1)];exact⟨h,a3,a1,by show m<=n;omega⟩
 ·rw[Nu (by simpa using e1)];by_cases e2:m>1
  ·rw[Nr e2];have hc:=a3 0 (m-1) (by omega) (by omega);have er:ba c (KasT.ask (eF p 0) (eF p (m-1)) λ d=>if d=true then KasT.ret (m,p) else kas_descPart m n (kas_rev p 0 m))=(m,p):=by
    show ba c (if c (eF p 0) (eF p (m-1))=true then KasT.ret (m,p) else kas_descPart m n (kas_rev p 0 m))=_;rw[Nr hc];rfl
   rw[er];exact⟨h,a3,a1,by show m<=n;omega⟩
  ·rw[Nu e2];have m1:m=1:=by omega
   subst m1;have hc:=a4 (by omega);have d2:Dn c p 2:=λ i j h1 h2=>by
    have:i=0/\j=1:=by omega
    obtain⟨rfl,rfl⟩:=this;exact hc
   obtain⟨k,b1,b2,b3,b4⟩:=zT o hn h (n-(1+1)) (1+1) (by omega) (by omega) d2;have ed:ba c (kas_descPart 1 n p)=ba c (kas_tail3 k n p):=by
    unfold kas_descPart;rw[iw,b1];rfl
   rw[ed];exact F2 o hn h (by omega) (by omega) b4
theorem qq {p:Array Nat}(h:Pm n p){k:Nat}(hk:k<n)(u:Up c p k):∀ (f l r:Nat),l<=r->r<=k->r-l<=f->(∀ i,i<l->c (eF p i) (eF p k)=true)->(∀ i,r<=i->i<k->c (eF p k) (eF p i)=true) ->
  ba c (kas_place p k f l r)<=k/\(∀ i,i<ba c (kas_place p k f l r)->c (eF p i) (eF p k)=true)/\∀ i,ba c (kas_place p k f l r)<=i->i<k->c (eF p k) (eF p i)=true
 |0,l,r,h1,h2,h3,hl,hr=>⟨by show l<=k;omega,hl,λ i z=>hr i (by have:l<=i:=z;omega)⟩
 | f+1,l,r,h1,h2,h3,hl,hr=>by
  rw[kas_place];by_cases e:l≥r
  ·rw[Nr e];exact⟨by show l<=k;omega,hl,λ i z=>hr i (by have:l<=i:=z;omega)⟩
  ·rw[Nu e];have em:ba c (KasT.ask (eF p k) (eF p ((l+r)/2)) λ d=>if d=true then kas_place p k f l ((l+r)/2) else kas_place p k f ((l+r)/2+1) r)=ba c (if c (eF p k) (eF p ((l+r)/2))=true then kas_place p k f l ((l+r)/2) else kas_place p k f ((l+r)/2+1) r):=rfl;rw[em];have hm1:l<=(l+r)/2:=by omega
   have hm2:(l+r)/2<r:=by omega
   generalize (l+r)/2=m at *;cases hc:c (eF p k) (eF p m) with
   | true =>
    rw[Nr rfl];refine qq h hk u f l m hm1 (by omega) (by omega) hl λ i z1 z2=>?_;by_cases e:i=m
    ·subst e;exact hc
    ·exact o.tr _ _ _ hc (u m i (by omega) z2)
   | false =>
    rw[Nu Nd];have hl':c (eF p m) (eF p k)=true:=by
     rcases o.tot (eF p m) (eF p k) (h.get hn _) (h.get hn _) (h.unlike (by omega) hk (by omega)) with z|z
     ·exact z
     ·rw[hc]at z;cases z
    refine qq h hk u f (m+1) r (by omega) h2 (by omega) (λ i z=>?_) hr;by_cases e:i=m
    ·subst e;exact hl'
    ·exact o.tr _ _ _ (u i m (by omega) (by omega)) hl'
theorem Dq:∀ (f:Nat) {p:Array Nat} (k:Nat),Pm n p->k+f=n->Up c p k->Pm n (ba c (kas_bin f p k))/\Up c (ba c (kas_bin f p k)) n
 |0,p,k,h,hk,u=>⟨h,(show k=n by omega)▸u⟩
 | f+1,p,k,h,hk,u=>by
  obtain⟨a1,a2,a3⟩:=qq o hn h (k:=k) (by omega) u k 0 k (OD _) (Nm _) (by omega) (λ i z=>absurd z (PC _)) (λ i z1 z2=>by omega);have e:ba c (kas_bin (f+1) p k)=ba c (kas_bin f (bubble p k (k-ba c (kas_place p k k 0 k))) (k+1)):=by
   rw[kas_bin,iw]
  rw[e];generalize ba c (kas_place p k k 0 k)=l at *;have g:∀ i,eF (bubble p k (k-l)) i=if i=l then eF p k else if l<i/\i<=k then eF p (i-1) else eF p i:=λ i=>by
   have hb:=getElem?_bubble (xs:=p) (src:=k) (by rw[h.size];omega) (k-l) (by omega) i;have e2:k-(k-l)=l:=by omega
   rw[e2]at hb;split
   ·rename_i z;rw[Nr z]at hb;exact uI hb
   ·rename_i z;rw[Nu z]at hb;split
    ·rename_i z2;rw[Nr z2]at hb;exact uI hb
    ·rename_i z2;rw[Nu z2]at hb;exact uI hb
  refine Dq f (k+1) ((bubble_perm p _ _).trans h) (by omega) λ i j hij hj=>?_;rw[g i,g j];by_cases i1:i=l
  ·rw[Nr i1,Nu (by omega),Nr ⟨by omega,by omega⟩];exact a3 (j-1) (by omega) (by omega)
  ·rw[Nu i1];by_cases i2:l<i/\i<=k
   ·rw[Nr i2,Nu (by omega),Nr ⟨by omega,by omega⟩];exact u _ _ (by omega) (by omega)
   ·rw[Nu i2];by_cases j1:j=l
    ·rw[Nr j1];exact a2 i (by omega)
    ·rw[Nu j1];by_cases j2:l<j/\j<=k
     ·rw[Nr j2];by_cases e3:i=j-1
      ·omega
      ·exact u _ _ (by omega) (by omega)
     ·rw[Nu j2];exact u _ _ hij (by omega)
theorem F3:Pm n (ba c (kas_sort n))/\Up c (ba c (kas_sort n)) n:=by
 obtain⟨a1,a2,a3,a4⟩:=Dp o hn (p:=(List.range n).toArray) (Array.Perm.refl _);have e:ba c (kas_sort n)=ba c (if (ba c (kas_count n (List.range n).toArray)).1<n then kas_bin (n-max (ba c (kas_count n (List.range n).toArray)).1 1) (ba c (kas_count n (List.range n).toArray)).2 (max (ba c (kas_count n (List.range n).toArray)).1 1) else .ret (ba c (kas_count n (List.range n).toArray)).2):=by
  unfold kas_sort;rw[iw]
 rw[e];generalize ba c (kas_count n (List.range n).toArray)=r at *;by_cases h:r.1<n
 ·rw[Nr h];have em:max r.1 1=r.1:=RI a3;rw[em];exact Dq o hn (n-r.1) r.1 a1 (by omega) a2
 ·rw[Nu h];have e2:r.1=n:=by omega
  rw[e2]at a2;exact⟨a1,a2⟩
end
end SR
namespace DL
open PySem PySem.Spec PyProof.Rows L2
section
variable {K:PySem.W.Frag}{Y:XY}{H0 B0 B H:Hp}{σ:L2.St}{τ:SD}{P:List Addr}{F:Addr->Prop}{X:Cx}{pos:Pos}
def SI.KZ {i:Nat}{d:D}(I:SI K H0 B0 B H σ τ P No)(h:τ[i]?=some (some d)):∃ v f P',σ[i]?=some (some v)/\Rep K B No H d v f/\SI K H0 B0 B H σ (τ.set i none) P' No/\fR H0 B H P' No f:=by
 obtain⟨v,A,f,C,h1,h2,h3,h4⟩:=I.rep.drop h;subst h3;have nd:=I.nd;have sb:List.Sublist (A++C) (A++f++C):=by
  rw[NT];exact(Oq A).append (NL f C)
 have sf:List.Sublist f (A++f++C):=(NL A f).trans (NV _ _);have dis:∀ a∈f,a∉A++C:=λ a z m=>by
  rw[NT,Np]at nd;obtain⟨_,n2,n3⟩:=nd;rw[Np]at n2;rcases Nk.mp m with q|q
  ·exact n3 a q a (Nt _ z) rfl
  ·exact n2.2.2 a z a q rfl
 refine⟨v,f,A++C,h1,h2,⟨I.bh,I.h0,I.b0,I.nb,h4,I.nd.sublist sb,λ a m=>I.own a (sb.subset m),λ a m=>m.elim⟩,I.nd.sublist sf,λ a m=>?_⟩;have q:=I.own a (sf.subset m);exact⟨q.1,q.2.1,I.stands (sf.subset m),dis a m,λ z=>z.elim⟩
def wm (i j:Nat)(τ:SD):Fl:=match dE τ i,τ[j]? with
 |some xs,some (some d)=>if i≠j/\xs.length<16777216 then .nx ((τ.set j none).set i (some (.lst .own (xs++[d])))) else .bad
 |_,_=>.bad
def Jb (i j:Nat){x y:Str}{p1 p2 apos cpos:Pos}(hN:X.N[i]?=some x:=by rfl)(hM:X.N[j]?=some y:=by rfl)(hv:rD X.env.scope x:=by first|exact Or.inl rfl|exact Or.inr (Or.inl rfl)|exact Or.inr (Or.inr rfl))(hw:rD X.env.scope y:=by first|exact Or.inl rfl|exact Or.inr (Or.inl rfl)|exact Or.inr (Or.inr rfl))
  (hd:(x == ("__debug__" : Str))=false:=by decide) (hcd:(x == ("__classdict__" : Str))=false:=by decide) (hd':(y == ("__debug__" : Str))=false:=by decide) (hcd':(y == ("__classdict__" : Str))=false:=by decide)
  (hbase:attributeBase (.Name x p1) "append" X.env (eval (.Name x p1) X.env)=eval (.Name x p1) X.env:=by rfl)
  (hfew:((backTo cpos (starEach [.Name y p2] X.env)).all (λ x=>!x.1)&&(backToKw cpos (keywordEach [] X.env)).all (λ x=>x.1.isSome)
   && decide (([.Name y p2]:List Expr).length+([]:List Keyword).length+(if ([]:List Keyword).isEmpty then 0 else 1)<30))=true:=by rfl)
  (hline:(apos.endLine == cpos.line)=true:=by rfl) (hs:starEach [.Name y p2] X.env=(false,eval (.Name y p2) X.env)::starEach [] X.env:=by rfl) (hplain:(backTo cpos (starEach [] X.env)).any (·.1)=false:=by rfl)
  (hsw:swapsWith (.Call (.Attribute (.Name x p1) "append" apos) [.Name y p2] [] cpos) none pos.line X.env=pure false:=by rfl) :
  PS X (.Expr (.Call (.Attribute (.Name x p1) "append" apos) [.Name y p2] [] cpos) pos) (jK X.K Y (wm i j)):=by
 refine PS.imp (jO (p7 Ow Qi Qj ly (dm hN hv hd hcd) (cT (dm hM hw hd' hcd') fE hs) hbase hfew hline hs hplain) hsw) λ E σ H hq=>ex7 hq λ H0 B0 B τ P I h=>?_;unfold wm at h;split at h
 ·rename_i xs d z z';split at h
  ·rename_i hc;have hi:=fM z;obtain⟨a,vs,ea,ha,hl⟩:=I.listAt hi;obtain⟨v,f,P',e1,r1,I1,k1⟩:=I.KZ z';have hi1:(τ.set j none)[i]?=some (some (.lst .own xs)):=by rw[Om (OV hc.1)];exact hi
   refine⟨.ref a,ea,.inl ⟨rfl,vs,cY.of ha⟩,v,e1,a,vs,v,rfl,rfl,ha,by rw[<-hl,Oc];exact hc.2,?_⟩;obtain⟨P2,I2⟩:=I1.Bg (xs':=xs++[d]) (vs':=vs++[v]) hi1 ea k1 (λ g _ rl=>⟨g++f,rl.append (ai.one r1),λ b m=>Nk.mp m,λ nf dis=>Np.mpr ⟨nf,k1.nd,λ a ha b hb e=>dis b hb (e▸ha)⟩⟩) ha;exact h B _ σ P2 I2
  ·exact h.elim
 ·exact h.elim
def sZ (j i:Nat)(τ:SD):Fl:=match dE τ i with
 | some xs=>match xs[xs.length-1]? with
  |some d=>if i≠j then .nx ((τ.set i (some (.lst .own xs.dropLast))).set j (some d)) else .bad
  |none=>.bad
 |none=>.bad
def Ja (j i:Nat){x y:Str}{p0 p1 apos cpos:Pos}(hN:X.N.Nodup)(hj:X.N[j]?=some y)(hx:Loc X.env.scope y)(hi:X.N[i]?=some x:=by rfl)(hv:rD X.env.scope x:=by first|exact Or.inl rfl|exact Or.inr (Or.inl rfl)|exact Or.inr (Or.inr rfl))(hd:(x == ("__debug__" : Str))=false:=by decide)(hcd:(x == ("__classdict__" : Str))=false:=by decide)
  (hbase:attributeBase (.Name x p1) "pop" X.env (eval (.Name x p1) X.env)=eval (.Name x p1) X.env:=by rfl) (hline:(apos.endLine == cpos.line)=true:=by rfl)
  (hsw:swapsWith (.Call (.Attribute (.Name x p1) "pop" apos) [] [] cpos) (some (.Name y p0)) pos.line X.env=pure false:=by rfl) (hf:X.fn y=true\/X.env.scope.names.lookup y=some .local:=by first|exact .inl rfl|exact .inr rfl) :
  PS X (.Assign [.Name y p0] (.Call (.Attribute (.Name x p1) "pop" apos) [] [] cpos) pos) (jK X.K Y (sZ j i)):=by
 refine PS.imp (xE hN hj hx (xG Ow PySem.F.slot_list_pop PySem.F.type_list_pop Cv (dm hi hv hd hcd) hbase hline) hsw hf) λ E σ H hq=>ex7 hq λ H0 B0 B τ P I h=>?_;unfold sZ at h;split at h
 ·rename_i xs z;split at h
  ·rename_i d hd';split at h
   ·rename_i hij;have hi:=fM z;have hi':i<τ.length:=(Ng.mp hi).1;obtain⟨A,f,C,eP,g1,g2⟩:=I.rep.cut hi';obtain⟨v',e1,r1⟩:=g1 _ hi;obtain⟨a,vs,g,rfl,ha,rl,ef⟩:=r1;have hl:=rl.length;have hx0:xs≠[]:=λ z=>by rw[z]at hd';cases hd'
    have exs:xs=xs.dropLast++[d]:=by
     have:=List.dropLast_concat_getLast hx0;rw[List.getLast_eq_getElem,<-N6 (hd'.symm.trans (M9 (by have:=Q3.mpr hx0;omega)))]at this;exact this.symm
    have rl2:=rl;rw[exs]at rl2;obtain⟨us,ws,fa,fb,evs,efg,ra,rb⟩:=rl2.split;obtain⟨v,w0,fv,f0,rfl,rv,⟨rfl,rfl⟩,efb⟩:=rb;rw[NX]at efb;subst efb;subst evs efg ef;have nd0:=I.nd;rw[eP]at nd0;have ndf:(a::(fa++fb)).Nodup:=(nd0.sublist (NV _ _)).sublist (NL _ _);have hav:a∉fb:=λ m=>(Nv.mp ndf).1 (Nz _ m);have haf:a∉fa:=λ m=>(Nv.mp ndf).1 (Nt _ m);have kp:jq H (upd H a (.lst us)) [a]:=⟨λ b o h n=>by rw[aN (by simpa using n)];exact h,λ b m=>by
     have:b=a:=by simpa using m
     subst this;exact⟨_,ha,trivial⟩⟩
    have es:σ.set i (some (.ref a))=σ:=by
     refine OA λ k=>?_;by_cases hk:k=i
     ·subst hk;rw[Ol (Ng.mp e1).1,e1]
     ·rw[Om (OV hk)]
    have kpf:jq H (upd H a (.lst us)) (a::(fa++fb)):=⟨λ b o h n=>kp.keep b o h (λ z=>n (by
     have:b=a:=by simpa using z
     subst this;exact Na)),λ b m=>I.rep.own b (by rw[eP];exact cM _ _ _ b m)⟩
    have key:=I.put (i:=i) (H1:=upd H a (.lst us)) (d':=.lst .own xs.dropLast) (v':=.ref a) (f':=a::fa) hi' eP g2 kpf ⟨a,us,fa,rfl,aK,ra.keep kp (λ b m z=>haf ((by simpa using z:b=a)▸m)),rfl⟩ (Nv.mpr ⟨haf,(Np.mp (Nv.mp ndf).2).1⟩) (λ b m=>.inl ((Nq.mp m).elim (λ z=>z▸Na) λ z=>Nb _ (Nt _ z)));rw[es]at key;have rv':=rv.keep kp (λ b m z=>hav ((by simpa using z:b=a)▸m));have inP:∀ b∈fb,b∈P:=λ b m=>by rw[eP];exact cM _ _ _ b (Nb _ (Nz _ m))
    have kv:fR H0 B (upd H a (.lst us)) (A++a::fa++C) No fb:=⟨(Np.mp (Nv.mp ndf).2).2.1,λ b m=>by
     have q:=I.own b (inP b m);refine⟨q.1,q.2.1,λ z=>?_,λ z=>?_,λ z=>z.elim⟩
     ·by_cases e:b=a
      ·exact hav (e▸m)
      ·rw[aN e]at z;exact I.stands (inP b m) z
     ·have n1:=nd0;rw[NT,Np]at n1;obtain⟨_,n2,n3⟩:=n1;rw[Np]at n2;have mm:b∈a::(fa++fb):=Nb _ (Nz _ m);rw[NT]at z;rcases Nk.mp z with z|z
      ·exact n3 b z b (Nt _ mm) rfl
      ·rcases Nk.mp z with z|z
       ·rcases Nq.mp z with e|e
        ·exact hav (e▸m)
        ·exact(Np.mp (Nv.mp ndf).2).2.2 b e b m rfl
       ·exact n2.2.2 b mm b z rfl⟩
    have hlast:(us++[v])[(us++[v]).length-1]?=some v:=by
     rw[Nn,NW,Rg,OJ (Nm _),Nat.sub_self];rfl
    refine⟨.ref a,e1,.inl ⟨rfl,us++[v],cY.of ha⟩,a,us++[v],v,rfl,rfl,ha,hlast,?_⟩;obtain⟨P2,I2,_⟩:=key.set j rv' kv;rw[QR];exact h B _ _ P2 ⟨I2,aq.refl _,λ b o h n=>kp.vM h n⟩
   ·exact h.elim
  ·exact h.elim
 ·exact h.elim
end
end DL
namespace SR
open PySem PySem.Spec PyProof.Rows
variable {h:Heap}{nss:List (List Int)}{vs:List Value}
inductive F4 (h:Heap):List Value->List (List Int)->Prop
 |nil:F4 h [] []
 |cons {v:Value}{ns:List Int}{vs:List Value}{nss:List (List Int)}:nG h v ns->F4 h vs nss->F4 h (v::vs) (ns::nss)
def F4.at(x:F4 h vs nss):∀ i,i<vs.length->nG h (vs.getD i .none) (nss.getD i []):=by
 induction x with
 |nil=>intro i hi;exact absurd hi (PC _)
 | cons a _ ih =>
  intro i hi;cases i with
  |zero=>exact a|succ i=>exact ih i (by rw[Ny]at hi;omega)
def F4.mem(x:F4 h vs nss):∀ v∈vs,∃ ns,nG h v ns:=by
 induction x with
 |nil=>intro v m;cases m
 | cons a _ ih =>
  intro v m;rcases Nq.mp m with rfl|m
  ·exact⟨_,a⟩
  ·exact ih v m
abbrev rO (nss:List (List Int))(i j:Nat):Bool:=lexLt (nss.getD i []) (nss.getD j [])
def yg {prog:Program}{w:World}{A:Around}(hv:F4 h vs nss)(hu:A.units<cLine):yb (model prog w) A h vs (rO nss):=by
 intro h2;refine⟨oneType',ye hv.mem (λ z=>by rw[z]at h2;simp at h2),λ i j hi hj=>?_⟩;intro Q E s k hQ;obtain⟨a,xs,e1,l1,i1⟩:=(hv.at i hi).keep k;obtain⟨b,ys,e2,l2,i2⟩:=(hv.at j hj).keep k;rw[keyLt'_oneType,e1,e2];exact Dm l1 l2 i1 i2 hu hQ
end SR
namespace L2
open PySem PySem.Spec PyProof.Rows
section
variable {X:Cx}
def nI:∀ {ns:List Int}{its:List Value},Vals (ns.map V.int) its->IntsAre its ns
 |[],_,.nil=>.nil
 |n::ns,_,.cons r t=>by obtain⟨k,rfl⟩:=r;exact .cons n k (nI t)
inductive oF (K:PySem.W.Frag)(H:Hp):List V->List (List Int)->Prop
 |nil:oF K H [] []
 |cons {b:Addr}{ns:List Int}{ws:List V}{nss:List (List Int)}:cY K H b (ns.map V.int)->oF K H ws nss->oF K H (.ref b::ws) (ns::nss)
def oF.len {K:PySem.W.Frag}{H:Hp}{ws:List V}{nss:List (List Int)}(x:oF K H ws nss):ws.length=nss.length:=by
 induction x with
 |nil=>rfl|cons _ _ ih=>rw[Ny,Ny,ih]
def Inv.M3 {pins:List (Addr×Obj)}{σ:St}{H:Hp}{s:Shared}(I:Inv X pins σ H s){ws:List V}{nss:List (List Int)}(x:oF X.K H ws nss):∀ {its:List Value},Vals ws its->SR.F4 s.heap its nss:=by
 induction x with
 |nil=>intro its r;cases r;exact .nil
 | cons hq _ ih =>
  intro its r;cases r with
  | cons r1 r2 =>
   cases r1;obtain⟨is,rv,pl,_⟩:=I.list hq;exact .cons ⟨_,_,rfl,pl.isList,by simpa using nI rv⟩ (ih r2)
def uJ (hu:X.A.units+2<cLine):eY X (.builtin "sorted") (λ xs H Q=>∃ (a:Addr) (ws:List V) (nss:List (List Int)),xs=[.ref a]/\cY X.K H a ws/\oF X.K H ws nss/\nss.length<64/\∀ p:Addr,H p=none->Q (.ref p) (upd H p (.lst (SR.ordered .bx (SR.rO nss) ws)))):=by
 intro pins s σ H xs us Q I r h;obtain⟨a,ws,nss,rfl,hq,hp,hl,q⟩:=h;obtain⟨u,rfl,ru⟩:=vals1 r;cases ru;obtain⟨its,rv,pl,hz⟩:=I.list hq;have hlen:=rv.length;have hpl:=hp.len;refine SR.ya pl.isList (by omega) (SR.yg (I.M3 hp rv) hu) λ h' p kp hsz he=>?_;obtain⟨e,he⟩:=he;refine⟨.ref p,_,I.laid (t':=s.toks) kp hsz ?_,rfl,q _ (I.hok.fresh hsz)⟩;refine⟨?_,_,e,rv.ordered (SR.rO nss),he⟩;rw[(SR.nD _ _ _).length_eq];exact hz
end
end L2
namespace DL
open PySem PySem.Spec PyProof.Rows L2
def km:List D->Option (List (List Int))
 |[]=>some []
 |.lst _ ys::r=>(intsOf ys).bind λ ns=>(km r).map (ns :: ·)
 |_=>none
def iy:∀ (nss:List (List Int)) (t:List Int->Tg),km (nss.map λ ns=>D.lst (t ns) (ns.map .int))=some nss
 |[],_=>rfl
 | ns::r,t=>by
  show((intsOf (ns.map D.int)).bind λ ns=>(km (r.map λ ns=>D.lst (t ns) (ns.map .int))).map (ns :: ·))=_;rw[dC,iy r t];rfl
section
variable {K:PySem.W.Frag}{Y:XY}{H0 B0 B H:Hp}{σ:L2.St}{τ:SD}{P:List Addr}{F:Addr->Prop}{X:Cx}{pos:Pos}
def qr (I:SI K H0 B0 B H σ τ P F):∀ {xs:List D}{nss:List (List Int)}{vs:List V}{f:List Addr},km xs=some nss->ai K B (· ∈ P) H xs vs f->oF K H vs nss
 | [],nss,vs,f,h,r=>by
  cases h;obtain⟨rfl,_⟩:=r;exact .nil
 | d::xs,nss,vs,f,h,r=>by
  obtain⟨v,w,f1,f2,rfl,r1,r2,rfl⟩:=r;cases d with
  | lst t ys =>
   unfold km at h;cases e:intsOf ys with
   |none=>rw[e]at h;cases h
   | some ns =>
    rw[e]at h;cases e2:km xs with
    |none=>rw[e2]at h;cases h
    | some mss =>
     rw[e2]at h;cases h;have ey:=fO e;subst ey;obtain⟨a,us,g,rfl,q,l,_⟩:=r1.lst I;obtain⟨rfl,rfl⟩:=fN l;exact .cons q (qr I e2 r2)
  |_=>cases h
def ai.parts {S:Addr->Prop}:∀ {xs:List D}{vs:List V}{f:List Addr},ai K B S H xs vs f->∃ fs:List (List Addr),fs.length=xs.length/\f=fs.flatten/\∀ i,i<xs.length->Rep K B S H (xs.getD i .bx) (vs.getD i .bx) (fs.getD i [])
 | [],vs,f,r=>by
  obtain⟨rfl,rfl⟩:=r;exact⟨[],rfl,rfl,λ i h=>absurd h (PC _)⟩
 | d::xs,vs,f,r=>by
  obtain⟨v,w,f1,f2,rfl,r1,r2,rfl⟩:=r;obtain⟨fs,h1,h2,h3⟩:=ai.parts r2;refine⟨f1::fs,by rw[Ny,Ny,h1],by rw[O9,h2],λ i hi=>?_⟩;cases i with
  |zero=>exact r1|succ i=>exact h3 i (by rw[Ny]at hi;omega)
def zU {S:Addr->Prop}{x:Nat->D}{v:Nat->V}{g:Nat->List Addr}:∀ (q:List Nat),(∀ i∈q,Rep K B S H (x i) (v i) (g i))->ai K B S H (q.map x) (q.map v) (q.map g).flatten
 |[],_=>⟨rfl,rfl⟩
 |i::q,h=>⟨_,_,_,_,rfl,h i Na,zU q λ j m=>h j (Nb _ m),by rw[ND,O9]⟩
def ai.sorted {S:Addr->Prop}{xs:List D}{vs:List V}{f:List Addr}(r:ai K B S H xs vs f)(c:Nat->Nat->Bool):∃ g,ai K B S H (SR.ordered .bx c xs) (SR.ordered .bx c vs) g/\g.Perm f:=by
 have hl:=r.length;unfold SR.ordered;rw[<-hl];split
 ·exact⟨f,r,Ox _⟩
 ·rename_i h;obtain⟨fs,h1,h2,h3⟩:=r.parts;have hp:=OX.mp (SR.fG.run (L:=SR.Pm xs.length) c (SR.ny (n:=xs.length) (by omega)));have hp':(SR.ba c (PySem.W.kas_sort xs.length)).toList.Perm (List.range xs.length):=by simpa using hp
  refine⟨_,zU (g:=λ i=>fs.getD i []) _ λ i m=>h3 i (NC.mp (hp'.mem_iff.mp m)),?_⟩;rw[h2];refine List.Perm.flatten ((hp'.map _).trans ?_);have e3:(List.range xs.length).map (λ i=>fs.getD i [])=fs:=by
   rw[<-h1];refine OS (by simp) λ i h1 h2=>?_;simp;rw[M9 h2];rfl
  rw[e3]
def gH (i:Nat)(τ:SD):Fl:=match τ[i]? with
 | some (some (.lst .own xs))=>match km xs with
  |some nss=>if nss.length<64 then .rt (.lst .own (SR.ordered .bx (SR.rO nss) xs)) else .bad
  |none=>.bad
 |_=>.bad
def tm (i:Nat){x:Str}{p pn pc:Pos}(hu:X.A.units+2<cLine)(hg:Gl X "sorted")(hm:X.mg "sorted" = none)(hN:X.N[i]?=some x:=by rfl)(hv:rD X.env.scope x:=by first|exact Or.inl rfl|exact Or.inr (Or.inl rfl)|exact Or.inr (Or.inr rfl))(hd:(x == ("__debug__" : Str))=false:=by decide)(hcd:(x == ("__classdict__" : Str))=false:=by decide)(hl:Y.ln=false:=by rfl)
  (hs:starEach [.Name x pn] X.env=(false,eval (.Name x pn) X.env)::starEach [] X.env:=by rfl) (hpl:(backTo pc (starEach [] X.env)).any (·.1)=false:=by rfl) :
  PS X (.Return (some (.Call (.Name "sorted" p) [.Name x pn] [] pc)) pos) (jK X.K Y (gH i)):=by
 refine PS.imp (pV (pT (uJ hu) hg hm (by decide +kernel) (cT (dm hN hv hd hcd) fE hs) (he:=hs) (hpl:=hpl))) λ E σ H hq=>ex7 hq λ H0 B0 B τ P I h=>?_;unfold gH at h;split at h
 ·rename_i xs e;split at h
  ·rename_i nss el;split at h
   ·rename_i hc;obtain⟨v,f,h1,h2,h3⟩:=I.rep.get e;obtain⟨a,vs,g,rfl,ha,rl,rfl⟩:=h2;have rl':ai X.K B (· ∈ P) H xs vs g:=rl.mono (aq.refl _) (aq.refl _) λ _ z=>z.elim;refine⟨.ref a,h1,a,vs,nss,rfl,cY.of ha,qr I el rl',hc,λ p hp=>?_⟩;obtain⟨g',r2,pg⟩:=rl.sorted (SR.rO nss);have s:=dY (o:=.lst (SR.ordered .bx (SR.rO nss) vs)) hp;have sub:∀ b∈g',b∈P:=λ b m=>h3.subset (Nb _ (pg.mem_iff.mp m));have hpn:p∉g':=λ m=>I.stands (sub p m) hp;refine(b8.rt hl h) B _ (.ref p) (p::g') ⟨I.h0.trans s,I.b0,I.bh.trans s,I.nb,⟨p,_,g',rfl,aK,r2.mono s (aq.refl _) (λ _ x=>x),rfl⟩,Nv.mpr ⟨hpn,pg.nodup_iff.mpr (Nv.mp (I.nd.sublist h3)).2⟩,λ b m=>?_⟩;rcases Nq.mp m with e|m
    ·subst e;exact⟨I.bh.free hp,I.h0.free hp,by rw[aK];exact OH _⟩
    ·obtain⟨a1,a2,_⟩:=I.own b (sub b m);exact⟨a1,a2,λ z=>I.stands (sub b m) (s.free z)⟩
   ·exact h.elim
  ·exact h.elim
 ·exact h.elim
end
def qt {α:Type}(d:α){c:Nat->Nat->Bool}{vs:List α}(o:SR.Ord vs.length c):∃ q:List Nat,q.Perm (List.range vs.length)/\SR.ordered d c vs=q.map (λ i=>vs.getD i d)/\q.Pairwise λ i j=>c i j=true:=by
 unfold SR.ordered;split
 ·rename_i h;refine⟨List.range vs.length,Ox _,?_,?_⟩
  ·refine OS (by simp) λ i h1 h2=>?_;simp;rw[M9 h1];rfl
  ·match hl:vs.length,h with
   |0,_=>exact List.Pairwise.nil|1,_=>exact List.pairwise_singleton _ _
 ·rename_i h;obtain⟨p1,p2⟩:=SR.F3 o (by omega);have hp':(SR.ba c (PySem.W.kas_sort vs.length)).toList.Perm (List.range vs.length):=by simpa using OX.mp p1
  refine⟨_,hp',rfl,?_⟩;have hs:=SR.Pm.size p1;rw[OF];intro i j hi hj hij;rw[NI]at hi hj;have:=p2 i j hij (by omega);have g:∀ k (hk:k<(SR.ba c (PySem.W.kas_sort vs.length)).size),SR.eF (SR.ba c (PySem.W.kas_sort vs.length)) k=(SR.ba c (PySem.W.kas_sort vs.length)).toList[k]'(by rw[NI];exact hk):=λ k hk=>by
   show(SR.ba c (PySem.W.kas_sort vs.length)).getD k 0=_;rw[N8,NB hk];rfl
  rw[g i hi,g j hj]at this;exact this
end DL
namespace DI
open PySem
section
variable {prog:Program}{w:World}{K:Type}[DecidableEq K]{knd:KeyKind prog w K}{A:Around}{E:Value->Shared->Prop}{s:Shared}
def Ds {d:Addr}{kvs:List (K×Value)}{k:K}{key x:Value}{Q:Value->Shared->Prop}(hkey:knd.is k key=true)(hm:s.heap.DictOf knd d kvs)(hnot:k∉kvs.map (·.1))(hsz:kvs.length<=sizeLine)
  (h:∀ h',h'.DictOf knd d (kvs++[(k,x)])->Heap.SameBut d s.heap h'->Q x { s with heap:=h',toks:=s.toks+1 }):wpAny (model prog w) A (dictSetDefault d key x) Q E s:=by
 obtain⟨ob,es,e,g1,g2,g3,g4,g5,g6⟩:=hm;have hz:es.size<=sizeLine:=by
  have:=g5.length;rw[NI]at this;omega
 have fn:kvs.findIdx? (λ kv=>decide (kv.1=k))=none:=by
  rw[Rl];intro kv m;exact NN λ z=>hnot (Ni.mpr ⟨kv,m,z⟩)
 have z:(es.findIdx? λ e=>knd.is k e.key)=none:=by
  rw[<-fn,<-g5.findIdx k];cases es;simp
 unfold dictSetDefault;refine O6 (M6 (knd.pyHash hkey (M6 (wpAny_dictFind_of (s:={ s with toks:=s.toks+1 }) hkey g1 g3 g4 ?_))));rw[z];refine M6 (Qa (M6 (wpAny_updateDictKeys (hz:=hz) (s:={ s with toks:=s.toks+1 }) g1 g3 (Nc (h _ ⟨_,_,e+1,O2 _ g1 (Obj.isFreed_of_dict (Obj.data_mapDictKeys g3 _)),g2.mapDictKeys _,Obj.data_mapDictKeys g3 _,g4.push hkey _,?_,?_⟩ (OY ..))))))
 ·have q:=g5.append hkey (knd.hash k) x;cases es;simpa using q
 ·rw[Nx];exact Np.mpr ⟨g6,by simp,λ a ha b hb z=>by
   have:b=k:=by simpa using hb
   exact hnot (this▸z▸ha)⟩
end
end DI
namespace L2
open PySem PySem.Spec PyProof.Rows
section
variable {X:Cx}
def Dt:V->List V->Hp->VK->Prop:=λ x vs H Q=>∃ (a:Addr) (kvs:List (Key×V)) (ep:Nat) (k:Key) (z:V),x=.ref a/\vs=[kV k,z]/\H a=some (.dK kvs ep)/\kvs.length<sizeLine/\(∀ v,jk kvs k=some v->Q v H)/\(jk kvs k=none->∀ en,Q z (upd H a (.dK (kvs++[(k,z)]) en)))
def qu {κ:Type}[DecidableEq κ]{k:κ}:∀ {vs:List (κ×Value)},valueAt vs k=none->k∉vs.map (·.1)
 |[],_=>by simp
 | p::r,h=>by
  unfold valueAt at h;intro m;rcases Nq.mp m with e|e
  ·simp[e]at h
  ·by_cases q:p.1=k
   ·simp[q]at h
   ·refine qu (vs:=r) ?_ e;simpa[valueAt,PB,q] using h
def yh {P:Program}{w:World}{d:Addr}{k:Key}{key x:Value}{vs:List (Key×Value)}(hkey:(bX P w).is k key=true)(hd:(d == sysModules)=false)(hnot:k∉vs.map (·.1))(hsz:vs.length<=sizeLine) :
  MeetsIn P w (Builtin.«dict.setdefault» ⟨[.ref d,key,x],[]⟩) (λ _ R s=>s.heap.DictOf (bX P w) d vs/\∀ h',h'.DictOf (bX P w) d (vs++[(k,x)])->Heap.SameBut d s.heap h'->R (.ok (.ret x)) { s with heap:=h',toks:=s.toks+1 }):=
 .of_wp λ A R s ⟨hm,h⟩=>by
  unfold Builtin.«dict.setdefault» Builtin.Dict.keyAndDefault;refine M6 (M6 (wpAny_notOrdered_dict hm.typeIs ?_));show wpAny _ _ (pure (d,key,some x)) _ _ s;refine Nc ?_;show wpAny _ _ (if (d == sysModules)=true then _ else (dictSetDefault d key x >>= _)) _ _ s;rw[Nu (by rw[hd];exact Nd)];exact M6 (DI.Ds hkey hm hnot hsz λ h' q1 q2=>Nc ⟨x,rfl,h h' q1 q2⟩)
def zV:G1 X "dict.setdefault" Dt:=by
 intro pins s σ H x vs v us Q I rx rv h;obtain⟨a,kvs,ep,k,z,rfl,rfl,hH,hl,h1,h2⟩:=h;cases rx;obtain⟨u1,u2,rfl,r1,r2⟩:=rv.two;obtain⟨zl,hd,ws,rel,dd⟩:=G6 I.hok (show HK H a kvs from ⟨ep,hH⟩);have hw:ws.length<=sizeLine:=by rw[<-rel.length];exact zl
 have hv:=rel.val k;cases e:jk kvs k with
 | some y =>
  rw[e]at hv;obtain⟨w',q,rw'⟩:=pC.some_of (v:=y) (o:=valueAt ws k) hv;refine call_meetsIn Pg dd.typeIs QS (QM _ _ _) (meets_dict_setdefault (bX X.prog X.w) a (vF r1) hd u2) ⟨_,dd.mapOf,?_,λ v' hv'=>?_,λ hn=>?_⟩
  ·intro o es q ho hdat;obtain⟨o',es',q',ho',_,hd',_,hp,_⟩:=dd;rw[ho']at ho;cases ho;rw[hd']at hdat;cases hdat;have:=hp.length;rw[NI]at this;omega
  ·rw[q]at hv';cases hv';exact⟨y,H,I.tok _,rw',h1 y e⟩
  ·rw[q]at hn;cases hn
 | none =>
  rw[e]at hv;have hn:valueAt ws k=none:=by
   cases q:valueAt ws k with
   |none=>rfl|some _=>rw[q]at hv;exact hv.elim
  refine call_meetsIn Pg dd.typeIs QS (QM _ _ _) (yh (vF r1) hd (qu hn) hw) ⟨dd,λ h' d1 d2=>?_⟩;obtain⟨ep',d1'⟩:=d1.dictAt;have he:∃ q,h'.get? a=some q:=let ⟨q,_,hq,_⟩:=d1';⟨q,hq⟩
  refine⟨z,_,ug (t':=s.toks+1) I (by rw[hH];exact True.intro) d2 he (CF (kvs:=kvs++[(k,z)]) (by rw[Nn];show _+1<=_;omega) hd (rel.snoc ⟨rfl,r2⟩) d1'),r2,h2 e ep'⟩
end
end L2
namespace DL
open PySem PySem.Spec PyProof.Rows L2
variable {a b:Addr}{kvs:List (Key×V)}{ep:Nat}
def jz:List KT->List D->KT->D->List D
 |k::ks,d::ds,q,x=>if k=q then x::ds else d::jz ks ds q x
 |_,ds,_,_=>ds
def yi {A g g' C:List Addr}(h:(A++g++C).Nodup)(n:g'.Nodup)(s:∀ x∈g',x∈g):(A++g'++C).Nodup:=by
 rw[NT,Np]at h ⊢;obtain⟨h1,h2,h3⟩:=h;rw[Np]at h2;obtain⟨h4,h5,h6⟩:=h2;refine⟨h1,Np.mpr ⟨n,h5,λ a ha b hb=>h6 a (s a ha) b hb⟩,λ a ha b hb=>h3 a ha b ?_⟩;rcases Nk.mp hb with z|z
 ·exact Nt _ (s b z)
 ·exact Nz _ z
section
variable {K:PySem.W.Frag}{Y:XY}{H0 B0 B H:Hp}{σ:L2.St}{τ:SD}{P:List Addr}{F:Addr->Prop}{X:Cx}{pos:Pos}
def ai.conv {B' H':Hp}{M:List Addr}(kp:∀ d v h,Rep K B No H d v h->(∀ a∈h,a∈M)->Rep K B' No H' d v h):∀ {ds:List D}{vs:List V}{f:List Addr},ai K B No H ds vs f->(∀ a∈f,a∈M)->ai K B' No H' ds vs f
 |[],_,_,r,_=>r
 | d::ds,vs,f,r,m=>by
  obtain⟨v,w,f1,f2,rfl,r1,r2,rfl⟩:=r;exact⟨v,w,f1,f2,rfl,kp _ _ _ r1 λ a z=>m a (Nt _ z),ai.conv kp r2 λ a z=>m a (Nz _ z),rfl⟩
def ai.F5:∀ {kvs:List (Key×V)}{xs:List D}{f:List Addr}{k:Key}{din:D},ai K B No H xs (kvs.map (·.2)) f->d8 (kvs.map λ p=>Sum.inl p.1) xs (.inl k)=some din ->
  ∃ w A g C,jk kvs k=some w/\f=A++g++C/\Rep K B No H din w g/\∀ {B' H':Hp}{d':D}{g':List Addr},(∀ d v h,Rep K B No H d v h->(∀ a∈h,a∈A++C)->Rep K B' No H' d v h)->Rep K B' No H' d' w g'->ai K B' No H' (jz (kvs.map λ p=>Sum.inl p.1) xs (.inl k) d') (kvs.map (·.2)) (A++g'++C)
 |[],xs,f,k,din,r,e=>by cases xs<;>cases e
 |p::kvs,[],f,k,din,r,e=>by cases e
 | p::kvs,d::ds,f,k,din,r,e=>by
  obtain⟨v,w,f1,f2,ev,r1,r2,rfl⟩:=r;rw[ND]at ev;cases ev;rw[ND,d8]at e;by_cases h:p.1=k
  ·rw[Nr (OQ Sum.inl h)]at e;cases e;refine⟨p.2,[],f1,f2,kD h,rfl,r1,λ {B' H' d' g'} kp r'=>?_⟩;rw[ND,ND,jz,Nr (OQ Sum.inl h)];exact⟨p.2,_,g',f2,rfl,r',ai.conv kp r2 (λ a m=>m),rfl⟩
  ·rw[Nu λ z=>h (PZ z)]at e;obtain⟨w,A,g,C,h1,h2,h3,h4⟩:=ai.F5 r2 e;subst h2;refine⟨w,f1++A,g,C,by rw[jl h];exact h1,by simp,h3,λ {B' H' d' g'} kp r'=>?_⟩;rw[ND,ND,jz,Nu λ z=>h (PZ z)];exact⟨p.2,_,f1,A++g'++C,rfl,kp _ _ _ r1 (λ a m=>Nt _ (Nt _ m)),h4 (λ d v u r m=>kp d v u r λ a z=>by
    rcases Nk.mp (m a z) with q|q
    ·exact Nt _ (Nz _ q)
    ·exact Nz _ q) r',by simp⟩
def oG (i:Nat)(f1 fk fv:SD->Res D)(τ:SD):Fl:=(fv τ).i8 τ λ d=>match cW τ i with
 | some (t,false,ks,xs)=>(f1 τ).i8 τ λ d1=>match ff d1 with
  | some (.inl q1)=>match d8 ks xs (.inl q1) with
   | some (.dct .own false ks2 ys)=>(fk τ).i8 τ λ dk=>match ff dk with
    |some (.inl q)=>if d.pure=true/\ks2.length<16777216 then .nx (τ.set i (some (.dct t false ks (jz ks xs (.inl q1) (.dct .own false (j3 ks2 (.inl q)) (j0 ks2 ys (.inl q) d)))))) else .bad
    |_=>.bad
   |_=>.bad
  |_=>.bad
 |_=>.bad
def qx{o:HO}(n:a≠b)(h:H a=some (.dK kvs ep)):DictAt (upd H b o) a false (kvs.map λ p=>Sum.inl p.1) (kvs.map (·.2)):=.inl ⟨rfl,kvs,ep,by rw[aN n];exact h,rfl,rfl⟩
def SI.K0 {i:Nat}{t:Tg}(ht:t.kH=true){ks2:List KT}{xs ys:List D}{q1 q:Key}{d:D}{v:V}(I:SI K H0 B0 B H σ τ P No)(hi:τ[i]?=some (some (.dct t false (kvs.map λ p=>Sum.inl p.1) xs)))(ev:σ[i]?=some (some (.ref a)))(ha:H a=some (.dK kvs ep))
  (hlk:d8 (kvs.map λ p=>Sum.inl p.1) xs (.inl q1)=some (.dct .own false ks2 ys)) (hb:jk kvs q1=some (.ref b)) (hp:d.pure=true) (rd:Rep K B No H d v []) :
  ∃ kvs2 ep2,H b=some (.dK kvs2 ep2)/\ks2=kvs2.map (λ p=>Sum.inl p.1)/\∀ en,∃ P',jZ K H0 B0 B H B (upd H b (.dK (putK kvs2 q v) en)) σ (τ.set i (some (.dct t false (kvs.map λ p=>Sum.inl p.1) (jz (kvs.map λ p=>Sum.inl p.1) xs (.inl q1) (.dct .own false (j3 ks2 (.inl q)) (j0 ks2 ys (.inl q) d)))))) P':=by
 have hi':i<τ.length:=(Ng.mp hi).1;obtain⟨A0,f0,C0,eP,g1,g2⟩:=I.rep.cut hi';obtain⟨v',e1,r1⟩:=g1 _ hi;rw[ev]at e1;cases e1;obtain⟨a',ws,g,ea,hq,rl,ef,back'⟩:=r1.bJ ht;cases ea;rcases hq with ⟨_,kvs',ep',ha',hks',hws'⟩|⟨q0,_⟩
 rotate_left
 ·cases q0
 rw[ha]at ha';cases ha';subst hws';obtain⟨w,A,gi,C,hv1,hf,rin,back⟩:=ai.F5 rl hlk;rw[hb]at hv1;cases hv1;obtain⟨b',us,gg,eb,dqb,rlb,rfl⟩:=rin;cases eb;rcases dqb with ⟨_,kvs2,ep2,hb2,hks2,hus⟩|⟨q0,_⟩
 rotate_left
 ·cases q0
 subst hf ef hus hks2;refine⟨kvs2,ep2,hb2,rfl,λ en=>?_⟩;have nd0:=I.nd;rw[eP]at nd0;have ndf:(a::(A++b::gg++C)).Nodup:=(nd0.sublist (NV _ _)).sublist (NL _ _);have hab:a≠b:=λ z=>by
  subst z;exact(Nv.mp ndf).1 (by simp)
 have hbf:b∈a::(A++b::gg++C):=by simp
 obtain⟨p1,f',p2,p3,p4⟩:=xY Sum.inl (λ a b h=>PZ h) (k:=q) (kvs:=kvs2) rlb rd λ _=>hp;have ndg:(b::gg).Nodup:=(((Nv.mp ndf).2.sublist (NV _ _)).sublist (NL _ _));have sg:∀ x∈f',x∈gg:=λ x m=>(p3 x m).resolve_right (by simp);have nf':(b::f').Nodup:=Nv.mpr ⟨λ m=>(Nv.mp ndg).1 (sg b m),p4 (Nv.mp ndg).2 OG (λ _ m=>by cases m)⟩;have kp:jq H (upd H b (.dK (putK kvs2 q v) en)) [b]:=⟨λ x o h n=>by rw[aN (by simpa using n)];exact h,λ x m=>by
  have:x=b:=by simpa using m
  subst this;exact⟨_,hb2,trivial⟩⟩
 have es:σ.set i (some (.ref a))=σ:=by
  refine OA λ k=>?_;by_cases hk:k=i
  ·subst hk;rw[Ol (Ng.mp ev).1,ev]
  ·rw[Om (OV hk)]
 have kpf:jq H (upd H b (.dK (putK kvs2 q v) en)) (a::(A++b::gg++C)):=⟨λ x o h n=>kp.keep x o h (λ z=>n (by
  have:x=b:=by simpa using z
  subst this;exact hbf)),λ x m=>I.rep.own x (by rw[eP];exact cM _ _ _ x m)⟩
 have nbM:∀ x∈A++C,x≠b:=λ x m z=>by
  subst z;have n:=(Nv.mp ndf).2;rw[NT,Np]at n;obtain⟨_,n2,n3⟩:=n;rcases Nk.mp m with y|y
  ·exact n3 x y x (by simp) rfl
  ·rw[Np]at n2;exact n2.2.2 x Na x y rfl
 have rin':Rep K B No (upd H b (.dK (putK kvs2 q v) en)) (.dct .own false (j3 (kvs2.map λ p=>Sum.inl p.1) (.inl q)) (j0 (kvs2.map λ p=>Sum.inl p.1) ys (.inl q) d)) (.ref b) (b::f'):=
  ⟨b,_,f',rfl,.inl ⟨rfl,_,en,aK,p1,rfl⟩,p2.keep kp (λ x m z=>(Nv.mp nf').1 ((by simpa using z:x=b)▸m)),rfl⟩
 have rn:=back' (qx hab ha) (back (λ d v h r m=>r.keep kp λ x z y=>nbM x (m x z) (by simpa using y)) rin');have key:=I.put (i:=i) (H1:=upd H b (.dK (putK kvs2 q v) en)) hi' eP g2 kpf rn ?_ λ x m=>.inl ?_
 ·rw[es]at key;exact⟨_,key,aq.refl _,λ x o h n=>kp.vM h n⟩
 ·exact yi (A:=a::A) ndf nf' λ x m=>(Nq.mp m).elim (λ z=>z▸Na) λ z=>Nb _ (sg x z)
 ·have:x∈a::A++b::f'++C:=m;simp only[List.cons_append,Nq,Nk]at this ⊢;rcases this with z|(z|z|z)|z
  ·exact .inl z
  ·exact .inr (.inl (.inl z))
  ·exact .inr (.inl (.inr (.inl z)))
  ·exact .inr (.inl (.inr (.inr (sg x z))))
  ·exact .inr (.inr z)
def zW (i:Nat){x:Str}{p1 p2 pos':Pos}{k1e ke value:Expr}{f1 fk fv:SD->Res D}(hu:X.A.units+1<cLine)(h1e:PE X k1e (tM X.K Y f1))(hk:PE X ke (tM X.K Y fk))(hv:PE X value (tM X.K Y fv))(hs1:Fp k1e)(hN:X.N[i]?=some x:=by rfl)(hvi:rD X.env.scope x:=by first|exact Or.inl rfl|exact Or.inr (Or.inl rfl)|exact Or.inr (Or.inr rfl))(hd:(x == ("__debug__" : Str))=false:=by decide)(hcd:(x == ("__classdict__" : Str))=false:=by decide)
  (hs:swapsWith value (some (.Subscript (.Subscript (.Name x p1) k1e p2) ke pos')) pos.line X.env=pure false:=by rfl):PS X (.Assign [.Subscript (.Subscript (.Name x p1) k1e p2) ke pos'] value pos) (jK X.K Y (oG i f1 fk fv)):=by
 refine PS.imp (zt hu (zu hu (dm hN hvi hd hcd) h1e hs1) hk hv hs) λ E σ H hq=>ex7 hq λ H0 B0 B τ P I h=>?_;refine lZ I h λ d v H1 B1 fp _ I1 s1 b1 r1 k1 h1=>?_;cases z:cW τ i with
 |none=>rw[z]at h1;exact h1.elim
 | some t =>
  obtain⟨t,k,ks,xs⟩:=t;rw[z]at h1;cases k with
  |true=>exact h1.elim
  | false =>
   simp only at h1;obtain⟨hi,ht⟩:=mD z;obtain⟨w,f,e1,r2,sf⟩:=I1.rep.get hi;obtain⟨a,ws,g,rfl,dq,rl,ef,_⟩:=r2.bJ ht;rcases dq with ⟨_,kvs,ep,ha,hks,hws⟩|⟨q0,_⟩
   rotate_left
   ·cases q0
   subst hks hws;refine⟨.ref a,e1,?_⟩;refine⟨H0,B0,B1,τ,P,_,I1.hold k1,?_⟩;cases y:f1 τ with
   |f7 C=>rw[y]at h1;exact λ H2 B2 I2 s2 b2=>h1 B2 H2 σ P (jZ.grow (I2.qi λ _ x=>x.elim) b2 s2)
   |bad=>rw[y]at h1;exact h1
   | ok d1 =>
    rw[y]at h1;intro vk1 H2 B2 fq I2 s2 b2 rk1 kk1;simp only[Res.i8]at h1;cases hk1:ff d1 with
    |none=>rw[hk1]at h1;exact h1.elim
    | some q1 =>
     rw[hk1]at h1;cases q1 with
     |inr q1=>exact h1.elim
     | inl q1 =>
      simp only at h1;have ev:=qo hk1 rk1;subst ev;have rl2:=rl.mono s2 b2 λ _ x=>x;have ha2:=s2 _ _ ha;cases hlk:d8 (kvs.map λ p=>Sum.inl p.1) xs (.inl q1) with
      |none=>rw[hlk]at h1;exact h1.elim
      | some din =>
       rw[hlk]at h1;split at h1
       ·rename_i ks2 ys heq;cases heq;obtain⟨w,A,gi,C,hv1,hf,⟨b,us,gg,rfl,_,_,_⟩,_⟩:=ai.F5 rl2 hlk;refine⟨a,.ref b,rfl,hv1▸mY.k ⟨ep,ha2⟩,?_⟩;refine⟨H0,B0,B2,τ,P,_,I2,?_⟩;cases y2:fk τ with
        |f7 C=>rw[y2]at h1;exact λ H3 B3 I3 s3 b3=>h1 B3 H3 σ P (jZ.grow (I3.qi λ _ x=>x.elim) (b2.trans b3) (s2.trans s3))
        |bad=>rw[y2]at h1;exact h1
        | ok dk =>
         rw[y2]at h1;intro vk H3 B3 fr I3 s3 b3 rk kk;have I5:SI X.K H0 B0 B3 H3 σ τ P No:=I3.qi λ _ x=>x.elim;have h2:=b8.later h1 (jZ.grow I5 (b2.trans b3) (s2.trans s3));simp only at h2;split at h2
         ·rename_i q hkk;split at h2
          ·rename_i hc;obtain⟨c1,c2⟩:=hc;have ef:=m9.1 d c1 r1;subst ef;have rd:=(r1.gD (ck d c1)).mono (s2.trans s3) (b2.trans b3) λ _ x=>x;have ev:=qo hkk rk;subst ev;obtain⟨kvs2,ep2,hb2,hks2,A'⟩:=I5.K0 ht (q:=q) hi e1 (s3 _ _ ha2) hlk hv1 c1 rd;refine⟨b,rfl,.inl ⟨kvs2,q,⟨ep2,hb2⟩,rfl,?_,λ en=>?_⟩⟩
           ·rw[hks2,M7]at c2;rw[Oc];exact c2
           ·obtain⟨P',A''⟩:=A' en;exact h2 B3 _ σ P' A''
          ·exact h2.elim
         ·exact h2.elim
       ·exact h1.elim
end
section
variable {K:PySem.W.Frag}{Y:XY}{H0 B0 B H:Hp}{σ:L2.St}{τ:SD}{P:List Addr}{F:Addr->Prop}{X:Cx}{pos:Pos}
def jS (i:Nat)(fk:SD->Res D)(j:Nat)(τ:SD):Fl:=match cW τ i,τ[j]? with
 | some (t,false,ks,xs),some (some d)=>(fk τ).i8 τ λ dk=>match ff dk with
  | some (.inl q)=>match d8 ks xs (.inl q) with
   |some (.lst .own ys)=>if d.pure=true/\ks.length<16777216/\ys.length<16777216 then .nx (τ.set i (some (.dct t false ks (jz ks xs (.inl q) (.lst .own (ys++[d])))))) else .bad
   |none=>if d.pure=true/\ks.length<16777216 then .nx (τ.set i (some (.dct t false (ks++[.inl q]) (xs++[.lst .own [d]])))) else .bad
   |_=>.bad
  |_=>.bad
 |_,_=>.bad
def SI.K1 {i:Nat}{t:Tg}(ht:t.kH=true){xs ys ys':List D}{q1:Key}{us us':List V}(I:SI K H0 B0 B H σ τ P No)(hi:τ[i]?=some (some (.dct t false (kvs.map λ p=>Sum.inl p.1) xs)))(ev:σ[i]?=some (some (.ref a)))(ha:H a=some (.dK kvs ep))
  (hlk:d8 (kvs.map λ p=>Sum.inl p.1) xs (.inl q1)=some (.lst .own ys)) (hb:jk kvs q1=some (.ref b)) (hbl:H b=some (.lst us)) (items:∀ f,ai K B No H ys us f->ai K B No H ys' us' f) :
  ∃ P',jZ K H0 B0 B H B (upd H b (.lst us')) σ (τ.set i (some (.dct t false (kvs.map λ p=>Sum.inl p.1) (jz (kvs.map λ p=>Sum.inl p.1) xs (.inl q1) (.lst .own ys'))))) P':=by
 have hi':i<τ.length:=(Ng.mp hi).1;obtain⟨A0,f0,C0,eP,g1,g2⟩:=I.rep.cut hi';obtain⟨v',e1,r1⟩:=g1 _ hi;rw[ev]at e1;cases e1;obtain⟨a',ws,g,ea,hq,rl,ef,back'⟩:=r1.bJ ht;cases ea;rcases hq with ⟨_,kvs',ep',ha',hks',hws'⟩|⟨q0,_⟩
 rotate_left
 ·cases q0
 rw[ha]at ha';cases ha';subst hws';obtain⟨w,A,gi,C,hv1,hf,rin,back⟩:=ai.F5 rl hlk;rw[hb]at hv1;cases hv1;obtain⟨b',us0,gg,eb,hbl',rlb,rfl⟩:=rin;cases eb;rw[hbl]at hbl';cases hbl';subst hf ef;have nd0:=I.nd;rw[eP]at nd0;have ndf:(a::(A++b::gg++C)).Nodup:=(nd0.sublist (NV _ _)).sublist (NL _ _);have hab:a≠b:=λ z=>by
  subst z;exact(Nv.mp ndf).1 (by simp)
 have hbf:b∈a::(A++b::gg++C):=by simp
 have ndg:(b::gg).Nodup:=(((Nv.mp ndf).2.sublist (NV _ _)).sublist (NL _ _));have kp:jq H (upd H b (.lst us')) [b]:=⟨λ x o h n=>by rw[aN (by simpa using n)];exact h,λ x m=>by
  have:x=b:=by simpa using m
  subst this;exact⟨_,hbl,trivial⟩⟩
 have es:σ.set i (some (.ref a))=σ:=by
  refine OA λ k=>?_;by_cases hk:k=i
  ·subst hk;rw[Ol (Ng.mp ev).1,ev]
  ·rw[Om (OV hk)]
 have kpf:jq H (upd H b (.lst us')) (a::(A++b::gg++C)):=⟨λ x o h n=>kp.keep x o h (λ z=>n (by
  have:x=b:=by simpa using z
  subst this;exact hbf)),λ x m=>I.rep.own x (by rw[eP];exact cM _ _ _ x m)⟩
 have nbM:∀ x∈A++C,x≠b:=λ x m z=>by
  subst z;have n:=(Nv.mp ndf).2;rw[NT,Np]at n;obtain⟨_,n2,n3⟩:=n;rcases Nk.mp m with y|y
  ·exact n3 x y x (by simp) rfl
  ·rw[Np]at n2;exact n2.2.2 x Na x y rfl
 have rin':Rep K B No (upd H b (.lst us')) (.lst .own ys') (.ref b) (b::gg):=⟨b,us',gg,rfl,aK,(items gg rlb).keep kp (λ x m z=>(Nv.mp ndg).1 ((by simpa using z:x=b)▸m)),rfl⟩;have rn:=back' (qx hab ha) (back (λ d v h r m=>r.keep kp λ x z y=>nbM x (m x z) (by simpa using y)) rin');have key:=I.put (i:=i) (H1:=upd H b (.lst us')) hi' eP g2 kpf rn ndf λ x m=>.inl m;rw[es]at key;exact⟨_,key,aq.refl _,λ x o h n=>kp.vM h n⟩
def By {p:Addr}{o1 o2 x:HO}(n:a≠p):upd (upd (upd H p o1) a x) p o2=upd (upd H p o2) a x:=by
 funext b;by_cases h1:b=p
 ·subst h1;rw[aK,aN (OV n),aK]
 ·rw[aN h1];by_cases h2:b=a
  ·subst h2;rw[aK,aK]
  ·rw[aN h2,aN h1,aN h2,aN h1]
def Du (i j:Nat){x y:Str}{p1 p2 p3 a1 c1 a2 c2:Pos}{ke:Expr}{fk:SD->Res D}(hk:PE X ke (tM X.K Y fk))(hN:X.N[i]?=some x:=by rfl)(hM:X.N[j]?=some y:=by rfl)(hv:rD X.env.scope x:=by first|exact Or.inl rfl|exact Or.inr (Or.inl rfl)|exact Or.inr (Or.inr rfl))(hw:rD X.env.scope y:=by first|exact Or.inl rfl|exact Or.inr (Or.inl rfl)|exact Or.inr (Or.inr rfl))
  (hd:(x == ("__debug__" : Str))=false:=by decide) (hcd:(x == ("__classdict__" : Str))=false:=by decide) (hd':(y == ("__debug__" : Str))=false:=by decide) (hcd':(y == ("__classdict__" : Str))=false:=by decide)
  (hin:PE X (.Call (.Attribute (.Name x p1) "setdefault" a1) [ke,.List [] p3] [] c1) (Lu X.K "dict" Dt (E3 i) (pY (tM X.K Y fk) (pY (HE xB) xB))))
  (hout:PE X (.Call (.Attribute (.Call (.Attribute (.Name x p1) "setdefault" a1) [ke,.List [] p3] [] c1) "append" a2) [.Name y p2] [] c2) (Lu X.K "list" zr (Lu X.K "dict" Dt (E3 i) (pY (tM X.K Y fk) (pY (HE xB) xB))) (pY (E3 j) xB)))
  (hsw:swapsWith (.Call (.Attribute (.Call (.Attribute (.Name x p1) "setdefault" a1) [ke,.List [] p3] [] c1) "append" a2) [.Name y p2] [] c2) none pos.line X.env=pure false:=by rfl) :
  PS X (.Expr (.Call (.Attribute (.Call (.Attribute (.Name x p1) "setdefault" a1) [ke,.List [] p3] [] c1) "append" a2) [.Name y p2] [] c2) pos) (jK X.K Y (jS i fk j)):=by
 refine PS.imp (jO hout hsw) λ E σ H hq=>ex7 hq λ H0 B0 B τ P I h=>?_;unfold jS at h;split at h
 ·rename_i t ks xs d z zj;obtain⟨hi,ht⟩:=mD z;obtain⟨w0,f0,e0,r0,_⟩:=I.rep.get hi;obtain⟨a,ws0,g0,rfl,dq0,_,_,_⟩:=r0.bJ ht;have tyd:Lv X.K "dict" (.ref a) H:=by
   rcases dq0 with ⟨_,kvs,ep,ha,_⟩|⟨q0,_⟩
   ·exact .inr (.inr (.inl ⟨rfl,.inl ⟨kvs,ep,ha⟩⟩))
   ·cases q0
  refine⟨.ref a,e0,tyd,lZ I h λ dk vk H1 B1 fp _ I1 s1 b1 rk k1 h1=>⟨by show 0<=_;exact OD _,λ p hp=>?_⟩⟩;obtain⟨w,f,e1,r1,sf⟩:=I1.rep.get hi;rw[e0]at e1;cases e1;obtain⟨a',ws,g,ea,dq,rl,ef,_⟩:=r1.bJ ht;cases ea;rcases dq with ⟨_,kvs,ep,ha,hks,hws⟩|⟨q0,_⟩
  rotate_left
  ·cases q0
  subst hks hws;obtain⟨wj,fj,ej,rj,sj⟩:=I1.rep.get zj;have ne:a≠p:=λ z=>by rw[<-z,ha]at hp;cases hp
  have sP:=dY (o:=.lst []) hp;split at h1
  ·rename_i q hq;have ev:=qo hq rk;subst ev;have look:=lJ Sum.inl (λ a b h=>PZ h) (k:=q) rl;split at h1
   ·rename_i ys hl;rw[hl]at look;obtain⟨v,g',hv1,rv,_⟩:=look;obtain⟨b,us,gg,rfl,hbl,rlb,rfl⟩:=rv;split at h1
    ·rename_i hc;have efj:=m9.1 d hc.1 rj;subst efj;refine⟨a,kvs,ep,q,.ref p,rfl,rfl,sP _ _ ha,by rw[Oc];simpa using hc.2.1,λ v2 hv2=>?_,(λ hn=>by rw[hv1]at hn;cases hn)⟩;rw[hv1]at hv2;cases hv2;have hb2:=sP _ _ hbl;refine⟨.inl ⟨rfl,us,cY.of hb2⟩,wj,ej,b,us,wj,rfl,rfl,hb2,by rw[<-rlb.length,Oc];exact hc.2.2,?_⟩;obtain⟨P',A'⟩:=(I1.grow sP).K1 ht (ys':=ys++[d]) (us':=us++[wj]) hi e0 (sP _ _ ha) hl hv1 hb2 λ f r=>by
      have:=r.append (ai.one (rj.mono sP (aq.refl _) λ _ x=>x));rw[NX]at this;exact this
     exact h1 B1 _ σ P' ⟨A'.si,A'.b,(mS.of sP).trans A'.vM⟩
    ·exact h1.elim
   ·rename_i hl;rw[hl]at look;split at h1
    ·rename_i hc;have efj:=m9.1 d hc.1 rj;subst efj;refine⟨a,kvs,ep,q,.ref p,rfl,rfl,sP _ _ ha,by rw[Oc];simpa using hc.2,(λ v2 hv2=>by rw[look]at hv2;cases hv2),λ _ en=>?_⟩;have hp3:upd (upd H1 p (.lst [])) a (.dK (kvs++[(q,.ref p)]) en) p=some (.lst []):=by rw[aN (OV ne),aK]
     refine⟨.inl ⟨rfl,[],cY.of hp3⟩,wj,ej,p,[],wj,rfl,rfl,hp3,by rw[Oc];decide,?_⟩;show E.nx σ (upd (upd (upd H1 p (.lst [])) a (.dK (kvs++[(q,.ref p)]) en)) p (.lst [wj]));rw[By ne];have sQ:=dY (o:=.lst [wj]) hp;obtain⟨n1,n2,n3,n4⟩:=I1.zx hp;have kv:fR H0 B1 (upd H1 p (.lst [wj])) P No [p]:=⟨by simp,λ b m=>by
      have:b=p:=by simpa using m
      subst this;exact⟨n1,n2,by rw[aK];exact OH _,n3,λ z=>z.elim⟩⟩
     obtain⟨P',A'⟩:=(I1.grow sQ).IF ht (o':=.dK (kvs++[(q,.ref p)]) en) (ks':=(kvs.map λ p=>Sum.inl p.1)++[.inl q]) (xs':=xs++[.lst .own [d]]) hi e0 kv ⟨_,sQ _ _ ha,trivial⟩ λ vs f hda hr=>by
      rcases hda with ⟨_,kvs',ep',q1,q2,q3⟩|⟨q0,_⟩
      ·rw[sQ _ _ ha]at q1;cases q1;subst q3;refine⟨_,f++[p],.inl ⟨rfl,_,en,aK,by rw[Nx];rfl,rfl⟩,?_,λ b m=>Nk.mp m,λ nf dis=>Np.mpr ⟨nf,by simp,λ a ha b hb e=>dis b hb (e▸ha)⟩⟩;rw[Nx];exact hr.append (ai.one ⟨p,[wj],[],rfl,aK,ai.one (rj.mono sQ (aq.refl _) λ _ x=>x),rfl⟩)
      ·cases q0
     exact h1 B1 _ σ P' ⟨A'.si,A'.b,(mS.of sQ).trans A'.vM⟩
    ·exact h1.elim
   ·exact h1.elim
  ·exact h1.elim
 ·exact h.elim
end
end DL
namespace L2
open PySem PySem.Spec PyProof.Rows
section
variable {X:Cx}{p pos apos cpos:Pos}{o:Expr}{to:TE}
def zX:∀ {kvs:List (Key×V)}{ws:List (Key×Value)}{us:List Value},KV kvs ws->us.length=ws.length->(∀ (i:Nat) (v:Value),us[i]?=some v->∃ k,ws[i]?=some (k,v))->Vals (kvs.map (·.2)) us
 | [],ws,us,r,hl,_=>by
  have:=KV.length r;have e:us=[]:=OU.mp (by rw[hl,<-this];rfl);subst e;exact .nil
 | kv::kvs,w::ws,u::us,r,hl,h=>by
  cases r with
  | cons h1 h2 =>
   obtain⟨k,e⟩:=h 0 u rfl;cases e;exact .cons h1.2 (zX h2 (by simpa using hl) λ i v e=>h (i+1) v e)
 |kv::kvs,[],us,r,_,_=>by cases r
 |kv::kvs,w::ws,[],_,hl,_=>by cases hl
def wo (hc:X.calm=true)(hg:Gl X "list")(hm:X.mg "list" = none)(ho:PE X o to)(hbase:attributeBase o "values" X.env (eval o X.env)=eval o X.env:=by rfl)(hline:(apos.endLine == cpos.line)=true:=by rfl)
  (hst:starEach [.Call (.Attribute o "values" apos) [] [] cpos] X.env=(false,eval (.Call (.Attribute o "values" apos) [] [] cpos) X.env)::starEach [] X.env:=by rfl) :
  PE X (.Call (.Name "list" p) [.Call (.Attribute o "values" apos) [] [] cpos] [] pos) (λ σ H Q=>to σ H λ x H1=>∃ a kvs ep,x=.ref a/\H1 a=some (.dK kvs ep)/\∀ q,H1 q=none->Q (.ref q) (upd H1 q (.lst (kvs.map (·.2))))):=by
 intro pins s σ H Q I h;refine O4 (jM I hg hm (by decide +kernel:bootBuiltins "list" = some (.type "list")) ?_);refine OI (e:=.Call (.Attribute o "values" apos) [] [] cpos) (rest:=[]) ?_ hst rfl;rw[hst];show wpAny _ _ (spliced ((false,eval (.Call (.Attribute o "values" apos) [] [] cpos) X.env)::[])) _ _ s;refine Q8 ?_;refine Qs hbase hline (eK (ho pins s σ H _ I h) λ v s1 ⟨x,H1,I1,r1,a,kvs,ep,e,ha,q⟩=>?_);subst e;cases r1;obtain⟨h1,h2⟩:=ue (T:="dict") I1 (show RelV (.ref a) (.ref a) from rfl) (.inr (.inr (.inl ⟨rfl,.inl ⟨kvs,ep,ha⟩⟩)));refine⟨"dict","dict.values",PX,PySem.F.slot_dict_values,PySem.F.type_dict_values,h1,h2,Pj rfl (Q0 ?_)⟩;obtain⟨z,ns,ws,r,dd⟩:=(show bZ X.prog X.w H1 s1.heap a (.dK kvs ep) from I1.hok a _ ha);refine call_meetsIn PySem.F.slot_dict_values h1 PySem.F.entry_dict_values (PySem.F.args_dict_values_1 _) (meets_dict_values (bX X.prog X.w) a ns) ⟨⟨ws,dd.dictOf⟩,?_⟩;refine Rp ?_;have hl:=KV.length r;refine PySem.W.kdl_call (n:=ws.length) PySem.W.kdl_values (I1.ok.hd hc) ⟨⟨_,Nj _ rfl,rfl,rfl⟩,dd.push _⟩ (by rw[<-hl];exact z) λ h' tk acc c' kp hS hi=>?_;have ge:s1.heap.objs.size<=(s1.heap.push { cls:=.type "dict_values",data:=.fields #[.ref a] }).objs.size:=by
  show _<=(s1.heap.objs.push _).size;rw[Array.size_push];exact Qt _
 refine⟨.ref (s1.heap.push { cls:=.type "dict_values",data:=.fields #[.ref a] }).objs.size,_,I1.laid (t':=tk) (λ b o e=>kp b o (M8 _ e)) ge ?_,rfl,q _ (I1.hok.fresh ge)⟩;refine⟨by rw[M7];exact z,acc.toList,c',?_,by rw[QP];exact hS⟩;obtain⟨i1,i2⟩:=hi;exact zX r (by rw[NI];exact i1) λ i v e=>i2 i v (by rw[<-N3];exact e)
def K2 (K:PySem.W.Frag):R2:=λ x y H Q=>∃ a b xs ys nss,x=.ref a/\y=.ref b/\cY K H a xs/\cY K H b ys/\oF K H xs nss/\oF K H ys nss/\Q (.bl false) H
def oF.get {K:PySem.W.Frag}{H:Hp}{xs:List V}{nss:List (List Int)}(x:oF K H xs nss):xs.length=nss.length/\∀ (j:Nat) v,xs[j]?=some v->∃ a,v=.ref a/\cY K H a ((nss.getD j []).map V.int):=by
 induction x with
 |nil=>exact⟨rfl,λ j v e=>by simp at e⟩
 | cons a _ ih =>
  refine⟨by rw[Ny,Ny,ih.1],λ j v e=>?_⟩;cases j with
  | zero =>
   have e:=N6 e;subst e;exact⟨_,rfl,a⟩
  |succ j=>exact ih.2 j v e
def BA {pins:List (Addr×Obj)}{s:Shared}{σ:St}{H:Hp}{p q:Addr}{zs:List Int}{A:Around}(hu:A.units<cLine)(I:Inv X pins σ H s)(hp:cY X.K H p (zs.map V.int))(hq:cY X.K H q (zs.map V.int)):SeqAt.EqAt A s (.ref p) (.ref q) true:=by
 by_cases hpq:p=q
 ·subst hpq;exact SeqAt.EqAt.same _
 ·obtain⟨i1,r1,p1,_⟩:=I.list hp;obtain⟨i2,r2,p2,_⟩:=I.list hq;have l1:=r1.length;have l2:=r2.length;rw[M7]at l1 l2;have h:=SeqAt.RcAt.lists (A:=A) p1.isList p2.isList (by rw[Nh,Nh];omega) (by omega) (zQ r1 r2);rw[Nh,<-l1,wk rfl,NP rfl]at h;exact SeqAt.EqAt.of_refs hpq h
def Dw (hu:X.A.units+1<cLine):jj X (compareOp .NotEq) (K2 X.K):=by
 intro pins s σ H x y v u Q I rx ry h;obtain⟨a,b,xs,ys,nss,rfl,rfl,ha,hb,hx,hy,q⟩:=h;cases rx;cases ry;obtain⟨i1,r1,p1,_⟩:=I.list ha;obtain⟨i2,r2,p2,_⟩:=I.list hb;have l1:=r1.length;have l2:=r2.length;obtain⟨n1,g1⟩:=hx.get;obtain⟨n2,g2⟩:=hy.get;have h:=SeqAt.RcNeAt.lists (A:=X.A) (e:=λ _=>true) p1.isList p2.isList (by rw[Nh,Nh];omega) (by omega) (λ j h1 h2=>by
  have h1':j<xs.length:=by rw[l1];simpa using h1
  have h2':j<ys.length:=by rw[l2];simpa using h2
  obtain⟨u1,e1,q1⟩:=r1.get (M9 h1');obtain⟨u2,e2,q2⟩:=r2.get (M9 h2');have k1:i1.toArray[j]=u1:=by
   have:i1[j]?=some i1.toArray[j]:=by simpa using M9 (l:=i1) (by simpa using h1)
   rw[this]at e1;exact N6 e1
  have k2:i2.toArray[j]=u2:=by
   have:i2[j]?=some i2.toArray[j]:=by simpa using M9 (l:=i2) (by simpa using h2)
   rw[this]at e2;exact N6 e2
  obtain⟨c1,z1,s1⟩:=g1 j _ (M9 h1');obtain⟨c2,z2,s2⟩:=g2 j _ (M9 h2');rw[z1]at q1;rw[z2]at q2;cases q1;cases q2;rw[k1,k2];exact BA (by show X.A.units+1<cLine;exact hu) I s1 s2)
 have hz:((List.range i1.toArray.size).all (λ _=>true))=true:=by simp
 rw[hz]at h;exact h _ _ _ _ ⟨.bl _,H,I,rfl,q⟩
end
end L2
namespace DL
open PySem PySem.Spec PyProof.Rows L2
def Dv {A:Around}{k:Nat}(hr:gz k A):A.units+2<cLine:=Nat.lt_of_le_of_lt (Nat.add_le_add_left (by decide:2<=64) _) hr.units
def Dy (x y:D):Res D:=match x,y with
 | .lst _ xs,.lst _ ys=>match km xs,km ys with
  |some a,some b=>if a=b then .ok (.bl false) else .bad
  |_,_=>.bad
 |_,_=>.bad
def qy (i:Nat)(τ:SD):Fl:=match τ[i]? with
 |some (some (.dct .own false _ xs))=>.rt (.lst .own xs)
 |_=>.bad
section
variable {K:PySem.W.Frag}{Y:XY}{H0 B0 B H:Hp}{σ:L2.St}{τ:SD}{P:List Addr}{F:Addr->Prop}{X:Cx}{pos:Pos}
def Hi:ou K Y (K2 K) Dy:=by
 intro H0 B0 B H σ τ P F d1 d2 x y f1 f2 Q I r1 r2 k h;unfold Dy at h;split at h
 ·rename_i t xs t' ys;split at h
  ·rename_i a b ea eb;split at h
   ·rename_i e;subst e;obtain⟨p,vs,g,rfl,q,l,s⟩:=r1.lst I;obtain⟨p',vs',g',rfl,q',l',s'⟩:=r2.lst I;exact⟨p,p',vs,vs',a,rfl,rfl,q,q',qr I ea l,qr I eb l',Out.here h I ⟨rfl,rfl⟩⟩
   ·exact h.elim
  ·exact h.elim
 ·exact h.elim
def BB (i:Nat){x:Str}{p pn pa pc pl:Pos}(hc:X.calm=true)(hg:Gl X "list")(hm:X.mg "list" = none)(hN:X.N[i]?=some x:=by rfl)(hv:rD X.env.scope x:=by first|exact Or.inl rfl|exact Or.inr (Or.inl rfl)|exact Or.inr (Or.inr rfl))(hd:(x == ("__debug__" : Str))=false:=by decide)(hcd:(x == ("__classdict__" : Str))=false:=by decide)(hl:Y.ln=false:=by rfl)
  (hbase:attributeBase (.Name x pn) "values" X.env (eval (.Name x pn) X.env)=eval (.Name x pn) X.env:=by rfl) (hline:(pa.endLine == pc.line)=true:=by rfl)
  (hst:starEach [.Call (.Attribute (.Name x pn) "values" pa) [] [] pc] X.env=(false,eval (.Call (.Attribute (.Name x pn) "values" pa) [] [] pc) X.env)::starEach [] X.env:=by rfl) :
  PS X (.Return (some (.Call (.Name "list" p) [.Call (.Attribute (.Name x pn) "values" pa) [] [] pc] [] pl)) pos) (jK X.K Y (qy i)):=by
 refine PS.imp (pV (wo hc hg hm (dm hN hv hd hcd) hbase hline hst)) λ E σ H hq=>ex7 hq λ H0 B0 B τ P I h=>?_;unfold qy at h;split at h
 ·rename_i ks xs e;obtain⟨v,f,h1,h2,h3⟩:=I.rep.get e;obtain⟨a,vs,g,rfl,hq,rl,rfl⟩:=h2;rcases hq with ⟨_,kvs,ep,ha,hks,hws⟩|⟨q0,_⟩
  rotate_left
  ·cases q0
  subst hws;refine⟨.ref a,h1,a,kvs,ep,rfl,ha,λ p hp=>?_⟩;have s:=dY (o:=.lst (kvs.map (·.2))) hp;have sub:∀ b∈g,b∈P:=λ b m=>h3.subset (Nb _ m);have hpn:p∉g:=λ m=>I.stands (sub p m) hp;refine(b8.rt hl h) B _ (.ref p) (p::g) ⟨I.h0.trans s,I.b0,I.bh.trans s,I.nb,⟨p,_,g,rfl,aK,rl.mono s (aq.refl _) (λ _ x=>x),rfl⟩,Nv.mpr ⟨hpn,(Nv.mp (I.nd.sublist h3)).2⟩,λ b m=>?_⟩;rcases Nq.mp m with e|m
  ·subst e;exact⟨I.bh.free hp,I.h0.free hp,by rw[aK];exact OH _⟩
  ·obtain⟨a1,a2,_⟩:=I.own b (sub b m);exact⟨a1,a2,λ z=>I.stands (sub b m) (s.free z)⟩
 ·exact h.elim
end
end DL
namespace L2
open PySem PySem.Spec PyProof.Rows
open PySem.AutoSeq1 PySem.MeetsSeq PySem.MeetsSeq2 PySem.MeetsSeq3
section
variable {X:Cx}
end
end L2
namespace DL
open PySem PySem.Spec PyProof.Rows L2
section
variable {K:PySem.W.Frag}{Y:XY}{H0 B0 B H:Hp}{σ:L2.St}{τ:SD}{P:List Addr}{F:Addr->Prop}{X:Cx}{pos:Pos}{e:Expr}{fe:SD->Res D}
end
section
variable {K:PySem.W.Frag}{Y:XY}{H0 B0 B H:Hp}{σ:L2.St}{τ:SD}{P:List Addr}{F:Addr->Prop}{X:Cx}{pos:Pos}{e:Expr}{fe:SD->Res D}
end
end DL
namespace HT
open PySem PySem.Spec PyProof.Rows
section
variable {prog:Program}{w:World}{A:Around}{E:Value->Shared->Prop}{s:Shared}
end
end HT
namespace L2
open PySem PySem.Spec PyProof.Rows
section
variable {X:Cx}
end
end L2
namespace DL
open PySem PySem.Spec PyProof.Rows L2
section
variable {K:PySem.W.Frag}{Y:XY}{X:Cx}{pos:Pos}{e:Expr}{fe:SD->Res D}
end
end DL
namespace L2
open PySem PySem.Spec PyProof.Rows
section
variable {X:Cx}
def most (ns:List Int):Int:=ns.getD (argBest (λ i j=>decide (ns.getD i 0>ns.getD j 0)) (ns.length-1)) 0
def BC (hc:X.calm=true):eY X (.builtin "max") (λ xs H Q=>∃ (a:Addr) (ns:List Int),xs=[.ref a]/\cY X.K H a (ns.map V.int)/\0<ns.length/\Q (.int (most ns)) H):=by
 intro pins s σ H xs us Q I r h;obtain⟨a,ns,rfl,hq,hn,q⟩:=h;obtain⟨u,rfl,ru⟩:=vals1 r;cases ru;obtain⟨its,rv,pl,hz⟩:=I.list hq;obtain⟨ys,e1,e2,e3⟩:=we rv;refine max_intList (xs:=ys) (I.ok.hd hc) (by rw[e1];exact pl.isList) (by omega) λ v h' tk hv kp=>?_;obtain⟨t,rfl⟩:=intItems_at hv;have e:numAt ys (argBest (λ i j=>decide (numAt ys i>numAt ys j)) (ys.size-1))=most ns:=by
  unfold most;rw[e3,e2];simp only[e3]
 rw[e];exact⟨.int (most ns),H,I.kept (t':=tk) kp,⟨t,rfl⟩,q⟩
def wt {pins:List (Addr×Obj)}{s:Shared}{σ:St}{H:Hp}{p:Addr}{zs ws:List Int}(I:Inv X pins σ H s)(hp:cY X.K H p (zs.map V.int))(hq:cY X.K H p (ws.map V.int)):zs=ws:=by
 obtain⟨i1,r1,⟨o1,n1,e1,_,_,d1⟩,_⟩:=I.list hp;obtain⟨i2,r2,⟨o2,n2,e2,_,_,d2⟩,_⟩:=I.list hq;rw[e1]at e2;cases e2;rw[d1]at d2;injection d2 with d2 _
 have d3:i1=i2:=by simpa using d2
 subst d3;have l1:=r1.length;have l2:=r2.length;rw[M7]at l1 l2;refine OS (by omega) λ j h1 h2=>?_;have hj:j<i1.toArray.size:=by rw[Nh];omega
 obtain⟨t,x1⟩:=nE r1 (NB hj);obtain⟨t',x2⟩:=nE r2 (NB hj);rw[x1]at x2;injection x2 with x2 _
 rw[Nf,Nf,M9 h1,M9 h2]at x2;exact x2
def yj {pins:List (Addr×Obj)}{s:Shared}{σ:St}{H:Hp}{p q:Addr}{zs ws:List Int}{A:Around}(hu:A.units<cLine)(I:Inv X pins σ H s)(hp:cY X.K H p (zs.map V.int))(hq:cY X.K H q (ws.map V.int)):SeqAt.EqAt A s (.ref p) (.ref q) (decide (zs=ws)):=by
 by_cases hpq:p=q
 ·subst hpq;rw[NP (wt I hp hq)];exact SeqAt.EqAt.same _
 ·obtain⟨i1,r1,p1,_⟩:=I.list hp;obtain⟨i2,r2,p2,_⟩:=I.list hq;have l1:=r1.length;have l2:=r2.length;rw[M7]at l1 l2;refine SeqAt.EqAt.of_refs hpq ?_;by_cases hl:zs.length=ws.length
  ·have h:=SeqAt.RcAt.lists (A:=A) p1.isList p2.isList (by rw[Nh,Nh];omega) (by omega) (zQ r1 r2);rw[Nh,<-l1,wk hl]at h;exact h
  ·rw[NN λ z=>hl (OQ List.length z)];exact SeqAt.RcAt.lists_lengths (A:=A) p1.isList p2.isList (by rw[Nh,Nh,<-l1,<-l2];simpa using hl) (by omega)
def K5 (K:PySem.W.Frag):R2:=λ x y H Q=>∃ a b ns xs nss,x=.ref a/\y=.ref b/\cY K H a (ns.map V.int)/\cY K H b xs/\oF K H xs nss/\Q (.bl (!decide (ns∈nss))) H
open Classical in
def uK (hu:X.A.units+1<cLine):jj X (compareOp .NotIn) (K5 X.K):=by
 intro pins s σ H x y v u Q I rx ry h;obtain⟨a,b,ns,xs,nss,rfl,rfl,ha,hb,hx,q⟩:=h;cases rx;cases ry;obtain⟨its,r,pl,hz⟩:=I.list hb;obtain⟨n1,g1⟩:=hx.get;have hl:=r.length;have item:∀ j (hj:j<its.length),∃ c,its[j]=.ref c/\cY X.K H c ((nss.getD j []).map V.int):=λ j hj=>by
  obtain⟨u,e,ru⟩:=r.get (M9 (show j<xs.length by omega));rw[M9 hj]at e;injection e with e
  obtain⟨c,z,sc⟩:=g1 j _ (M9 (show j<xs.length by omega));rw[z]at ru;cases ru;exact⟨c,e,sc⟩
 have same:∀ j (hj:j<its.length),decide (∃ q,its[j]=.ref q/\cY X.K H q (ns.map V.int))=decide (nss.getD j []=ns):=λ j hj=>by
  obtain⟨c,e,sc⟩:=item j hj;rw[Oj,e];constructor
  ·rintro⟨q,e2,sq⟩;cases e2;exact wt I sc sq
  ·intro z;exact⟨c,rfl,z▸sc⟩
 refine SeqAt.notIn_listAt (λ v=>decide (∃ q,v=.ref q/\cY X.K H q (ns.map V.int))) pl.isList (λ y hy=>?_) ⟨.bl _,H,I,rfl,?_⟩
 ·have hy:y∈its:=by simpa using hy
  obtain⟨j,hj,rfl⟩:=OE.mp hy;obtain⟨c,e,sc⟩:=item j hj;show SeqAt.EqAt X.A.in1 s its[j] (.ref a) (decide (∃ q,its[j]=.ref q/\cY X.K H q (ns.map V.int)));rw[same j hj,e];exact yj (by show X.A.units+1<cLine;exact hu) I sc ha
 ·have e:its.toArray.any (λ v=>decide (∃ q,v=.ref q/\cY X.K H q (ns.map V.int)))=decide (ns∈nss):=by
   rw[show its.toArray.any (λ v=>decide (∃ q,v=.ref q/\cY X.K H q (ns.map V.int)))=its.any (λ v=>decide (∃ q,v=.ref q/\cY X.K H q (ns.map V.int))) by simp,O0,Pr,Og];constructor
   ·rintro⟨v,hv,z⟩;obtain⟨j,hj,rfl⟩:=OE.mp hv;rw[same j hj]at z;have z:=O8 z;rw[<-z,Nf,M9 (show j<nss.length by omega)];exact Of _
   ·intro m;obtain⟨j,hj,e⟩:=OE.mp m;refine⟨its[j]'(by omega),Of _,?_⟩;rw[same j (by omega),NP];rw[Nf,M9 hj];exact e
  rw[e];exact q
def K4 (K:PySem.W.Frag):R2:=λ x y H Q=>∃ a b vs,x=.ref a/\y=.ref b/\cY K H a vs/\cY K H b []/\Q (.bl vs.isEmpty) H
def Jc (hu:X.A.units+1<cLine):jj X (compareOp .Eq) (K4 X.K):=by
 intro pins s σ H x y v u Q I rx ry h;obtain⟨a,b,vs,rfl,rfl,ha,hb,q⟩:=h;cases rx;cases ry;obtain⟨i1,r1,p1,_⟩:=I.list ha;obtain⟨i2,r2,p2,_⟩:=I.list hb;have l1:=r1.length;have l2:=r2.length;rw[Ob]at l2;cases vs with
 | nil =>
  rw[Ob]at l1;have h:=SeqAt.RcAt.lists (A:=X.A) (e:=λ _=>true) p1.isList p2.isList (by rw[Nh,Nh];omega) (by omega) (λ j h1 _=>by
   rw[Nh]at h1;omega)
  have hz:((List.range i1.toArray.size).all (λ _=>true))=true:=by simp
  rw[hz]at h;exact h _ _ _ _ ⟨.bl _,H,I,rfl,q⟩
 | cons w ws =>
  have h:=SeqAt.RcAt.lists_lengths (A:=X.A) p1.isList p2.isList (by
   rw[Nh,Nh,<-l1,<-l2];rfl) (by omega)
  exact h _ _ _ _ ⟨.bl false,H,I,rfl,q⟩
end
end L2
namespace DL
open PySem PySem.Spec PyProof.Rows L2
section
variable {K:PySem.W.Frag}{Y:XY}
def wu:List D->Res D
 |[.lst _ xs]=>match intsOf xs with|some ns=>if 0<ns.length then .ok (.int (most ns)) else .bad|none=>.bad
 |_=>.bad
def Jd:kL K Y (λ xs H Q=>∃ (a:Addr) (ns:List Int),xs=[.ref a]/\cY K H a (ns.map V.int)/\0<ns.length/\Q (.int (most ns)) H) wu:=by
 intro H0 B0 B H σ τ P F ds vs f Q I r k h;unfold wu at h;split at h
 ·obtain⟨v,rfl,r'⟩:=lY r;obtain⟨a,ws,g,rfl,q,l,s⟩:=r'.lst I;split at h
  ·rename_i ns e;have ex:=fO e;subst ex;split at h
   ·rename_i hc;obtain⟨rfl,rfl⟩:=fN l;exact⟨a,ns,rfl,q,hc,Out.here h I ⟨rfl,rfl⟩⟩
   ·exact h.elim
  ·exact h.elim
 ·exact h.elim
def yk (x y:D):Res D:=match x,y with
 | .lst _ xs,.lst _ ys=>match intsOf xs,km ys with
  |some ns,some nss=>.ok (.bl (!decide (ns∈nss)))
  |_,_=>.bad
 |_,_=>.bad
def zY:ou K Y (K5 K) yk:=by
 intro H0 B0 B H σ τ P F d1 d2 x y f1 f2 Q I r1 r2 k h;unfold yk at h;split at h
 ·split at h
  ·rename_i ns nss e1 e2;have ex:=fO e1;subst ex;obtain⟨a,vs,g,rfl,q,l,s⟩:=r1.lst I;obtain⟨b,us,g',rfl,q',l',s'⟩:=r2.lst I;obtain⟨rfl,rfl⟩:=fN l;exact⟨a,b,ns,us,nss,rfl,rfl,q,q',qr I e2 l',Out.here h I ⟨rfl,rfl⟩⟩
  ·exact h.elim
 ·exact h.elim
def F6 (x y:D):Res D:=match x,y with
 |.lst _ xs,.lst _ []=>.ok (.bl xs.isEmpty)
 |_,_=>.bad
def K3:ou K Y (K4 K) F6:=by
 intro H0 B0 B H σ τ P F d1 d2 x y f1 f2 Q I r1 r2 k h;unfold F6 at h;split at h
 ·rename_i t xs t';obtain⟨a,vs,g,rfl,q,l,s⟩:=r1.lst I;obtain⟨b,us,g',rfl,q',l',s'⟩:=r2.lst I;obtain⟨rfl,rfl⟩:=l';have e:vs.isEmpty=xs.isEmpty:=by
   have:=l.length;cases xs<;>cases vs<;>first|rfl|(simp at this)
  exact⟨a,b,vs,rfl,rfl,q,q',by rw[e];exact Out.here h I ⟨rfl,rfl⟩⟩
 ·exact h.elim
end
end DL
namespace L2
open PySem PySem.Spec PyProof.Rows
def Mw (a:Addr)(kvs:List (Key×V))(ep:Nat):It:=
 ⟨λ i H=>H a=some (.dK kvs ep)/\i<kvs.length,λ i H x H'=>H'=H/\∃ p,kvs[i]?=some p/\x=kV p.1,λ i H=>H a=some (.dK kvs ep)/\kvs.length<=i⟩
def K6 {P:Program}{w:World}{k:Key}{u:Value}(h:(bX P w).is k u=true):RelV (kV k) u:=by
 rcases cL (show p5 k u=true from h) with ⟨i,t,rfl,rfl⟩|⟨x,t,rfl,rfl⟩
 ·exact⟨t,rfl⟩
 ·exact⟨t,rfl⟩
def DA:∀ {kvs:List (Key×V)}{vs:List (Key×Value)},KV kvs vs->∀ {i:Nat}{p:Key×V},kvs[i]?=some p->∃ v,vs[i]?=some (p.1,v)
 |_,_,.nil,i,p,h=>by simp at h
 |_,_,.cons (b:=q) r t,0,p,h=>by cases h;exact⟨q.2,by simp[r.1]⟩
 |_,_,.cons r t,i+1,p,h=>DA t (i:=i) h
def BD {P:Program}{w:World}{K:PySem.W.Frag}{tg:Expr}(a it:Addr)(kvs:List (Key×V))(ep:Nat):Turn P w K tg (Mw a kvs ep) [it] it (λ i h=>h.IsKeyIter it a i kvs.length ep) where
 mem:=by simp
 obj:=λ i h st b hb=>by
  have e:b=it:=by simpa using hb
  subst e;obtain⟨o,e,c,d⟩:=st;exact⟨o,e,λ v z=>by rw[d]at z;cases z⟩
 keep:=λ i h h' st k=>by
  obtain⟨o,e,c,d⟩:=st;exact⟨o,k it (by simp) o e,c,d⟩
 item:=by
  intro X hP hw hK hc i pins s σ H E I hf st hg;subst hP hw hK;obtain⟨ha,hi⟩:=hg;obtain⟨z,y,vs,r,dd⟩:=(show bZ X.prog X.w H s.heap a (.dK kvs ep) from I.hok a _ ha);have hl:kvs.length=vs.length:=O5 r;obtain⟨v,hv⟩:=DA r (M9 hi);obtain⟨f0,f1,f2,f3,f4,f5⟩:=hf it (by simp);rw[hl]at st;refine wpAny_pyNext_dict_item st dd hv λ key h' hk st' sb=>?_;have I1:Inv X pins σ H { s with heap:=h' }:=I.turned (t':=s.toks) (λ b o hb e=>(sb.2 b hb).trans e) f0 f1 f3 f4 f5;obtain⟨o,e,c,d⟩:=id st';rw[<-hl]at st';exact⟨key,rfl,zo (s:={ s with heap:=h' }) e c d (by decide) ⟨kV kvs[i].1,H,I1,K6 hk,⟨rfl,_,M9 hi,rfl⟩,st',λ b hb=>(hf b hb).1⟩⟩
 done:=by
  intro X hP hw hK hc i pins s σ H E I hf st hg;subst hP hw hK;obtain⟨ha,hi⟩:=hg;obtain⟨z,y,vs,r,dd⟩:=(show bZ X.prog X.w H s.heap a (.dK kvs ep) from I.hok a _ ha);have hl:kvs.length=vs.length:=O5 r;obtain⟨f0,f1,f2,f3,f4,f5⟩:=hf it (by simp);rw[hl]at st;exact wpAny_pyNext_dict_end (I.ok.hd hc) st dd (Oa (by omega)) λ h' eb=>⟨rfl,I.turned (t':=s.toks) (λ b o hb e=>eb b o hb e) f0 f1 f3 f4 f5⟩
 self:=λ _ _ _ _ _ st h=>wpAny_pyIter_keyiter st h
section
variable {X:Cx}{tg:Expr}
def F7 {l:Expr}{tl:TE}(hl:PE X l tl):PI X tg l (λ σ H R=>tl σ H λ x H1=>∃ a kvs ep,x=.ref a/\H1 a=some (.dK kvs ep)/\R (Mw a kvs ep) H1):=by
 intro pins s σ H R I h;refine eK (hl pins s σ H _ I h) λ v s1 ⟨x,H1,I1,r1,a,kvs,ep,e,ha,q⟩=>?_;subst e;cases r1;obtain⟨z,y,vs,r,dd⟩:=(show bZ X.prog X.w H1 s1.heap a (.dK kvs ep) from I1.hok a _ ha);have hl:kvs.length=vs.length:=O5 r;refine wpAny_pyIter_dict y dd ?_;refine⟨s1.heap.objs.size,[s1.heap.objs.size],_,_,H1,rfl,I1.kept (t':=s1.toks) λ b o e=>M8 _ e,BD a _ kvs ep,⟨_,Nj _ rfl,rfl,by rw[hl];rfl⟩,λ b hb=>?_,q⟩;have e:b=s1.heap.objs.size:=by simpa using hb
 subst e;exact I1.AR (Nm _) (I1.hok.fresh (Nm _))
end
end L2
namespace DL
open PySem PySem.Spec PyProof.Rows L2
def wx:KT->D
 |.inl (.inl i)=>.int i
 |.inl (.inr x)=>.str x
 |.inr _=>.bx
def yl (ks:List KT):aI (ks.map wx)=true:=bo λ d m=>by
 obtain⟨k,_,rfl⟩:=Ni.mp m
 match k with
 |.inl (.inl i)=>rfl|.inl (.inr x)=>rfl|.inr _=>rfl
def ym:D->Res (Bool×List D)
 |.dct t false ks vs=>.ok ((D.dct t false ks vs).az,ks.map wx)
 |_=>.bad
def j6 (f:SD->Res D)(τ:SD):Res (Bool×List D):=(f τ).bind ym
section
variable {K:PySem.W.Frag}{Y:XY}{B H:Hp}{X:Cx}{e:Expr}{fe:SD->Res D}
def Dz {a:Addr}{kvs:List (Key×V)}{ep:Nat}(hb:B a=some (.dK kvs ep)):Hc K (Mw a kvs ep) ((kvs.map λ p=>(Sum.inl p.1:KT)).map wx) B H where
 go:=λ B' H' i d s1 s2 im e=>by
  have:=(Ng.mp e).1;exact⟨s2 _ _ (s1 _ _ hb),by simpa using this⟩
 zd:=λ B' H' i d x H'' s1 s2 im e y=>by
  obtain⟨rfl,p,hp,rfl⟩:=y;rw[NG,NG,hp]at e;cases e;refine⟨aq.refl _,?_⟩;obtain⟨k,v⟩:=p
  match k with
  |.inl i=>exact⟨rfl,rfl⟩| .inr x=>exact⟨rfl,rfl⟩
 stop:=λ B' H' s1 s2 im=>⟨s2 _ _ (s1 _ _ hb),by rw[M7,M7];exact Nm _⟩
def zZ {tg:Expr}(he:PE X e (tM X.K Y fe)):PI X tg e (Cc X.K Y (j6 fe)):=by
 refine PI.imp (F7 he) λ σ H R hq=>ex8 hq λ H0 B0 B τ P F I h=>⟨H0,B0,B,τ,P,F,I,?_⟩;cases z:fe τ with
 |f7 C=>simp only[j6,z,Res.jo]at h;exact h|bad=>simp only[j6,z,Res.jn]at h
 | ok d =>
  simp only[j6,z,Res.aH]at h;intro v H1 B1 fp I1 s1 b1 r1 k1;cases d with
  | dct t k ks xs =>
   cases k with
   |true=>exact h.elim
   | false =>
    simp only[ym]at h;obtain⟨a,vs,g,rfl,q,_⟩:=r1.dc I1;rcases q with ⟨_,kvs,ep,ha,hks,hvs⟩|⟨q0,_⟩
    ·refine⟨a,kvs,ep,rfl,ha,h _ H1 _ fp I1 s1 b1 k1 λ Bx sB sH h1 h2=>?_⟩;obtain⟨a',ws,ea,q',rl,_⟩:Rep X.K Bx No H1 (D.dct .ak false ks (aG xs)) (.ref a) []:=lH r1 sB h1 h2;cases ea;rw[dO _ (yl ks),hks];rcases q' with ⟨_,kvs',ep',hb,_⟩|⟨q0,_⟩
     ·have e1:=sH _ _ hb;rw[ha]at e1;cases e1;exact Dz hb
     ·cases q0
    ·cases q0
  |_=>exact h.elim
end
end DL
namespace DI
open PySem
variable {d it:Addr}{es:Array DictEntry}{ep i:Nat}{o:Obj}{x y:Value}{Q:Value->Shared->Prop}
variable {prog:Program}{w:World}{A:Around}{E:Value->Shared->Prop}{s:Shared}
def yo{n:Nat}{u v:Value}(ht:IsItemIter s.heap it d i n ep x y)
  (h:∀ h',IsItemIterOut h' it d i n ep u v s.heap.objs.size->h'.get? s.heap.objs.size=some { cls:=.type "tuple",data:=.seq #[u,v] }->(∀ b o,b≠it->s.heap.get? b=some o->h'.get? b=some o)->Q (.ref s.heap.objs.size) { s with heap:=h' }) :
  wpAny (model prog w) A (Builtin.Dict_items.pairFromOwner (.ref it) 6 u v) Q E s:=by
 unfold Builtin.Dict_items.pairFromOwner Builtin.Dict_items.ownedTupleIsFree;have lt:it<s.heap.objs.size:=Nl ht;refine M6 (wpAny_newTuple ?_);generalize hk:s.heap.push { cls:=.type "tuple",data:=.seq #[u,v] }=k;have tk:k.get? s.heap.objs.size=some { cls:=.type "tuple",data:=.seq #[u,v] }:=by rw[<-hk];exact Nj _ rfl
 have ks:∀ b o,s.heap.get? b=some o->k.get? b=some o:=λ b o e=>by rw[<-hk];exact M8 _ e
 have r0:IsItemIter k it d i n ep x y:=ks _ _ ht;refine M6 (M6 (OC r0 rfl (x:=.none) rfl (Nc ?_)));simp only[PN];refine M6 (OC r0 rfl (x:=x) rfl (M6 (OC r0 rfl (x:=y) rfl (M6 ?_))));refine NZ r0 (by simp) λ k1 r1 q1=>M6 (NZ r1 (by simp) λ k2 r2 q2=>M6 (NZ r2 (by simp) λ k3 r3 q3=>M6 (NZ r3 (by simp) λ k4 r4 q4=>?_)));have ex:∀ b o,b≠it->k.get? b=some o->k4.get? b=some o:=λ b o nb e=>PQ q4 b o nb (PQ q3 b o nb (PQ q2 b o nb (PQ q1 b o nb e)));exact M6 (wpAny_letGo (Nc (h k4 r4 (ex _ _ (P0 lt) tk) λ b o nb e=>ex b o nb (ks b o e))))
def yn{Q:Option Value->Shared->Prop}(hi:i<es.size)(ho:s.heap.get? d=some o)(hdat:o.data=.dict es ep)(ht:IsItemIter s.heap it d i es.size ep x y)
  (h:∀ h',IsItemIterOut h' it d (i+1) es.size ep es[i].key es[i].val s.heap.objs.size->h'.get? s.heap.objs.size=some { cls:=.type "tuple",data:=.seq #[es[i].key,es[i].val] } ->
   (∀ b o,b≠it->s.heap.get? b=some o->h'.get? b=some o)->Q (some (.ref s.heap.objs.size)) { s with heap:=h' }) :
  wpAny (model prog w) A (pyNext (.ref it)) Q E s:=by
 have hT:s.TypeIs (.ref it) "dict_itemiterator" :=⟨_,ht,rfl⟩;obtain⟨cl,dd,dt,sl⟩:=o;simp only at hdat;subst hdat;have hw:Builtin.Dict_items.ownsTuple "dict_itemiterator" = true:=by decide
 have n0:¬ ((i:Int)<0):=by omega
 have e0:es[((i:Int)).toNat]?=some es[i]:=by rw[NS];exact NB hi
 unfold pyNext;refine M6 (PK (N7 hT O7 (N1 O7 hT F.entry_dict_itemiterator_next ?_ (QC _))))
 wp_walk using Oz hT,OM hT
 rw[Nu (by simp)]
 wp_walk using Oz hT,OM hT
 simp only[e0];refine M6 (M6 (Oz hT (Nc (M6 (OM hT (M6 ?_))))));refine NZ ht (by rw[hw];simp) λ k1 a1 b1=>?_;replace b1:Heap.SameBut it s.heap k1:=b1;have f1:IsItemIter k1 it d (i+1) es.size ep x y:=by
  have e:((i+1:Nat):Int)=(i:Int)+1:=by omega
  unfold IsItemIter;rw[e];exact a1
 have T1:Shared.TypeIs ⟨k1,s.gens,s.drawn,s.toks,s.os⟩ (.ref it) "dict_itemiterator" :=⟨_,f1,rfl⟩;clear a1;have z1:k1.objs.size=s.heap.objs.size:=b1.1;have lt:it<s.heap.objs.size:=Nl ht;refine M6 (O6 (M6 (OM T1 (M6 (OM T1 ?_)))));rw[Nu (by decide)];refine yo f1 λ k2 p1 p2 p3=>Nc ⟨_,rfl,Nc ?_⟩;rw[z1]at p1 p2 ⊢;exact h k2 p1 p2 λ b o nb e=>p3 b o nb (PQ b1 b o nb e)
def BE{Q:Option Value->Shared->Prop}(hh:A.handled=none)(hi:es.size<=i)(ho:s.heap.get? d=some o)(hdat:o.data=.dict es ep)(ht:IsItemIter s.heap it d i es.size ep x y)
  (h:∀ h',Heap.ExtBut it s.heap h'->Q none { s with heap:=h' }):wpAny (model prog w) A (pyNext (.ref it)) Q E s:=by
 have hT:s.TypeIs (.ref it) "dict_itemiterator" :=⟨_,ht,rfl⟩;obtain⟨cl,dd,dt,sl⟩:=o;simp only at hdat;subst hdat;have e0:es[((i:Int)).toNat]?=none:=by rw[NS];exact Pn hi
 unfold pyNext;refine M6 (PK (N7 hT O7 (N1 O7 hT F.entry_dict_itemiterator_next ?_ (QC _))))
 wp_walk using Oz hT,OM hT
 rw[Nu (by simp)]
 wp_walk using Oz hT,OM hT
 simp only[e0];refine M6 (M6 (Oz hT (Nc (M6 ?_))));refine NZ ht (by rw[show Builtin.Dict_items.ownsTuple "dict_itemiterator" = true by decide];simp) λ k1 r1 q1=>?_;replace q1:Heap.SameBut it s.heap k1:=q1
 wp_walk
 unfold raiseNew;refine M6 (Rv ?_);rw[show A.in1.handled=none from hh];refine M6 (Nc (wpAny_throw ?_));refine M6 (Qe (T:="StopIteration") (b:=true) ⟨_,Nj _ rfl,rfl⟩ isSubtype_stop (Nc ?_));exact h _ ((q1.extBut.push _).push _)
def BF(hn:(d == sysModules)=false)(ho:s.heap.get? d=some o)(hx:o.ExactDict)
  (h:Q (.ref s.heap.objs.size) { s with heap:=s.heap.push { cls:=.type "dict_items",data:=.fields #[.ref d] } }):wpAny (model prog w) A (call (.builtin "dict.items") [.ref d]) Q E s:=by
 have hT:s.TypeIs (.ref d) "dict" :=⟨o,ho,hx.1⟩;refine N1 F.slot_dict_items hT F.entry_dict_items ?_ (F.args_dict_items_1 _)
 wp_walk
 rw[Nu (by rw[hx.1];decide)]
 wp_walk
 exact⟨_,rfl,h⟩
def BH {v:Addr}(hv:s.heap.IsItemsView v d)(ho:s.heap.get? d=some o)(hdat:o.data=.dict es ep)
  (h:∀ h',IsItemIter h' s.heap.objs.size d 0 es.size ep .none .none->(∀ b o,s.heap.get? b=some o->h'.get? b=some o)->Q (.ref s.heap.objs.size) { s with heap:=h' }):wpAny (model prog w) A (pyIter (.ref v)) Q E s:=by
 obtain⟨⟨c1,d1,t1,l1⟩,h1,h2,h3⟩:=id hv;obtain⟨c2,d2,t2,l2⟩:=o;simp only at h2 h3 hdat;subst h2 h3 hdat;refine Qx hv.typeIs F.slot_dict_items_iter (N1 F.slot_dict_items_iter hv.typeIs F.entry_dict_items_iter ?_ (F.args_dict_items_iter_1 _))
 wp_walk
 exact⟨_,rfl,"dict_itemiterator",_,⟨_,Nj _ rfl,rfl⟩,F.slot_dict_itemiterator_next.lookup,h _ (Nj _ rfl) λ b o e=>M8 _ e⟩
def entry_self:entryFor table "dict_itemiterator.__iter__" = some Builtin.«dict_keyiterator.__iter__» :=by
 first|exact entryFor_alias (id':="dict_keyiterator.__iter__") (by kernel_rfl) rfl (by decide +kernel) (by kernel_rfl)|exact entryFor_of_tree (by kernel_rfl)
def BG{n:Nat}(ht:IsItemIter s.heap it d i n ep x y)(h:Q (.ref it) s):wpAny (model prog w) A (pyIter (.ref it)) Q E s:=by
 have hT:s.TypeIs (.ref it) "dict_itemiterator" :=⟨_,ht,rfl⟩;refine Qx hT F.slot_dict_itemiterator_iter (N1 F.slot_dict_itemiterator_iter hT entry_self ?_ (F.args_dict_itemiterator_iter_1 _))
 wp_walk
 exact⟨_,rfl,"dict_itemiterator",_,hT,F.slot_dict_itemiterator_next.lookup,h⟩
end DI
namespace L2
open PySem PySem.Spec PyProof.Rows
def Mx (a:Addr)(kvs:List (List Key×V))(ep:Nat):It:=
 ⟨λ i H=>H a=some (.dT kvs ep)/\i<kvs.length,λ i H x H'=>∃ p b q,kvs[i]?=some q/\H b=some (.tup (q.1.map kV))/\H p=none/\x=.ref p/\H'=upd H p (.tup [.ref b,q.2]),λ i H=>H a=some (.dT kvs ep)/\kvs.length<=i⟩
def tq {α β:Type}{R:α->β->Prop}:∀ {l:List α}{m:List β},Paired R l m->∀ {i:Nat},i<l.length->∃ p q,l[i]?=some p/\m[i]?=some q/\R p q
 |_,_,.nil,i,h=>absurd h (PC _)
 |_,_,.cons r t,0,h=>⟨_,_,rfl,rfl,r⟩
 |_,_,.cons r t,i+1,h=>tq t (i:=i) (by simpa using h)
def yp {P:Program}{w:World}{K:PySem.W.Frag}{elts:List Expr}{x1:Nat}{tp:Pos}(a it:Addr)(kvs:List (List Key×V))(ep:Nat):Turn P w K (.Tuple elts x1 tp) (Mx a kvs ep) [it] it (λ i h=>∃ x y,IsItemIter h it a i kvs.length ep x y) where
 mem:=by simp
 obj:=λ i h st b hb=>by
  have e:b=it:=by simpa using hb
  subst e;obtain⟨x,y,q⟩:=st;exact⟨_,q,λ v z=>by cases z⟩
 keep:=λ i h h' st k=>by
  obtain⟨x,y,q⟩:=st;exact⟨x,y,k it (by simp) _ q⟩
 item:=by
  intro X hP hw hK hc i pins s σ H E I hf st hg;obtain⟨ha,hi⟩:=hg;obtain⟨x,y,st⟩:=st;subst hP hw hK;obtain⟨z,ns,xs,r,o,es,ho,hx,hd,he,_⟩:=(show bZ X.prog X.w H s.heap a (.dT kvs ep) from I.hok a _ ha);have hl:kvs.length=xs.length:=O5 r;have hs:es.size=kvs.length:=by rw[<-NI,he,M7,hl]
  have hi':i<es.size:=by omega
  obtain⟨f0,f1,f2,f3,f4,f5⟩:=hf it (by simp);obtain⟨q,u,hq,hu,e1,hb,rv⟩:=tq r hi;have hes:es[i]=entryOfKey (tupleKind (bX X.prog X.w)) u:=by
   have e2:es[i]?=some (entryOfKey (tupleKind (bX X.prog X.w)) u):=by rw[<-N3,he,NG,hu];rfl
   rw[NB hi']at e2;exact N6 e2
  rw[<-hs]at st;have lt:it<s.heap.objs.size:=Nl st;refine DI.yn hi' ho hd st λ h1 k1 k2 k3=>⟨_,rfl,wpAny_letOwnedTupleGo_items k1 λ h2 m1 m2=>?_⟩;have m2:Heap.SameBut it h1 h2:=m2;rw[hes]at k2 m1;have fr:H s.heap.objs.size=none:=I.fresh;have kp:∀ b o,b≠it->s.heap.get? b=some o->h2.get? b=some o:=λ b o nb e=>(m2.2 b nb).trans (k3 b o nb e);have tk:h2.get? s.heap.objs.size=some { cls:=.type "tuple",data:=.seq #[.ref u.2.1,u.2.2] }:=(m2.2 _ (P0 lt)).trans k2;have ok1:ki X.prog X.w H h2:=λ b o hb=>(I.hok b o hb).stay (λ c v hcb q=>kp c v (λ z=>by
    subst z;rcases hcb with z|z
    ·subst z;rw[f0]at hb;cases hb
    ·rw[f0]at z;cases z) q) (λ _ z=>z) λ _ _ z=>z
  have ok2:ki X.prog X.w (upd H s.heap.objs.size (.tup [.ref u.2.1,q.2])) h2:=zv ok1 fr ⟨by show 2<=sizeLine;decide,[.ref u.2.1,u.2.2],.cons rfl (.cons rv .nil),⟨_,tk⟩⟩;have I2:Inv X pins σ (upd H s.heap.objs.size (.tup [.ref u.2.1,q.2])) { s with heap:=h2 }:=by
   refine I.step (g':=s.gens) (d':=s.drawn) (ch:=[it]) (λ b hb=>?_) (λ b o _ _ hb q _=>kp b o (λ z=>hb (by simp[z])) q) (λ b o _ _ hb q _=>⟨o.slots,kp b o (λ z=>hb (by simp[z])) q⟩)
    (λ b o _ q n=>by rw[aN (NH (Nl q))];exact n) (λ b o hb q=>⟨o,kp b o (λ z=>hb (by simp[z])) q⟩)
    (λ b ys q=>by rw[aN (bK q fr)];exact q) (λ b o v q=>by rw[aN (bK q fr)];exact q) (λ b ps q=>⟨#[],by rw[aN (bK q fr),Rf];exact q⟩)
    (λ m hm=>hm.at λ o q=>kp _ o (OV f1) q) ok2 I.bare
   have z:b=it:=by simpa using hb
   subst z;exact⟨f3,f1,f4,f5⟩
  refine⟨.ref s.heap.objs.size,_,I2,rfl,⟨_,u.2.1,q,hq,hb,fr,rfl,rfl⟩,⟨.ref u.2.1,u.2.2,?_⟩,λ b hb=>?_⟩
  ·rw[<-hs];exact m1
  ·have z:b=it:=by simpa using hb
   subst z;rw[aN (NH lt)];exact f0
 done:=by
  intro X hP hw hK hc i pins s σ H E I hf st hg;obtain⟨ha,hi⟩:=hg;obtain⟨x,y,st⟩:=st;subst hP hw hK;obtain⟨z,ns,xs,r,o,es,ho,hx,hd,he,_⟩:=(show bZ X.prog X.w H s.heap a (.dT kvs ep) from I.hok a _ ha);have hl:kvs.length=xs.length:=O5 r;have hs:es.size=kvs.length:=by rw[<-NI,he,M7,hl]
  obtain⟨f0,f1,f2,f3,f4,f5⟩:=hf it (by simp);rw[<-hs]at st;exact DI.BE (I.ok.hd hc) (by omega) ho hd st λ h' eb=>⟨rfl,I.turned (t':=s.toks) (λ b o hb e=>eb b o hb e) f0 f1 f3 f4 f5⟩
 self:=λ _ _ _ _ _ ⟨_,_,st⟩ h=>DI.BG st h
section
variable {X:Cx}{elts:List Expr}{x1:Nat}{tp apos cpos:Pos}
def DE {o:Expr}{to:TE}(ho:PE X o to)(hbase:attributeBase o "items" X.env (eval o X.env)=eval o X.env:=by rfl)(hline:(apos.endLine == cpos.line)=true:=by rfl) :
  PI X (.Tuple elts x1 tp) (.Call (.Attribute o "items" apos) [] [] cpos) (λ σ H R=>to σ H λ x H1=>∃ a kvs ep,x=.ref a/\H1 a=some (.dT kvs ep)/\R (Mx a kvs ep) H1):=by
 intro pins s σ H R I h;refine Qs hbase hline (eK (ho pins s σ H _ I h) λ v s1 ⟨x,H1,I1,r1,a,kvs,ep,e,ha,q⟩=>?_);subst e;cases r1;obtain⟨h1,h2⟩:=ue (T:="dict") I1 (show RelV (.ref a) (.ref a) from rfl) (.inr (.inr (.inl ⟨rfl,.inr ⟨kvs,ep,ha⟩⟩)));refine⟨"dict","dict.items",PX,PySem.F.slot_dict_items,PySem.F.type_dict_items,h1,h2,Pj rfl (Q0 ?_)⟩;obtain⟨z,ns,xs,r,o,es,hob,hx,hd,he,_⟩:=(show bZ X.prog X.w H1 s1.heap a (.dT kvs ep) from I1.hok a _ ha);have hl:kvs.length=xs.length:=O5 r;have hs:es.size=kvs.length:=by rw[<-NI,he,M7,hl]
 refine DI.BF ns hob hx ?_;refine DI.BH (v:=s1.heap.objs.size) ⟨_,Nj _ rfl,rfl,rfl⟩ (M8 _ hob) hd λ h' k1 k2=>?_;have I2:Inv X pins σ H1 { s1 with heap:=s1.heap.push { cls:=.type "dict_items",data:=.fields #[.ref a] } }:=I1.kept (t':=s1.toks) λ b o e=>M8 _ e;have I3:Inv X pins σ H1 { s1 with heap:=h' }:=I2.kept (t':=s1.toks) λ b o e=>k2 b o e;refine⟨_,[_],_,_,H1,rfl,I3,yp a _ kvs ep,⟨_,_,by rw[<-hs];exact k1⟩,λ b hb=>?_,q⟩;have e:=NY.mp hb;subst e;exact I2.AR (Nm _) (I2.hok.fresh (Nm _))
end
end L2
namespace DL
open PySem PySem.Spec PyProof.Rows L2
def Aa:Key->D|.inl i=>.int i|.inr x=>.str x
def Ab:KT->D|.inr ks=>.tup (ks.map Aa)|.inl _=>.bx
def gQ:List KT->List D->List D
 |k::ks,d::ds=>.tup [Ab k,d]::gQ ks ds
 |_,_=>[]
def DC:D->Res (Bool×List D)
 |.dct t true ks vs=>if aI vs=true then .ok ((D.dct t true ks vs).az,gQ ks vs) else .bad
 |_=>.bad
def kP (f:SD->Res D)(τ:SD):Res (Bool×List D):=(f τ).bind DC
section
variable {K:PySem.W.Frag}{Y:XY}{B H:Hp}{X:Cx}{e:Expr}{fe:SD->Res D}
def qz {S:Addr->Prop}:∀ (ks:List Key),ai K B S H (ks.map Aa) (ks.map kV) []
 |[]=>⟨rfl,rfl⟩
 |.inl i::ks=>⟨_,_,[],[],rfl,⟨rfl,rfl⟩,qz ks,rfl⟩
 |.inr x::ks=>⟨_,_,[],[],rfl,⟨rfl,rfl⟩,qz ks,rfl⟩
def yq (ks:List Key):aI (ks.map Aa)=true:=bo λ d m=>by
 obtain⟨k,_,rfl⟩:=Ni.mp m;cases k<;>rfl
def yr (k:KT):(Ab k).pure=true:=by
 cases k with
 |inl k=>rfl|inr k=>exact yq k
def o5:∀ (ks:List KT) (vs:List D),aI vs=true->aI (gQ ks vs)=true
 |[],vs,_=>by cases vs<;>rfl
 |k::ks,[],_=>rfl
 | k::ks,d::ds,h=>by
  have h:(d.pure&&aI ds)=true:=h;rw[NQ]at h;show((Ab k).pure&&(d.pure&&true)&&aI (gQ ks ds))=true;rw[yr,h.1,o5 ks ds h.2];rfl
def lL {S:Addr->Prop}:∀ {kvs:List (List Key×V)}{vs:List D}{f:List Addr},ai K B S H vs (kvs.map (·.2)) f->(gQ (kvs.map λ p=>Sum.inr p.1) vs).length=kvs.length/\∀ {i:Nat}{d:D}{q:List Key×V},(gQ (kvs.map λ p=>Sum.inr p.1) vs)[i]?=some d->kvs[i]?=some q->∃ x g,vs[i]?=some x/\d=.tup [.tup (q.1.map Aa),x]/\Rep K B S H x q.2 g
 | [],vs,f,r=>by
  cases vs with
  |nil=>exact⟨rfl,λ h=>by simp[gQ]at h⟩| cons v vs=>obtain⟨_,_,_,_,e,_⟩:=r;cases e
 |p::kvs,[],f,r=>by obtain⟨e,_⟩:=r;cases e
 | p::kvs,x::vs,f,r=>by
  obtain⟨v,w,f1,f2,e,r1,r2,rfl⟩:=r;rw[ND]at e;cases e;obtain⟨h1,h2⟩:=lL r2;refine⟨by rw[ND,gQ,Ny,Ny,h1],λ {i d q} hd hq=>?_⟩;cases i with
  |zero=>cases hd;cases hq;exact⟨x,f1,rfl,rfl,r1⟩| succ i=>exact h2 (i:=i) hd hq
def BI {a:Addr}{kvs:List (List Key×V)}{ep:Nat}{vs:List D}(hb:B a=some (.dT kvs ep))(r:ai K B No H vs (kvs.map (·.2)) [])(hp:aI vs=true):Hc K (Mx a kvs ep) (gQ (kvs.map λ p=>Sum.inr p.1) vs) B H where
 go:=λ B' H' i d s1 s2 im e=>by
  have:=(Ng.mp e).1;rw[(lL r).1]at this;exact⟨s2 _ _ (s1 _ _ hb),this⟩
 zd:=λ B' H' i d x H'' s1 s2 im e y=>by
  obtain⟨p,b,q,hq,hbt,hpn,rfl,rfl⟩:=y;obtain⟨x,g,hx,rfl,rx⟩:=(lL r).2 e hq;have sm:aq H' (upd H' p (.tup [.ref b,q.2])):=dY hpn;have px:x.pure=true:=sG hp x (QO hx);have eg:=m9.1 x px rx;subst eg;refine⟨sm,p,_,rfl,aK,.ref b,[q.2],[],[],rfl,⟨b,_,rfl,sm _ _ hbt,qz _⟩,ai.one ((rx.stay s1 im rfl).mono sm (aq.refl _) λ _ x=>x),rfl⟩
 stop:=λ B' H' s1 s2 im=>⟨s2 _ _ (s1 _ _ hb),by rw[(lL r).1];exact Nm _⟩
def DB {elts:List Expr}{x1:Nat}{tp apos cpos:Pos}(he:PE X e (tM X.K Y fe))(hbase:attributeBase e "items" X.env (eval e X.env)=eval e X.env:=by rfl)(hline:(apos.endLine == cpos.line)=true:=by rfl) :
  PI X (.Tuple elts x1 tp) (.Call (.Attribute e "items" apos) [] [] cpos) (Cc X.K Y (kP fe)):=by
 refine PI.imp (DE he hbase hline) λ σ H R hq=>ex8 hq λ H0 B0 B τ P F I h=>⟨H0,B0,B,τ,P,F,I,?_⟩;cases z:fe τ with
 |f7 C=>simp only[kP,z,Res.jo]at h;exact h|bad=>simp only[kP,z,Res.jn]at h
 | ok d =>
  simp only[kP,z,Res.aH]at h;intro v H1 B1 fp I1 s1 b1 r1 k1;cases d with
  | dct t k ks xs =>
   cases k with
   |false=>exact h.elim
   | true =>
    simp only[DC]at h;by_cases hp:aI xs=true
    ·rw[Nr hp]at h;obtain⟨a,vs,g,rfl,q,_⟩:=r1.dc I1;rcases q with ⟨q0,_⟩|⟨_,kvs,ep,ha,hks,hvs⟩
     ·cases q0
     ·refine⟨a,kvs,ep,rfl,ha,h _ H1 _ fp I1 s1 b1 k1 λ Bx sB sH h1 h2=>?_⟩;obtain⟨a',ws,ea,q',rl,_⟩:Rep X.K Bx No H1 (D.dct .ak true ks (aG xs)) (.ref a) []:=lH r1 sB h1 h2;cases ea;rw[dO _ hp]at rl;rw[dO _ (o5 ks xs hp),hks];rcases q' with ⟨q0,_⟩|⟨_,kvs',ep',hb,_,hvs'⟩
      ·cases q0
      ·have e1:=sH _ _ hb;rw[ha]at e1;cases e1;subst hvs';exact BI hb (rl.mono (aq.refl _) (aq.refl _) λ _ x=>x) hp
    ·rw[Nu hp]at h;exact h.elim
  |_=>exact h.elim
end
end DL
namespace SR
open PySem
variable {xs:Array Nat}{led:Bool}{j:Nat}
abbrev uM (xs:Array Nat):Prop:=xs.toList.Pairwise (· < ·)
def pR(h:uM xs){i:Nat}{a b:Nat}(hi:xs[i]?=some a)(hj:xs[j]?=some b)(hij:i<j):a<b:=by
 rw[<-N3]at hi hj;obtain⟨h1,e1⟩:=Ng.mp hi;obtain⟨h2,e2⟩:=Ng.mp hj;rw[<-e1,<-e2];exact OF.mp h i j h1 h2 hij
def uL {xs:Array Nat}{j:Nat}(hr:uM xs):∀ (fuel lo hi:Nat),lo<=hi->hi<=xs.size->hi-lo<=fuel->(∀ (i a:Nat),xs[i]?=some a->i<lo->a<j)->(∀ (i a:Nat),xs[i]?=some a->hi<=i->j<=a) ->
  SetTable.below.go xs j fuel lo hi<=xs.size/\(∀ (i a:Nat),xs[i]?=some a->i<SetTable.below.go xs j fuel lo hi->a<j)/\(∀ (i a:Nat),xs[i]?=some a->SetTable.below.go xs j fuel lo hi<=i->j<=a)
 | 0,lo,hi,h1,h2,h3,h4,h5=>by
  have e:lo=hi:=by omega
  subst e;exact⟨h2,h4,h5⟩
 | fuel+1,lo,hi,h1,h2,h3,h4,h5=>by
  unfold SetTable.below.go;by_cases hlt:lo<hi
  ·rw[Nr hlt];have hm:(lo+hi)/2<hi:=by omega
   have hm2:lo<=(lo+hi)/2:=by omega
   have hs:(lo+hi)/2<xs.size:=by omega
   have hg:xs[(lo+hi)/2]?=some xs[(lo+hi)/2]:=NB hs;have hd:xs.getD ((lo+hi)/2) j=xs[(lo+hi)/2]:=by rw[N8,hg];rfl
   show(if xs.getD ((lo+hi)/2) j<j then SetTable.below.go xs j fuel ((lo+hi)/2+1) hi else SetTable.below.go xs j fuel lo ((lo+hi)/2))<=_/\_;by_cases hc:xs.getD ((lo+hi)/2) j<j
   ·simp only[Nr hc];refine uL hr fuel _ _ (by omega) h2 (by omega) (λ i a ha hi'=>?_) h5;rcases Nat.lt_or_ge i ((lo+hi)/2) with q|q
    ·have:=pR hr ha hg q;rw[hd]at hc;omega
    ·have e:i=(lo+hi)/2:=by omega
     subst e;rw[hg]at ha;cases ha;rw[hd]at hc;exact hc
   ·simp only[Nu hc];refine uL hr fuel _ _ hm2 (by omega) (by omega) h4 (λ i a ha hi'=>?_);rw[hd]at hc;rcases Nat.lt_or_ge ((lo+hi)/2) i with q|q
    ·have:=pR hr hg ha q;omega
    ·have e:i=(lo+hi)/2:=by omega
     subst e;rw[hg]at ha;cases ha;omega
  ·rw[Nu hlt];have e:lo=hi:=by omega
   subst e;exact⟨h2,h4,h5⟩
def mG(hr:uM xs)(j:Nat):SetTable.below xs j<=xs.size/\(∀ (i a:Nat),xs[i]?=some a->i<SetTable.below xs j->a<j)/\(∀ (i a:Nat),xs[i]?=some a->SetTable.below xs j<=i->j<=a):=
 uL hr xs.size 0 xs.size (OD _) (Nm _) (Nm _) (λ _ _ _ h=>absurd h (PC _)) λ i a ha h=>by
  have:=(Array.getElem?_eq_some_iff.mp ha).1;omega
def DH(hr:uM xs)(hn:xs[SetTable.below xs j]?≠some j):uM (SetTable.insertAt xs (SetTable.below xs j) j):=by
 obtain⟨h1,h2,h3⟩:=mG hr j;unfold uM;rw[SetTable.toList_insertAt];have hr':xs.toList.Pairwise (· < ·):=hr;rw[<-List.take_append_drop (SetTable.below xs j) xs.toList]at hr';obtain⟨p1,p2,p3⟩:=List.pairwise_append.mp hr';have lo:∀ a∈xs.toList.take (SetTable.below xs j),a<j:=λ a ha=>by
  obtain⟨i,hi,e⟩:=Qh ha;rw[QH]at hi;rw[List.getElem_take]at e;exact h2 i a (by rw[<-N3,<-e];exact M9 (by omega)) (by omega)
 have hi:∀ a∈xs.toList.drop (SetTable.below xs j),j<a:=λ a ha=>by
  obtain⟨i,hi,e⟩:=Qh ha;rw[QJ]at hi;rw[List.getElem_drop]at e;have hg:xs[SetTable.below xs j+i]?=some a:=by rw[<-N3,<-e];exact M9 (by omega)
  have g:=h3 _ a hg (Rz _ _);rcases Nat.lt_or_eq_of_le g with g|g
  ·exact g
  ·subst g;rcases Nat.eq_zero_or_pos i with z|z
   ·subst z;exact absurd hg hn
   ·have hg0:xs[SetTable.below xs j]?=some (xs[SetTable.below xs j]'(by simp at hi;omega)):=NB _;have l:=pR hr hg0 hg (by omega);have g0:=h3 _ _ hg0 (Nm _);omega
 refine List.pairwise_append.mpr ⟨p1,Rc.mpr ⟨hi,p2⟩,λ a ha b hb=>?_⟩;rcases Nq.mp hb with rfl|hb
 ·exact lo a ha
 ·exact RD (lo a ha) (hi b hb)
structure Good (led:Bool)(t:SetTable):Prop where
 led:t.led=led
 rise:uM t.place
 My:t.dummies = #[]
def yt (led:Bool):Good led (SetTable.fresh 0 0 led):=⟨rfl,List.Pairwise.nil,rfl⟩
def jT{t:SetTable}(g:Good led t)(n:Nat):Good led (t.standIn n):=⟨g.led,by
 show(Array.range n).toList.Pairwise (· < ·);rw[Array.toList_range];exact Qy,rfl⟩
def yv{t:SetTable}(g:Good led t):Good led { t with plain:=false }:=⟨g.led,g.rise,g.My⟩
def Ac (j:Nat):SetTable.has #[] j=false:=by
 unfold SetTable.has;simp
def rP{t:SetTable}(g:Good led t)(j:Nat):t.slot j ≠ .dummy:=by
 unfold SetTable.slot;rw[g.My,Ac];simp only[NR,PV];split<;>simp
def yw {t:SetTable}(h:t.slot j=.empty):t.place[SetTable.below t.place j]?≠some j:=λ e=>by
 unfold SetTable.slot at h;simp only[e,RA,PN]at h;cases h
def qA {led:Bool}{t:SetTable}(g:Good led t){h:Int}:∀ (fuel:Nat) (p:SetTable.Probe) (j:Nat) (d:Option Nat),p.dummy=none->SetTable.probe.go t (λ _=>h+1) h fuel p=some (.empty j d)->d=none/\t.slot j=.empty
 |0,p,j,d,_,e=>by unfold SetTable.probe.go at e;cases e
 | fuel+1,p,j,d,hp,e=>by
  unfold SetTable.probe.go at e;cases z:t.slot p.j with
  | empty =>
   rw[z]at e;simp only[Qz,SetTable.Met.empty.injEq]at e;exact⟨e.2.symm.trans hp,e.1▸z⟩
  |dummy=>exact absurd z (rP g p.j)
  | live i =>
   rw[z]at e;have hne:(h+1 == h)=false:=by
    rw[PL];omega
   simp only[hne,NR,PV]at e;refine qA g fuel (t.advance p) j d ?_ e;unfold SetTable.advance;split
   ·exact hp
   ·exact hp
def BJ{t:SetTable}(g:Good led t){h:Int}{b:Bool}(e:t.freeSlot h=some (j,b)):t.slot j=.empty:=by
 unfold SetTable.freeSlot at e;split at e
 ·rename_i j' d hp;obtain⟨rfl,hs⟩:=qA g _ _ j' d rfl hp;simp only[Ry,Option.isSome_none,Qz,Prod.mk.injEq]at e;exact e.1▸hs
 ·cases e
def DG{t:SetTable}(g:Good led t)(h:t.slot j=.empty):Good led (t.put j).1:=by
 refine⟨g.led,DH g.rise (yw h),?_⟩;show(if SetTable.has t.dummies j=true then SetTable.eraseAt t.dummies (SetTable.below t.dummies j) else t.dummies) = #[];rw[g.My,Ac];rfl
def DJ{t:SetTable}(g:Good led t)(es:Array (Int×Value))(h:Int)(x:Value):Good led (layNew t es h x).2.1:=by
 unfold layNew;split
 ·rename_i slot b e;show Good led ((t.put slot).1.orStandIn _);have gp:=DG g (BJ g e);unfold SetTable.orStandIn;split
  ·exact gp
  ·exact jT gp _
 ·exact jT g _
def BK (n:Nat)(f:Nat->Option Nat):(((List.range n).filterMap λ j=>(f j).map (j,·)).map (·.1)).Pairwise (· < ·):=by
 have hs:(((List.range n).filterMap λ j=>(f j).map (j,·)).map (·.1)).Sublist (List.range n):=by
  induction List.range n with
  |nil=>exact List.Sublist.slnil
  | cons a r ih =>
   cases e:f a with
   |none=>rw[List.filterMap_cons_none (by rw[e];rfl)];exact ih.cons a|some b=>rw[List.filterMap_cons_some (b:=(a,b)) (by rw[e];rfl)];exact ih.cons₂ a
 exact List.pairwise_lt_range.sublist hs
def yu{t:SetTable}(g:Good led t)(es:Array (Int×Value))(w:Nat):Good led (relayAll t es w).2.1:=by
 unfold relayAll;split
 ·rename_i t' order e;dsimp only;split
  ·unfold SetTable.relaid SetTable.laid at e;simp only[Option.bind_eq_bind,Option.bind_eq_some_iff]at e;obtain⟨owner,_,e⟩:=e;simp only[Option.pure_def,Qz,Prod.mk.injEq]at e;obtain⟨e,_⟩:=e;subst e;exact⟨g.led,by simpa[uM] using BK _ λ j=>owner.getD j none,rfl⟩
  ·exact jT g _
 ·exact jT g _
end SR
namespace SR
open PySem PySem.Spec PyProof.Rows
section
variable {prog:Program}{w:World}{A:Around}{E:Value->Shared->Prop}{s:Shared}{led:Bool}
def ja (prog:Program)(w:World)(led:Bool)(h:Heap)(a:Addr)(S:Int->Bool)(n:Nat):Prop:=
 ∃ o es ep t,h.get? a=some o/\o.ExactSet/\o.data=.set es ep t/\ElemsOf (intKind prog w) es.toList/\(∀ k,S k=true↔∃ e∈es.toList,(intKind prog w).is k e.2=true)
  /\ es.size<scanBound/\t.fits es.size=true/\es.size=n/\Good led t
def ja.store {h:Heap}{a:Addr}{o:Obj}{es es':Array (Int×Value)}{ep:Nat}{t t':SetTable}{S':Int->Bool}(ho:h.get? a=some o)(hex:o.ExactSet)(hd:o.data=.set es ep t)
  (hel:ElemsOf (intKind prog w) es'.toList) (hmem:∀ k,S' k=true↔∃ e∈es'.toList,(intKind prog w).is k e.2=true) (hb:es'.size<scanBound) (hf:t'.fits es'.size=true) (g:Good led t') :
  (h.update a (Obj.putSet es' t')).get? a=some { o with data:=.set es' (ep+1) t' }/\ja prog w led (h.update a (Obj.putSet es' t')) a S' es'.size:=by
 obtain⟨hg,_⟩:=SetOf_store (knd:=intKind prog w) ho hex hd hel hmem hb hf;exact⟨hg,_,es',ep+1,t',hg,hex,rfl,hel,hmem,hb,hf,rfl,g⟩
def DK {gw:Bool->Sem Unit}(hg:∀ (b:Bool) (s₁:Shared) (Q':Unit->Shared->Prop),Q' () s₁->wpAny (model prog w) A (gw b) Q' E s₁)
  {a:Addr}{o:Obj}{es es1:Array (Int×Value)}{ep:Nat}{t t2:SetTable}{S':Int->Bool} (ho:s.heap.get? a=some o) (hex:o.ExactSet) (hd:o.data=.set es ep t)
  (hel1:ElemsOf (intKind prog w) es1.toList) (hmem1:∀ k',S' k'=true↔∃ e∈es1.toList,(intKind prog w).is k' e.2=true)
  (hb1:es1.size<scanBound) (hf2:t2.fits es1.size=true) (g2:Good led t2) {wasDummy:Bool}{R:Option Bool->Shared->Prop}
  (h:∀ h',Heap.SameBut a s.heap h'->ja prog w led h' a S' es1.size->R (some true) { s with heap:=h' }) :
  wpAny (model prog w) A (do
    storeSet a es1 t2
    if (!wasDummy&&t2.tooFull)=true then do
      gw (relayAll t2 es1 (SetTable.grown es1.size)).2.2
      storeSet a (relayAll t2 es1 (SetTable.grown es1.size)).1 (relayAll t2 es1 (SetTable.grown es1.size)).2.1
      pure (some true)
     else pure (some true)) R E s:=by
 refine M6 (wpAny_storeSet_of ho hd ?_ (Rr hb1));obtain⟨ho1,hS1⟩:=ja.store (prog:=prog) (w:=w) (led:=led) ho hex hd hel1 hmem1 hb1 hf2 g2;have hsb1:=OY s.heap a (Obj.putSet es1 t2);split
 ·have hp:=relayAll_perm t2 es1 (SetTable.grown es1.size);have hfr:=relayAll_fits t2 es1 (SetTable.grown es1.size);have gr:=yu g2 es1 (SetTable.grown es1.size);have hsz:(relayAll t2 es1 (SetTable.grown es1.size)).1.size=es1.size:=by rw[<-NI,hp.length_eq,NI]
  have hb2:(relayAll t2 es1 (SetTable.grown es1.size)).1.size<scanBound:=by rw[hsz];exact hb1
  refine M6 (hg _ _ _ (M6 (wpAny_storeSet_of ho1 rfl ?_ (Rr hb2))));obtain⟨_,hS2⟩:=ja.store (prog:=prog) (w:=w) (led:=led) ho1 hex rfl (hel1.perm hp) (λ k'=>(hmem1 k').trans ⟨λ ⟨e,he,q⟩=>⟨e,hp.mem_iff.mpr he,q⟩,λ ⟨e,he,q⟩=>⟨e,hp.mem_iff.mp he,q⟩⟩) hb2 hfr gr;rw[hsz]at hS2;exact Nc (h _ (hsb1.trans (OY _ a _)) hS2)
 ·exact Nc (h _ hsb1 hS1)
def K7 {a:Addr}{S:Int->Bool}{n:Nat}{k:Int}{x:Value}{Q:Bool->Shared->Prop}(hkey:(intKind prog w).is k x=true)(hsc:x.scannable=true)(hS:ja prog w led s.heap a S n)(hroom:n+1<scanBound)
  (h:∀ h',Heap.SameBut a s.heap h'->ja prog w led h' a (λ k'=>S k'||decide (k'=k)) (if S k then n else n+1)->Q (!S k) { s with heap:=h' }) :
  wpAny (model prog w) A (setAddHashed a x ((intKind prog w).hash k)) Q E s:=by
 obtain⟨o,es,ep,t,ho,hex,hd,hel,hmem,hb,hf,hn,g⟩:=hS;have hb1:es.size+1<scanBound:=by rw[hn];exact hroom
 unfold setAddHashed setAddHashedIn;refine O6 (M6 (Pa ho hd hf ?_));dsimp only;rw[byScan_of hsc hb hel];simp only[↓reduceIte];unfold setAddByScan;refine M6 (M6 (Qa (M6 (wpAny_setScan_of hkey ho hd hf hel ?_))));cases hr:List.findIdx? (λ e=>(intKind prog w).is k e.2) es.toList with
 | some j =>
  dsimp only;obtain⟨hj,hpj,_⟩:=Px.mp hr;have hSk:S k=true:=(hmem k).mpr ⟨es.toList[j],Of hj,hpj⟩;refine Nc (Nc ?_);have e:s={ s with heap:=s.heap }:=by cases s;rfl
  have:=h s.heap (Heap.SameBut.refl a s.heap) ⟨o,es,ep,t,ho,hex,hd,hel,λ k'=>by
   rw[Bool.or_eq_true,Og,<-hmem k'];exact⟨λ hk=>hk.elim id (λ e=>e▸hSk),.inl⟩,hb,hf,by rw[hSk];exact hn,g⟩
  rw[hSk]at this;rw[e];exact this
 | none =>
  dsimp only;have hSk:S k=false:=by
   cases hk:S k with
   |false=>rfl|true=>obtain⟨e,he,hp⟩:=(hmem k).mp hk;have:=Rl.mp hr e he;rw[hp]at this;exact Bool.noConfusion this
  have hgw:∀ (b:Bool) {s₁:Shared}{Q':Unit->Shared->Prop},Q' () s₁->wpAny (model prog w) A (match b with|true=>rule "set.scan.the-table-gave-way" |false=>pure ()) Q' E s₁:=
   λ b s₁ Q' hq=>by cases b<;>first|exact Nc hq|exact Qa hq
  have hperm:=layNew_perm t es ((intKind prog w).hash k) x;have hfits:=layNew_fits t es ((intKind prog w).hash k) x;have g1:=DJ g es ((intKind prog w).hash k) x;generalize hL:layNew t es ((intKind prog w).hash k) x=L at hperm hfits g1 ⊢;obtain⟨es1,t1,wasDummy,gave⟩:=L;dsimp only at hperm hfits g1 ⊢;rw[Array.toList_push]at hperm;have hel1:ElemsOf (intKind prog w) es1.toList:=(hel.push hkey hsc).perm hperm;have hmem1:∀ k',(S k'||decide (k'=k))=true↔∃ e∈es1.toList,(intKind prog w).is k' e.2=true:=mem_push_iff hkey hmem hperm;have hsz1:es1.size=n+1:=by rw[<-NI,hperm.length_eq,Nn,NI,hn];rfl
  have hb1':es1.size<scanBound:=by rw[hsz1];exact hroom
  refine M6 (hgw _ ?_);have hend:∀ h',Heap.SameBut a s.heap h'->ja prog w led h' a (λ k'=>S k'||decide (k'=k)) es1.size->Q true { s with heap:=h' }:=by
   intro h' hsb hS';have:=h h' hsb;rw[hSk]at this;rw[hsz1]at hS';exact this hS'
  split
  ·refine M6 ?_;rw[hashByValue_scannable 8 hsc];refine Nc ?_;refine DK (led:=led) ?_ ho hex hd hel1 hmem1 hb1' ?_ ?_ ?_
   ·intro b s₁ Q' hq;cases b<;>first|exact Nc hq|exact Qa hq
   ·split
    ·exact hfits
    ·exact SetTable.fits_plain_off hfits
   ·split
    ·exact g1
    ·exact yv g1
   ·intro h' hsb hS';dsimp only;exact Nc (hend h' hsb hS')
  ·refine M6 (Nc ?_);simp only[↓reduceIte];refine DK (led:=led) ?_ ho hex hd hel1 hmem1 hb1' hfits g1 ?_
   ·intro b s₁ Q' hq;cases b<;>first|exact Nc hq|exact Qa hq
   ·intro h' hsb hS';dsimp only;exact Nc (hend h' hsb hS')
def ja.congr {h:Heap}{a:Addr}{S S':Int->Bool}{n n':Nat}(hS:ja prog w led h a S n)(e:∀ k,S k=S' k)(en:n=n'):ja prog w led h a S' n':=by
 have:S=S':=funext e;subst this en;exact hS
def ja.keep {h h':Heap}{a:Addr}{S:Int->Bool}{n:Nat}(hS:ja prog w led h a S n)(hk:∀ o,h.get? a=some o->h'.get? a=some o):ja prog w led h' a S n:=by
 obtain⟨o,es,ep,t,ho,rest⟩:=hS;exact⟨o,es,ep,t,hk o ho,rest⟩
def F8 (led:Bool){h:Heap}{a:Addr}(ho:h.get? a=some { cls:=.type "set",dict:=none,data:=.set #[] 0 (.fresh 0 0 led) }):ja prog w led h a (λ _=>false) 0:=
 ⟨_,#[],0,_,ho,⟨rfl,rfl,rfl⟩,rfl,λ e he=>by simp at he,λ k=>by simp,by decide,rfl,rfl,yt led⟩
end
section
variable {prog:Program}{w:World}{A:Around}{R:Result->Shared->Prop}{I:Addr}{fp wr:List Addr}{G:Array GenState->Array GenState->Prop}{n:Nat}{P:Nat->Value->Prop}{St:Nat->Shared->Prop}{led:Bool}
def Je (W:WalksS prog w A.in1 I fp wr G n P St)(S:Addr)(hSf:S∉fp)(val:Nat->Int)(hval:∀ i v,P i v->∃ t,v=.int (val i) t)(hb:n+1<scanBound) :
  ∀ (k i:Nat) (s:Shared),n-i=k->i<=n->St i s->ja prog w led s.heap S (λ k'=>(firstMet val i).any (· == k')) (firstMet val i).length ->
   (∀ s',Moved (S::wr) G s s'->ja prog w led s'.heap S (λ k'=>(firstMet val n).any (· == k')) (firstMet val n).length->R (.ok (.ret .none)) s') ->
   codeAny (model prog w) A (.builtin "set.update.loop" ⟨[.ref S,.ref I],[]⟩) R s:=by
 have hSw:S∉wr:=λ h=>hSf (W.sub _ h);have hsub:∀ b∈wr,b∈S::wr:=λ b hb=>Nb _ hb;intro k
 induction k with
 | zero =>
  intro i s hk hi hst hS hR;have hin:i=n:=by omega
  subst hin;refine Pe F.entry_set_update_loop ?_;rw[OT Qu _];show wpAny _ A.in1 (pyNext (.ref I) >>= _) _ _ s;refine M6 (W.done s _ _ hst λ s' hm=>?_);exact Nc (hR s' (hm.mono hsub) (hS.keep λ o ho=>hm.heap S _ hSw ho))
 | succ k ih =>
  intro i s hk hi hst hS hR;have hlt:i<n:=by omega
  refine Pe F.entry_set_update_loop ?_;rw[OT Qu _];show wpAny _ A.in1 (pyNext (.ref I) >>= _) _ _ s;refine M6 (W.item i s _ _ hlt hst λ v s' hP hst' hm=>?_);obtain⟨t,rfl⟩:=hval i v hP;have hS':=hS.keep (h':=s'.heap) λ o ho=>hm.heap S _ hSw ho;show wpAny _ A.in1 (holding [Value.int (val i) t] (setAdd S (.int (val i) t)) >>= _) _ _ s';refine M6 (O6 ?_);unfold setAdd;refine O6 (M6 ((intKind prog w).pyHash (k:=val i) (intKind_is _ _ _ _) ?_));have hroom:(firstMet val i).length+1<scanBound:=by have:=firstMet_length_le val i;omega
  refine K7 (s:={ s' with toks:=s'.toks+1 }) (intKind_is _ _ _ _) rfl hS' hroom λ h' hsb hS2=>?_;have hSi:ja prog w led h' S (λ k'=>(firstMet val (i+1)).any (· == k')) (firstMet val (i+1)).length:=hS2.congr (λ k'=>by rw[firstMet_succ,step_any]) (by rw[firstMet_succ,step_length]);refine Nc ⟨Qk Qu _,ih (i+1) _ (by omega) hlt (W.frame _ s' _ _ hst' (Qt _) λ b hb o e=>?_) hSi λ s'' hm'' hS''=>?_⟩
  ·rw[hsb.2 b (λ h:b=S=>hSf (by rw[<-h];exact hb))];exact e
  ·refine hR s'' (Moved.trans W.gtrans ((hm.mono hsub).then_heap (Qt _) λ b o hb e=>?_) hm'') hS'';rw[hsb.2 b (λ h:b=S=>hb (by rw[h];exact Na))];exact e
end
variable {T a:Addr}{A:Around}{es:Array (Int×Value)}{h:Heap}{S':Int->Bool}{ep i n slot:Nat}{o:Obj}{prog:Program}{s:Shared}{x:Value}{E Q:Value->Shared->Prop}{w:World}
def rQ (w:World):Bool:=!w.params.followText "set-order"
abbrev BL (w:World):Obj:=⟨.type "set",none,.set #[] 0 (.fresh 0 0 (rQ w)),#[]⟩
section
def K8 (a:Value){R:Value->Shared->Prop}(h:R (.ref s.heap.objs.size) { s with heap:=s.heap.push (BL w) }):codeAny (model prog w) A (.call (.builtin "set.__new__") ⟨[.type "set",a],[]⟩) (wants R E) s:=by
 have self:=sub_set_self;refine codeAny_of_tree (M6 (wpAny_of_eq (F.newCall_set_1 a) (Nc ⟨Qk F.plain_set_new _,Pe F.entry_set_new ?_⟩)));rw[OT F.plain_set_new _];unfold Builtin.«set.__new__» Builtin.Frozenset.newClass;cases s;dsimp only
 wp_walk
 exact wpAny_askSetting (Nc (M6 (wpAny_alloc (Nc (Nc h)))))
abbrev Made (prog:Program)(w:World)(s:Shared)(ns:List Int)(n:Nat)(S:Addr)(s':Shared):Prop:=∃ h' tk,s'={ s with heap:=h',toks:=tk }/\ja prog w (rQ w) h' S (λ k=>(firstMet (λ i=>ns.getD i 0) n).any (· == k)) (firstMet (λ i=>ns.getD i 0) n).length/\∀ b o,b≠S->s.heap.get? b=some o->h'.get? b=some o
def Jf {l S:Addr}{items:Array Value}{ns:List Int}(hh:A.handled=none)(hl:s.heap.IsList l items)(hi:IntsAre items.toList ns)(hb:items.size+1<scanBound)(hS:s.heap.get? S=some (BL w))(ne:l≠S) :
  codeAny (model prog w) A (.call (.builtin "set.__init__") ⟨[.ref S,.ref l],[]⟩) (wants (λ r s'=>r=.none/\Made prog w s ns items.size S s') E) s:=by
 have hT:s.TypeIs (.ref S) "set" :=⟨_,hS,rfl⟩;refine codeAny_call_builtin F.called_set.init.plain F.entry_set_init (check_set_init_1 hT ?_);obtain⟨⟨c,dc,dt,sl⟩,g1,g2,n,g3⟩:=id hl;simp only at g2 g3;subst g2 g3;have x1:=F.sub_list_set;have x2:=F.sub_list_frozenset;have x3:(Value.type "list" == Value.type "dict")=false:=by decide
 unfold Builtin.«set.__init__» noKeywords Builtin.Frozenset.updateFrom;generalize hI:pyIter=It
 wp_walk
 subst hI;refine Rq hl (M6 (wpAny_runValue ?_));have lS:S<s.heap.objs.size:=Nl hS;have ll:l<s.heap.objs.size:=Nl g1;refine Je (led:=rQ w) ((Walks.list (by simp[hh]) _ l (NH ll) items).toS) S (by simp[NH lS,ne.symm]) (λ i=>ns.getD i 0) (λ i v e=>IntsAre.int_at hi i v (by rw[N3];exact e)) hb (items.size-0) 0 _ (by omega) (OD _)
  ⟨⟨_,Nj _ rfl,rfl,rfl⟩,hl.push _⟩ ((F8 (rQ w) (M8 _ hS)).congr (λ _=>rfl) rfl) ?_
 rintro⟨h',g',d',tk',os'⟩ hm hG;have e1:g'=s.gens:=hm.gens;have e2:d'=s.drawn:=hm.drawn;have e3:os'=s.os:=hm.os;subst e1 e2 e3;refine Nc (Nc ⟨rfl,h',tk',rfl,hG,λ b o nb e=>hm.heap b o ?_ (M8 _ e)⟩);simp[nb,NH (Nl e)]
def yx {l:Addr}{items:Array Value}{ns:List Int}(hh:A.handled=none)(hl:s.heap.IsList l items)(hi:IntsAre items.toList ns)(hb:items.size+1<scanBound)
  (h:∀ (h':Heap) (tk:Nat),ja prog w (rQ w) h' s.heap.objs.size (λ k=>(firstMet (λ i=>ns.getD i 0) items.size).any (· == k)) (firstMet (λ i=>ns.getD i 0) items.size).length->(∀ b o,b<s.heap.objs.size->s.heap.get? b=some o->h'.get? b=some o)->Q (.ref s.heap.objs.size) { s with heap:=h',toks:=tk }) :
  wpAny (model prog w) A (call (.type "set") [.ref l]) Q E s:=by
 have T:=F.called_set;obtain⟨m1,m2,m3⟩:=T.mro;have m4:=T.made;have m5:=T.sub;have m6:=T.notType;have m7:=T.canCreate;have m8:=F.typeCall_set_1 (.ref l);refine wpAny_call (codeAny_of_tree (Nc ⟨Code.quiet_builtin _ (by decide +kernel),Pe F.entry_type_call ?_⟩));rw[Around.under_plain (weight_type_call_type "set" [.ref l] []) rfl]
 repeat (any_goals (first|assumption|wp_step))
 refine Q4 (K8 (.ref l) (E:=E) (R:=λ x s'=>x=.ref s.heap.objs.size/\s'={ s with heap:=s.heap.push (BL w) }) ⟨rfl,rfl⟩) λ r1 s1 q1=>?_;rcases r1 with e|fl
 ·exact q1
 cases fl with
 | ret x =>
  obtain⟨rfl,rfl⟩:=q1;have gS:(s.heap.push (BL w)).get? s.heap.objs.size=some (BL w):=Nj _ rfl;have y1:=T.init.lookup;have y2:=T.init.bind (.ref s.heap.objs.size);have y3:Shared.TypeIs { s with heap:=s.heap.push (BL w) } (.ref s.heap.objs.size) "set" :=⟨_,gS,rfl⟩
  repeat (any_goals (first|assumption|wp_step))
  obtain⟨ol,g1,_⟩:=id hl;refine Q4 (Jf (E:=E) (ns:=ns) (by simp[hh]) (hl.push _) hi hb gS (NH (Nl g1))) λ r2 s2 q2=>?_;rcases r2 with e|fl
  ·exact q2
  cases fl with
  | ret x =>
   obtain⟨rfl,h',tk,rfl,hG,hk⟩:=q2
   repeat (any_goals (first|assumption|wp_step))
   exact h _ _ hG λ b o lb e=>hk b o (NH lb) (M8 _ e)
  |_=>exact q2.elim
 |_=>exact q1.elim
end
def qC:entryFor table "set.__iter__" = some Builtin.«frozenset.__iter__» :=
 entryFor_alias (id':="frozenset.__iter__") (by kernel_rfl) rfl (by decide +kernel) (by kernel_rfl)
def bE:Slot "set_iterator" "__next__" "set_iterator.__next__" :=
 .of (owner:="set_iterator") (n:="__next__") (by rw[typeLookup_type,QE];kernel_rfl) (by decide +kernel) (by decide +kernel) (by decide +kernel)
  (by first|exact .inl (by decide +kernel)|exact .inr (by decide +kernel)) (by rw[Rh];kernel_rfl)
def gn:entryFor table "set_iterator.__next__" = some Builtin.«set_iterator.__next__» :=entryFor_of_tree (by kernel_rfl)
def iu (a:Value):argsOk "set_iterator.__next__" ⟨[a],[]⟩:=by unfold argsOk;kernel_rfl
section
def iG {α:Type}:∀ (l:List α) (i:Nat) (h:i<l.length),(l[i]::l.eraseIdx i).Perm l
 |[],i,h=>absurd h (PC _)
 |a::l,0,_=>Ox _
 | a::l,i+1,h=>by
  have hi:i<l.length:=by simpa using h
  have ih:=iG l i hi;show(l[i]::a::l.eraseIdx i).Perm (a::l);exact(List.Perm.swap a l[i] _).trans (List.Perm.cons a ih)
def yy {M:Model}{src:Source}{Q:Nat->Shared->Prop}(hn:n≠0)(h:∀ (i:Nat) d,i<n->Q i { s with drawn:=d }):wpAny M A (choose src n) Q E s:=λ Γ p hΓ=>
 ⟨hn,h _ _ (Nat.mod_lt _ (Nat.pos_of_ne_zero hn))⟩
def wy {M:Model}{α:Type}:∀ (n:Nat) (xs:List α) (s:Shared) (Q:List α->Shared->Prop),xs.length=n->(∀ ys d,ys.Perm xs->Q ys { s with drawn:=d })->wpAny M A (drawOrder n xs) Q E s
 | 0,xs,s,Q,hl,h=>by
  have e:xs=[]:=OU.mp hl;subst e;unfold drawOrder;have:=h [] s.drawn (Ox _);exact Nc this
 |n+1,[],s,Q,hl,h=>by simp at hl
 | n+1,x::r,s,Q,hl,h=>by
  unfold drawOrder;refine M6 (yy (by simp) λ i d hi=>?_);have hg:(x::r)[i]?=some ((x::r)[i]):=M9 hi;simp only[hg];refine M6 (wy n ((x::r).eraseIdx i) _ _ (by rw[Ri hi,hl];rfl) λ ys d' hp=>?_);exact Nc (h _ d' ((List.Perm.cons _ hp).trans (iG _ _ hi)))
def Ad {α:Type}(next:Nat->Nat):∀ (fuel k:Nat) (left:List α) (out:Array α),left.length=fuel->∃ l:List α,l.Perm left/\(pickOrder.go next fuel k left out).toList=out.toList++l
 | 0,k,left,out,hl=>by
  have e:left=[]:=OU.mp hl;subst e;exact⟨[],Ox _,by unfold pickOrder.go;simp⟩
 | fuel+1,k,left,out,hl=>by
  have hpos:0<left.length:=by omega
  have hi:next k%left.length<left.length:=Nat.mod_lt _ hpos
  have hg:left[next k%left.length]?=some (left[next k%left.length]):=M9 hi;obtain⟨l,hp,e⟩:=Ad next fuel (k+1) (left.eraseIdx (next k%left.length)) (out.push (left[next k%left.length])) (by rw[Ri hi,hl];rfl)
  refine⟨left[next k%left.length]::l,(List.Perm.cons _ hp).trans (iG _ _ hi),?_⟩;unfold pickOrder.go;rw[hg];show(pickOrder.go next fuel (k+1) (left.eraseIdx (next k%left.length)) (out.push (left[next k%left.length]))).toList=_;rw[e,Array.toList_push,NT];rfl
def oH {α:Type}(next:Nat->Nat)(xs:Array α):(pickOrder next xs).toList.Perm xs.toList:=by
 obtain⟨l,hp,e⟩:=Ad next xs.size 0 xs.toList #[] (by simp)
 unfold pickOrder;rw[e];simpa using hp
variable {it:Addr}{t:SetTable}
def nJ {M:Model}{Q:Bool->Shared->Prop}(h:Q (M.w.params.followText "set-order") s):wpAny M A setsByText Q E s:=by
 unfold setsByText;exact M6 (wpAny_askSetting (Nc h))
def DM (hby:w.params.followText "set-order" = true)(ho:s.heap.get? a=some o)(hd:o.data=.set es ep t)(hf:t.fits es.size=true){Q:Option (Value×Nat)->Shared->Prop}
  (h:Q (((pickOrder (w.params.setOrder a ep) es)[i]?).map λ e=>(e.2,slot)) s):wpAny (model prog w) A (setNext a slot i ep) Q E s:=by
 unfold setNext;refine M6 (Pa ho hd hf ?_);dsimp only;refine M6 (nJ ?_);rw[show(model prog w).w.params.followText "set-order" = true from hby];simp only[↓reduceIte,OB,NR];refine M6 ?_;unfold setWalk;refine M6 (Pa ho hd hf ?_);dsimp only;refine M6 (nJ ?_);rw[show(model prog w).w.params.followText "set-order" = true from hby];simp only[↓reduceIte];exact M6 (wpAny_askSetting (Nc (Nc h)))
def DN (hby:w.params.followText "set-order" = false)(hdr:(!t.plain&&decide (es.size>1))=false)(hled:t.led=true)(ho:s.heap.get? a=some o)(hd:o.data=.set es ep t)(hf:t.fits es.size=true){Q:Option (Value×Nat)->Shared->Prop}
  (h:Q (match es[SetTable.below t.place slot]?,t.place[SetTable.below t.place slot]? with|some (_,x),some j=>some (x,j+1)|_,_=>none) s):wpAny (model prog w) A (setNext a slot i ep) Q E s:=by
 unfold setNext;refine M6 (Pa ho hd hf ?_);dsimp only;refine M6 (nJ ?_);rw[show(model prog w).w.params.followText "set-order" = false from hby];simp only[NR,↓reduceIte];split
 ·rename_i hx;have hx':(!t.plain&&decide (es.size>1))=true:=hx;rw[hdr]at hx';cases hx'
 ·refine M6 ?_;show wpAny _ _ (if (!t.led && !es.isEmpty)=true then unsupported "set:maker-not-led" else pure ()) _ _ _;rw[hled,Nu (by simp)];exact Nc (Nc h)
abbrev qB (first:Value)(i:Nat)(a:Addr)(n ep:Nat):Obj:={ cls:=.type "set_iterator",dict:=none,data:=.fields #[first,.int i 0,.ref a,.int n 0,.int ep 0],slots:=#[] }
def tw {nx:Nat}{Q:Option Value->Shared->Prop}(hit:s.heap.get? it=some (qB (.int slot 0) i a es.size ep))(ho:s.heap.get? a=some o)(hd:o.data=.set es ep t)(hf:t.fits es.size=true)
  (hn:∀ (A':Around) (E':Value->Shared->Prop) (Q':Option (Value×Nat)->Shared->Prop),Q' (some (x,nx)) s->wpAny (model prog w) A' (setNext a slot i ep) Q' E' s)
  (hQ:∀ h',h'.get? it=some (qB (.int nx 0) (i+1) a es.size ep)->Heap.SameBut it s.heap h'->Q (some x) { s with heap:=h' }):wpAny (model prog w) A (pyNext (.ref it)) Q E s:=by
 have hT:s.TypeIs (.ref it) "set_iterator" :=⟨_,hit,rfl⟩;unfold pyNext;refine M6 (PK (N7 (name:=Str.ofString "__next__") hT bE (N1 bE hT gn ?_ (iu _))));unfold Builtin.«set_iterator.__next__» slotArgs;simp only[Qf,Ql,NR,↓reduceIte,Ob,OB];refine M6 (Nc ?_);dsimp only;refine M6 (Rj hit rfl ?_);dsimp only;refine M6 (PR ho hd hf ?_);simp only[OB,NR,↓reduceIte];rw[NS,NS,NS];refine M6 (hn _ _ _ ?_);dsimp only;refine M6 (NZ hit (by simp) λ h1 e1 sb1=>?_);refine M6 (NZ (s:={ s with heap:=h1 }) e1 (by simp) λ h2 e2 sb2=>?_);refine Nc ⟨_,rfl,Nc (hQ h2 ?_ (sb1.trans sb2))⟩;rw[e2];simp[rawInt,qB]
def j7:isSubtype (.type "StopIteration") (.type "StopIteration")=pure true:=by rw[Rh];kernel_rfl
def tu {slot i:Nat}{Q:Option Value->Shared->Prop}(hh:A.handled=none)(hit:s.heap.get? it=some (qB (.int slot 0) i a es.size ep))(ho:s.heap.get? a=some o)(hd:o.data=.set es ep t)(hf:t.fits es.size=true)
  (hn:∀ (A':Around) (E':Value->Shared->Prop) (Q':Option (Value×Nat)->Shared->Prop),Q' none s->wpAny (model prog w) A' (setNext a slot i ep) Q' E' s)
  (hQ:∀ h',Heap.ExtBut it s.heap h'->Q none { s with heap:=h' }):wpAny (model prog w) A (pyNext (.ref it)) Q E s:=by
 have hT:s.TypeIs (.ref it) "set_iterator" :=⟨_,hit,rfl⟩;unfold pyNext;refine M6 (PK (N7 (name:=Str.ofString "__next__") hT bE (N1 bE hT gn ?_ (iu _))));unfold Builtin.«set_iterator.__next__» slotArgs;simp only[Qf,Ql,NR,↓reduceIte,Ob,OB];refine M6 (Nc ?_);dsimp only;refine M6 (Rj hit rfl ?_);dsimp only;refine M6 (PR ho hd hf ?_);simp only[OB,NR,↓reduceIte];rw[NS,NS,NS];refine M6 (hn _ _ _ ?_);dsimp only;refine M6 (Ra hit rfl (by simp) ?_);show wpAny _ _ (newExc (.type "StopIteration") [] >>= _) _ _ _;refine M6 ?_;simp only[newExc,newTuple];refine M6 (N5 ?_ (by size_fits));refine M6 (m:=firstArgMember _ _) (wpAny_of_eq (a:=Value.none) (by first|rfl|(simp only[firstArgMember];rfl)) ?_);refine N5 ?_ (by size_fits);simp only[raiseNew];refine M6 (Rv ?_);rw[show A.in1.handled=none from hh];refine M6 (Nc (wpAny_throw ?_));refine M6 (Qe (T:="StopIteration") (b:=true) ⟨_,Nj _ rfl,rfl⟩ j7 ?_);exact Nc (hQ _ (((OY ..).extBut.push _).push _))
def BN {p:Nat}{ps:Array Value}{Q:Option Value->Shared->Prop}(hit:s.heap.get? it=some (qB (.ref T) i a es.size ep))(ho:s.heap.get? a=some o)(hd:o.data=.set es ep t)(hf:t.fits es.size=true)
  (hp:s.heap.IsTuple T ps) (hpi:ps[i]?=some (.int p 0)) (hx:(es[p]?).map (·.2)=some x)
  (hQ:∀ h',h'.get? it=some (qB (.ref T) (i+1) a es.size ep)->Heap.SameBut it s.heap h'->Q (some x) { s with heap:=h' }):wpAny (model prog w) A (pyNext (.ref it)) Q E s:=by
 have hT:s.TypeIs (.ref it) "set_iterator" :=⟨_,hit,rfl⟩;obtain⟨ot,hot,_,nt,hdt⟩:=hp;unfold pyNext;refine M6 (PK (N7 (name:=Str.ofString "__next__") hT bE (N1 bE hT gn ?_ (iu _))));unfold Builtin.«set_iterator.__next__» slotArgs;simp only[Qf,Ql,NR,↓reduceIte,Ob,OB];refine M6 (Nc ?_);dsimp only;refine M6 (Rj hit rfl ?_);dsimp only;refine M6 (PR ho hd hf ?_);simp only[OB,NR,↓reduceIte];refine M6 (OP hot hdt ?_);dsimp only;rw[NS,hpi];dsimp only;rw[NS,NS];refine M6 ?_;unfold setNextDrawn;refine M6 (Pa ho hd hf ?_);simp only[OB,NR,↓reduceIte];cases he:es[p]? with
 |none=>rw[he]at hx;cases hx
 | some e =>
  rw[he]at hx;simp only[Qm,Qz]at hx;subst hx;dsimp only;refine Nc ?_;refine M6 (NZ hit (by simp) λ h1 e1 sb1=>?_);refine Nc ⟨_,rfl,Nc (hQ h1 ?_ sb1)⟩;rw[e1];simp[rawInt,qB]
def BO{ps:Array Value}{Q:Option Value->Shared->Prop}(hh:A.handled=none)(hit:s.heap.get? it=some (qB (.ref T) i a es.size ep))(ho:s.heap.get? a=some o)(hd:o.data=.set es ep t)(hf:t.fits es.size=true)
  (hp:s.heap.IsTuple T ps) (hpi:ps[i]?=none)
  (hQ:∀ h',Heap.ExtBut it s.heap h'->Q none { s with heap:=h' }):wpAny (model prog w) A (pyNext (.ref it)) Q E s:=by
 have hT:s.TypeIs (.ref it) "set_iterator" :=⟨_,hit,rfl⟩;obtain⟨ot,hot,_,nt,hdt⟩:=hp;unfold pyNext;refine M6 (PK (N7 (name:=Str.ofString "__next__") hT bE (N1 bE hT gn ?_ (iu _))));unfold Builtin.«set_iterator.__next__» slotArgs;simp only[Qf,Ql,NR,↓reduceIte,Ob,OB];refine M6 (Nc ?_);dsimp only;refine M6 (Rj hit rfl ?_);dsimp only;refine M6 (PR ho hd hf ?_);simp only[OB,NR,↓reduceIte];refine M6 (OP hot hdt ?_);dsimp only;rw[NS,hpi];dsimp only;refine M6 (NZ hit (by simp) λ h1 e1 sb1=>?_);refine M6 (Ra (s:={ s with heap:=h1 }) e1 rfl (by simp) ?_);show wpAny _ _ (newExc (.type "StopIteration") [] >>= _) _ _ _;refine M6 ?_;simp only[newExc,newTuple];refine M6 (N5 ?_ (by size_fits));refine M6 (m:=firstArgMember _ _) (wpAny_of_eq (a:=Value.none) (by first|rfl|(simp only[firstArgMember];rfl)) ?_);refine N5 ?_ (by size_fits);simp only[raiseNew];refine M6 (Rv ?_);rw[show A.in1.handled=none from hh];refine M6 (Nc (wpAny_throw ?_));refine M6 (Qe (T:="StopIteration") (b:=true) ⟨_,Nj _ rfl,rfl⟩ j7 ?_);exact Nc (hQ _ (((sb1.trans (OY ..)).extBut.push _).push _))
end
def nK:Slot "set_iterator" "__iter__" "set_iterator.__iter__" :=
 .of (owner:="set_iterator") (n:="__iter__") (by rw[typeLookup_type,QE];kernel_rfl) (by decide +kernel) (by decide +kernel) (by decide +kernel)
  (by first|exact .inl (by decide +kernel)|exact .inr (by decide +kernel)) (by rw[Rh];kernel_rfl)
def rR:entryFor table "set_iterator.__iter__" = some Builtin.«dict_keyiterator.__iter__» :=entryFor_alias (id':="dict_keyiterator.__iter__") (by kernel_rfl) rfl (by decide +kernel) (by kernel_rfl)
def uO (a:Value):argsOk "set_iterator.__iter__" ⟨[a],[]⟩:=by unfold argsOk;kernel_rfl
section
variable{I:Addr}{t:SetTable}
def uN {h:s.TypeIs (.ref I) "set_iterator"}(hQ:Q (.ref I) s):wpAny (model prog w) A (pyIter (.ref I)) Q E s:=by
 refine Qx h nK (N1 nK h rR ?_ (uO _));show wpAny _ _ (ret (.ref I)) _ _ s;exact Nc ⟨_,rfl,"set_iterator",_,h,bE.lookup,hQ⟩
def Ji (hby:w.params.followText "set-order" = true)(hh:A.handled=none)(hne:a≠I)(hd:o.data=.set es ep t)(hf:t.fits es.size=true) :
  Walks prog w A I [I,a] [I] es.size (λ i v=>((pickOrder (w.params.setOrder a ep) es).toList.map (·.2))[i]?=some v) (λ i h=>h.get? I=some (qB (.int (0:Nat) 0) i a es.size ep)/\h.get? a=some o) where
 sub:=λ b hb=>by simp at hb;simp[hb]
 frame:=λ _ _ _ st hk=>⟨hk I (by simp) _ st.1,hk a (by simp) _ st.2⟩
 item:=λ i s Q E hi st hQ=>by
  have hl:=(oH (w.params.setOrder a ep) es).length_eq;simp only[NI]at hl;have hg:(pickOrder (w.params.setOrder a ep) es)[i]?=some ((pickOrder (w.params.setOrder a ep) es)[i]'(by omega)):=NB _;refine tw (slot:=0) (nx:=0) (x:=((pickOrder (w.params.setOrder a ep) es)[i]'(by omega)).2) st.1 st.2 hd hf (λ A' E' Q' q=>DM hby st.2 hd hf (by rw[hg];exact q)) λ h' e1 sb=>?_;refine hQ _ h' s.toks ?_ ⟨e1,?_⟩ λ b o' hb e=>?_
  ·rw[NG,N3,hg];rfl
  ·rw[sb.2 a hne];exact st.2
  ·rw[sb.2 b (λ z=>hb (by simp[z]))];exact e
 done:=λ s Q E st hQ=>by
  have hl:=(oH (w.params.setOrder a ep) es).length_eq;simp only[NI]at hl;refine tu (slot:=0) hh st.1 st.2 hd hf (λ A' E' Q' q=>DM hby st.2 hd hf (by rw[Pn (by omega)];exact q)) λ h' he=>?_;exact hQ h' s.toks λ b o hb e=>he b o (λ h=>hb (by simp[h])) e
 self:=λ _ s _ _ st hQ=>uN (h:=⟨_,st.1,rfl⟩) hQ
def o6 (t:SetTable):Nat->Nat
 |0=>0
 |i+1=>t.place.getD i 0+1
def qD (hr:uM t.place):∀ i,i<=t.place.size->SetTable.below t.place (o6 t i)=i
 | 0,_=>by
  obtain⟨h1,h2,h3⟩:=mG hr 0;show SetTable.below t.place 0=0;rcases Nat.eq_zero_or_pos (SetTable.below t.place 0) with z|z
  ·exact z
  ·have:=h2 0 _ (NB (by omega)) z;omega
 | i+1,hi=>by
  have hg:t.place[i]?=some (t.place[i]'(by omega)):=NB _;have hgd:t.place.getD i 0=t.place[i]'(by omega):=by rw[N8,hg];rfl
  obtain⟨h1,h2,h3⟩:=mG hr (o6 t (i+1));have es:o6 t (i+1)=t.place[i]'(by omega)+1:=by show t.place.getD i 0+1=_;rw[hgd]
  rw[es]at h1 h2 h3 ⊢;rcases OO (SetTable.below t.place (t.place[i]'(by omega)+1)) (i+1) with z|z|z
  ·have:=h3 i _ hg (by omega);omega
  ·exact z
  ·have hg':t.place[i+1]?=some (t.place[i+1]'(by omega)):=NB _;have l:=h2 (i+1) _ hg' z;have r:=pR hr hg hg' (by omega);omega
def Jg (hby:w.params.followText "set-order" = false)(hdr:(!t.plain&&decide (es.size>1))=false)(g:Good true t)(hh:A.handled=none)(hne:a≠I)(hd:o.data=.set es ep t)(hf:t.fits es.size=true) :
  Walks prog w A I [I,a] [I] es.size (λ i v=>(es.toList.map (·.2))[i]?=some v) (λ i h=>i<=es.size/\h.get? I=some (qB (.int (o6 t i:Nat) 0) i a es.size ep)/\h.get? a=some o) where
 sub:=λ b hb=>by simp at hb;simp[hb]
 frame:=λ _ _ _ st hk=>⟨st.1,hk I (by simp) _ st.2.1,hk a (by simp) _ st.2.2⟩
 item:=λ i s Q E hi st hQ=>by
  have hp:t.place.size=es.size:=by
   unfold SetTable.fits at hf;simp only[NQ,PJ]at hf;exact hf.1
  have hb:=qD g.rise i (by omega);have hg:es[i]?=some (es[i]'hi):=NB _;have hgp:t.place[i]?=some (t.place[i]'(by omega)):=NB _;have hgd:t.place.getD i 0=t.place[i]'(by omega):=by rw[N8,hgp];rfl
  refine tw (slot:=o6 t i) (nx:=o6 t (i+1)) (x:=(es[i]'hi).2) st.2.1 st.2.2 hd hf (λ A' E' Q' q=>DN hby hdr g.led st.2.2 hd hf (by
   rw[hb,hg,hgp];have:o6 t (i+1)=t.place[i]'(by omega)+1:=by show t.place.getD i 0+1=_;rw[hgd]
   rw[this]at q;exact q)) λ h' e1 sb=>?_
  refine hQ _ h' s.toks ?_ ⟨hi,e1,?_⟩ λ b o' hb e=>?_
  ·rw[NG,N3,hg];rfl
  ·rw[sb.2 a hne];exact st.2.2
  ·rw[sb.2 b (λ z=>hb (by simp[z]))];exact e
 done:=λ s Q E st hQ=>by
  have hp:t.place.size=es.size:=by
   unfold SetTable.fits at hf;simp only[NQ,PJ]at hf;exact hf.1
  have hb:=qD g.rise es.size (by omega);refine tu (slot:=o6 t es.size) hh st.2.1 st.2.2 hd hf (λ A' E' Q' q=>DN hby hdr g.led st.2.2 hd hf (by rw[hb,Pn (Nm _)];exact q)) λ h' he=>?_;exact hQ h' s.toks λ b o hb e=>he b o (λ h=>hb (by simp[h])) e
 self:=λ _ s _ _ st hQ=>uN (h:=⟨_,st.2.1,rfl⟩) hQ
def F9 (es:Array (Int×Value))(ps:List Nat):List Value:=ps.map λ p=>((es[p]?).map (·.2)).getD .none
def Jh{ps:List Nat}(hps:ps.Perm (List.range es.size))(hh:A.handled=none)(hne:a≠I)(hnT:T≠I)(hd:o.data=.set es ep t)(hf:t.fits es.size=true) :
  Walks prog w A I [I,a,T] [I] es.size (λ i v=>(F9 es ps)[i]?=some v) (λ i h=>h.get? I=some (qB (.ref T) i a es.size ep)/\h.get? a=some o/\h.IsTuple T (ps.map λ p:Nat=>Value.int p 0).toArray) where
 sub:=λ b hb=>by simp at hb;simp[hb]
 frame:=λ _ _ _ st hk=>⟨hk I (by simp) _ st.1,hk a (by simp) _ st.2.1,st.2.2.at λ o e=>hk T (by simp) o e⟩
 item:=λ i s Q E hi st hQ=>by
  have hl:ps.length=es.size:=by rw[hps.length_eq,NO]
  have hpi:ps[i]?=some (ps[i]'(by omega)):=M9 _;have hpm:ps[i]'(by omega)<es.size:=NC.mp (hps.mem_iff.mp (Of _));have hg:es[ps[i]'(by omega)]?=some (es[ps[i]'(by omega)]'hpm):=NB _;refine BN (p:=ps[i]'(by omega)) (x:=(es[ps[i]'(by omega)]'hpm).2) st.1 st.2.1 hd hf st.2.2 (by rw[<-N3,List.toList_toArray,NG,hpi];rfl) (by rw[hg];rfl) λ h' e1 sb=>?_;refine hQ _ h' s.toks ?_ ⟨e1,?_,?_⟩ λ b o' hb e=>?_
  ·unfold F9;rw[NG,hpi,Qm,hg];rfl
  ·rw[sb.2 a hne];exact st.2.1
  ·exact st.2.2.at λ o e=>by rw[sb.2 T hnT];exact e
  ·rw[sb.2 b (λ z=>hb (by simp[z]))];exact e
 done:=λ s Q E st hQ=>by
  have hl:ps.length=es.size:=by rw[hps.length_eq,NO]
  refine BO hh st.1 st.2.1 hd hf st.2.2 (by rw[<-N3,List.toList_toArray,Oa (by rw[M7];omega)]) λ h' he=>?_;exact hQ h' s.toks λ b o hb e=>he b o (λ h=>hb (by simp[h])) e
 self:=λ _ s _ _ st hQ=>uN (h:=⟨_,st.1,rfl⟩) hQ
def BP {ps:List Nat}(hps:ps.Perm (List.range es.size)):(F9 es ps).Perm (es.toList.map (·.2)):=by
 unfold F9;refine(hps.map _).trans ?_;refine List.Perm.of_eq ?_;refine OS (by simp) λ i h1 h2=>?_;have hi:i<es.size:=by simpa using h1
 simp[hi]
end
def Ga:typeLookup (.type "set") "__len__" = pure (some (.builtin "set.__len__")):=by rw[typeLookup_type,QE];kernel_rfl
section
variable{t:SetTable}
def Jj (ho:s.heap.get? a=some o)(hex:o.ExactSet)(hd:o.data=.set es ep t)(hf:t.fits es.size=true)(g:Good (rQ w) t)(hb:es.size<scanBound)
  (hQ:∀ (I:Addr) (fp:List Addr) (ord:List Value) (St:Nat->Heap->Prop) (h':Heap) d,(∀ A':Around,A'.handled=none->Walks prog w A' I fp [I] es.size (λ i v=>ord[i]?=some v) St)->ord.Perm (es.toList.map (·.2))->St 0 h' ->
   (∀ b∈fp,b=a\/s.heap.objs.size<=b)->s.heap.objs.size<=I->(∀ b o,s.heap.get? b=some o->h'.get? b=some o)->Q (.ref I) { s with heap:=h',drawn:=d }):wpAny (model prog w) A (pyIter (.ref a)) Q E s:=by
 have hT:s.TypeIs (.ref a) "set" :=⟨o,ho,hex.1⟩;have hal:a<s.heap.objs.size:=Nl ho;have hsl:sizeLine=16777216:=Oc;refine Qx hT F.slot_set_iter (N1 F.slot_set_iter hT qC ?_ (F.args_set_iter_1 _));unfold Builtin.«frozenset.__iter__» Builtin.Frozenset.slot0 slotArgs;simp only[Qf,Ql,NR,↓reduceIte,bind_assoc,Ob,OB];unfold Builtin.Frozenset.addrOf Builtin.Frozenset.sizeOf;refine M6 (Nc ?_);dsimp only;refine M6 (Nc ?_);refine M6 (M6 (PR ho hd hf (Nc ?_)));refine M6 ?_;unfold setDrawn;refine M6 (Pa ho hd hf ?_);dsimp only;refine M6 (nJ (Nc ?_));have ep_any:∀ (s1:Shared) (Q':Nat->Shared->Prop),s1.heap.get? a=some o->Q' ep s1->wpAny (model prog w) A.in1 (setEpoch a) Q' E s1:=λ s1 Q' h1 q=>by
  unfold setEpoch;exact M6 (Pa h1 hd hf (Nc q))
 cases hby:w.params.followText "set-order" with
 | true =>
  rw[show(model prog w).w.params.followText "set-order" = true from hby];simp only[Ql,Bool.false_and,NR,↓reduceIte];refine M6 (Nc ?_);refine M6 (ep_any _ _ ho ?_);refine M6 (N5 (Nc ⟨_,rfl,"set_iterator",_,⟨_,Nj _ rfl,rfl⟩,bE.lookup,?_⟩));refine hQ s.heap.objs.size [s.heap.objs.size,a] _ _ _ s.drawn (λ A' hh=>Ji (prog:=prog) (I:=s.heap.objs.size) (o:=o) hby hh (NH hal) hd hf) ((oH _ es).map _) ⟨Nj _ rfl,M8 _ ho⟩ (λ b hbm=>?_) (Nm _) λ b o e=>M8 _ e;rcases Nq.mp hbm with rfl|hbm
  ·exact .inr (Nm _)
  ·rcases Nq.mp hbm with rfl|hbm
   ·exact .inl rfl
   ·cases hbm
 | false =>
  rw[show(model prog w).w.params.followText "set-order" = false from hby];have gl:Good true t:=by
   have e:rQ w=true:=by unfold rQ;rw[hby];rfl
   rw[e]at g;exact g
  cases hdr:(!t.plain&&decide (es.size>1)) with
  | false =>
   refine Qo (λ hc=>?_) (λ _=>?_)
   ·have hc':(!false&&(!t.plain&&decide (es.size>1)))=true:=hc;rw[hdr]at hc';cases hc'
   refine M6 (Nc ?_);refine M6 (ep_any _ _ ho ?_);refine M6 (N5 (Nc ⟨_,rfl,"set_iterator",_,⟨_,Nj _ rfl,rfl⟩,bE.lookup,?_⟩));refine hQ s.heap.objs.size [s.heap.objs.size,a] _ _ _ s.drawn (λ A' hh=>Jg (prog:=prog) (I:=s.heap.objs.size) (o:=o) hby hdr gl hh (NH hal) hd hf) (Ox _) ⟨OD _,Nj _ rfl,M8 _ ho⟩ (λ b hbm=>?_) (Nm _) λ b o e=>M8 _ e;rcases Nq.mp hbm with rfl|hbm
   ·exact .inr (Nm _)
   ·rcases Nq.mp hbm with rfl|hbm
    ·exact .inl rfl
    ·cases hbm
  | true =>
   refine Qo (λ _=>?_) (λ hc=>?_)
   ·refine M6 (wy es.size (List.range es.size) s _ (NO) λ ps d hps=>?_);have hpl:ps.length=es.size:=by rw[hps.length_eq,NO]
    simp only[newTuple];refine M6 (N5 ?_ ?_)
    ·refine M6 (ep_any _ _ (M8 _ ho) ?_);refine M6 (N5 (Nc ⟨_,rfl,"set_iterator",_,⟨_,Nj _ rfl,rfl⟩,bE.lookup,?_⟩));refine hQ _ [_,a,s.heap.objs.size] _ _ _ d (λ A' hh=>Jh (prog:=prog) (w:=w) (o:=o) (T:=s.heap.objs.size) hps hh ?_ ?_ hd hf) (BP hps) ⟨Nj _ rfl,M8 _ (M8 _ ho),?_⟩ (λ b hbm=>?_) ?_ λ b o e=>M8 _ (M8 _ e)
     ·rw[Oo];exact NH (P9 hal)
     ·rw[Oo];exact NH (QL _)
     ·exact⟨_,M8 _ (Nj _ rfl),rfl,0,rfl⟩
     ·rcases Nq.mp hbm with rfl|hbm
      ·right;rw[Oo];exact Qt _
      ·rcases Nq.mp hbm with rfl|hbm
       ·exact .inl rfl
       ·rcases Nq.mp hbm with rfl|hbm
        ·exact .inr (Nm _)
        ·cases hbm
     ·rw[Oo];exact Qt _
    ·show(ps.map λ (i:Nat)=>rawInt i).toArray.size<=sizeLine;rw[Nh,M7,hpl];unfold scanBound at hb;omega
   ·exact absurd (show(!false&&(!t.plain&&decide (es.size>1)))=true by rw[hdr];rfl) hc
def DP (hT:s.TypeIs (.ref a) "set"){Q:Bool->Shared->Prop}(h:Q false s):wpAny (model prog w) A (Builtin.List.listLengthHint (.ref a)) Q E s:=by
 unfold Builtin.List.listLengthHint;refine M6 (wpAny_specialOf hT Ga ?_);generalize hid:("set.__len__" : String)=id0
 wp_delta
 rw[show splitId id0=some ("set","__len__") from by subst hid;decide +kernel];subst hid;refine M6 (Qe (T:="set") (b:=true) hT (by rw[Rh];kernel_rfl) ?_);refine Qo (λ hab=>absurd hab (by decide)) (λ _=>?_);refine Qo (λ _=>?_) (λ hab=>absurd (by decide +kernel) hab);refine M6 (Q5 hT ?_);exact Nc h
def DO {ord:List Value}{acc:Array Value}(h:ItemsOf (λ i v=>ord[i]?=some v) acc n)(hn:ord.length=n):acc.toList=ord:=by
 refine OA λ i=>?_;rcases Nat.lt_or_ge i n with q|q
 ·have hi:i<acc.size:=by rw[h.1];exact q
  have e:acc[i]?=some acc[i]:=NB hi;rw[N3,e,h.2 i _ e]
 ·rw[Oa (by rw[NI,h.1];exact q),Oa (by omega)]
def BQ (hh:A.handled=none)(ho:s.heap.get? a=some o)(hex:o.ExactSet)(hd:o.data=.set es ep t)(hf:t.fits es.size=true)(g:Good (rQ w) t)(hb:es.size<scanBound){Q:List Value->Shared->Prop}
  (hQ:∀ (vs:List Value) (h':Heap) (tk:Nat) d,vs.Perm (es.toList.map (·.2))->(∀ b o,s.heap.get? b=some o->h'.get? b=some o)->s.heap.objs.size<=h'.objs.size->Q vs { s with heap:=h',toks:=tk,drawn:=d }):wpAny (model prog w) A (collect (.ref a)) Q E s:=by
 have hal:a<s.heap.objs.size:=Nl ho;have hn:es.size<=sizeLine:=Rr hb;unfold collect;refine M6 (wpAny_runValue (Pe F.entry_proto_collect ?_));rw[OT F.plain_proto_collect _];show wpAny _ A.in1 (newList [] >>= λ l=>again (.builtin "list.__iadd__" ⟨[l,.ref a],[]⟩)) _ _ s;refine M6 (N5 ?_);refine Nc ⟨Qk F.plain_list_iadd _,Pe F.entry_list_iadd ?_⟩;rw[OT F.plain_list_iadd _];have ho1:(s.heap.push { cls:=.type "list",data:=.seq ([]:List Value).toArray }).get? a=some o:=M8 _ ho;show wpAny _ A.in1 (Builtin.List.listExtendWith (.ref s.heap.objs.size) (.ref a) (.ref s.heap.objs.size)) _ _ _;unfold Builtin.List.listExtendWith;refine M6 (Q5 (T:="set") ⟨o,ho1,hex.1⟩ ?_);have h1:Builtin.List.listSameRef (.ref s.heap.objs.size) (.ref a)=false:=by simp[Builtin.List.listSameRef,P0 hal]
 have h2:(Value.type "set" == Value.type "list")=false:=by decide
 have h3:(Value.type "set" == Value.type "tuple")=false:=by decide
 simp only[h1,h2,h3,Bool.or_false,NR,PV];refine M6 (Jj (s:={ s with heap:=s.heap.push { cls:=.type "list",data:=.seq ([]:List Value).toArray } }) ho1 hex hd hf g hb λ I fp ord St hp d W hord hst hfp hI kp=>?_);have hS0:hp.get? s.heap.objs.size=some { cls:=.type "list",data:=.seq ([]:List Value).toArray }:=kp _ _ (Nj _ rfl);have hsz:s.heap.objs.size+1<=I:=by
  have:(s.heap.push { cls:=.type "list",data:=.seq ([]:List Value).toArray }).objs.size<=I:=hI;rw[Oo]at this;exact this
 refine M6 (O6 (DP ⟨o,kp _ _ ho1,hex.1⟩ ?_));refine Qo (λ _=>?_) (λ hc=>absurd (by decide +kernel) hc);refine M6 (Qa ?_);refine M6 ?_;show wpAny _ _ (updateSeq s.heap.objs.size (·.push .none) >>= λ _=>updateSeq s.heap.objs.size (·.pop)) _ _ _;refine M6 (QX hS0 rfl ?_);have hS₂:=O2 (Obj.mapSeq (·.push Value.none)) hS0 rfl;refine QX hS₂ rfl ?_;have hS₃:=O2 (Obj.mapSeq (·.pop)) hS₂ rfl;have oth:∀ b o,b≠s.heap.objs.size->hp.get? b=some o->((hp.update s.heap.objs.size (Obj.mapSeq (·.push Value.none))).update s.heap.objs.size (Obj.mapSeq (·.pop))).get? b=some o:=
  λ b o hb e=>(Pk _ _ (OV hb)).trans ((Pk _ _ (OV hb)).trans e)
 have WS:=(W A.in1 hh).toS;have hSf:s.heap.objs.size∉fp:=λ hm=>by
  rcases hfp _ hm with z|z
  ·exact absurd z (P0 hal)
  ·have z:(s.heap.push { cls:=.type "list",data:=.seq ([]:List Value).toArray }).objs.size<=s.heap.objs.size:=z;rw[Oo]at z;exact absurd z (Nat.not_succ_le_self _)
 have hol:ord.length=es.size:=by rw[hord.length_eq,M7,NI]
 refine Nc ⟨Qk F.plain_extend_loop _,codeAny_extend_loopS WS hn _ hSf _ es.size 0 _ _ _ rfl (OD _)
  (WS.frame 0 ({ s with heap:=hp,drawn:=d }:Shared) _ s.toks hst (Nm _) λ b hb o e=>oth b o (λ h=>hSf (h▸hb)) e) hS₃ (ItemsOf.nil _) λ s' acc' c' hm hS' hacc=>?_⟩
 show wpAny _ A (load s.heap.objs.size >>= _) _ _ s';refine M6 (wpAny_load hS' ?_);refine Nc ?_;rw[DO hacc hol];obtain⟨h',g',d',tk',os'⟩:=s';have eg:g'=s.gens:=hm.gens;have ed:d'=d:=hm.drawn;have eo:os'=s.os:=hm.os;subst eg ed eo;refine hQ ord h' tk' _ hord (λ b o' e=>hm.heap b o' (λ z=>?_) (oth b o' (NH (Nl e)) (kp b o' (M8 _ e)))) (Ph (Nl hS'));rcases Nq.mp z with z|z
 ·exact absurd z (NH (Nl e))
 ·have z:b=I:=by simpa using z
  have l:=NU (Nl e) (P8 hsz);rw[z]at l;exact absurd l (Ot _)
end
def nI:∀ (vs:List Value),(∀ v∈vs,∃ k t,v=.int k t)->∃ ns:List Int,IntsAre vs ns/\ns.length=vs.length/\∀ k,k∈ns↔∃ t,Value.int k t∈vs
 |[],_=>⟨[],.nil,rfl,λ k=>by simp⟩
 | v::vs,h=>by
  obtain⟨k,t,rfl⟩:=h v Na;obtain⟨ns,h1,h2,h3⟩:=nI vs λ v hv=>h v (Nb _ hv);refine⟨k::ns,.cons k t h1,by rw[Ny,Ny,h2],λ k'=>?_⟩;constructor
  ·intro m;rcases Nq.mp m with rfl|m
   ·exact⟨t,Na⟩
   ·obtain⟨t',q⟩:=(h3 k').mp m;exact⟨t',Nb _ q⟩
  ·rintro⟨t',m⟩;rcases Nq.mp m with e|m
   ·cases e;exact Na
   ·exact Nb _ ((h3 k').mpr ⟨t',m⟩)
section
def DR (hh:A.handled=none){S:Int->Bool}(hS:ja prog w (rQ w) s.heap a S n)(h64:n<64)
  (h:∀ (out:Array Value) (ns':List Int) (h':Heap) (tk:Nat) d (q:Addr),IntsAre out.toList ns'->ns'.Pairwise (· <= ·)->(∀ k,k∈ns'↔S k=true)->ns'.length=n->(∀ b o,s.heap.get? b=some o->h'.get? b=some o)->s.heap.objs.size<=q ->
   (∃ e,h'.get? q=some (seqObj "list" out e))->Q (.ref q) { s with heap:=h',toks:=tk,drawn:=d }) :
  wpAny (model prog w) A (call (.builtin "sorted") [.ref a]) Q E s:=by
 obtain⟨o,es,ep,t,ho,hex,hd,hel,hmem,hb,hf,hn,g⟩:=hS;refine Calls.call_function_entry kind_sorted plain_sorted entry_sorted (args_sorted1 _) ?_;unfold Builtin.«sorted»;refine M6 (m:=checkCount "sorted" 1 1 _) (Nc ?_);refine M6 (BQ (A:=A.in1) hh ho hex hd hf g hb λ vs h1 tk d hp kp hsz=>?_);have hvl:vs.length=n:=by rw[hp.length_eq,M7,NI,hn]
 obtain⟨ns,hI,hnl,hnm⟩:=nI vs λ v hv=>by
  obtain⟨e,he,rfl⟩:=Ni.mp (hp.mem_iff.mp hv);obtain⟨⟨k,hk,_⟩,_⟩:=hel e he;obtain⟨t',q⟩:=Rm hk;exact⟨k,t',q⟩
 refine M6 (wpAny_newList ?_ (by rw[hvl,Oc];omega));have hoL:(h1.push (seqObj "list" vs.toArray 0)).get? h1.objs.size=some (seqObj "list" vs.toArray 0):=Nj _ rfl;show wpAny _ _ _ _ _ ({ s with heap:=h1.push (seqObj "list" vs.toArray 0),toks:=tk,drawn:=d }:Shared);refine M6 (O6 (N1 slot_list_sort ⟨_,hoL,rfl⟩ entry_list_sort (list_sort_tree hoL hI (by omega) λ out ns' a1 a2 a3=>⟨_,rfl,?_⟩) (args_list_sort _)));have ge:∀ b o,s.heap.get? b=some o->b<h1.objs.size:=λ b o e=>Nl (kp b o e);refine Nc ⟨_,rfl,h out ns' _ tk d h1.objs.size a1 a3 (λ k=>?_) (by rw[a2.length_eq,hnl,hvl]) (λ b o e=>?_) ?_ (sortedHeap_at hoL)⟩
 ·rw[a2.mem_iff,hnm,hmem];constructor
  ·rintro⟨t',m⟩;obtain⟨e,he,q⟩:=Ni.mp (hp.mem_iff.mp m);exact⟨e,he,by rw[q];exact intKind_is _ _ _ _⟩
  ·rintro⟨e,he,q⟩;obtain⟨t',q⟩:=Rm q;exact⟨t',hp.mem_iff.mpr (Ni.mpr ⟨e,he,q⟩)⟩
 ·have hlt:=ge b o e;have hne:b≠h1.objs.size:=NH hlt;have sh:(sortedHeap (h1.push (seqObj "list" vs.toArray 0)) h1.objs.size vs out).get? b=(h1.push (seqObj "list" vs.toArray 0)).get? b:=sortedHeap_old hne (by rw[size_push'];exact P9 hlt);show(sortedHeap (h1.push (seqObj "list" vs.toArray 0)) h1.objs.size vs out).get? b=some o;rw[sh];exact M8 _ (kp b o e)
 ·exact hsz
end
end SR
namespace L2
open PySem PySem.Spec PyProof.Rows
def wC:∀ (ns acc:List Int),acc.Nodup->(ns.foldl step_dedup acc).Nodup
 |[],acc,h=>h
 | x::r,acc,h=>by
  rw[RG];refine wC r _ ?_;unfold step_dedup;split
  ·exact h
  ·rename_i hx;rw[Np];refine⟨h,Nv.mpr ⟨Oe,OG⟩,λ a ha b hb z=>hx ?_⟩;have e:b=x:=by simpa using hb
   rw[Pr];exact⟨a,ha,by rw[z,e];simp⟩
def Jk (ns:List Int)(k:Int):(dd ns).any (· == k)=true↔k∈dd ns:=by
 rw[Pr];constructor
 ·rintro⟨x,hx,e⟩;have e:x=k:=by simpa using e
  exact e▸hx
 ·intro h;exact⟨k,h,by simp⟩
def Ae:∀ (d ks:List Int),d.Nodup->(∀ k∈d,k∈ks)->ks.length<=d.length->ks.Perm d
 | [],ks,_,_,hl=>by
  have e:ks=[]:=OU.mp (Nat.le_zero.mp hl);subst e;exact Ox _
 | x::r,ks,hn,hm,hl=>by
  have hx:=hm x Na;have hp:=List.perm_cons_erase hx;have hn':=Nv.mp hn;have ih:=Ae r (ks.erase x) hn'.2 (λ k hk=>(QT (λ z:k=x=>hn'.1 (z▸hk))).mpr (hm k (Nb _ hk))) (by
   have:=hp.length_eq;rw[Ny]at this hl;omega)
  exact hp.trans (List.Perm.cons x ih)
def Inv.DQ {X:Cx}{pins:List (Addr×Obj)}{σ:L2.St}{H:Hp}{s:Shared}(I:Inv X pins σ H s)(d):Inv X pins σ H { s with drawn:=d }:=
 ⟨I.ok,I.os,I.bare,I.base,I.loc,I.cell,I.free,I.ky,I.pin,I.hok,I.len⟩
section
variable {X:Cx}{x y:Str}{p p2 pos pos2:Pos}{e:Expr}{te:TE}
def uP (hc:X.calm=true)(hg:Gl X x)(hm:X.mg x=none)(hv:bootBuiltins x=some (.builtin "sorted"))(hg2:Gl X y)(hm2:X.mg y=none)(hv2:bootBuiltins y=some (.type "set"))(he:PE X e te)
  (hn:x ≠ "__name__" :=by decide) (hdb:(x == ("__debug__" : Str))=false:=by decide) (hn2:y ≠ "__name__" :=by decide) (hdb2:(y == ("__debug__" : Str))=false:=by decide)
  (hst:starEach [.Call (.Name y p2) [e] [] pos2] X.env=(false,eval (.Call (.Name y p2) [e] [] pos2) X.env)::starEach [] X.env:=by rfl) (hst2:starEach [e] X.env=(false,eval e X.env)::starEach [] X.env:=by rfl) :
  PE X (.Call (.Name x p) [.Call (.Name y p2) [e] [] pos2] [] pos) (λ σ H Q=>pY te xB σ H λ vs H1=>∃ a ns,vs=[.ref a]/\cY X.K H1 a (ns.map V.int)/\ns.length<64 /\
   ∀ (q:Addr) (ns':List Int),H1 q=none->ns'.Perm (dd ns)->ns'.Pairwise (· <= ·)->Q (.ref q) (upd H1 q (.lst (ns'.map V.int)))):=by
 intro pins s σ H Q I h;refine O4 (jM I hg hm hv ?_ hn hdb);refine QI (e:=.Call (.Name y p2) [e] [] pos2) (rest:=[]) ?_ hst rfl;rw[hst];show wpAny _ _ (spliced ((false,eval (.Call (.Name y p2) [e] [] pos2) X.env)::[])) _ _ s;refine Q8 ?_;refine O4 (jM I hg2 hm2 hv2 ?_ hn2 hdb2);refine OI (e:=e) (rest:=[]) (eK (cT he fE hst2 pos2 pins s σ H _ I h) λ us s1 hq5=>L2.ex5 hq5 λ vs H1 I1 r1 q1=>?_) hst2 rfl;obtain⟨a,ns,rfl,hq,hl,q⟩:=q1;obtain⟨u,rfl,ru⟩:=r1.one;cases ru;obtain⟨its,rv,pl,hz⟩:=I1.list hq;have hlen:=rv.length;rw[M7]at hlen;have hsz:its.toArray.size=ns.length:=by rw[Nh,hlen]
 refine SR.yx (I1.ok.hd hc) pl.isList (by simpa using intsAre_of rv) (by show its.toArray.size+1<4096;omega) λ h2 tk2 hs2 kp2=>?_;rw[hsz]at hs2;refine Rp ?_;have hdl:(dd ns).length<=ns.length:=PyProof.Rows.firstMet_length_le _ _;refine SR.DR (s:={ s1 with heap:=h2,toks:=tk2 }) (I1.ok.hd hc) hs2 (show(dd ns).length<64 by omega) λ out ns' h3 tk3 d q' a1 a2 a3 a4 k3 g3 a5=>?_;obtain⟨ep,e5⟩:=a5;have hpm:ns'.Perm (dd ns):=Ae (dd ns) ns' (wC _ [] OG) (λ k hk=>(a3 k).mpr ((Jk ns k).mpr hk)) (by rw[a4];exact Nm _);have hge:s1.heap.objs.size<=q':=by
  obtain⟨o,es,ep',t,ho,_⟩:=hs2;exact N9 (Ph (Nl ho)) g3
 refine⟨.ref q',_,(I1.laid (t':=tk3) (λ b o z=>k3 b o (kp2 b o (Nl z) z)) hge ?_).DQ d,rfl,q q' ns' (I1.hok.fresh hge) hpm a2⟩;refine⟨?_,out.toList,ep,lz a1,by rw[QP];exact e5⟩;rw[M7,a4];exact N9 (Ph (show(dd ns).length<64 by omega)) (by decide)
end
end L2
namespace DL
open PySem PySem.Spec PyProof.Rows L2
section
variable {K:PySem.W.Frag}{Y:XY}{X:Cx}{pos pos2 p p2:Pos}{e:Expr}{fe:SD->Res D}{x y:Str}
def qE:D->Res D
 |.lst _ xs=>match intsOf xs with|some ns=>if ns.length<64 then .ok (.lst .own ((sortI (dd ns)).map D.int)) else .bad|none=>.bad
 |_=>.bad
def wz (hc:X.calm=true)(hg:Gl X x)(hm:X.mg x=none)(hv:bootBuiltins x=some (.builtin "sorted"))(hg2:Gl X y)(hm2:X.mg y=none)(hv2:bootBuiltins y=some (.type "set"))(he:PE X e (tM X.K Y fe))
  (hn:x ≠ "__name__" :=by decide) (hdb:(x == ("__debug__" : Str))=false:=by decide) (hn2:y ≠ "__name__" :=by decide) (hdb2:(y == ("__debug__" : Str))=false:=by decide)
  (hst:starEach [.Call (.Name y p2) [e] [] pos2] X.env=(false,eval (.Call (.Name y p2) [e] [] pos2) X.env)::starEach [] X.env:=by rfl) (hst2:starEach [e] X.env=(false,eval e X.env)::starEach [] X.env:=by rfl) :
  PE X (.Call (.Name x p) [.Call (.Name y p2) [e] [] pos2] [] pos) (tM X.K Y (nh qE fe)):=
 PE.imp (uP hc hg hm hv hg2 hm2 hv2 he hn hdb hn2 hdb2 hst hst2) λ σ H Q hq=>ex8 hq λ H0 B0 B τ P F I h=>tM.seq I h λ d v H1 B1 f _ I1 _ _ r1 k h1=>by
  cases d with
  | lst t xs =>
   obtain⟨a,ws,g,rfl,q,l,s⟩:=r1.lst I1;have h3:Goal X.K Y H0 B0 B1 H1 σ τ P F Q (match intsOf xs with|some ns=>if ns.length<64 then .ok (.lst .own ((sortI (dd ns)).map D.int)) else .bad|none=>.bad):=h1;cases e:intsOf xs with
   |none=>rw[e]at h3;exact h3.elim
   | some ns =>
    rw[e]at h3;simp only at h3;split at h3
    ·rename_i hl;have ex:=fO e;subst ex;obtain⟨rfl,rfl⟩:=fN l;refine⟨a,ns,rfl,gO q,hl,λ p ns' hp h1 h2=>?_⟩;have e2:ns'=sortI (dd ns):=gk (h1.trans (sortI_perm (dd ns)).symm) h2 (iq (dd ns));subst e2;exact Out.CN h3 I1 (lI _) fR.nil hp
    ·exact h3.elim
  |_=>exact h1.elim
end
end DL
namespace KL
open PySem PySem.Spec PyProof.Rows L2 DL
def top (i:Nat):Stmt:=PySem.Challenge.pw_modulewood_k09_groups_of_small_nets.main.body.getD i (.Pass ⟨0,0,0,0⟩)
structure Txt (mg:Str->Option Value):Prop where
 Jm:mg "bool" = none
 nO:mg "isinstance" = none
 f6:mg "len" = none
 DY:mg "list" = none
 Af:mg "max" = none
 DU:mg "min" = none
 lM:mg "range" = none
 K9:mg "set" = none
 kR:mg "sorted" = none
 uT:mg "tuple" = none
 Hj:mg "zip" = none
structure Bd where
 P:Program
 w:World
 K:PySem.W.Frag
 mg:Str->Option Value
 base:Heap
abbrev TX (b:Bd):=Txt b.mg
section
variable {b:Bd}
abbrev kc:Stmt:=top 5
def jC:aX ["places","place"] ["places","place"] (aB kc):=pQ
abbrev j9 (K:PySem.W.Frag)(mg:Str->Option Value):=oV K mg "require_place" kc ["places","place"]
def fD:SF:=eE (eT (ah (inD true) (aa 1) (aa 0))) dB bj
def dM:DF:=cz 2 2 (fD)
abbrev j8 (b:Bd):=oh b.P b.w b.K b.mg b.base 1 "require_place" ["places","place"] (lR b.K (dM))
def oJ (T:TX b)  (F:j9 b.K b.mg):j8 b:=bO (k:=0) (g:=fD) F jC rfl rfl λ f cdv A outer s H hr=>by
 have nd:=jC.nd;have hu:=dP hr;exact aD (gP (aL cg (p9 true) (qv 1) (qv 0))
   (aD zF)
   (cH))
abbrev l7:Stmt:=top 6
def kW:aX ["places","some","place"] ["places","some"] (aB l7):=pQ
def dh:SF:=fL (aw dM (ae (aa 0) (ae (aa 2) ao)))
abbrev l8 (K:PySem.W.Frag)(mg:Str->Option Value):=oV K mg "checked_set" l7 ["places","some"]
def jb:SF:=aC (b6 [1] (cV (aa 1)) (gN 2) dh) (aC (eE (eT (ah kK (eA df (ae (aa 1) ao)) (eC (.int 0)))) dB bj) (cU (nh qE (aa 1))))
def bD:DF:=cz 2 3 (jb)
abbrev gq (b:Bd):=oh b.P b.w b.K b.mg b.base 2 "checked_set" ["places","some"] (lR b.K (bD))
def qF (T:TX b)(C_require_place:j8 b)(F:l8 b.K b.mg):gq b:=bO (k:=1) (g:=jb) F kW rfl rfl λ f cdv A outer s H hr=>by
 have nd:=kW.nd;have hu:=dP hr;exact aj (gF [1] N4 rfl (bV (qv 1)) (aR 2 nd)
   (aD (IA (aZ C_require_place hr (j5 (qv 0) (qv 2))))))
   (aj (gP (aL ji oz (f9 bB fZ T.f6 (jy (qv 1))) av)
   (aD zF)
   (cH))
   (aD (dZ (wz rfl rfl T.kR (by decide +kernel) rfl T.K9 (by decide +kernel) (qv 1)))))
abbrev DW:Stmt:=top 8
def Ag:aX ["one","other"] ["one","other"] (aB DW):=pQ
abbrev DS (K:PySem.W.Frag)(mg:Str->Option Value):=oV K mg "pair" DW ["one","other"]
def DV:SF:=cU (ur (eT (ah KA (aa 0) (aa 1))) (eA il (ae (aa 0) (ae (aa 1) ao))) (eA il (ae (aa 1) (ae (aa 0) ao))))
def uQ:DF:=cz 2 2 (DV)
abbrev DT (b:Bd):=oh b.P b.w b.K b.mg b.base 1 "pair" ["one","other"] (lR b.K (uQ))
def Gb (T:TX b)  (F:DS b.K b.mg):DT b:=bO (k:=0) (g:=DV) F Ag rfl rfl λ f cdv A outer s H hr=>by
 have nd:=Ag.nd;have hu:=dP hr;exact aD (dZ (Mk (aL Co Im (qv 0) (qv 1)) (vR (j5 (qv 0) (qv 1))) (vR (j5 (qv 1) (qv 0)))))
abbrev nS:Stmt:=top 9
def mf:aX ["net","colours","place","row","ahead","tint"] ["net"] (aB nS):=pQ
def fB:SF:=fg 1 (aw uQ (ae (aa 2) (ae (aa 4) ao))) (aa 5)
def dJ:SF:=b6 [0,3] (uG (ae (ah cS (aa 0) (eC (.int 0))) (ae (aa 3) ao))) (gT 2 (bz 4 (bz 5 dG))) fB
abbrev nT (K:PySem.W.Frag)(mg:Str->Option Value):=oV K mg "colours_of" nS ["net"]
def jV:SF:=aC (aS 1 (e8 true)) (aC (b6 [0] (uG (ae (ah cS (aa 0) (eC (.int 0))) (ae (ah cS (aa 0) (eC (.int 1))) ao))) (gT 2 (bz 2 (bz 3 dG))) dJ) (dF 1))
def dD:DF:=cz 1 6 (jV)
abbrev nR (b:Bd):=oh b.P b.w b.K b.mg b.base 2 "colours_of" ["net"] (lR b.K (dD))
def rS (T:TX b)(C_pair:DT b)(F:nT b.K b.mg):nR b:=bO (k:=1) (g:=jV) F mf rfl rfl λ f cdv A outer s H hr=>by
 have nd:=mf.nd;have hu:=dP hr;exact aj (aW 1 nd FO)
   (aj (gF [0] N4 rfl (Dh rfl T.Hj (j5 (cP (qv 0) av) (cP (qv 0) av))) (CZ rfl (lG (i:=2) nd rfl (by walk_at "l") (lG (i:=3) nd rfl (by walk_at "l") xW)))
   (aD (gF [0,3] N4 rfl (Dh rfl T.Hj (j5 (cP (qv 0) av) (qv 3))) (CZ rfl (lG (i:=4) nd rfl (by walk_at "l") (lG (i:=5) nd rfl (by walk_at "l") xW)))
   (aD (C5 1 hu (aZ C_pair hr (j5 (qv 2) (qv 4))) (qv 5))))))
   (aD (mz 1)))
abbrev pe:Stmt:=top 11
def nV:aX ["net","sights","place","ends","tint"] ["net"] (aB pe):=pQ
def d9:SF:=aC (oG 1 (ah cS (aa 3) (eC (.int 0))) (ah cS (aa 3) (eC (.int 1))) (aa 4)) (oG 1 (ah cS (aa 3) (eC (.int 1))) (ah cS (aa 3) (eC (.int 0))) (aa 4))
def iJ:SF:=fg 1 (aa 2) (e8 false)
abbrev ph (K:PySem.W.Frag)(mg:Str->Option Value):=oV K mg "sights_of" pe ["net"]
def k8:SF:=aC (aS 1 (e8 false)) (aC (b6 [0] (cV (ah cS (aa 0) (eC (.int 0)))) (gN 2) iJ) (aC (b6 [0] (kP (aw dD (ae (aa 0) ao))) (gT 2 (bz 3 (bz 4 dG))) d9) (dF 1)))
def bQ:DF:=cz 1 5 (k8)
abbrev iW (b:Bd):=oh b.P b.w b.K b.mg b.base 3 "sights_of" ["net"] (lR b.K (bQ))
def uS (T:TX b)(C_colours_of:nR b)(F:ph b.K b.mg):iW b:=bO (k:=2) (g:=k8) F nV rfl rfl λ f cdv A outer s H hr=>by
 have nd:=nV.nd;have hu:=dP hr;exact aj (aW 1 nd uB)
   (aj (gF [0] N4 rfl (bV (cP (qv 0) av)) (aR 2 nd)
   (aD (C5 1 hu (qv 2) uB)))
   (aj (gF [0] N4 rfl (DB (aZ C_colours_of hr (jy (qv 0)))) (CZ rfl (lG (i:=3) nd rfl (by walk_at "l") (lG (i:=4) nd rfl (by walk_at "l") xW)))
   (aj (zW 1 hu (cP (qv 3) av) (cP (qv 3) av) (qv 4) (λ _ _=>rfl))
   (aD (zW 1 hu (cP (qv 3) av) (cP (qv 3) av) (qv 4) (λ _ _=>rfl)))))
   (aD (mz 1))))
abbrev mh:Stmt:=top 12
def kU:aX ["sight","members","member"] ["sight","members"] (aB mh):=pQ
def bg:SF:=eE (eT (ah oZ (ah cD (aa 0) (aa 2)) (ah cD (aa 0) (ah cS (aa 1) (eC (.int 0)))))) (dF 2) bj
abbrev l9 (K:PySem.W.Frag)(mg:Str->Option Value):=oV K mg "first_apart" mh ["sight","members"]
def gu:SF:=aC (b6 [1] (cV (aa 1)) (gN 2) bg) (cU (eC .bx))
def c7:DF:=cz 2 3 (gu)
abbrev l6 (b:Bd):=oh b.P b.w b.K b.mg b.base 1 "first_apart" ["sight","members"] (lR b.K (c7))
def qM (T:TX b)  (F:l9 b.K b.mg):l6 b:=bO (k:=0) (g:=gu) F kU rfl rfl λ f cdv A outer s H hr=>by
 have nd:=kU.nd;have hu:=dP hr;exact aj (gF [1] N4 rfl (bV (qv 1)) (aR 2 nd)
   (aD (gP (aL vp CS (iE hu (qv 0) (qv 2) (λ _ _=>rfl)) (iE hu (qv 0) (cP (qv 1) av) (λ _ _=>rfl)))
   (aD (mz 2))
   (cH))))
   (aD (dZ vO))
abbrev k7:Stmt:=top 13
def kg:aX ["sights","members","place","other"] ["sights","members"] (aB k7):=pQ
def aY:SF:=eE (eT (ah (inD true) (aa 2) (aa 1))) (aC (aS 3 (aw c7 (ae (ah cD (aa 0) (aa 2)) (ae (aa 1) ao)))) (eE (eT (ah (iC true) (aa 3) (eC .bx))) (cU (eA il (ae (aa 2) (ae (ah cS (aa 1) (eC (.int 0))) (ae (aa 3) ao))))) bj)) bj
abbrev kT (K:PySem.W.Frag)(mg:Str->Option Value):=oV K mg "teller_among" k7 ["sights","members"]
def fW:SF:=aC (b6 [0] (j6 (aa 0)) (gN 2) aY) (cU (eC .bx))
def bq:DF:=cz 2 4 (fW)
abbrev iI (b:Bd):=oh b.P b.w b.K b.mg b.base 2 "teller_among" ["sights","members"] (lR b.K (bq))
def pJ (T:TX b)(C_first_apart:l6 b)(F:kT b.K b.mg):iI b:=bO (k:=1) (g:=fW) F kg rfl rfl λ f cdv A outer s H hr=>by
 have nd:=kg.nd;have hu:=dP hr;exact aj (gF [0] N4 rfl (zZ (qv 0)) (aR 2 nd)
   (aD (gP (aL cg (p9 true) (qv 2) (qv 1))
   (aj (aW 3 nd (aZ C_first_apart hr (j5 (iE hu (qv 0) (qv 2) (λ _ _=>rfl)) (qv 1))))
   (aD (gP (aL ER Iu (qv 3) vO)
   (aD (dZ (vR (aO (qv 2) (aO (cP (qv 1) av) (aO (qv 3) c5))))))
   (cH))))
   (cH))))
   (aD (dZ vO))
abbrev nQ:Stmt:=top 14
def l5:aX ["sights","members","first","outside","waiting","pulls","newcomer","came"] ["sights","members"] (aB nQ):=pQ
def gW:SD->Res D:=eA il (ae (aa 0) (ae (aa 1) (ae (aa 2) ao)))
def gY:SD->Res Bool:=eT (ah (inD true) (aa 0) (aa 1))
def gX:SD->Res D:=aa 0
def fC:SD->Res Bool:=eT (ah oZ (ah cD (ah cD (aa 1) (aa 0)) (aa 2)) (ah cD (ah cD (aa 1) (aa 0)) (aa 3)))
def g9:SD->Res D:=aa 0
def bR:SD->Res Bool:=JT (aa 4)
def bF:SF:=aC (FY 6 4) (aC (aS 7 (aJ (cV (aa 3)) (gN 0) fC g9 1 [("sights",0),("newcomer",6),("first",2)])) (aC (aS 3 (aJ (cV (aa 3)) (gN 0) gY gX 1 [("came",7)])) (aC (x8 5 (aJ (cV (aa 7)) (gN 0) bP gW 1 [("first",2),("newcomer",6)])) (zR 4 7))))
def gZ:SD->Res Bool:=eT (ah (inD true) (aa 0) (aa 1))
def ia:SD->Res D:=aa 0
abbrev nX (K:PySem.W.Frag)(mg:Str->Option Value):=oV K mg "pulls_from" nQ ["sights","members"]
def jU:SF:=aC (aS 2 (ah cS (aa 1) (eC (.int 0)))) (aC (aS 3 (aJ (j6 (aa 0)) (gN 0) gZ ia 1 [("members",1)])) (aC (aS 4 (jt (aa 1) (eP (eC (.int 1))) uq)) (aC (aS 5 (eA dw ao)) (aC (jQ bR bF) (dF 5)))))
def fV:DF:=cz 2 8 (jU)
abbrev nL (b:Bd):=oh b.P b.w b.K b.mg b.base 1 "pulls_from" ["sights","members"] (lR b.K (fV))
def rT (T:TX b)  (F:nX b.K b.mg):nL b:=bO (k:=0) (g:=jU) F l5 rfl rfl λ f cdv A outer s H hr=>by
 have nd:=l5.nd;have hu:=dP hr;exact aj (aW 2 nd (cP (qv 1) av))
   (aj (cF 3 nd (own:=["place"]) (cap:=[("members",1)]) (a9 _ rfl _ rfl (by kernel_rfl)) rfl (zZ (qv 0)) ⟨λ _ _ _ _ _=>aR 0 (iN ["place","members"]),λ _ _ _ _ _=>dU (aL cg (p9 true) (qv 0) (qv 1)),λ _ _ _ _ _=>qv 0⟩)
   (aj (aW 4 nd (FH (qv 1) (FG av) FE))
   (aj (aW 5 nd (iz c5))
   (aj (zG N4 (Dk (qv 4))
   (aj (s_pop 6 4 nd rfl (by walk_at "l"))
   (aj (aW 7 nd (i9 (own:=["place"]) (cap:=[("sights",0),("newcomer",6),("first",2)]) (a9 _ rfl _ rfl (by kernel_rfl)) rfl (bV (qv 3)) ⟨λ _ _ _ _ _=>aR 0 (iN ["place","sights","newcomer","first"]),λ _ _ _ _ _=>dU (aL vp CS (iE hu (iE hu (qv 1) (qv 0) (λ _ _=>rfl)) (qv 2) (λ _ _=>rfl)) (iE hu (iE hu (qv 1) (qv 0) (λ _ _=>rfl)) (qv 3) (λ _ _=>rfl))),λ _ _ _ _ _=>qv 0⟩))
   (aj (cF 3 nd (own:=["place"]) (cap:=[("came",7)]) (a9 _ rfl _ rfl (by kernel_rfl)) rfl (bV (qv 3)) ⟨λ _ _ _ _ _=>aR 0 (iN ["place","came"]),λ _ _ _ _ _=>dU (aL cg (p9 true) (qv 0) (qv 1)),λ _ _ _ _ _=>qv 0⟩)
   (aj (Hh 5 (i9 (own:=["place"]) (cap:=[("first",2),("newcomer",6)]) (a9 _ rfl _ rfl (by kernel_rfl)) rfl (bV (qv 7)) ⟨λ _ _ _ _ _=>aR 0 (iN ["place","first","newcomer"]),λ _ _ _ _ _=>iS,λ _ _ _ _ _=>vR (aO (qv 0) (aO (qv 1) (aO (qv 2) c5)))⟩))
   (aD (IW 4 7)))))))
   (aD (mz 5))))))
abbrev pj:Stmt:=top 15
def nN:aX ["sight","members","shares","member"] ["sight","members"] (aB pj):=pQ
def cu:SF:=jS 2 (ah cD (aa 0) (aa 3)) 3
abbrev o8 (K:PySem.W.Frag)(mg:Str->Option Value):=oV K mg "shares_by" pj ["sight","members"]
def kY:SF:=aC (aS 2 (e8 false)) (aC (b6 [1] (cV (aa 1)) (gN 3) cu) (qy 2))
def gI:DF:=cz 2 4 (kY)
abbrev o7 (b:Bd):=oh b.P b.w b.K b.mg b.base 1 "shares_by" ["sight","members"] (lR b.K (gI))
def uR (T:TX b)  (F:o8 b.K b.mg):o7 b:=bO (k:=0) (g:=kY) F nN rfl rfl λ f cdv A outer s H hr=>by
 have nd:=nN.nd;have hu:=dP hr;exact aj (aW 2 nd uB)
   (aj (gF [1] N4 rfl (bV (qv 1)) (aR 3 nd)
   (aD (Du 2 3 (iE hu (qv 0) (qv 3) (λ _ _=>rfl)) (hin:=p7 PX Pg QY zV (dm (i:=2) rfl (by first|exact Or.inl rfl|exact Or.inr (Or.inl rfl)|exact Or.inr (Or.inr rfl))) (cT (iE hu (qv 0) (qv 3) (λ _ _=>rfl)) (cT (xF fE) fE))) (hout:=p7 Ow Qi Qj ly (p7 PX Pg QY zV (dm (i:=2) rfl (by first|exact Or.inl rfl|exact Or.inr (Or.inl rfl)|exact Or.inr (Or.inr rfl))) (cT (iE hu (qv 0) (qv 3) (λ _ _=>rfl)) (cT (xF fE) fE))) (cT (dm (i:=3) rfl (by first|exact Or.inl rfl|exact Or.inr (Or.inl rfl)|exact Or.inr (Or.inr rfl))) fE)))))
   (aD (BB 2 rfl rfl T.DY)))
abbrev wH:Stmt:=top 16
def tE:aX ["net","some","members"] ["net","some"] (aB wH):=pQ
abbrev wM (K:PySem.W.Frag)(mg:Str->Option Value):=oV K mg "teller" wH ["net","some"]
def qO:SF:=aC (aS 2 (aw bD (ae (ah cS (aa 0) (eC (.int 0))) (ae (aa 1) ao)))) (cU (aw bq (ae (aw bQ (ae (aa 0) ao)) (ae (aa 2) ao))))
def kQ:DF:=cz 2 3 (qO)
abbrev wG (b:Bd):=oh b.P b.w b.K b.mg b.base 4 "teller" ["net","some"] (lR b.K (kQ))
def BS (T:TX b)(C_checked_set:gq b)(C_sights_of:iW b)(C_teller_among:iI b)(F:wM b.K b.mg):wG b:=bO (k:=3) (g:=qO) F tE rfl rfl λ f cdv A outer s H hr=>by
 have nd:=tE.nd;have hu:=dP hr;exact aj (aW 2 nd (aZ C_checked_set hr (j5 (cP (qv 0) av) (qv 1))))
   (aD (dZ (aZ C_teller_among hr (j5 (aZ C_sights_of hr (jy (qv 0))) (qv 2)))))
abbrev qH:Stmt:=top 17
def o9:aX ["net","some"] ["net","some"] (aB qH):=pQ
abbrev qJ (K:PySem.W.Frag)(mg:Str->Option Value):=oV K mg "is_group" qH ["net","some"]
def jW:SF:=cU (ah (iC false) (aw kQ (ae (aa 0) (ae (aa 1) ao))) (eC .bx))
def fH:DF:=cz 2 2 (jW)
abbrev qL (b:Bd):=oh b.P b.w b.K b.mg b.base 5 "is_group" ["net","some"] (lR b.K (fH))
def wK (T:TX b)(C_teller:wG b)(F:qJ b.K b.mg):qL b:=bO (k:=4) (g:=jW) F o9 rfl rfl λ f cdv A outer s H hr=>by
 have nd:=o9.nd;have hu:=dP hr;exact aD (dZ (IZ Cs G9 (aZ C_teller hr (j5 (qv 0) (qv 1))) vO))
abbrev wJ:Stmt:=top 18
def tD:aX ["net","some","members","pulls"] ["net","some"] (aB wJ):=pQ
def gJ:SD->Res D:=ah cS (aa 0) (eC (.int 0))
abbrev wD (K:PySem.W.Frag)(mg:Str->Option Value):=oV K mg "pulled" wJ ["net","some"]
def qG:SF:=aC (aS 2 (aw bD (ae (ah cS (aa 0) (eC (.int 0))) (ae (aa 1) ao)))) (aC (aS 3 (aw fV (ae (aw bQ (ae (aa 0) ao)) (ae (aa 2) ao)))) (Dl (eA bY (ae (ah cy (aa 2) (aJ (cV (aa 3)) (gN 0) bP gJ 1 [])) ao)) 3))
def iH:DF:=cz 2 4 (qG)
abbrev wI (b:Bd):=oh b.P b.w b.K b.mg b.base 4 "pulled" ["net","some"] (lR b.K (iH))
def BR (T:TX b)(C_checked_set:gq b)(C_sights_of:iW b)(C_pulls_from:nL b)(F:wD b.K b.mg):wI b:=bO (k:=3) (g:=qG) F tD rfl rfl λ f cdv A outer s H hr=>by
 have nd:=tD.nd;have hu:=dP hr;exact aj (aW 2 nd (aZ C_checked_set hr (j5 (cP (qv 0) av) (qv 1))))
   (aj (aW 3 nd (aZ C_pulls_from hr (j5 (aZ C_sights_of hr (jy (qv 0))) (qv 2))))
   (aD (IX 3 (f9 oU vX T.kR (jy (a6 bw dg (qv 2) (i9 (own:=["pull"]) (cap:=[]) (a9 _ rfl _ rfl (by kernel_rfl)) rfl (bV (qv 3)) ⟨λ _ _ _ _ _=>aR 0 (iN ["pull"]),λ _ _ _ _ _=>iS,λ _ _ _ _ _=>cP (qv 0) av⟩)))))))
abbrev iV:Stmt:=top 19
def iK:aX ["net","some","waiting","sights","told","part","found"] ["net","some"] (aB iV):=pQ
def br:SD->Res Bool:=JT (aa 2)
def a8:SF:=aC (sZ 5 2) (aC (aS 6 (aw bq (ae (aa 3) (ae (aa 5) ao)))) (eE (eT (ah (iC false) (aa 6) (eC .bx))) (wm 4 5) (x8 2 (aw gI (ae (ah cD (aa 3) (ah cS (aa 6) (eC (.int 0)))) (ae (aa 5) ao))))))
abbrev iU (K:PySem.W.Frag)(mg:Str->Option Value):=oV K mg "greatest_within" iV ["net","some"]
def fU:SF:=aC (aS 2 (eA dw (ae (aw bD (ae (ah cS (aa 0) (eC (.int 0))) (ae (aa 1) ao))) ao))) (aC (aS 3 (aw bQ (ae (aa 0) ao))) (aC (iD [3] (aS 4 (eA dw ao))) (aC (jQ br a8) (gH 4))))
def cX:DF:=cz 2 7 (fU)
abbrev iT (b:Bd):=oh b.P b.w b.K b.mg b.base 4 "greatest_within" ["net","some"] (lR b.K (cX))
def mH (T:TX b)(C_checked_set:gq b)(C_sights_of:iW b)(C_teller_among:iI b)(C_shares_by:o7 b)(F:iU b.K b.mg):iT b:=bO (k:=3) (g:=fU) F iK rfl rfl λ f cdv A outer s H hr=>by
 have nd:=iK.nd;have hu:=dP hr;exact aj (aW 2 nd (iz (jy (aZ C_checked_set hr (j5 (cP (qv 0) av) (qv 1))))))
   (aj (aW 3 nd (aZ C_sights_of hr (jy (qv 0))))
   (aj (Hb [3] (aW 4 nd (iz c5)))
   (aj (zG N4 (Dk (qv 2))
   (aj (Ja 5 2 nd rfl (by walk_at "l"))
   (aj (aW 6 nd (aZ C_teller_among hr (j5 (qv 3) (qv 5))))
   (aD (gP (aL Cs G9 (qv 6) vO)
   (aD (Jb 4 5))
   (aD (Hh 2 (aZ C_shares_by hr (j5 (iE hu (qv 3) (cP (qv 6) av) (λ _ _=>rfl)) (qv 5))))))))))
   (aD (tm 4 (Dv hr) rfl T.kR)))))
abbrev s_Lcell:Stmt:=top 21
def sc_Lcell:aX ["_law_script","_law_k"] ["_law_script","_law_k"] (aB s_Lcell):=pQ
abbrev E_Lcell (K:PySem.W.Frag)(mg:Str->Option Value):=oV K mg "_law_cell" s_Lcell ["_law_script","_law_k"]
def g_Lcell:SF:=aC (eE (eT (ah FA (aa 1) (eA df (ae (aa 0) ao)))) (cU (ah cS (aa 0) (aa 1))) bj) (cU (eC (.int 0)))
def G_Lcell:DF:=cz 2 2 (g_Lcell)
abbrev Q_Lcell (b:Bd):=oh b.P b.w b.K b.mg b.base 1 "_law_cell" ["_law_script","_law_k"] (lR b.K (G_Lcell))
def ok_Lcell (T:TX b)  (F:E_Lcell b.K b.mg):Q_Lcell b:=bO (k:=0) (g:=g_Lcell) F sc_Lcell rfl rfl λ f cdv A outer s H hr=>by
 have nd:=sc_Lcell.nd;have hu:=dP hr;exact aj (gP (aL se Be (qv 1) (f9 bB fZ T.f6 (jy (qv 0))))
   (aD (dZ (cP (qv 0) (qv 1))))
   (cH))
   (aD (dZ av))
abbrev s_Lmix:Stmt:=top 22
def sc_Lmix:aX ["_law_script","_law_at","_law_k","_law_many"] ["_law_script","_law_at","_law_k"] (aB s_Lmix):=pQ
abbrev E_Lmix (K:PySem.W.Frag)(mg:Str->Option Value):=oV K mg "_law_mix" s_Lmix ["_law_script","_law_at","_law_k"]
def g_Lmix:SF:=aC (aS 3 (eA eZ (ae (eC (.int 1)) (ae (ah Fz (eA df (ae (aa 0) ao)) (aa 1)) ao)))) (cU (ah eQ (ah cy (ah cy (ah Bc (aw G_Lcell (ae (aa 0) (ae (ah cy (aa 1) (ah eQ (aa 2) (aa 3))) ao))) (eC (.int 48271))) (ah Bc (aa 2) (eC (.int 16807)))) (eC (.int 11))) (eC (.int 2147483647))))
def G_Lmix:DF:=cz 3 4 (g_Lmix)
abbrev Q_Lmix (b:Bd):=oh b.P b.w b.K b.mg b.base 2 "_law_mix" ["_law_script","_law_at","_law_k"] (lR b.K (G_Lmix))
def ok_Lmix (T:TX b)(C_Lcell:Q_Lcell b)(F:E_Lmix b.K b.mg):Q_Lmix b:=bO (k:=1) (g:=g_Lmix) F sc_Lmix rfl rfl λ f cdv A outer s H hr=>by
 have nd:=sc_Lmix.nd;have hu:=dP hr;exact aj (aW 3 nd (f9 (oi rfl) xU T.Af (j5 av (a6 xw CP (f9 bB fZ T.f6 (jy (qv 0))) (qv 1)))))
   (aD (dZ (a6 cG dQ (a6 bw dg (a6 bw dg (a6 nc vQ (aZ C_Lcell hr (j5 (qv 0) (a6 bw dg (qv 1) (a6 cG dQ (qv 2) (qv 3))))) av) (a6 nc vQ (qv 2) av)) av) av)))
abbrev s_Lplaces:Stmt:=top 23
def sc_Lplaces:aX ["_law_script","_law_at","_law_many","_law_head","_law_step","_law_number","_law_places_here","_law_k"] ["_law_script","_law_at","_law_many"] (aB s_Lplaces):=pQ
def g_Lplaces_b1:SF:=aC (fY 6 (aa 5)) (aS 5 (ah cy (ah cy (aa 5) (eC (.int 1))) (ah eQ (ah fK (aa 4) (ah cy (aa 7) (eC (.int 1)))) (ah cS (eA dw (ae (eC (.int 1)) (ae (eC (.int 3)) (ae (ah rL (eC (.int 10)) (eC (.int 29))) ao)))) (ah eQ (aa 4) (eC (.int 3)))))))
abbrev E_Lplaces (K:PySem.W.Frag)(mg:Str->Option Value):=oV K mg "_law_places" s_Lplaces ["_law_script","_law_at","_law_many"]
def g_Lplaces:SF:=aC (aS 3 (aw G_Lcell (ae (aa 0) (ae (aa 1) ao)))) (aC (aS 4 (aw G_Lcell (ae (aa 0) (ae (ah cy (aa 1) (eC (.int 1))) ao)))) (aC (aS 5 (ah eQ (ah fK (aa 3) (eC (.int 2))) (eC (.int 4)))) (aC (eE (eT (ah kK (ah eQ (aa 3) (eC (.int 2))) (eC (.int 1)))) (aS 5 (ah eQ (ah fK (aa 3) (eC (.int 2))) (ah rL (eC (.int 10)) (eC (.int 30))))) bj) (aC (aS 6 (eA dw ao)) (aC (b6 [] (bN (ae (aa 2) ao)) (gN 7) g_Lplaces_b1) (dF 6))))))
def G_Lplaces:DF:=cz 3 8 (g_Lplaces)
abbrev Q_Lplaces (b:Bd):=oh b.P b.w b.K b.mg b.base 2 "_law_places" ["_law_script","_law_at","_law_many"] (lR b.K (G_Lplaces))
def ok_Lplaces (T:TX b)(C_Lcell:Q_Lcell b)(F:E_Lplaces b.K b.mg):Q_Lplaces b:=bO (k:=1) (g:=g_Lplaces) F sc_Lplaces rfl rfl λ f cdv A outer s H hr=>by
 have nd:=sc_Lplaces.nd;have hu:=dP hr;exact aj (aW 3 nd (aZ C_Lcell hr (j5 (qv 0) (qv 1))))
   (aj (aW 4 nd (aZ C_Lcell hr (j5 (qv 0) (a6 bw dg (qv 1) av))))
   (aj (aW 5 nd (a6 cG dQ (a6 du fF (qv 3) av) av))
   (aj (gP (aL ji oz (a6 cG dQ (qv 3) av) av)
   (aD (aW 5 nd (a6 cG dQ (a6 du fF (qv 3) av) (a6 tY zC av av))))
   (cH))
   (aj (aW 6 nd (iz c5))
   (aj (gF [] N4 rfl (jx rfl T.lM (jy (qv 2))) (aR 7 nd)
   (aj (vV 6 (qv 5))
   (aD (aW 5 nd (a6 bw dg (a6 bw dg (qv 5) av) (a6 cG dQ (a6 du fF (qv 4) (a6 bw dg (qv 7) av)) (cP (iz (aO av (aO av (aO (a6 tY zC av av) c5)))) (a6 cG dQ (qv 4) av))))))))
   (aD (mz 6)))))))
abbrev s_Lshade:Stmt:=top 24
def sc_Lshade:aX ["_law_script","_law_at","_law_k","_law_j","_law_head","_law_blocks","_law_one","_law_other","_law_number","_law_shades"] ["_law_script","_law_at","_law_k","_law_j"] (aB s_Lshade):=pQ
abbrev E_Lshade (K:PySem.W.Frag)(mg:Str->Option Value):=oV K mg "_law_shade" s_Lshade ["_law_script","_law_at","_law_k","_law_j"]
def g_Lshade:SF:=aC (aS 4 (aw G_Lcell (ae (aa 0) (ae (ah cy (aa 1) (eC (.int 2))) ao)))) (aC (aS 5 (ah cy (eC (.int 1)) (ah eQ (ah fK (aa 4) (eC (.int 4))) (eC (.int 4))))) (aC (aS 6 (ah eQ (ah fK (aw G_Lmix (ae (aa 0) (ae (ah cy (aa 1) (eC (.int 4))) (ae (ah cy (eC (.int 300)) (aa 2)) ao)))) (eC (.int 3))) (aa 5))) (aC (aS 7 (ah eQ (ah fK (aw G_Lmix (ae (aa 0) (ae (ah cy (aa 1) (eC (.int 4))) (ae (ah cy (eC (.int 300)) (aa 3)) ao)))) (eC (.int 3))) (aa 5))) (aC (aS 8 (ah fK (aw G_Lmix (ae (aa 0) (ae (ah cy (aa 1) (eC (.int 4))) (ae (ah cy (ah fK (ah Bc (aa 2) (ah Fz (aa 2) (eC (.int 1)))) (eC (.int 2))) (aa 3)) ao)))) (eC (.int 5)))) (aC (eE (fX (eT (ah FA (ah eQ (aa 4) (eC (.int 4))) (eC (.int 2)))) (eT (ah oZ (aa 6) (aa 7)))) (aS 8 (ah fK (aw G_Lmix (ae (aa 0) (ae (ah cy (aa 1) (eC (.int 4))) (ae (ah cy (ah cy (eC (.int 400)) (ah Bc (eC (.int 4)) (eA eZ (ae (aa 6) (ae (aa 7) ao))))) (eA e9 (ae (aa 6) (ae (aa 7) ao)))) ao)))) (eC (.int 5)))) bj) (aC (eE (fX (eT (ah kK (ah eQ (aa 4) (eC (.int 4))) (eC (.int 1)))) (eT (ah kK (ah cy (ah fK (ah Bc (aa 2) (ah Fz (aa 2) (eC (.int 1)))) (eC (.int 2))) (aa 3)) (ah eQ (ah fK (aa 4) (eC (.int 32))) (eC (.int 36)))))) (aS 8 (ah cy (aa 8) (eC (.int 1)))) bj) (aC (eE (fX (eT (ah kK (ah eQ (aa 4) (eC (.int 4))) (eC (.int 2)))) (eT (ah kK (ah eQ (ah fK (aa 4) (eC (.int 4))) (eC (.int 2))) (eC (.int 1))))) (cU (ah eQ (aa 8) (ah rL (eC (.int 10)) (eC (.int 8))))) bj) (aC (aS 9 (eA dw (ae (eC (.int 0)) (ae (ah cy (eC (.int 1)) (ah eQ (aw G_Lcell (ae (aa 0) (ae (ah cy (aa 1) (eC (.int 3))) ao))) (ah rL (eC (.int 10)) (eC (.int 30))))) (ae (ah eQ (ah fK (aw G_Lcell (ae (aa 0) (ae (ah cy (aa 1) (eC (.int 3))) ao))) (eC (.int 9))) (eC (.int 5))) ao))))) (cU (ah cS (aa 9) (ah eQ (aa 8) (ah cy (eC (.int 2)) (ah eQ (ah fK (aa 4) (eC (.int 16))) (eC (.int 2)))))))))))))))
def G_Lshade:DF:=cz 4 10 (g_Lshade)
abbrev Q_Lshade (b:Bd):=oh b.P b.w b.K b.mg b.base 3 "_law_shade" ["_law_script","_law_at","_law_k","_law_j"] (lR b.K (G_Lshade))
def ok_Lshade (T:TX b)(C_Lcell:Q_Lcell b)(C_Lmix:Q_Lmix b)(F:E_Lshade b.K b.mg):Q_Lshade b:=bO (k:=2) (g:=g_Lshade) F sc_Lshade rfl rfl λ f cdv A outer s H hr=>by
 have nd:=sc_Lshade.nd;have hu:=dP hr;exact aj (aW 4 nd (aZ C_Lcell hr (j5 (qv 0) (a6 bw dg (qv 1) av))))
   (aj (aW 5 nd (a6 bw dg av (a6 cG dQ (a6 du fF (qv 4) av) av)))
   (aj (aW 6 nd (a6 cG dQ (a6 du fF (aZ C_Lmix hr (aO (qv 0) (aO (a6 bw dg (qv 1) av) (aO (a6 bw dg av (qv 2)) c5)))) av) (qv 5)))
   (aj (aW 7 nd (a6 cG dQ (a6 du fF (aZ C_Lmix hr (aO (qv 0) (aO (a6 bw dg (qv 1) av) (aO (a6 bw dg av (qv 3)) c5)))) av) (qv 5)))
   (aj (aW 8 nd (a6 du fF (aZ C_Lmix hr (aO (qv 0) (aO (a6 bw dg (qv 1) av) (aO (a6 bw dg (a6 du fF (a6 nc vQ (qv 2) (a6 xw CP (qv 2) av)) av) (qv 3)) c5)))) av))
   (aj (gP (L2.PW.pt (ow (aL se Be (a6 cG dQ (qv 4) av) av) (nj (aL vp CS (qv 6) (qv 7)))))
   (aD (aW 8 nd (a6 du fF (aZ C_Lmix hr (aO (qv 0) (aO (a6 bw dg (qv 1) av) (aO (a6 bw dg (a6 bw dg av (a6 nc vQ av (f9 (oi rfl) xU T.Af (j5 (qv 6) (qv 7))))) (f9 (sC rfl) CT T.DU (j5 (qv 6) (qv 7)))) c5)))) av)))
   (cH))
   (aj (gP (L2.PW.pt (ow (aL ji oz (a6 cG dQ (qv 4) av) av) (nj (aL ji oz (a6 bw dg (a6 du fF (a6 nc vQ (qv 2) (a6 xw CP (qv 2) av)) av) (qv 3)) (a6 cG dQ (a6 du fF (qv 4) av) av)))))
   (aD (aW 8 nd (a6 bw dg (qv 8) av)))
   (cH))
   (aj (gP (L2.PW.pt (ow (aL ji oz (a6 cG dQ (qv 4) av) av) (nj (aL ji oz (a6 cG dQ (a6 du fF (qv 4) av) av) av))))
   (aD (dZ (a6 cG dQ (qv 8) (a6 tY zC av av))))
   (cH))
   (aj (aW 9 nd (iz (aO av (aO (a6 bw dg av (a6 cG dQ (aZ C_Lcell hr (j5 (qv 0) (a6 bw dg (qv 1) av))) (a6 tY zC av av))) (aO (a6 cG dQ (a6 du fF (aZ C_Lcell hr (j5 (qv 0) (a6 bw dg (qv 1) av))) av) av) c5)))))
   (aD (dZ (cP (qv 9) (a6 cG dQ (qv 8) (a6 bw dg av (a6 cG dQ (a6 du fF (qv 4) av) av))))))))))))))
abbrev s_Lnet:Stmt:=top 25
def sc_Lnet:aX ["_law_script","_law_at","_law_many","_law_rows"] ["_law_script","_law_at","_law_many"] (aB s_Lnet):=pQ
def g_Lnet_e1:SD->Res D:=aw G_Lshade (ae (aa 1) (ae (aa 2) (ae (aa 3) (ae (aa 0) ao))))
def g_Lnet_e2:SD->Res D:=eA cR (ae (aJ (bN (ae (aa 0) ao)) (gN 0) bP g_Lnet_e1 1 [("_law_script",1),("_law_at",2),("_law_k",0)]) ao)
abbrev E_Lnet (K:PySem.W.Frag)(mg:Str->Option Value):=oV K mg "_law_net" s_Lnet ["_law_script","_law_at","_law_many"]
def g_Lnet:SF:=aC (aS 3 (aJ (bN (ae (aa 2) ao)) (gN 0) bP g_Lnet_e2 1 [("_law_script",0),("_law_at",1)])) (cU (eA il (ae (eA cR (ae (aw G_Lplaces (ae (aa 0) (ae (aa 1) (ae (aa 2) ao)))) ao)) (ae (eA cR (ae (aa 3) ao)) ao))))
def G_Lnet:DF:=cz 3 4 (g_Lnet)
abbrev Q_Lnet (b:Bd):=oh b.P b.w b.K b.mg b.base 4 "_law_net" ["_law_script","_law_at","_law_many"] (lR b.K (G_Lnet))
def ok_Lnet (T:TX b)(C_Lplaces:Q_Lplaces b)(C_Lshade:Q_Lshade b)(F:E_Lnet b.K b.mg):Q_Lnet b:=bO (k:=3) (g:=g_Lnet) F sc_Lnet rfl rfl λ f cdv A outer s H hr=>by
 have nd:=sc_Lnet.nd;have hu:=dP hr;exact aj (cF 3 nd (own:=["_law_k"]) (cap:=[("_law_script",0),("_law_at",1)]) (a9 _ rfl _ rfl (by kernel_rfl)) rfl (jx rfl T.lM (jy (qv 2))) ⟨λ _ _ _ _ _=>aR 0 (iN ["_law_k","_law_script","_law_at"]),λ _ _ _ _ _=>iS,λ _ _ _ _ _=>IY i0 uu T.uT (jy (i9 (own:=["_law_j"]) (cap:=[("_law_script",1),("_law_at",2),("_law_k",0)]) (a9 _ rfl _ rfl (by kernel_rfl)) rfl (jx rfl T.lM (jy (qv 0))) ⟨λ _ _ _ _ _=>aR 0 (iN ["_law_j","_law_script","_law_at","_law_k"]),λ _ _ _ _ _=>iS,λ _ _ _ _ _=>aZ C_Lshade hr (aO (qv 1) (aO (qv 2) (aO (qv 3) (aO (qv 0) c5))))⟩))⟩)
   (aD (dZ (vR (j5 (IY i0 uu T.uT (jy (aZ C_Lplaces hr (aO (qv 0) (aO (qv 1) (aO (qv 2) c5)))))) (IY i0 uu T.uT (jy (qv 3)))))))
abbrev s_Llooked:Stmt:=top 26
def sc_Llooked:aX ["_law_net_here","_law_inside","_law_k","_law_shades"] ["_law_net_here","_law_inside"] (aB s_Llooked):=pQ
def g_Llooked_e1:SD->Res D:=ah cS (ah cS (ah cS (aa 1) (eC (.int 1))) (eA eZ (ae (aa 2) (ae (aa 0) ao)))) (eA e9 (ae (aa 2) (ae (aa 0) ao)))
def g_Llooked_b2:SF:=eE (eT (ah (inD true) (aa 2) (aa 1))) (aC (aS 3 (aJ (cV (aa 1)) (gN 0) bP g_Llooked_e1 1 [("_law_net_here",0),("_law_k",2)])) (eE (eT (ah FA (eA wg (ae (aa 3) ao)) (eA wu (ae (aa 3) ao)))) (cU (eC (.bl false))) bj)) bj
abbrev E_Llooked (K:PySem.W.Frag)(mg:Str->Option Value):=oV K mg "_law_looked" s_Llooked ["_law_net_here","_law_inside"]
def g_Llooked:SF:=aC (b6 [] (bN (ae (eA df (ae (ah cS (aa 0) (eC (.int 0))) ao)) ao)) (gN 2) g_Llooked_b2) (cU (eC (.bl true)))
def G_Llooked:DF:=cz 2 4 (g_Llooked)
abbrev Q_Llooked (b:Bd):=oh b.P b.w b.K b.mg b.base 1 "_law_looked" ["_law_net_here","_law_inside"] (lR b.K (G_Llooked))
def ok_Llooked (T:TX b)  (F:E_Llooked b.K b.mg):Q_Llooked b:=bO (k:=0) (g:=g_Llooked) F sc_Llooked rfl rfl λ f cdv A outer s H hr=>by
 have nd:=sc_Llooked.nd;have hu:=dP hr;exact aj (gF [] N4 rfl (jx rfl T.lM (jy (f9 bB fZ T.f6 (jy (cP (qv 0) av))))) (aR 2 nd)
   (aD (gP (aL cg (p9 true) (qv 2) (qv 1))
   (aj (cF 3 nd (own:=["_law_j"]) (cap:=[("_law_net_here",0),("_law_k",2)]) (a9 _ rfl _ rfl (by kernel_rfl)) rfl (bV (qv 1)) ⟨λ _ _ _ _ _=>aR 0 (iN ["_law_j","_law_net_here","_law_k"]),λ _ _ _ _ _=>iS,λ _ _ _ _ _=>cP (cP (cP (qv 1) av) (f9 (oi rfl) xU T.Af (j5 (qv 2) (qv 0)))) (f9 (sC rfl) CT T.DU (j5 (qv 2) (qv 0)))⟩)
   (aD (gP (aL se Be (f9 (Bw rfl) IV (by exact T.DU) (jy (qv 3))) (f9 (BC rfl) Jd T.Af (jy (qv 3))))
   (aD (dZ uh))
   (cH))))
   (cH))))
   (aD (dZ uh))
abbrev s_Lleast:Stmt:=top 27
def sc_Lleast:aX ["_law_sets","_law_inside","_law_about","_law_best","_law_one"] ["_law_sets","_law_inside"] (aB s_Lleast):=pQ
def g_Lleast_b1:SF:=eE (eT (ah FA (eA df (ae (aa 4) ao)) (eA df (ae (aa 3) ao)))) (aS 3 (aa 4)) bj
def g_Lleast_c2:SD->Res Bool:=eT (ah (inD true) (aa 0) (aa 1))
def g_Lleast_e3:SD->Res D:=aa 0
def g_Lleast_c4:SD->Res Bool:=eT (ah kK (eA df (ae (aJ (cV (aa 1)) (gN 0) g_Lleast_c2 g_Lleast_e3 1 [("_law_one",0)]) ao)) (eC (.int 0)))
def g_Lleast_e5:SD->Res D:=aa 0
abbrev E_Lleast (K:PySem.W.Frag)(mg:Str->Option Value):=oV K mg "_law_least" s_Lleast ["_law_sets","_law_inside"]
def g_Lleast:SF:=aC (aS 2 (aJ (cV (aa 0)) (gN 0) g_Lleast_c4 g_Lleast_e5 1 [("_law_inside",1)])) (aC (aS 3 (ah cS (aa 2) (eC (.int 0)))) (aC (b6 [2] (cV (aa 2)) (gN 4) g_Lleast_b1) (dF 3)))
def G_Lleast:DF:=cz 2 5 (g_Lleast)
abbrev Q_Lleast (b:Bd):=oh b.P b.w b.K b.mg b.base 1 "_law_least" ["_law_sets","_law_inside"] (lR b.K (G_Lleast))
def ok_Lleast (T:TX b)  (F:E_Lleast b.K b.mg):Q_Lleast b:=bO (k:=0) (g:=g_Lleast) F sc_Lleast rfl rfl λ f cdv A outer s H hr=>by
 have nd:=sc_Lleast.nd;have hu:=dP hr;exact aj (cF 2 nd (own:=["_law_one"]) (cap:=[("_law_inside",1)]) (a9 _ rfl _ rfl (by kernel_rfl)) rfl (bV (qv 0)) ⟨λ _ _ _ _ _=>aR 0 (iN ["_law_one","_law_inside"]),λ _ _ _ _ _=>dU (aL ji oz (f9 bB fZ T.f6 (jy (i9 (own:=["_law_k"]) (cap:=[("_law_one",0)]) (a9 _ rfl _ rfl (by kernel_rfl)) rfl (bV (qv 1)) ⟨λ _ _ _ _ _=>aR 0 (iN ["_law_k","_law_one"]),λ _ _ _ _ _=>dU (aL cg (p9 true) (qv 0) (qv 1)),λ _ _ _ _ _=>qv 0⟩))) av),λ _ _ _ _ _=>qv 0⟩)
   (aj (aW 3 nd (cP (qv 2) av))
   (aj (gF [2] N4 rfl (bV (qv 2)) (aR 4 nd)
   (aD (gP (aL se Be (f9 bB fZ T.f6 (jy (qv 4))) (f9 bB fZ T.f6 (jy (qv 3))))
   (aD (aW 3 nd (qv 4)))
   (cH))))
   (aD (mz 3))))
abbrev s_Lgreatest:Stmt:=top 28
def sc_Lgreatest:aX ["_law_sets","_law_inside","_law_within","_law_rows","_law_one","_law_over"] ["_law_sets","_law_inside"] (aB s_Lgreatest):=pQ
def g_Lgreatest_c1:SD->Res Bool:=eT (ah (inD true) (aa 0) (aa 1))
def g_Lgreatest_e2:SD->Res D:=aa 0
def g_Lgreatest_c3:SD->Res Bool:=fX (eT (ah KA (eA df (ae (aa 0) ao)) (eA df (ae (aa 1) ao)))) (eT (ah kK (eA df (ae (aJ (cV (aa 1)) (gN 0) g_Lgreatest_c1 g_Lgreatest_e2 1 [("_law_two",0)]) ao)) (eC (.int 0))))
def g_Lgreatest_e4:SD->Res D:=aa 0
def g_Lgreatest_b5:SF:=aC (aS 5 (aJ (cV (aa 2)) (gN 0) g_Lgreatest_c3 g_Lgreatest_e4 1 [("_law_one",4)])) (eE (eT (ah F6 (aa 5) (eA dw ao))) (fY 3 (aa 4)) bj)
def g_Lgreatest_c6:SD->Res Bool:=eT (ah (inD true) (aa 0) (aa 1))
def g_Lgreatest_e7:SD->Res D:=aa 0
def g_Lgreatest_c8:SD->Res Bool:=eT (ah kK (eA df (ae (aJ (cV (aa 0)) (gN 0) g_Lgreatest_c6 g_Lgreatest_e7 1 [("_law_inside",1)]) ao)) (eC (.int 0)))
def g_Lgreatest_e9:SD->Res D:=aa 0
abbrev E_Lgreatest (K:PySem.W.Frag)(mg:Str->Option Value):=oV K mg "_law_greatest" s_Lgreatest ["_law_sets","_law_inside"]
def g_Lgreatest:SF:=aC (aS 2 (aJ (cV (aa 0)) (gN 0) g_Lgreatest_c8 g_Lgreatest_e9 1 [("_law_inside",1)])) (aC (aS 3 (eA dw ao)) (aC (b6 [2] (cV (aa 2)) (gN 4) g_Lgreatest_b5) (gH 3)))
def G_Lgreatest:DF:=cz 2 6 (g_Lgreatest)
abbrev Q_Lgreatest (b:Bd):=oh b.P b.w b.K b.mg b.base 1 "_law_greatest" ["_law_sets","_law_inside"] (lR b.K (G_Lgreatest))
def ok_Lgreatest (T:TX b)  (F:E_Lgreatest b.K b.mg):Q_Lgreatest b:=bO (k:=0) (g:=g_Lgreatest) F sc_Lgreatest rfl rfl λ f cdv A outer s H hr=>by
 have nd:=sc_Lgreatest.nd;have hu:=dP hr;exact aj (cF 2 nd (own:=["_law_one"]) (cap:=[("_law_inside",1)]) (a9 _ rfl _ rfl (by kernel_rfl)) rfl (bV (qv 0)) ⟨λ _ _ _ _ _=>aR 0 (iN ["_law_one","_law_inside"]),λ _ _ _ _ _=>dU (aL ji oz (f9 bB fZ T.f6 (jy (i9 (own:=["_law_k"]) (cap:=[("_law_inside",1)]) (a9 _ rfl _ rfl (by kernel_rfl)) rfl (bV (qv 0)) ⟨λ _ _ _ _ _=>aR 0 (iN ["_law_k","_law_inside"]),λ _ _ _ _ _=>dU (aL cg (p9 true) (qv 0) (qv 1)),λ _ _ _ _ _=>qv 0⟩))) av),λ _ _ _ _ _=>qv 0⟩)
   (aj (aW 3 nd (iz c5))
   (aj (gF [2] N4 rfl (bV (qv 2)) (aR 4 nd)
   (aj (cF 5 nd (own:=["_law_two"]) (cap:=[("_law_one",4)]) (a9 _ rfl _ rfl (by kernel_rfl)) rfl (bV (qv 2)) ⟨λ _ _ _ _ _=>aR 0 (iN ["_law_two","_law_one"]),λ _ _ _ _ _=>dU (L2.PW.pt (ow (aL Co Im (f9 bB fZ T.f6 (jy (qv 0))) (f9 bB fZ T.f6 (jy (qv 1)))) (nj (aL ji oz (f9 bB fZ T.f6 (jy (i9 (own:=["_law_k"]) (cap:=[("_law_two",0)]) (a9 _ rfl _ rfl (by kernel_rfl)) rfl (bV (qv 1)) ⟨λ _ _ _ _ _=>aR 0 (iN ["_law_k","_law_two"]),λ _ _ _ _ _=>dU (aL cg (p9 true) (qv 0) (qv 1)),λ _ _ _ _ _=>qv 0⟩))) av)))),λ _ _ _ _ _=>qv 0⟩)
   (aD (gP (kJ (Jc hu) K3 (qv 5) (iz c5) (pZ _))
   (aD (vV 3 (qv 4)))
   (cH)))))
   (aD (tm 3 (Dv hr) rfl T.kR))))
abbrev s_Lmeets:Stmt:=top 29
def sc_Lmeets:aX ["_law_sets","_law_one","_law_two","_law_common","_law_rest","_law_both"] ["_law_sets"] (aB s_Lmeets):=pQ
def g_Lmeets_c1:SD->Res Bool:=eT (ah (inD true) (aa 0) (aa 1))
def g_Lmeets_e2:SD->Res D:=aa 0
def g_Lmeets_c3:SD->Res Bool:=eT (ah (inD true) (aa 0) (aa 1))
def g_Lmeets_e4:SD->Res D:=aa 0
def g_Lmeets_c5:SD->Res Bool:=eT (ah (inD false) (aa 0) (aa 1))
def g_Lmeets_e6:SD->Res D:=aa 0
def g_Lmeets_b7:SF:=aC (aS 3 (aJ (cV (aa 1)) (gN 0) g_Lmeets_c5 g_Lmeets_e6 1 [("_law_two",2)])) (eE (fX (eT (ah KA (eA df (ae (aa 3) ao)) (eC (.int 0)))) (fX (eT (ah FA (eA df (ae (aa 3) ao)) (eA df (ae (aa 1) ao)))) (eT (ah FA (eA df (ae (aa 3) ao)) (eA df (ae (aa 2) ao)))))) (aC (aS 4 (aJ (cV (aa 1)) (gN 0) g_Lmeets_c3 g_Lmeets_e4 1 [("_law_two",2)])) (aC (aS 5 (eA bY (ae (ah cy (aa 1) (aJ (cV (aa 2)) (gN 0) g_Lmeets_c1 g_Lmeets_e2 1 [("_law_one",1)])) ao))) (eE (pN (eT (ah yk (aa 3) (aa 0))) (pN (eT (ah yk (aa 4) (aa 0))) (eT (ah yk (aa 5) (aa 0))))) (cU (eC (.bl false))) bj))) bj)
def g_Lmeets_b8:SF:=b6 [0] (cV (aa 0)) (gN 2) g_Lmeets_b7
abbrev E_Lmeets (K:PySem.W.Frag)(mg:Str->Option Value):=oV K mg "_law_meets" s_Lmeets ["_law_sets"]
def g_Lmeets:SF:=aC (b6 [0] (cV (aa 0)) (gN 1) g_Lmeets_b8) (cU (eC (.bl true)))
def G_Lmeets:DF:=cz 1 6 (g_Lmeets)
abbrev Q_Lmeets (b:Bd):=oh b.P b.w b.K b.mg b.base 1 "_law_meets" ["_law_sets"] (lR b.K (G_Lmeets))
def ok_Lmeets (T:TX b)  (F:E_Lmeets b.K b.mg):Q_Lmeets b:=bO (k:=0) (g:=g_Lmeets) F sc_Lmeets rfl rfl λ f cdv A outer s H hr=>by
 have nd:=sc_Lmeets.nd;have hu:=dP hr;exact aj (gF [0] N4 rfl (bV (qv 0)) (aR 1 nd)
   (aD (gF [0] N4 rfl (bV (qv 0)) (aR 2 nd)
   (aj (cF 3 nd (own:=["_law_k"]) (cap:=[("_law_two",2)]) (a9 _ rfl _ rfl (by kernel_rfl)) rfl (bV (qv 1)) ⟨λ _ _ _ _ _=>aR 0 (iN ["_law_k","_law_two"]),λ _ _ _ _ _=>dU (aL A2 (p9 false) (qv 0) (qv 1)),λ _ _ _ _ _=>qv 0⟩)
   (aD (gP (L2.PW.pt (ow (aL Co Im (f9 bB fZ T.f6 (jy (qv 3))) av) (ow (aL se Be (f9 bB fZ T.f6 (jy (qv 3))) (f9 bB fZ T.f6 (jy (qv 1)))) (nj (aL se Be (f9 bB fZ T.f6 (jy (qv 3))) (f9 bB fZ T.f6 (jy (qv 2))))))))
   (aj (cF 4 nd (own:=["_law_k"]) (cap:=[("_law_two",2)]) (a9 _ rfl _ rfl (by kernel_rfl)) rfl (bV (qv 1)) ⟨λ _ _ _ _ _=>aR 0 (iN ["_law_k","_law_two"]),λ _ _ _ _ _=>dU (aL cg (p9 true) (qv 0) (qv 1)),λ _ _ _ _ _=>qv 0⟩)
   (aj (aW 5 nd (f9 oU vX T.kR (jy (a6 bw dg (qv 1) (i9 (own:=["_law_k"]) (cap:=[("_law_one",1)]) (a9 _ rfl _ rfl (by kernel_rfl)) rfl (bV (qv 2)) ⟨λ _ _ _ _ _=>aR 0 (iN ["_law_k","_law_one"]),λ _ _ _ _ _=>dU (aL cg (p9 true) (qv 0) (qv 1)),λ _ _ _ _ _=>qv 0⟩)))))
   (aD (gP (L2.PW.pt (vS (kJ (uK hu) zY (qv 3) (qv 0) (by with_unfolding_all rfl)) (vS (kJ (uK hu) zY (qv 4) (qv 0) (by with_unfolding_all rfl)) (xV (kJ (uK hu) zY (qv 5) (qv 0) (by with_unfolding_all rfl))))))
   (aD (dZ uh))
   (cH)))))
   (cH)))))))
   (aD (dZ uh))
abbrev s_Lnumbers:Stmt:=top 30
def sc_Lnumbers:aX ["_law_net_here","_law_found","_law_rows","_law_row"] ["_law_net_here","_law_found"] (aB s_Lnumbers):=pQ
def g_Lnumbers_e1:SD->Res D:=FW (ah cS (aa 1) (eC (.int 0))) (aa 0)
def g_Lnumbers_b2:SF:=aC (eE (iM (eT (nh (d7 uz) (aa 3)))) (cU (eA dw (ae (eA dw (ae (nh jr (eC (.int 1))) ao)) ao))) bj) (fY 2 (aJ (cV (aa 3)) (gN 0) bP g_Lnumbers_e1 1 [("_law_net_here",0)]))
abbrev E_Lnumbers (K:PySem.W.Frag)(mg:Str->Option Value):=oV K mg "_law_numbers" s_Lnumbers ["_law_net_here","_law_found"]
def g_Lnumbers:SF:=aC (aS 2 (eA dw ao)) (aC (b6 [1] (cV (aa 1)) (gN 3) g_Lnumbers_b2) (dF 2))
def G_Lnumbers:DF:=cz 2 4 (g_Lnumbers)
abbrev Q_Lnumbers (b:Bd):=oh b.P b.w b.K b.mg b.base 1 "_law_numbers" ["_law_net_here","_law_found"] (lR b.K (G_Lnumbers))
def ok_Lnumbers (T:TX b)  (F:E_Lnumbers b.K b.mg):Q_Lnumbers b:=bO (k:=0) (g:=g_Lnumbers) F sc_Lnumbers rfl rfl λ f cdv A outer s H hr=>by
 have nd:=sc_Lnumbers.nd;have hu:=dP hr;exact aj (aW 2 nd (iz c5))
   (aj (gF [1] N4 rfl (bV (qv 1)) (aR 3 nd)
   (aj (gP (xT (uo (C3 (ty:=.Name "list" ⟨0,0,0,0⟩) Bo rfl T.nO (qv 3) rfl T.DY (by decide +kernel))))
   (aD (dZ (iz (jy (iz (jy (G8 av)))))))
   (cH))
   (aD (vV 2 (i9 (own:=["_law_place"]) (cap:=[("_law_net_here",0)]) (a9 _ rfl _ rfl (by kernel_rfl)) rfl (bV (qv 3)) ⟨λ _ _ _ _ _=>aR 0 (iN ["_law_place","_law_net_here"]),λ _ _ _ _ _=>iS,λ _ _ _ _ _=>KW (cP (qv 1) av) (qv 0)⟩)))))
   (aD (mz 2)))
abbrev nU:Stmt:=top 31
def DX:aX ["_law_script","_law_many","_law_net_here","_law_sets","_law_rows","_law_mask","_law_inside","_law_some","_law_truth"] ["_law_script"] (aB nU):=pQ
def wL:SD->Res D:=ah cS (ah cS (aa 1) (eC (.int 0))) (aa 0)
def kX:SF:=aC (aS 7 (aJ (cV (aa 6)) (gN 0) bP wL 1 [("_law_net_here",2)])) (aC (eE (eT (ah Dy (aw G_Lnumbers (ae (aa 2) (ae (eA dw (ae (ah cS (aw iH (ae (aa 2) (ae (aa 7) ao))) (eC (.int 0))) ao)) ao))) (eA dw (ae (aw G_Lleast (ae (aa 3) (ae (aa 6) ao))) ao)))) (cU (eC (.bl false))) bj) (eE (eT (ah Dy (aw G_Lnumbers (ae (aa 2) (ae (aw cX (ae (aa 2) (ae (aa 7) ao))) ao))) (aw G_Lgreatest (ae (aa 3) (ae (aa 6) ao))))) (cU (eC (.bl false))) bj))
def nW:SD->Res Bool:=eT (ah kK (eA df (ae (aa 0) ao)) (eC (.int 1)))
def qN:SD->Res D:=aa 0
def qK:SD->Res D:=ah cS (ah cS (aa 1) (eC (.int 0))) (aa 0)
def kZ:SD->Res Bool:=eT (ah kK (ah eQ (ah Iq (aa 1) (aa 0)) (eC (.int 2))) (eC (.int 1)))
def qI:SD->Res D:=aa 0
def jD:SF:=aC (aS 6 (aJ (bN (ae (aa 1) ao)) (gN 0) kZ qI 1 [("_law_mask",5)])) (aC (iD [6] (fY 4 (aa 6))) (aC (aS 7 (aJ (cV (aa 6)) (gN 0) bP qK 1 [("_law_net_here",2)])) (aC (eE (eT (ah kK (ah eQ (aw G_Lmix (ae (aa 0) (ae (eC (.int 1)) (ae (aa 5) ao)))) (eC (.int 2))) (eC (.int 1)))) (jw 7) bj) (aC (aS 8 (aw fH (ae (aa 2) (ae (aa 7) ao)))) (aC (eE (pN (iM (eT (nh (d7 uw) (aa 8)))) (eT (ah oZ (aa 8) (aw G_Llooked (ae (aa 2) (ae (aa 6) ao)))))) (cU (eC (.bl false))) bj) (eE (eT (aa 8)) (fY 3 (aa 6)) bj))))))
def DZ:SF:=aC (aS 1 (ah cy (eC (.int 1)) (ah eQ (aw G_Lcell (ae (aa 0) (ae (eC (.int 0)) ao))) (eC (.int 5))))) (aC (eE (eT (ah kK (ah eQ (ah fK (aw G_Lcell (ae (aa 0) (ae (eC (.int 0)) ao))) (eC (.int 5))) (eC (.int 8))) (eC (.int 1)))) (aS 1 (eC (.int 6))) bj) (aC (aS 2 (aw G_Lnet (ae (aa 0) (ae (eC (.int 1)) (ae (aa 1) ao))))) (aC (aS 3 (eA dw ao)) (aC (aS 4 (eA dw ao)) (aC (b6 [] (dR (ae (eC (.int 1)) (ae (ah CO (eC (.int 1)) (aa 1)) ao))) (gN 5) jD) (aC (eE (pN (iM (eT (aw G_Lmeets (ae (aa 3) ao)))) (pN (eT (ah yk (ah cS (aa 4) (nh jr (eC (.int 1)))) (aa 3))) (eT (ah oZ (eA df (ae (aJ (cV (aa 3)) (gN 0) nW qN 1 []) ao)) (aa 1))))) (cU (eC (.bl false))) bj) (aC (b6 [4] (cV (aa 4)) (gN 6) kX) (cU (eC (.bl true))))))))))
def wF:DF:=cz 1 9 (DZ)
def Jl {f:Addr}{fd:FuncData}(T:TX b)(C_is_group:qL b)(C_pulled:wI b)(C_greatest_within:iT b)(C_Lcell:Q_Lcell b)(C_Lmix:Q_Lmix b)(C_Lnet:Q_Lnet b)(C_Llooked:Q_Llooked b)(C_Lleast:Q_Lleast b)(C_Lgreatest:Q_Lgreatest b)(C_Lmeets:Q_Lmeets b)(C_Lnumbers:Q_Lnumbers b)(F:Fq b.K "law" "law" nU f fd):pW b.P b.w b.K b.mg b.base A6 6 f fd ["_law_script"] (lR b.K (wF)):=C7 (k:=5) (n:=1) (m:=9) (g:=DZ) F DX rfl rfl λ f cdv A outer s H hr=>by
 have nd:=DX.nd;have hu:=dP hr;exact aj (aW 1 nd (a6 bw dg av (a6 cG dQ (aZ C_Lcell hr (j5 (qv 0) av)) av)))
   (aj (gP (aL ji oz (a6 cG dQ (a6 du fF (aZ C_Lcell hr (j5 (qv 0) av)) av) av) av)
   (aD (aW 1 nd av))
   (cH))
   (aj (aW 2 nd (aZ C_Lnet hr (aO (qv 0) (aO av (aO (qv 1) c5)))))
   (aj (aW 3 nd (iz c5))
   (aj (aW 4 nd (iz c5))
   (aj (gF [] N4 rfl (Bh rfl T.lM (j5 av (a6 Hs KC av (qv 1)))) (aR 5 nd)
   (aj (cF 6 nd (own:=["_law_k"]) (cap:=[("_law_mask",5)]) (a9 _ rfl _ rfl (by kernel_rfl)) rfl (jx rfl T.lM (jy (qv 1))) ⟨λ _ _ _ _ _=>aR 0 (iN ["_law_k","_law_mask"]),λ _ _ _ _ _=>dU (aL ji oz (a6 cG dQ (a6 HU KD (qv 1) (qv 0)) av) av),λ _ _ _ _ _=>qv 0⟩)
   (aj (Hb [6] (vV 4 (qv 6)))
   (aj (cF 7 nd (own:=["_law_k"]) (cap:=[("_law_net_here",2)]) (a9 _ rfl _ rfl (by kernel_rfl)) rfl (bV (qv 6)) ⟨λ _ _ _ _ _=>aR 0 (iN ["_law_k","_law_net_here"]),λ _ _ _ _ _=>iS,λ _ _ _ _ _=>cP (cP (qv 1) av) (qv 0)⟩)
   (aj (gP (aL ji oz (a6 cG dQ (aZ C_Lmix hr (aO (qv 0) (aO av (aO (qv 5) c5)))) av) av)
   (aD (KN 7))
   (cH))
   (aj (aW 8 nd (aZ C_is_group hr (j5 (qv 2) (qv 7))))
   (aj (gP (L2.PW.pt (vS (xT (uo (C3 (ty:=.Name "bool" ⟨0,0,0,0⟩) Bm rfl T.nO (qv 8) rfl T.Jm (by decide +kernel)))) (xV (aL vp CS (qv 8) (aZ C_Llooked hr (j5 (qv 2) (qv 6)))))))
   (aD (dZ uh))
   (cH))
   (aD (gP (uo (qv 8))
   (aD (vV 3 (qv 6)))
   (cH))))))))))
   (aj (gP (L2.PW.pt (vS (xT (uo (aZ C_Lmeets hr (jy (qv 3))))) (vS (kJ (uK hu) zY (cP (qv 4) (G8 av)) (qv 3) (by with_unfolding_all rfl)) (xV (aL vp CS (f9 bB fZ T.f6 (jy (i9 (own:=["_law_one"]) (cap:=[]) (a9 _ rfl _ rfl (by kernel_rfl)) rfl (bV (qv 3)) ⟨λ _ _ _ _ _=>aR 0 (iN ["_law_one"]),λ _ _ _ _ _=>dU (aL ji oz (f9 bB fZ T.f6 (jy (qv 0))) av),λ _ _ _ _ _=>qv 0⟩))) (qv 1))))))
   (aD (dZ uh))
   (cH))
   (aj (gF [4] N4 rfl (bV (qv 4)) (aR 6 nd)
   (aj (cF 7 nd (own:=["_law_k"]) (cap:=[("_law_net_here",2)]) (a9 _ rfl _ rfl (by kernel_rfl)) rfl (bV (qv 6)) ⟨λ _ _ _ _ _=>aR 0 (iN ["_law_k","_law_net_here"]),λ _ _ _ _ _=>iS,λ _ _ _ _ _=>cP (cP (qv 1) av) (qv 0)⟩)
   (aj (gP (kJ (Dw hu) Hi (aZ C_Lnumbers hr (j5 (qv 2) (iz (jy (cP (aZ C_pulled hr (j5 (qv 2) (qv 7))) av))))) (iz (jy (aZ C_Lleast hr (j5 (qv 3) (qv 6))))) (pZ _))
   (aD (dZ uh))
   (cH))
   (aD (gP (kJ (Dw hu) Hi (aZ C_Lnumbers hr (j5 (qv 2) (aZ C_greatest_within hr (j5 (qv 2) (qv 7))))) (aZ C_Lgreatest hr (j5 (qv 3) (qv 6))) (pZ _))
   (aD (dZ uh))
   (cH))))))
   (aD (dZ uh)))))))))
end
end KL
namespace M
def cell (ns:List Int)(k:Int):Int:=ns.getD k.toNat 0
def yz (i j:Int):Int:=if j>i then j else i
def mix (ns:List Int)(at_ k:Int):Int:=(cell ns (at_+k%yz 1 ((ns.length:Int)-at_))*48271+k*16807+11)%2147483647
def D3 (ns:List Int)(a k:Int):0<=mix ns a k:=O1 _ (by decide)
def Mz (big:Int)(ns:List Int)(a:Int):Int:=if cell ns a%2=1 then cell ns a/2%big else cell ns a/2%4
def gap (ns:List Int)(a:Int):Int:=([1,3,100000000000000000000000000000]:List Int).getD (cell ns (a+1)%3).toNat 0
def place (big:Int)(ns:List Int)(a:Int):Nat->Int
 |0=>Mz big ns a
 |k+1=>place big ns a k+1+cell ns (a+1)/((k:Int)+1)%gap ns a
def yC (big:Int)(ns:List Int)(a:Int):place big ns a 0=if cell ns a%2=1 then cell ns a/2%big else cell ns a/2%4:=rfl
def places (big:Int)(ns:List Int)(a:Int)(n:Nat):List Int:=(List.range n).map (place big ns a)
def Ah (ns:List Int)(a:Int):0<gap ns a:=by
 unfold gap;have h1:0<=cell ns (a+1)%3:=O1 _ (by decide);have h2:cell ns (a+1)%3<3:=Int.emod_lt_of_pos _ (by decide);have h:cell ns (a+1)%3=0\/cell ns (a+1)%3=1\/cell ns (a+1)%3=2:=by omega
 rcases h with h|h|h<;>rw[h]<;>decide
def place_lt {big:Int}(ns:List Int)(a:Int)(k:Nat):place big ns a k<place big ns a (k+1):=by
 show place big ns a k<place big ns a k+1+cell ns (a+1)/((k:Int)+1)%gap ns a;have h:0<=cell ns (a+1)/((k:Int)+1)%gap ns a:=O1 _ (by have:=Ah ns a;omega);omega
def qP {big:Int}(ns:List Int)(a:Int):∀ {j k:Nat},j<k->place big ns a j<place big ns a k
 | j,k+1,h=>by
  have h2:=place_lt (big:=big) ns a k;by_cases e:j=k
  ·subst e;exact h2
  ·exact Int.lt_trans (qP ns a (by omega)) h2
def places_len (big:Int)(ns:List Int)(a:Int)(n:Nat):(places big ns a n).length=n:=by simp[places]
end M
namespace N2
def keyOf (o t:Int):Int×Int:=if o>t then (o,t) else (t,o)
abbrev D0:=Int×Int×Int
def uV (t:D0):Int×Int:=keyOf t.1 t.2.1
structure Dr where
 pl:Nat->Int
 sh:Nat->Nat->Int
 dr:Nat->Nat->Int
 mono:∀ {j k:Nat},j<k->pl j<pl k
 nn:∀ k j:Nat,0<=sh k j
def places (d:Dr)(n:Nat):List Int:=(List.range n).map d.pl
def rows (d:Dr)(n:Nat):List (List Int):=(List.range n).map λ k=>(List.range k).map λ j=>d.sh k j
def places_len (d:Dr)(n:Nat):(places d n).length=n:=by simp[places]
def rV (d:Dr)(n:Nat):(places d n).Pairwise (· < ·):=by
 unfold places;rw[Pc];exact List.pairwise_lt_range.imp λ h=>d.mono h
end N2
namespace KL
open DL XF
variable {d:D}{a b i x:Int}{ds xs:List D}{ps:List Int}{j n:Nat}{τ τ':SD}{c:SD->Res Bool}{f g:SD->Res D}{body:SF}{tg:uv}
def mul_r {j:Int}(h : -(2^64)<j/\j<2^64):lX i j:=.inl (.inr h)
def Hk {j:Int}(h : -(2^64)<i/\i<2^64):lX i j:=.inl (.inl h)
def big:Int:=10^30
def Aj:0<big:=by decide
def Le:rL (.int 10) (.int 30)=.ok (.int big):=by rfl
def Lc (τ:SD):ah rL (eC (.int 10)) (eC (.int 30)) τ=.ok (.int big):=by
 simp only[ah,eC,Res.aH,Le]
def yD (ps:List Int)(rows:List (List Int)):D:=.tup [.tup (ps.map .int),.tup (rows.map λ r=>.tup (r.map .int))]
def tG (rows:List (List Int)):aI (rows.map λ r=>D.tup (r.map .int))=true:=bo λ d m=>by obtain⟨r,_,rfl⟩:=Ni.mp m;exact af r
def wQ (ps:List Int)(rows:List (List Int)):(yD ps rows).pure=true:=by
 simp[yD,D.pure,aI,af,tG]
def mJ(h:f τ=.ok (.int a))(hb:0<b):ah eQ f (eC (.int b)) τ=.ok (.int (a%b)):=by
 rw[bf h (show eC (.int b) τ=.ok (.int b) from rfl)];simp[oY,hb]
def uX(h:f τ=.ok (.int a))(hb:0<b/\b<1073741824):ah fK f (eC (.int b)) τ=.ok (.int (a/b)):=by
 rw[bf h (show eC (.int b) τ=.ok (.int b) from rfl)];simp[oY,L2.iZ,hb]
def jX(h:f τ=.ok (.int a))(h2:g τ=.ok (.int b)):eT (ah kK f g) τ=.ok (decide (a=b)):=by
 unfold eT;rw[bf h h2];show Res.ok (xor false (decide (a=b)))=_;rw[Bool.false_xor]
def yH(h:f τ=.ok (.int a))(h2:g τ=.ok (.int b)):eT (ah oZ f g) τ=.ok (!decide (a=b)):=by
 unfold eT;rw[bf h h2];show Res.ok (xor true (decide (a=b)))=_;rw[Bool.true_xor]
def yF(h:f τ=.ok (.int a))(h2:g τ=.ok (.int b)):eT (ah KA f g) τ=.ok (decide (b<a)):=by
 unfold eT;rw[bf h h2];rfl
def qS(h:f τ=.ok (.int a))(h2:g τ=.ok (.int b)):eT (ah FA f g) τ=.ok (decide (a<b)):=by
 unfold eT;rw[bf h h2];rfl
def wR {f g:SD->Res Bool}{a b:Bool}(h:f τ=.ok a)(h2:g τ=.ok b):pN f g τ=.ok (a||b):=by
 unfold pN;rw[h];cases a
 ·exact h2
 ·rfl
def cJ {N:Nat}{g:SF}(hl:ds.length=n)(ht:ds.map some++List.replicate (N-n) none=τ)(h:g τ=.rt d):cz n N g ds=.ok d:=by
 unfold cz;rw[Nr hl,ht,h];rfl
def iL{x y:D}{r:Res D}(h1:f τ=.ok x)(h2:g τ=.ok y)(h3:cS x y=r):ah cS f g τ=r:=(bf h1 h2).trans h3
def i6(hi:i=j)(h:xs[j]?=some d):cS (.tup xs) (.int i)=.ok d:=by
 simp[cS,C9 hi h]
def qT {t:Tg}(hi:i=j)(h:xs[j]?=some d):cS (.lst t xs) (.int i)=.ok d:=by
 simp[cS,C9 hi h]
def qQ {i:Nat}(h1:τ[i]?=some (some (.lst .own xs)))(h2:f τ=.ok d)(hp:d.az=false)(hl:xs.length<16777216):fY i f τ=.nx (τ.set i (some (.lst .own (xs++[d])))):=by
 unfold fY;have e:dE τ i=some xs:=by unfold dE;rw[h1]
 rw[e];simp[h2,hp,hl]
def uW{t:Tg}(h:f τ=.ok (.lst t xs)):eA df (ae f ao) τ=.ok (.int xs.length):=by
 rw[ig (cO h)];rfl
def Jo {N:Nat}{g:SF}{t:SD}(hl:ds.length=n)(ht:ds.map some++List.replicate (N-n) none=τ)(h:g τ=.nx t):cz n N g ds=.ok .bx:=by
 unfold cz;rw[Nr hl,ht,h];rfl
def pq{b:Bool}(h:f τ=.ok (.bl b)):eT f τ=.ok b:=by
 unfold eT;rw[h];rfl
def k9{a b:SF}(h:c τ=.ok false):eE c a b τ=b τ:=by rw[Hf h];rfl
def nY{a b:SF}(h:c τ=.ok true):eE c a b τ=a τ:=by rw[Hf h];rfl
def Ge(h:f τ=.ok d):fL f τ=.nx τ:=by
 unfold fL;rw[h];rfl
def Ld {f g:SD->Res Bool}(h:f τ=.ok false):fX f g τ=.ok false:=by unfold fX;rw[h];rfl
def Lb {f g:SD->Res Bool}{b:Bool}(h:f τ=.ok true)(h2:g τ=.ok b):fX f g τ=.ok b:=by unfold fX;rw[h,Res.aH,Nr rfl,h2]
def yG {f:SD->Res Bool}{b:Bool}(h:f τ=.ok b):iM f τ=.ok (!b):=by unfold iM;rw[h];rfl
def La{a b s:SF}(h:c τ=.ok true)(h2:a τ=.rt d):aC (eE c a b) s τ=.rt d:=by
 unfold aC;rw[nY h,h2];rfl
def tF{a s:SF}(h:c τ=.ok false):aC (eE c a bj) s τ=s τ:=by
 refine aA ?_;rw[k9 h];rfl
def yE {a b:SF}(h:a τ=.rt d):aC a b τ=.rt d:=by
 unfold aC;rw[h];rfl
def qR(h:f τ=.ok (.int a))(h2:g τ=.ok (.int b)):ah cy f g τ=.ok (.int (a+b)):=by rw[bf h h2];rfl
def Al {j:Int}(h:0<j):eQ (.int i) (.int j)=.ok (.int (i%j)):=by
 show(if (0:Int)<j then _ else _)=_;exact Nr h
def Ai (i:Int):eQ (.int i) (.int big)=.ok (.int (i%big)):=Al Aj
def Gd (o t:Int):uQ [.int o,.int t]=.ok (.tup [.int (N2.keyOf o t).1,.int (N2.keyOf o t).2]):=by
 unfold N2.keyOf;refine cJ rfl rfl (kN ?_ rfl);unfold ur;rw[yF (a:=o) (b:=t) rfl rfl];by_cases h:o>t
 ·rw[NP h,Nr h];rfl
 ·rw[NN h,Nu h];rfl
abbrev S (ns:List Int):D:=.lst .ak (ns.map D.int)
def cell_out {ns:List Int}{k:Int}(h1:¬ k<ns.length):M.cell ns k=0:=by
 unfold M.cell;rw[Nf,Oa (by omega)];rfl
def Ak {ns:List Int}{i:Nat}(h:i<ns.length):(ns.map D.int)[i]?=some (.int (ns.getD i 0)):=by
 rw[NG,M9 h,Nf,M9 h];rfl
def nZ (ns:List Int){k:Int}(h:0<=k):G_Lcell [S ns,.int k]=.ok (.int (M.cell ns k)):=by
 refine cJ (τ:=[some (S ns),some (.int k)]) rfl rfl ?_;have v0:aa 0 [some (S ns),some (.int k)]=.ok (S ns):=cQ rfl (af ns);have l0:=uW v0;rw[M7]at l0;have t:=qS (f:=aa 1) (a:=k) rfl l0;unfold g_Lcell;by_cases h1:k<ns.length
 ·rw[NP h1]at t;exact La t (kN (iL v0 (y:=.int k) rfl (qT (j:=k.toNat) (by omega) (Ak (by omega)))) rfl)
 ·rw[NN h1]at t;rw[tF t,cell_out h1];rfl
def D4 (ns:List Int)(a:Int)(n i:Nat):SD:=[some (S ns),some (.int a),some (.int n),some (.int (M.cell ns a)),some (.int (M.cell ns (a+1))),some (.int (M.place big ns a i)),some (.lst .own ((M.places big ns a i).map D.int)),if i=0 then none else some (.int ((i:Int)-1))]
def wU (ns:List Int)(a:Int)(i:Nat):M.places big ns a (i+1)=M.places big ns a i++[M.place big ns a i]:=by
 unfold M.places;rw[Qp,Nx];rfl
def Jp (ns:List Int)(a:Int):cS (.lst .own [.int 1,.int 3,.int (10^29)]) (.int (M.cell ns (a+1)%3))=.ok (.int (M.gap ns a)):=by
 unfold M.gap;have h:M.cell ns (a+1)%3=0\/M.cell ns (a+1)%3=1\/M.cell ns (a+1)%3=2:=by omega
 rcases h with h|h|h<;>rw[h]<;>rfl
def wO (ns:List Int){i:Nat}(hi:i<64)(o:Option D):g_Lplaces_b1 [some (S ns),some (.int a),some (.int n),some (.int (M.cell ns a)),some (.int (M.cell ns (a+1))),some (.int (M.place big ns a i)),some (.lst .own ((M.places big ns a i).map D.int)),some (.int (i:Int))]=.nx (D4 ns a n (i+1)):=by
 unfold g_Lplaces_b1;rw[aA (qQ (i:=6) (xs:=(M.places big ns a i).map D.int) (d:=.int (M.place big ns a i)) rfl rfl rfl (by rw[M7,M.places_len];omega))];show aS 5 _ [some (S ns),some (.int a),some (.int n),some (.int (M.cell ns a)),some (.int (M.cell ns (a+1))),some (.int (M.place big ns a i)),some (.lst .own ((M.places big ns a i).map D.int++[.int (M.place big ns a i)])),some (.int (i:Int))]=_;generalize hτ:[some (S ns),some (.int a),some (.int n),some (.int (M.cell ns a)),some (.int (M.cell ns (a+1))),some (.int (M.place big ns a i)),some (.lst .own ((M.places big ns a i).map D.int++[.int (M.place big ns a i)])),some (.int (i:Int))]=τ;have v4:aa 4 τ=.ok (.int (M.cell ns (a+1))):=by rw[<-hτ];rfl
 have v5:aa 5 τ=.ok (.int (M.place big ns a i)):=by rw[<-hτ];rfl
 have v7:aa 7 τ=.ok (.int (i:Int)):=by rw[<-hτ];rfl
 have q1:ah fK (aa 4) (ah cy (aa 7) (eC (.int 1))) τ=.ok (.int (M.cell ns (a+1)/((i:Int)+1))):=by
  rw[bf v4 (qR v7 (g:=eC (.int 1)) (b:=1) rfl)];show(if (0:Int)<(i:Int)+1/\(i:Int)+1<1073741824 then _ else _)=_;exact Nr (by omega)
 have q2:ah cS (eA dw (ae (eC (.int 1)) (ae (eC (.int 3)) (ae (ah rL (eC (.int 10)) (eC (.int 29))) ao)))) (ah eQ (aa 4) (eC (.int 3))) τ=.ok (.int (M.gap ns a)):=
  iL (x:=.lst .own [.int 1,.int 3,.int (10^29)]) rfl (mJ v4 (by decide:(0:Int)<3)) (Jp ns a)
 rw[aP (qR (qR v5 (g:=eC (.int 1)) (b:=1) rfl) ((bf q1 q2).trans (Al (M.Ah ns a)))) rfl,<-hτ];unfold D4;rw[wU,Nx,Nu (Nat.succ_ne_zero i)];have e:(((i+1:Nat):Int)-1)=i:=by omega
 rw[e];rfl
def wN (ns:List Int)(hn:n<=64):bW (gN 7) g_Lplaces_b1 ((List.range n).map λ k:Nat=>D.int (k:Int)) (D4 ns a n 0)=.nx (D4 ns a n n):=by
 have key:=zK (tg:=gN 7) (body:=g_Lplaces_b1) (D4 ns a n) (ds:=(List.range n).map λ k:Nat=>D.int (k:Int)) 0 λ j d hd=>by
  have hj:j<n:=by
   have:=(Ng.mp hd).1;simpa using this
  have ed:d=.int (j:Int):=by
   rw[NG,Oi hj]at hd;exact(N6 hd).symm
  subst ed;rw[OW];exact⟨_,rfl,wO ns (by omega) none⟩
 rw[M7,NO,OW]at key;exact key
def BV (ns:List Int):(eE (eT (ah kK (ah eQ (aa 3) (eC (.int 2))) (eC (.int 1)))) (aS 5 (ah eQ (ah fK (aa 3) (eC (.int 2))) (ah rL (eC (.int 10)) (eC (.int 30))))) bj) [some (S ns),some (.int a),some (.int n),some (.int (M.cell ns a)),some (.int (M.cell ns (a+1))),some (.int (M.cell ns a/2%4)),none,none]=.nx [some (S ns),some (.int a),some (.int n),some (.int (M.cell ns a)),some (.int (M.cell ns (a+1))),some (.int (M.place big ns a 0)),none,none]:=by
 have e3:=M.yC big ns a;rw[e3];have t:=jX (τ:=[some (S ns),some (.int a),some (.int n),some (.int (M.cell ns a)),some (.int (M.cell ns (a+1))),some (.int (M.cell ns a/2%4)),none,none]) (mJ (f:=aa 3) (a:=M.cell ns a) rfl (by decide:(0:Int)<2)) (g:=eC (.int 1)) (b:=1) rfl;by_cases h1:M.cell ns a%2=1
 ·rw[NP h1]at t;rw[Nr h1,nY t];exact aP ((bf (uX (f:=aa 3) (a:=M.cell ns a) rfl (by decide:(0:Int)<2/\(2:Int)<1073741824)) (Lc _)).trans (Ai _)) rfl
 ·rw[NN h1]at t;rw[Nu h1,k9 t];rfl
def BU (ns:List Int)(hn:n<=64):b6 [] (bN (ae (aa 2) ao)) (gN 7) g_Lplaces_b1 (D4 ns a n 0)=.nx (D4 ns a n n):=by
 have hi:bN (ae (aa 2) ao) (D4 ns a n 0)=.ok (false,(List.range n).map λ k:Nat=>D.int (k:Int)):=by
  unfold bN;rw[cO (d:=.int n) rfl,Res.aH,iF (by omega)]
 unfold b6;rw[show b9 [] (D4 ns a n 0)=D4 ns a n 0 from rfl,hi];have:aG ((List.range n).map λ k:Nat=>D.int (k:Int))=(List.range n).map λ k:Nat=>D.int (k:Int):=aV _ _;simp only[this];exact wN ns (a:=a) hn
def places_eq (ns:List Int)(ha:0<=a)(hn:n<=64):G_Lplaces [S ns,.int a,.int n]=.ok (.lst .own ((M.places big ns a n).map D.int)):=by
 refine cJ (τ:=[some (S ns),some (.int a),some (.int n),none,none,none,none,none]) rfl rfl ?_;have cc:∀ {τ:SD}{f:SD->Res D}{k:Int},τ[0]?=some (some (S ns))->f τ=.ok (.int k)->0<=k->aw G_Lcell (ae (aa 0) (ae f ao)) τ=.ok (.int (M.cell ns k)):=λ h hf hk=>
  fP (ds:=[S ns,.int _]) (aQ (cQ h (af ns)) (cO hf)) (by simpa[aG,D.ak] using nZ ns hk) (by simp[au,D.az])
 unfold g_Lplaces;rw[aA (aP (cc (f:=aa 1) rfl rfl ha) rfl)];rw[aA (aP (cc rfl (qR (f:=aa 1) (a:=a) rfl (g:=eC (.int 1)) (b:=1) rfl) (by omega)) rfl)];rw[aA (aP (mJ (uX (f:=aa 3) (a:=M.cell ns a) rfl (by decide:(0:Int)<2/\(2:Int)<1073741824)) (by decide:(0:Int)<4)) rfl)];show aC _ _ [some (S ns),some (.int a),some (.int n),some (.int (M.cell ns a)),some (.int (M.cell ns (a+1))),some (.int (M.cell ns a/2%4)),none,none]=_;rw[aA (BV ns)];rw[aA (aP (d:=.lst .own []) rfl rfl)];show aC _ _ (D4 ns a n 0)=_;exact(aA (BU ns (a:=a) hn)).trans rfl
def D5 (x:Int):0<M.yz 1 x:=by
 unfold M.yz;split<;>omega
def qU (ns:List Int){k:Int}(ha:0<=a)(hk:0<=k):G_Lmix [S ns,.int a,.int k]=.ok (.int (M.mix ns a k)):=by
 have h1:=D5 ((ns.length:Int)-a);have h2:0<=a+k%M.yz 1 ((ns.length:Int)-a):=Int.add_nonneg ha (O1 _ (by omega));have c1:lX (M.cell ns (a+k%M.yz 1 ((ns.length:Int)-a))) 48271:=mul_r (by decide);have c2:lX k 16807:=mul_r (by decide);have e:=nZ ns h2;unfold M.yz at *;simp[G_Lmix,g_Lmix,cz,aC,eE,aS,cU,dF,bj,fL,fY,jw,iD,fg,b6,dB,eT,ah,aa,eC,eA,nh,ur,jt,eP,uq,cV,bN,dR,aw,dS,e8,aJ,ae,ao,iM,fX,pN,bP,df,eZ,e9,cR,il,dw,bH,rM,oY,L2.iZ,L2.gK,cy,kK,oZ,vo,cZ,iC,vn,jr,D.view,bG,Tg.view,D.ak,aG,D.az,au,D.bI,bA,D.aM,bu,Tg.aM,jv,D.aT,b7,Tg.aT,D.pure,aI,dE,cW,gN,gT,bz,dG,d7,D.isExc,uw,uz,b9,cN,cE,bY,cutD,cD,ff,kj,dH,KT.kind,cS,aV,h1,e,c1,c2,M.mix,M.yz]
def D6 {y z:Int}(h0:0<=i)(h1:i<3)(hx:0<=x)(hy:0<=y)(hz:0<=z):∃ v,0<=v/\L2.rH [D.int x,D.int y,D.int z] i=some (.int v):=by
 have h:i=0\/i=1\/i=2:=by omega
 rcases h with h|h|h
 ·exact⟨x,hx,by rw[h];rfl⟩
 ·exact⟨y,hy,by rw[h];rfl⟩
 ·exact⟨z,hz,by rw[h];rfl⟩
def MP (d:D):Prop:=∃ v:Int,0<=v/\d=.int v
def rW (r:Fl):Prop:=∃ v:Int,0<=v/\r=.rt (.int v)
def qV (ns:List Int){k j:Int}(ha:0<=a)(hk:0<=k)(hk2:k<=24)(hj:0<=j)(hj2:j<=24):∃ v,0<=v/\G_Lshade [S ns,.int a,.int k,.int j]=.ok (.int v):=by
 have e2:=nZ ns (show 0<=a+2 by omega);have e3:=nZ ns (show 0<=a+3 by omega);have ha4:0<=a+4:=by omega
 have m1:=qU ns ha4 (show 0<=300+k by omega);have m2:=qU ns ha4 (show 0<=300+j by omega);have hkk:0<=k*(k-1)/2:=by
  have:0<=k*(k-1):=by
   by_cases h:k=0
   ·rw[h];decide
   ·exact Int.mul_nonneg hk (by omega)
  omega
 have m3:=qU ns ha4 (show 0<=k*(k-1)/2+j by omega);have n3:=M.D3 ns (a+4) (k*(k-1)/2+j);have c1:lX k (k-1):=Hk (by omega);have m4:=λ {x:Int} (h:0<=x)=>qU ns ha4 h;have n4:=M.D3 ns (a+4);generalize hcell:M.cell ns (a+2)=hd at *;generalize M.cell ns (a+3)=c3 at *;generalize M.mix ns (a+4) (300+k)=x1 at *;generalize M.mix ns (a+4) (300+j)=x2 at *;generalize M.mix ns (a+4) (k*(k-1)/2+j)=x3 at *;have hb:0<1+hd/4%4:=by omega
 have ho0:0<=x1/3%(1+hd/4%4):=O1 _ (by omega);have ht0:0<=x2/3%(1+hd/4%4):=O1 _ (by omega)
 suffices h:rW (g_Lshade [some (S ns),some (.int a),some (.int k),some (.int j),none,none,none,none,none,none]) by
  obtain⟨v,hv,e⟩:=h;refine⟨v,hv,?_⟩;simp[G_Lshade,cz,List.replicate,e]
 unfold g_Lshade;refine lK rW (.int hd) (by simp[cz,aC,eE,aS,cU,dF,bj,fL,fY,jw,iD,fg,b6,dB,eT,ah,aa,eC,eA,nh,ur,jt,eP,uq,cV,bN,dR,aw,dS,e8,aJ,ae,ao,iM,fX,pN,bP,df,eZ,e9,cR,il,dw,bH,rM,oY,L2.iZ,L2.gK,cy,kK,oZ,vo,cZ,iC,vn,jr,D.view,bG,Tg.view,D.ak,aG,D.az,au,D.bI,bA,D.aM,bu,Tg.aM,jv,D.aT,b7,Tg.aT,D.pure,aI,dE,cW,gN,gT,bz,dG,d7,D.isExc,uw,uz,b9,cN,cE,bY,cutD,cD,ff,kj,dH,KT.kind,cS,aV,e2]) rfl ?_;refine lK rW (.int (1+hd/4%4)) (by simp[cz,aC,eE,aS,cU,dF,bj,fL,fY,jw,iD,fg,b6,dB,eT,ah,aa,eC,eA,nh,ur,jt,eP,uq,cV,bN,dR,aw,dS,e8,aJ,ae,ao,iM,fX,pN,bP,df,eZ,e9,cR,il,dw,bH,rM,oY,L2.iZ,L2.gK,cy,kK,oZ,vo,cZ,iC,vn,jr,D.view,bG,Tg.view,D.ak,aG,D.az,au,D.bI,bA,D.aM,bu,Tg.aM,jv,D.aT,b7,Tg.aT,D.pure,aI,dE,cW,gN,gT,bz,dG,d7,D.isExc,uw,uz,b9,cN,cE,bY,cutD,cD,ff,kj,dH,KT.kind,cS,aV]) rfl ?_;refine lK rW (.int (x1/3%(1+hd/4%4))) (by simp[cz,aC,eE,aS,cU,dF,bj,fL,fY,jw,iD,fg,b6,dB,eT,ah,aa,eC,eA,nh,ur,jt,eP,uq,cV,bN,dR,aw,dS,e8,aJ,ae,ao,iM,fX,pN,bP,df,eZ,e9,cR,il,dw,bH,rM,oY,L2.iZ,L2.gK,cy,kK,oZ,vo,cZ,iC,vn,jr,D.view,bG,Tg.view,D.ak,aG,D.az,au,D.bI,bA,D.aM,bu,Tg.aM,jv,D.aT,b7,Tg.aT,D.pure,aI,dE,cW,gN,gT,bz,dG,d7,D.isExc,uw,uz,b9,cN,cE,bY,cutD,cD,ff,kj,dH,KT.kind,cS,aV,m1,hb]) rfl ?_;refine lK rW (.int (x2/3%(1+hd/4%4))) (by simp[cz,aC,eE,aS,cU,dF,bj,fL,fY,jw,iD,fg,b6,dB,eT,ah,aa,eC,eA,nh,ur,jt,eP,uq,cV,bN,dR,aw,dS,e8,aJ,ae,ao,iM,fX,pN,bP,df,eZ,e9,cR,il,dw,bH,rM,oY,L2.iZ,L2.gK,cy,kK,oZ,vo,cZ,iC,vn,jr,D.view,bG,Tg.view,D.ak,aG,D.az,au,D.bI,bA,D.aM,bu,Tg.aM,jv,D.aT,b7,Tg.aT,D.pure,aI,dE,cW,gN,gT,bz,dG,d7,D.isExc,uw,uz,b9,cN,cE,bY,cutD,cD,ff,kj,dH,KT.kind,cS,aV,m2,hb]) rfl ?_;generalize x1/3%(1+hd/4%4)=one at *;generalize x2/3%(1+hd/4%4)=other at *;refine lK rW (.int (x3/5)) (by simp[cz,aC,eE,aS,cU,dF,bj,fL,fY,jw,iD,fg,b6,dB,eT,ah,aa,eC,eA,nh,ur,jt,eP,uq,cV,bN,dR,aw,dS,e8,aJ,ae,ao,iM,fX,pN,bP,df,eZ,e9,cR,il,dw,bH,rM,oY,L2.iZ,L2.gK,cy,kK,oZ,vo,cZ,iC,vn,jr,D.view,bG,Tg.view,D.ak,aG,D.az,au,D.bI,bA,D.aM,bu,Tg.aM,jv,D.aT,b7,Tg.aT,D.pure,aI,dE,cW,gN,gT,bz,dG,d7,D.isExc,uw,uz,b9,cN,cE,bY,cutD,cD,ff,kj,dH,KT.kind,cS,aV,m3,c1]) rfl ?_;refine sW rW MP ⟨decide (hd%4<2) && !decide (one=other),by by_cases q:hd%4<2<;>simp[cz,aC,eE,aS,cU,dF,bj,fL,fY,jw,iD,fg,b6,dB,eT,ah,aa,eC,eA,nh,ur,jt,eP,uq,cV,bN,dR,aw,dS,e8,aJ,ae,ao,iM,fX,pN,bP,df,eZ,e9,cR,il,dw,bH,rM,oY,L2.iZ,L2.gK,cy,kK,oZ,vo,cZ,iC,vn,jr,D.view,bG,Tg.view,D.ak,aG,D.az,au,D.bI,bA,D.aM,bu,Tg.aM,jv,D.aT,b7,Tg.aT,D.pure,aI,dE,cW,gN,gT,bz,dG,d7,D.isExc,uw,uz,b9,cN,cE,bY,cutD,cD,ff,kj,dH,KT.kind,cS,aV,q],λ _=>?_⟩ ⟨.int (x3/5),rfl,_,by omega,rfl⟩ ?_
 ·have hx:0<=400+4*(if other>one then other else one)+(if other<one then other else one):=by split<;>split<;>omega
  have c2:lX 4 (if other>one then other else one):=Hk (by decide);refine⟨.int (M.mix ns (a+4) (400+4*(if other>one then other else one)+(if other<one then other else one))/5),by simp[cz,aC,eE,aS,cU,dF,bj,fL,fY,jw,iD,fg,b6,dB,eT,ah,aa,eC,eA,nh,ur,jt,eP,uq,cV,bN,dR,aw,dS,e8,aJ,ae,ao,iM,fX,pN,bP,df,eZ,e9,cR,il,dw,bH,rM,oY,L2.iZ,L2.gK,cy,kK,oZ,vo,cZ,iC,vn,jr,D.view,bG,Tg.view,D.ak,aG,D.az,au,D.bI,bA,D.aM,bu,Tg.aM,jv,D.aT,b7,Tg.aT,D.pure,aI,dE,cW,gN,gT,bz,dG,d7,D.isExc,uw,uz,b9,cN,cE,bY,cutD,cD,ff,kj,dH,KT.kind,cS,aV,m4 hx,c2],rfl,_,?_,rfl⟩;have:=n4 (400+4*(if other>one then other else one)+(if other<one then other else one));omega
 ·rintro _ ⟨v1,hv1,rfl⟩;refine sW rW MP ⟨decide (hd%4=1)&&decide (k*(k-1)/2+j=hd/32%36),by by_cases q:hd%4=1<;>simp[cz,aC,eE,aS,cU,dF,bj,fL,fY,jw,iD,fg,b6,dB,eT,ah,aa,eC,eA,nh,ur,jt,eP,uq,cV,bN,dR,aw,dS,e8,aJ,ae,ao,iM,fX,pN,bP,df,eZ,e9,cR,il,dw,bH,rM,oY,L2.iZ,L2.gK,cy,kK,oZ,vo,cZ,iC,vn,jr,D.view,bG,Tg.view,D.ak,aG,D.az,au,D.bI,bA,D.aM,bu,Tg.aM,jv,D.aT,b7,Tg.aT,D.pure,aI,dE,cW,gN,gT,bz,dG,d7,D.isExc,uw,uz,b9,cN,cE,bY,cutD,cD,ff,kj,dH,KT.kind,cS,aV,q,c1],λ _=>⟨.int (v1+1),by simp[cz,aC,eE,aS,cU,dF,bj,fL,fY,jw,iD,fg,b6,dB,eT,ah,aa,eC,eA,nh,ur,jt,eP,uq,cV,bN,dR,aw,dS,e8,aJ,ae,ao,iM,fX,pN,bP,df,eZ,e9,cR,il,dw,bH,rM,oY,L2.iZ,L2.gK,cy,kK,oZ,vo,cZ,iC,vn,jr,D.view,bG,Tg.view,D.ak,aG,D.az,au,D.bI,bA,D.aM,bu,Tg.aM,jv,D.aT,b7,Tg.aT,D.pure,aI,dE,cW,gN,gT,bz,dG,d7,D.isExc,uw,uz,b9,cN,cE,bY,cutD,cD,ff,kj,dH,KT.kind,cS,aV],rfl,_,by omega,rfl⟩⟩ ⟨.int v1,rfl,_,hv1,rfl⟩ ?_;rintro _ ⟨v2,hv2,rfl⟩;refine Bq rW ⟨decide (hd%4=2)&&decide (hd/4%2=1),by by_cases q:hd%4=2<;>simp[cz,aC,eE,aS,cU,dF,bj,fL,fY,jw,iD,fg,b6,dB,eT,ah,aa,eC,eA,nh,ur,jt,eP,uq,cV,bN,dR,aw,dS,e8,aJ,ae,ao,iM,fX,pN,bP,df,eZ,e9,cR,il,dw,bH,rM,oY,L2.iZ,L2.gK,cy,kK,oZ,vo,cZ,iC,vn,jr,D.view,bG,Tg.view,D.ak,aG,D.az,au,D.bI,bA,D.aM,bu,Tg.aM,jv,D.aT,b7,Tg.aT,D.pure,aI,dE,cW,gN,gT,bz,dG,d7,D.isExc,uw,uz,b9,cN,cE,bY,cutD,cD,ff,kj,dH,KT.kind,cS,aV,q],λ _=>⟨.int (v2%100000000),by simp[cz,aC,eE,aS,cU,dF,bj,fL,fY,jw,iD,fg,b6,dB,eT,ah,aa,eC,eA,nh,ur,jt,eP,uq,cV,bN,dR,aw,dS,e8,aJ,ae,ao,iM,fX,pN,bP,df,eZ,e9,cR,il,dw,bH,rM,oY,L2.iZ,L2.gK,cy,kK,oZ,vo,cZ,iC,vn,jr,D.view,bG,Tg.view,D.ak,aG,D.az,au,D.bI,bA,D.aM,bu,Tg.aM,jv,D.aT,b7,Tg.aT,D.pure,aI,dE,cW,gN,gT,bz,dG,d7,D.isExc,uw,uz,b9,cN,cE,bY,cutD,cD,ff,kj,dH,KT.kind,cS,aV],_,O1 _ (by decide),rfl⟩,λ _=>?_⟩;have big0:0<=c3%big:=O1 _ (by have:=Aj;omega);refine lK rW (.lst .own [.int 0,.int (1+c3%big),.int (c3/9%5)]) ?_ rfl ?_
  ·have q1:ah cy (eC (.int 1)) (ah eQ (aw G_Lcell (ae (aa 0) (ae (ah cy (aa 1) (eC (.int 3))) ao))) (ah rL (eC (.int 10)) (eC (.int 30)))) [some (S ns),some (.int a),some (.int k),some (.int j),some (.int hd),some (.int (1+hd/4%4)),some (.int one),some (.int other),some (.int v2),none]=.ok (.int (1+c3%big)):=
    bf (x:=.int 1) rfl ((bf (x:=.int c3) (by simp[cz,aC,eE,aS,cU,dF,bj,fL,fY,jw,iD,fg,b6,dB,eT,ah,aa,eC,eA,nh,ur,jt,eP,uq,cV,bN,dR,aw,dS,e8,aJ,ae,ao,iM,fX,pN,bP,df,eZ,e9,cR,il,dw,bH,rM,oY,L2.iZ,L2.gK,cy,kK,oZ,vo,cZ,iC,vn,jr,D.view,bG,Tg.view,D.ak,aG,D.az,au,D.bI,bA,D.aM,bu,Tg.aM,jv,D.aT,b7,Tg.aT,D.pure,aI,dE,cW,gN,gT,bz,dG,d7,D.isExc,uw,uz,b9,cN,cE,bY,cutD,cD,ff,kj,dH,KT.kind,cS,aV,e3]) (Lc _)).trans (Ai _))
   simp only[eA,ae,List.set_cons_succ,List.set_cons_zero];rw[q1];simp[cz,aC,eE,aS,cU,dF,bj,fL,fY,jw,iD,fg,b6,dB,eT,ah,aa,eC,eA,nh,ur,jt,eP,uq,cV,bN,dR,aw,dS,e8,aJ,ae,ao,iM,fX,pN,bP,df,eZ,e9,cR,il,dw,bH,rM,oY,L2.iZ,L2.gK,cy,kK,oZ,vo,cZ,iC,vn,jr,D.view,bG,Tg.view,D.ak,aG,D.az,au,D.bI,bA,D.aM,bu,Tg.aM,jv,D.aT,b7,Tg.aT,D.pure,aI,dE,cW,gN,gT,bz,dG,d7,D.isExc,uw,uz,b9,cN,cE,bY,cutD,cD,ff,kj,dH,KT.kind,cS,aV,e3]
  ·have hm:0<2+hd/16%2:=by omega
   obtain⟨v,hv,e⟩:=D6 (x:=0) (y:=1+c3%big) (z:=c3/9%5) (i:=v2%(2+hd/16%2)) (O1 _ (by omega)) (by have:=Int.emod_lt_of_pos v2 hm;omega) (by decide) (by omega) (by omega);exact⟨v,hv,by simp[cz,aC,eE,aS,cU,dF,bj,fL,fY,jw,iD,fg,b6,dB,eT,ah,aa,eC,eA,nh,ur,jt,eP,uq,cV,bN,dR,aw,dS,e8,aJ,ae,ao,iM,fX,pN,bP,df,eZ,e9,cR,il,dw,bH,rM,oY,L2.iZ,L2.gK,cy,kK,oZ,vo,cZ,iC,vn,jr,D.view,bG,Tg.view,D.ak,aG,D.az,au,D.bI,bA,D.aM,bu,Tg.aM,jv,D.aT,b7,Tg.aT,D.pure,aI,dE,cW,gN,gT,bz,dG,d7,D.isExc,uw,uz,b9,cN,cE,bY,cutD,cD,ff,kj,dH,KT.kind,cS,aV,hm,e]⟩
def sh (ns:List Int)(k j:Nat):Int:=by
 classical
 exact if h:k<=24/\j<=24 then (qV ns (a:=1) (k:=k) (j:=j) (by decide) (by omega) (by omega) (by omega) (by omega)).choose else 0
def Lf (ns:List Int)(k j:Nat):0<=sh ns k j:=by
 unfold sh;split
 ·rename_i h;exact(qV ns (a:=1) (k:=k) (j:=j) (by decide) (by omega) (by omega) (by omega) (by omega)).choose_spec.1
 ·exact RJ 0
def Lg (ns:List Int){k:Nat}(hk:k<=24)(hj:j<=24):G_Lshade [S ns,.int 1,.int k,.int j]=.ok (.int (sh ns k j)):=by
 unfold sh;rw[dif_pos ⟨hk,hj⟩];exact(qV ns (a:=1) (k:=k) (j:=j) (by decide) (by omega) (by omega) (by omega) (by omega)).choose_spec.2
def dN (ns:List Int):N2.Dr where
 pl:=M.place big ns 1
 sh:=sh ns
 dr:=λ k j=>M.mix ns 1 ((k:Int)*24+(j:Int))
 mono:=λ h=>M.qP ns 1 h
 nn:=Lf ns
def wV(h:d∈(List.range n).map λ k:Nat=>D.int (k:Int)):∃ k:Nat,k<n/\d=.int k:=by
 obtain⟨k,hk,rfl⟩:=Ni.mp h;exact⟨k,NC.mp hk,rfl⟩
def natOf:D->Nat|.int i=>i.toNat|_=>0
def Gf (ns:List Int){k:Nat}(hk:k<24):g_Lnet_e2 [some (.int k),some (S ns),some (.int 1)]=.ok (.tup (((List.range k).map λ j=>(dN ns).sh k j).map D.int)):=by
 have hr:=iF (n:=k) (by omega);have hc:=sY (it:=bN (ae (aa 0) ao)) (elt:=g_Lnet_e1) (cap:=[("_law_script",1),("_law_at",2),("_law_k",0)]) (τ:=[some (.int k),some (S ns),some (.int 1)]) (fl:=false) (ds:=(List.range k).map λ k:Nat=>D.int (k:Int)) (λ d=>.int ((dN ns).sh k (natOf d)))
  (by simp [bN,ae,ao,aa,D.view,hr]) (λ d hd=>by
   rw[aV]at hd;obtain⟨j,hj,rfl⟩:=wV hd;refine⟨?_,rfl⟩;have e:=Lg ns (k:=k) (j:=j) (by omega) (by omega);simp[g_Lnet_e1,cz,aC,eE,aS,cU,dF,bj,fL,fY,jw,iD,fg,b6,dB,eT,ah,aa,eC,eA,nh,ur,jt,eP,uq,cV,bN,dR,aw,dS,e8,aJ,ae,ao,iM,fX,pN,bP,df,eZ,e9,cR,il,dw,bH,rM,oY,L2.iZ,L2.gK,cy,kK,oZ,vo,cZ,iC,vn,jr,D.view,bG,Tg.view,D.ak,aG,D.az,au,D.bI,bA,D.aM,bu,Tg.aM,jv,D.aT,b7,Tg.aT,D.pure,aI,dE,cW,gN,gT,bz,dG,d7,D.isExc,uw,uz,b9,cN,cE,bY,cutD,cD,ff,kj,dH,KT.kind,cS,aV,e,natOf,dN]) (by simp;omega)
 unfold g_Lnet_e2;simp only[eA,ae,ao,hc,Res.aH,cR,aV];simp[natOf]
def Jq (ns:List Int)(hn:n<=24):G_Lnet [S ns,.int 1,.int n]=.ok (yD (N2.places (dN ns) n) (N2.rows (dN ns) n)):=by
 have hr:=iF (n:=n) (by omega);have hp:=places_eq ns (a:=1) (n:=n) (by decide) (by omega);have hc:=sY (it:=bN (ae (aa 2) ao)) (elt:=g_Lnet_e2) (cap:=[("_law_script",0),("_law_at",1)]) (τ:=[some (S ns),some (.int 1),some (.int n),none]) (fl:=false) (ds:=(List.range n).map λ k:Nat=>D.int (k:Int)) (λ d=>.tup (((List.range (natOf d)).map λ j=>(dN ns).sh (natOf d) j).map D.int))
  (by simp [bN,ae,ao,aa,D.view,hr]) (λ d hd=>by
   rw[aV]at hd;obtain⟨k,hk,rfl⟩:=wV hd;refine⟨?_,af _⟩;have e:=Gf ns (k:=k) (by omega);simpa[cN,D.ak,natOf] using e) (by simp;omega)
 rw[aV]at hc;have hpu:aI (((List.range n).map λ k:Nat=>D.int (k:Int)).map λ d=>D.tup (((List.range (natOf d)).map λ j=>(dN ns).sh (natOf d) j).map D.int))=true:=bo λ d m=>by
  obtain⟨x,_,rfl⟩:=Ni.mp m;exact af _
 suffices h:g_Lnet [some (S ns),some (.int 1),some (.int n),none]=.rt (yD (N2.places (dN ns) n) (N2.rows (dN ns) n)) by
  simp[G_Lnet,cz,List.replicate,h]
 unfold g_Lnet;have z:yD (N2.places (dN ns) n) (N2.rows (dN ns) n)=.tup [.tup ((M.places big ns 1 n).map D.int),.tup (((List.range n).map λ k:Nat=>D.int (k:Int)).map λ d=>D.tup (((List.range (natOf d)).map λ j=>(dN ns).sh (natOf d) j).map D.int))]:=by
  unfold yD N2.rows;simp[NK,natOf,Function.comp_def];rfl
 have hnp:=wQ (N2.places (dN ns) n) (N2.rows (dN ns) n);rw[z]at hnp ⊢;generalize (((List.range n).map λ k:Nat=>D.int (k:Int)).map λ d=>D.tup (((List.range (natOf d)).map λ j=>(dN ns).sh (natOf d) j).map D.int))=R at *;rw[aA (aP hc (cI hpu))];have q1:aw G_Lplaces (ae (aa 0) (ae (aa 1) (ae (aa 2) ao))) [some (S ns),some (.int 1),some (.int n),some (.lst .own R)]=.ok (.lst .own ((M.places big ns 1 n).map D.int)):=fP (ds:=[S ns,.int 1,.int n]) (by simp[ae,ao,aa,D.view,Tg.view]) (by simpa[aG,D.ak] using hp) (by simp[au,D.az]);have q2:aa 3 [some (S ns),some (.int 1),some (.int n),some (.lst .own R)]=.ok (.lst .bor R):=eV rfl hpu;exact kN ((ig (aQ ((ig (cO q1)).trans rfl) (cO ((ig (cO q2)).trans rfl)))).trans (by simp[il])) (ck _ hnp)
def kt (k:Int×Int):KT:=.inr [.inl k.1,.inl k.2]
def Jr {a b:Int×Int}:kt a=kt b↔a=b:=by
 constructor
 ·intro h;cases a;cases b;simp only[kt,Sum.inr.injEq,List.cons.injEq,Sum.inl.injEq,and_true]at h;obtain⟨h1,h2⟩:=h;subst h1 h2;rfl
 ·intro h;rw[h]
def qX (ts:List N2.D0):List KT:=ts.map λ t=>kt (N2.uV t)
def qW (ts:List N2.D0):List D:=ts.map λ t=>D.int t.2.2
def Am (ts:List N2.D0):aI (qW ts)=true:=bo λ d m=>by obtain⟨t,_,rfl⟩:=Ni.mp m;rfl
def has_none {ts:List N2.D0}{k:Int×Int}(h:k∉ts.map N2.uV):pG (qX ts) (kt k)=false:=by
 unfold pG qX;rw[Qv];intro x hx z;obtain⟨t,ht,rfl⟩:=Ni.mp hx;exact h (Ni.mpr ⟨t,ht,Jr.mp (by simpa using z)⟩)
def JU (a b:Int):ff (.tup [.int a,.int b])=some (kt (a,b)):=rfl
def D8 {i:Nat}{fk fv:SD->Res D}{k:Bool}{ks:List KT}{dk:D}{q:KT}(hv:fv τ=.ok d)(ho:τ[i]?=some (some (.dct .own k ks xs)))(hk:fk τ=.ok dk)(hq:ff dk=some q)(hc:q.kind=k/\d.az=false/\ks.length<16777216)(hn:pG ks q=false) :
  fg i fk fv τ=.nx (τ.set i (some (.dct .own k (ks++[q]) (xs++[d])))):=by
 unfold fg;have e:cW τ i=some (.own,k,ks,xs):=by unfold cW;rw[ho];rfl
 rw[hv,ir,e];show(fk τ).i8 τ _=_;rw[hk,ir,hq];show(if q.kind=k/\d.az=false/\ks.length<16777216/\(pG ks q=true->d.pure=true) then _ else _)=_;rw[Nr ⟨hc.1,hc.2.1,hc.2.2,λ z=>absurd (hn.symm.trans z) Nd⟩];unfold j3 j0;rw[hn];rfl
def gx{x:D}{r:List D}{t:SD}(h1:tg x τ=some τ')(h2:body τ'=.nx t):bW tg body (x::r) τ=bW tg body r t:=by
 show(match tg x τ with|none=>Fl.bad|some τ'=>match body τ' with|.nx t=>bW tg body r t|.ct t=>bW tg body r t|.bk t=>.nx t|o=>o)=_;rw[h1];show(match body τ' with|.nx t=>bW tg body r t|.ct t=>bW tg body r t|.bk t=>Fl.nx t|o=>o)=_;rw[h2]
def uY{x:D}{r:List D}(h1:tg x τ=some τ')(h2:body τ'=.rt d):bW tg body (x::r) τ=.rt d:=by
 show(match tg x τ with|none=>Fl.bad|some τ'=>match body τ' with|.nx t=>bW tg body r t|.ct t=>bW tg body r t|.bk t=>.nx t|o=>o)=_;rw[h1];show(match body τ' with|.nx t=>bW tg body r t|.ct t=>bW tg body r t|.bk t=>Fl.nx t|o=>o)=_;rw[h2]
def D7 (b:Bool)(x:Int)(t:Tg)(qs:List Int):inD b (.int x) (.lst t (qs.map .int))=.ok (.bl (if b then !decide (x∈qs) else decide (x∈qs))):=by
 have h1:(qs.map D.int).all D.flat=true:=Qd.mpr λ d m=>by
  obtain⟨q,_,rfl⟩:=Ni.mp m;rfl
 have h2:lD (.int x) (qs.map D.int)=decide (x∈qs):=by
  unfold lD;rw[O0,Pr,Og];constructor
  ·rintro⟨y,hy,e⟩;obtain⟨z,hz,rfl⟩:=Ni.mp hy;have e:z=x:=by first|exact O8 e|exact eq_of_beq e|simpa[Ir] using e
   rw[<-e];exact hz
  ·intro h;exact⟨.int x,Ni.mpr ⟨x,h,rfl⟩,by first|exact NP rfl|exact RA x|simp[Ir]⟩
 show(if (D.int x).flat=true/\(qs.map D.int).all D.flat=true then Res.ok (D.bl (if b then !lD (.int x) (qs.map .int) else lD (.int x) (qs.map .int))) else .bad)=_;rw[Nr ⟨rfl,h1⟩,h2]
def jE{t:Tg}{qs:List Int}(h1:f τ=.ok (.int x))(h2:g τ=.ok (.lst t (qs.map .int))):eT (ah (inD true) f g) τ=.ok (!decide (x∈qs)):=pq ((bf h1 h2).trans (D7 true x t qs))
def D9{t:Tg}{qs:List Int}(h1:f τ=.ok (.int x))(h2:g τ=.ok (.lst t (qs.map .int))):eT (ah (inD false) f g) τ=.ok (decide (x∈qs)):=pq ((bf h1 h2).trans (D7 false x t qs))
def jd (f:Nat->Nat->Int)(k:Nat):List Int:=(List.range k).map λ j=>f k j
def tH (f:Nat->Nat->Int)(n:Nat):List (List Int):=(List.range n).map (jd f)
def nF (ps:List Int)(f:Nat->Nat->Int):D:=yD ps (tH f ps.length)
def aU (ps:List Int)(f:Nat->Nat->Int):(nF ps f).pure=true:=wQ _ _
abbrev aF (ps:List Int)(k:Nat):Int:=ps.getD k 0
def oK (ps:List Int)(f:Nat->Nat->Int)(k m:Nat):List N2.D0:=(List.range m).map λ j=>(aF ps k,aF ps j,f k j)
def di (ps:List Int)(f:Nat->Nat->Int):Nat->List N2.D0
 |0=>[]
 |n+1=>di ps f n++oK ps f n n
def BW (ps:List Int)(f:Nat->Nat->Int)(k m:Nat):oK ps f k (m+1)=oK ps f k m++[(aF ps k,aF ps m,f k m)]:=by
 unfold oK;rw[Qp,Nx];rfl
def wW (ps:List Int)(f:Nat->Nat->Int)(k m:Nat):(oK ps f k m).length=m:=by unfold oK;rw[M7,NO]
def tL (ps:List Int)(f:Nat->Nat->Int):∀ n,(di ps f n).length<=n*n
 |0=>Nm _
 | n+1=>by
  have:=tL ps f n;show(di ps f n++oK ps f n n).length<=_;rw[Nn,wW,Nat.add_mul,Nat.mul_add];omega
def ic(hs:ps.Pairwise (· < ·)){k:Nat}(h:j<k)(hk:k<ps.length):aF ps j<aF ps k:=by
 have:=OF.mp hs j k (by omega) hk h;unfold aF;rw[Nf,Nf,M9 hk,M9 (by omega)];exact this
def u0(h:b<a):N2.keyOf a b=(a,b):=by unfold N2.keyOf;rw[Nr h]
def tK {ps:List Int}{f:Nat->Nat->Int}{t:N2.D0}:∀ {n:Nat},t∈di ps f n↔∃ k j,j<k/\k<n/\t=(aF ps k,aF ps j,f k j)
 | 0=>by
  constructor
  ·intro h;cases h
  ·rintro⟨k,j,_,h,_⟩;omega
 | n+1=>by
  show t∈di ps f n++oK ps f n n↔_;rw[Nk,tK];constructor
  ·rintro (⟨k,j,h1,h2,e⟩|h)
   ·exact⟨k,j,h1,by omega,e⟩
   ·obtain⟨j,hj,e⟩:=Ni.mp h;exact⟨n,j,NC.mp hj,by omega,e.symm⟩
  ·rintro⟨k,j,h1,h2,e⟩;by_cases h:k=n
   ·subst h;exact .inr (Ni.mpr ⟨j,NC.mpr h1,e.symm⟩)
   ·exact .inl ⟨k,j,h1,by omega,e⟩
def Gk(hs:ps.Pairwise (· < ·))(f:Nat->Nat->Int){k:Nat}(hj:j<k)(hk:k<ps.length):N2.keyOf (aF ps k) (aF ps j)∉(di ps f k++oK ps f k j).map N2.uV:=by
 rw[u0 (ic hs hj hk)];intro h;obtain⟨t,ht,e⟩:=Ni.mp h;rcases Nk.mp ht with ht|ht
 ·obtain⟨k',j',h1,h2,rfl⟩:=tK.mp ht;unfold N2.uV at e;simp only at e;rw[u0 (ic hs h1 (by omega))]at e;have e1:aF ps k'=aF ps k:=OQ Prod.fst e;have:=ic hs h2 hk;omega
 ·obtain⟨j',hj',rfl⟩:=Ni.mp ht;have hj':=NC.mp hj';unfold N2.uV at e;simp only at e;rw[u0 (ic hs (RD hj' hj) hk)]at e;have e1:aF ps j'=aF ps j:=OQ Prod.snd e;have:=ic hs hj' (RD hj hk);omega
def u3{f:Nat->Nat->Int}{e:SD->Res D}(h:e τ=.ok (nF ps f)):ah cS e (eC (.int 0)) τ=.ok (.tup (ps.map .int)):=iL h (y:=.int 0) rfl (i6 (j:=0) rfl rfl)
def Lh{f:Nat->Nat->Int}{e:SD->Res D}(h:e τ=.ok (nF ps f)):ah cS e (eC (.int 1)) τ=.ok (.tup ((tH f ps.length).map λ r=>.tup (r.map .int))):=iL h (y:=.int 1) rfl (i6 (j:=1) rfl rfl)
def uZ(h:j<ps.length):(ps.map D.int)[j]?=some (.int (aF ps j)):=Ak h
def Ed {f:Nat->Nat->Int}{k:Nat}(h:k<n):((tH f n).map λ r=>D.tup (r.map .int))[k]?=some (.tup ((jd f k).map .int)):=by
 unfold tH;rw[NG,NG,Oi h];rfl
def Eb {f:Nat->Nat->Int}{k:Nat}(h:j<k):((jd f k).map D.int)[j]?=some (.int (f k j)):=by
 unfold jd;rw[NG,NG,Oi h];rfl
def ko (ps:List Int)(f:Nat->Nat->Int)(ts:List N2.D0)(a b c d:Option D):SD:=[some (nF ps f),some (.dct .own true (qX ts) (qW ts)),a,b,c,d]
def Gi{f:Nat->Nat->Int}{ts:List N2.D0}{y z:Int}{b:Option D}(hk:N2.keyOf x y∉ts.map N2.uV)(hl:ts.length<=1000) :
  fB (ko ps f ts (some (.int x)) b (some (.int y)) (some (.int z)))=.nx (ko ps f (ts++[(x,y,z)]) (some (.int x)) b (some (.int y)) (some (.int z))):=by
 unfold fB;have c2:aw uQ (ae (aa 2) (ae (aa 4) ao)) (ko ps f ts (some (.int x)) b (some (.int y)) (some (.int z)))=.ok (.tup [.int (N2.keyOf x y).1,.int (N2.keyOf x y).2]):=fP (ds:=[.int x,.int y]) (aQ rfl (cO rfl)) (Gd x y) rfl;rw[D8 (d:=.int z) (q:=kt (N2.keyOf x y)) (k:=true) (ks:=qX ts) (xs:=qW ts) rfl rfl c2 rfl ⟨rfl,rfl,by unfold qX;rw[M7];omega⟩ (has_none hk)];unfold ko qX qW;rw[Nx,Nx];rfl
def Gh{f:Nat->Nat->Int}{k:Nat}(hk:k<=ps.length):lT (ps.map D.int) ((jd f k).map D.int)=(List.range k).map λ j=>D.tup [.int (aF ps j),.int (f k j)]:=by
 refine OA λ i=>?_;by_cases h:i<k
 ·rw[NG,Oi h];unfold lT;rw[QD,uZ (by omega),Eb h];rfl
 ·rw[Oa (by rw[uF,M7,M7];unfold jd;rw[M7,NO];omega),Oa (by rw[M7,NO];omega)]
def zip_rows{f:Nat->Nat->Int}:lT (ps.map D.int) ((tH f ps.length).map λ r=>.tup (r.map .int))=(List.range ps.length).map λ k=>D.tup [.int (aF ps k),.tup ((jd f k).map .int)]:=by
 refine OA λ i=>?_;by_cases h:i<ps.length
 ·rw[NG,Oi h];unfold lT;rw[QD,uZ h,Ed h];rfl
 ·rw[Oa (by rw[uF,M7,M7];omega),Oa (by rw[M7,NO];omega)]
def Gg{f:Nat->Nat->Int}(k:Nat):aI ((List.range k).map λ j=>D.tup [.int (aF ps j),.int (f k j)])=true:=bo λ d m=>by
 obtain⟨j,_,rfl⟩:=Ni.mp m;rfl
def Ec{f:Nat->Nat->Int}(n:Nat):aI ((List.range n).map λ k=>D.tup [.int (aF ps k),.tup ((jd f k).map .int)])=true:=bo λ d m=>by
 obtain⟨k,_,rfl⟩:=Ni.mp m;show(true&&((aI ((jd f k).map .int))&&true))=true;rw[af];rfl
def Ea{ys:List D}{x y:D}(h1:f τ=.ok x)(h2:g τ=.ok y)(hx:bH x=.ok (false,xs))(hy:bH y=.ok (false,ys)):uG (ae f (ae g ao)) τ=.ok (false,lT xs ys):=by
 unfold uG;rw[aQ h1 (cO h2),Res.aH];show((bH x).bind λ p=>(bH y).bind λ q=>Res.ok (p.1||q.1,lT p.2 q.2))=_;rw[hx,Res.aH,hy,Res.aH];rfl
def n6(h:aI xs=true):bH (.tup xs)=.ok (false,xs):=by
 show Res.ok (au xs,xs)=_;rw[bM _ h]
def Gj {t:Tg}(ht:t=.ak\/t=.own)(h:aI xs=true):bH (.lst t xs)=.ok (false,xs):=by
 show Res.ok ((D.lst t xs).az,xs)=_;rcases ht with rfl|rfl
 ·show Res.ok ((false||au xs),xs)=_;rw[bM _ h];rfl
 ·rw[cI h]
def jc {zs:List Nat}{it:SD->Res (Bool×List D)}(h1:b9 zs τ=τ')(h2:it τ'=.ok (false,ds))(h3:aI ds=true):b6 zs it tg body τ=bW tg body ds τ':=by
 unfold b6;rw[h1,h2];show bW tg body (aG ds) τ'=_;rw[dO _ h3]
def Js{f:Nat->Nat->Int}(hs:ps.Pairwise (· < ·))(hl:ps.length<=24){k:Nat}(hk:k<ps.length)(c d:Option D) :
  ∃ c' d',dJ (ko ps f (di ps f k) (some (.int (aF ps k))) (some (.tup ((jd f k).map .int))) c d)=.nx (ko ps f (di ps f (k+1)) (some (.int (aF ps k))) (some (.tup ((jd f k).map .int))) c' d'):=by
 have tl:=tL ps f k;have kk:k*k<=576:=Nat.mul_le_mul (show k<=24 by omega) (show k<=24 by omega);have v0:aa 0 (ko ps f (di ps f k) (some (.int (aF ps k))) (some (.tup ((jd f k).map .int))) c d)=.ok (nF ps f):=dI rfl (aU _ _);have v3:aa 3 (ko ps f (di ps f k) (some (.int (aF ps k))) (some (.tup ((jd f k).map .int))) c d)=.ok (.tup ((jd f k).map .int)):=dI rfl (af _);obtain⟨t,h1,c',d',h2⟩:=gG (tg:=gT 2 (bz 4 (bz 5 dG))) (body:=fB) (λ i t=>∃ c' d',t=ko ps f (di ps f k++oK ps f k i) (some (.int (aF ps k))) (some (.tup ((jd f k).map .int))) c' d') (ds:=(List.range k).map λ j=>D.tup [.int (aF ps j),.int (f k j)]) 0 (ko ps f (di ps f k) (some (.int (aF ps k))) (some (.tup ((jd f k).map .int))) c d) ⟨c,d,by rw[show oK ps f k 0=[] from rfl,NX]⟩ (λ j x t hx hp=>by
  obtain⟨c1,d1,rfl⟩:=hp;rw[OW];have hj:j<k:=by
   have:=(Ng.mp hx).1;simpa using this
  rw[NG,Oi hj]at hx;cases hx;refine⟨_,_,rfl,.inl (Gi (ts:=di ps f k++oK ps f k j) (Gk hs f hj hk) (by rw[Nn,wW];omega)),some (.int (aF ps j)),some (.int (f k j)),?_⟩;rw[BW,NT])
 rw[M7,NO,OW]at h2;refine⟨c',d',?_⟩;unfold dJ;rw[jc (τ':=ko ps f (di ps f k) (some (.int (aF ps k))) (some (.tup ((jd f k).map .int))) c d) (ds:=(List.range k).map λ j=>D.tup [.int (aF ps j),.int (f k j)]) ?_ ?_ (Gg k),h1,h2]
 ·rfl
 ·show [some (nF ps f).ak,_,_,some (D.tup ((jd f k).map .int)).ak,c,d]=_;rw[bL _ (aU _ _),bL _ (show(D.tup ((jd f k).map .int)).pure=true from af _)];rfl
 ·rw[Ea (u3 v0) v3 (n6 (af _)) (n6 (af _)),Gh (by omega)]
def yI{f:Nat->Nat->Int}(hs:ps.Pairwise (· < ·))(hl:ps.length<=24):dD [nF ps f]=.ok (.dct .own true (qX (di ps f ps.length)) (qW (di ps f ps.length))):=by
 have v0:aa 0 (ko ps f [] none none none none)=.ok (nF ps f):=dI rfl (aU _ _);obtain⟨t,h1,a,b,c',d',h2⟩:=gG (tg:=gT 2 (bz 2 (bz 3 dG))) (body:=dJ) (λ i t=>∃ a b c d,t=ko ps f (di ps f i) a b c d) (ds:=(List.range ps.length).map λ k=>D.tup [.int (aF ps k),.tup ((jd f k).map .int)]) 0 (ko ps f [] none none none none) ⟨none,none,none,none,rfl⟩ (λ k x t hx hp=>by
  obtain⟨a,b,c1,d1,rfl⟩:=hp;rw[OW];have hk:k<ps.length:=by
   have:=(Ng.mp hx).1;simpa using this
  rw[NG,Oi hk]at hx;cases hx;obtain⟨c',d',e⟩:=Js (f:=f) hs hl hk c1 d1;exact⟨_,_,rfl,.inl e,_,_,c',d',rfl⟩)
 rw[M7,NO,OW]at h2;have hf:b6 [0] (uG (ae (ah cS (aa 0) (eC (.int 0))) (ae (ah cS (aa 0) (eC (.int 1))) ao))) (gT 2 (bz 2 (bz 3 dG))) dJ (ko ps f [] none none none none)=.nx (ko ps f (di ps f ps.length) a b c' d'):=by
  rw[jc (τ':=ko ps f [] none none none none) (ds:=(List.range ps.length).map λ k=>D.tup [.int (aF ps k),.tup ((jd f k).map .int)]) ?_ ?_ (Ec _),h1,h2]
  ·show [some (nF ps f).ak,_,_,_,_,_]=_;rw[bL _ (aU _ _)];rfl
  ·rw[Ea (u3 v0) (Lh v0) (n6 (af _)) (n6 (tG _)),zip_rows]
 refine cJ (τ:=[some (nF ps f),none,none,none,none,none]) rfl rfl ?_;unfold jV;rw[aA (aP (d:=.dct .own true [] []) rfl rfl)];show aC _ _ (ko ps f [] none none none none)=_;rw[aA hf];rfl
end KL
namespace PG
variable {O:List Nat}{f n q:Nat}
variable (c:Nat->Nat->Int)
def bc (n:Nat)(T:List Nat):Prop:=∀ k,k<n->k∉T->∀ i∈T,∀ j∈T,c k i=c k j
def Valid (n f:Nat):List Nat->List (Nat×Nat)->Prop
 |_,[]=>True
 |th,x::r=>(x.1<n/\x.1∉th/\x.2∈th/\c x.1 x.2≠c x.1 f)/\Valid n f (th++[x.1]) r
variable {c}
def Valid.append {n f:Nat}:∀ {a b:List (Nat×Nat)}{th:List Nat},Valid c n f th a->Valid c n f (th++a.map (·.1)) b->Valid c n f th (a++b)
 |[],b,th,_,h=>by simpa using h
 |x::r,b,th,h,h'=>⟨h.1,Valid.append h.2 (by simpa using h')⟩
def Valid.many {n f q:Nat}:∀ {cK:List Nat}{th:List Nat},cK.Nodup->(∀ p∈cK,p<n/\p∉th/\c p q≠c p f)->q∈th->Valid c n f th (cK.map λ p=>(p,q))
 |[],th,_,_,_=>trivial
 | p::r,th,nd,h,hq=>by
  have hp:=h p Na;have nd':=Nv.mp nd;refine⟨⟨hp.1,hp.2.1,hq,hp.2.2⟩,Valid.many nd'.2 (λ x hx=>?_) (Nt _ hq)⟩;have hx':=h x (Nb _ hx);refine⟨hx'.1,λ m=>?_,hx'.2.2⟩;rcases Nk.mp m with m|m
  ·exact hx'.2.1 m
  ·have e:x=p:=by simpa using m
   exact nd'.1 (e▸hx)
def Valid.least {n f:Nat}{T:List Nat}(hT:bc c n T)(hf:f∈T):∀ {a:List (Nat×Nat)}{th:List Nat},Valid c n f th a->(∀ x∈th,x∈T)->∀ x∈a,x.1∈T
 |[],th,_,_,x,hx=>by cases hx
 | y::r,th,h,hs,x,hx=>by
  obtain⟨⟨h1,h2,h3,h4⟩,h5⟩:=h;have hy:y.1∈T:=Od λ z=>h4 (hT y.1 h1 z _ (hs _ h3) _ hf);rcases Nq.mp hx with e|e
  ·rw[e];exact hy
  ·refine Valid.least hT hf h5 (λ u hu=>?_) x e;rcases Nk.mp hu with m|m
   ·exact hs u m
   ·have e:u=y.1:=by simpa using m
    rw[e];exact hy
def Valid.nodup {n f:Nat}:∀ {a:List (Nat×Nat)}{th:List Nat},Valid c n f th a->th.Nodup->(th++a.map (·.1)).Nodup
 |[],th,_,h=>by simpa using h
 | y::r,th,h,nd=>by
  have ih:=Valid.nodup h.2 (Np.mpr ⟨nd,by simp,λ a ha b hb e=>by
   have e2:b=y.1:=by simpa using hb
   exact h.1.2.1 (e2▸e▸ha)⟩)
  simpa using ih
def Valid.bound {n f:Nat}:∀ {a:List (Nat×Nat)}{th:List Nat},Valid c n f th a->∀ x∈a,x.1<n
 | y::r,th,h,x,hx=>by
  rcases Nq.mp hx with e|e
  ·rw[e];exact h.1.1
  ·exact Valid.bound h.2 x e
abbrev gr (ms:List Nat)(Pl:List (Nat×Nat)):List Nat:=ms++Pl.map (·.1)
structure St (c:Nat->Nat->Int)(n f:Nat)(ms O W:List Nat)(Pl:List (Nat×Nat)):Prop where
 out:∀ p,p∈O↔p<n/\p∉gr ms Pl
 nd:O.Nodup
 wait:∀ w∈W,w∈gr ms Pl
 done:∀ m∈gr ms Pl,m∉W->∀ p∈O,c p m=c p f
 val:Valid c n f ms Pl
def mq (n:Nat)(ms:List Nat):List Nat:=(List.range n).filter λ p=>!decide (p∈ms)
def St.init (c:Nat->Nat->Int)(n f:Nat)(rest:List Nat):St c n f (f::rest) (mq n (f::rest)) rest [] where
 out:=λ p=>by simp[mq,gr]
 nd:=List.nodup_range.filter _
 wait:=λ w h=>by simp[gr,h]
 done:=λ m h n p _=>by
  have:m=f:=by simpa[gr,n] using h
  rw[this]
 val:=trivial
def cK (c:Nat->Nat->Int)(f q:Nat)(O:List Nat):List Nat:=O.filter λ p=>!decide (c p q=c p f)
def left (c:Nat->Nat->Int)(f q:Nat)(O:List Nat):List Nat:=O.filter λ p=>!decide (p∈cK c f q O)
def jF {p:Nat}:p∈cK c f q O↔p∈O/\c p q≠c p f:=by simp[cK]
def wX {p:Nat}:p∈left c f q O↔p∈O/\c p q=c p f:=by
 unfold left;rw[NF];simp only[QA,PY,jF];constructor
 ·intro⟨h1,h2⟩;exact⟨h1,Od λ z=>h2 ⟨h1,z⟩⟩
 ·intro⟨h1,h2⟩;exact⟨h1,λ z=>z.2 h2⟩
def qY {α:Type}(p:α->Bool):∀ l:List α,(l.filter p).length+(l.filter λ x=>!p x).length=l.length
 |[]=>rfl
 | x::r=>by
  have ih:=qY p r;cases h:p x<;>simp[List.filter,h]<;>omega
def Ef (f q:Nat)(O:List Nat):(cK c f q O).length+(left c f q O).length=O.length:=by
 have e:left c f q O=O.filter λ p=>!(!decide (c p q=c p f)):=by
  unfold left;refine List.filter_congr λ p hp=>?_
  congr 1
  rw[O0];simp[jF,hp]
 rw[e];exact qY _ O
def St.step{ms W:List Nat}{Pl:List (Nat×Nat)}(h:St c n f ms O (W++[q]) Pl):St c n f ms (left c f q O) (W++cK c f q O) (Pl++(cK c f q O).map λ p=>(p,q)):=by
 have hm:∀ x,x∈gr ms (Pl++(cK c f q O).map λ p=>(p,q))↔x∈gr ms Pl\/x∈cK c f q O:=by
  intro x;simp only[gr,Nx,NK,Nk];have:List.map ((λ x:Nat×Nat=>x.1)∘λ p=>(p,q)) (cK c f q O)=cK c f q O:=by
   show List.map (λ p=>p) _=_;simp
  rw[this];constructor
  ·rintro (h|h|h)
   ·exact .inl (.inl h)
   ·exact .inl (.inr h)
   ·exact .inr h
  ·rintro ((h|h)|h)
   ·exact .inl h
   ·exact .inr (.inl h)
   ·exact .inr (.inr h)
 refine⟨λ p=>?_,h.nd.filter _,λ w hw=>?_,λ m h1 h2 p hp=>?_,Valid.append h.val (Valid.many (h.nd.filter _) (λ p hp=>?_) (h.wait q (by simp)))⟩
 ·rw[wX,hm,h.out];constructor
  ·rintro⟨⟨a,b⟩,e⟩;refine⟨a,λ z=>z.elim b λ z=>(jF.mp z).2 e⟩
  ·rintro⟨a,b⟩;have b1:p∉gr ms Pl:=λ z=>b (.inl z);exact⟨⟨a,b1⟩,Od λ z=>b (.inr (jF.mpr ⟨(h.out p).mpr ⟨a,b1⟩,z⟩))⟩
 ·rw[hm];rcases Nk.mp hw with x|x
  ·exact .inl (h.wait w (Nt _ x))
  ·exact .inr x
 ·rw[wX]at hp;have h2a:m∉W:=λ z=>h2 (Nt _ z);have h2b:m∉cK c f q O:=λ z=>h2 (Nz _ z);have h1':=((hm m).mp h1).resolve_right h2b;by_cases e:m=q
  ·rw[e];exact hp.2
  ·exact h.done m h1' (λ z=>(Nk.mp z).elim h2a λ z=>e (by simpa using z)) p hp.1
 ·have:=jF.mp hp;have ho:=(h.out p).mp this.1;exact⟨ho.1,ho.2,this.2⟩
def St.closed{ms:List Nat}{Pl:List (Nat×Nat)}(h:St c n f ms O [] Pl):bc c n (gr ms Pl):=λ k hk hn i hi j hj=>by
 have ho:=(h.out k).mpr ⟨hk,hn⟩;rw[h.done i hi (by simp) k ho,h.done j hj (by simp) k ho]
def tN:∀ {l m:List Nat},l.Nodup->(∀ x∈l,x∈m)->l.length<=m.length
 |[],m,_,_=>OD _
 | x::r,m,nd,h=>by
  have nd':=Nv.mp nd;have hx:=h x Na;have ih:=tN (l:=r) (m:=m.erase x) nd'.2 λ y hy=>by
   have hne:y≠x:=λ e=>nd'.1 (e▸hy);exact(QT hne).mpr (h y (Nb _ hy))
  rw[List.length_erase_of_mem hx]at ih;have:0<m.length:=List.length_pos_of_mem hx;simp only[Ny];omega
def dj {l:List Nat}(nd:l.Nodup)(h:∀ x∈l,x<n):l.length<=n:=by
 have:=tN nd (m:=List.range n) λ x hx=>NC.mpr (h x hx);simpa using this
end PG
namespace KL
open DL
variable {xs:List D}{ps:List Int}{i j:Nat}{f:Nat->Nat->Int}{τ:SD}{α:Type}
def kI (p:Int):KT:=.inl (.inl p)
def oN {a b:Int}:kI a=kI b↔a=b:=by
 constructor
 ·intro h;exact PZ (PZ h)
 ·intro h;rw[h]
def gf {α:Type}(P:α->Int)(g:α->D)(k:α):∀ (l:List α),k∈l->(∀ a∈l,P a=P k->a=k)->d8 (l.map λ a=>kI (P a)) (l.map g) (kI (P k))=some (g k)
 | a::l,h,inj=>by
  rw[ND,ND,d8];by_cases e:P a=P k
  ·rw[Nr (oN.mpr e),inj a Na e]
  ·rw[Nu λ z=>e (oN.mp z)];rcases Nq.mp h with z|z
   ·exact absurd (z▸rfl) e
   ·exact gf P g k l z λ b hb=>inj b (Nb _ hb)
def oO {α:Type}[DecidableEq α](P:α->Int)(g:α->D)(k:α)(x:D):∀ (l:List α),l.Nodup->(∀ a∈l,P a=P k->a=k)->jz (l.map λ a=>kI (P a)) (l.map g) (kI (P k)) x=l.map λ a=>if a=k then x else g a
 |[],_,_=>rfl
 | a::l,nd,inj=>by
  have nd':=Nv.mp nd;rw[ND,ND,jz,ND];by_cases e:P a=P k
  ·have ea:=inj a Na e;rw[Nr (oN.mpr e),Nr ea]
   congr 1
   refine NJ λ b hb=>?_;rw[Nu λ z=>nd'.1 (by rw[ea,<-z];exact hb)]
  ·rw[Nu λ z=>e (oN.mp z),Nu λ z=>e (by rw[z]),oO P g k x l nd'.2 λ b hb=>inj b (Nb _ hb)]
def u4(P:α->Int)(l:List α)(q:Int)(h:∀ a∈l,P a≠q):pG (l.map λ a=>kI (P a)) (kI q)=false:=by
 unfold pG;rw[Qv];intro k hk;obtain⟨a,ha,rfl⟩:=Ni.mp hk;simp only[Og];exact λ z=>h a ha (oN.mp z)
def ent (f:Nat->Nat->Int)(i:Nat)(pr:List (Nat×Nat)):List (Nat×Int):=pr.flatMap λ t=>if i=t.1 then [(t.2,f t.1 t.2)] else if i=t.2 then [(t.1,f t.1 t.2)] else []
def Ei (f:Nat->Nat->Int)(i:Nat)(pr:List (Nat×Nat))(k j:Nat):ent f i (pr++[(k,j)])=ent f i pr++(if i=k then [(j,f k j)] else if i=j then [(k,f k j)] else []):=by
 unfold ent;rw[List.flatMap_append];simp
def pS{pr:List (Nat×Nat)}{x:Nat×Int}(h:x∈ent f i pr):∃ t∈pr,(i=t.1/\x=(t.2,f t.1 t.2))\/(i=t.2/\x=(t.1,f t.1 t.2)):=by
 unfold ent at h;obtain⟨t,ht,hx⟩:=RB.mp h;refine⟨t,ht,?_⟩;split at hx
 ·rename_i e;exact .inl ⟨e,by simpa using hx⟩
 ·split at hx
  ·rename_i e;exact .inr ⟨e,by simpa using hx⟩
  ·cases hx
def jL:Nat->List (Nat×Nat)
 |0=>[]
 |n+1=>jL n++(List.range n).map λ j=>(n,j)
def iX {t:Nat×Nat}:∀ {n:Nat},t∈jL n↔t.2<t.1/\t.1<n
 | 0=>by
  constructor
  ·intro h;cases h
  ·intro h;omega
 | n+1=>by
  show t∈jL n++_↔_;rw[Nk,iX,Ni];constructor
  ·rintro (h|⟨j,hj,rfl⟩)
   ·exact⟨h.1,by omega⟩
   ·exact⟨NC.mp hj,QL _⟩
  ·rintro⟨h1,h2⟩;by_cases e:t.1=n
   ·refine .inr ⟨t.2,NC.mpr (by omega),?_⟩;rw[<-e]
   ·exact .inl ⟨h1,by omega⟩
def tO:∀ n:Nat,(jL n).Nodup
 |0=>OG
 | n+1=>by
  show(jL n++_).Nodup;refine Np.mpr ⟨tO n,?_,λ a ha b hb e=>?_⟩
  ·refine Rt _ (λ a b h z=>h (OQ Prod.snd z)) Pq
  ·have h1:=iX.mp ha;obtain⟨j,_,rfl⟩:=Ni.mp hb;rw[e]at h1;exact absurd h1.2 (Ot _)
def w4 (ps:List Int)(f:Nat->Nat->Int):∀ n:Nat,di ps f n=(jL n).map λ t=>(aF ps t.1,aF ps t.2,f t.1 t.2)
 |0=>rfl
 | n+1=>by
  show di ps f n++oK ps f n n=(jL n++_).map _;rw[Nx,w4 ps f n,NK];rfl
def cc (f:Nat->Nat->Int)(i j:Nat):Int:=f (max i j) (min i j)
def Hl{k:Nat}(h:j<k):cc f k j=f k j:=by
 unfold cc;rw[RI (by omega),Nat.min_eq_right (by omega)]
def Hn{k:Nat}(h:j<k):cc f j k=f k j:=by
 unfold cc;rw[Nat.max_eq_right (by omega),RH (by omega)]
def u6{n:Nat}{x:Nat×Int}(h:x∈ent f i (jL n)):x.2=cc f i x.1/\x.1<n/\x.1≠i:=by
 obtain⟨t,ht,⟨rfl,rfl⟩|⟨rfl,rfl⟩⟩:=pS h
 ·have:=iX.mp ht;exact⟨(Hl this.1).symm,by omega,by omega⟩
 ·have:=iX.mp ht;exact⟨(Hn this.1).symm,by omega,by omega⟩
def Ao{n:Nat}(hi:i<n)(hj:j<n)(hn:i≠j):(j,cc f i j)∈ent f i (jL n):=by
 unfold ent;by_cases h:j<i
 ·refine RB.mpr ⟨(i,j),iX.mpr ⟨h,hi⟩,?_⟩;rw[Nr rfl,Hl h];exact NY.mpr rfl
 ·have h':i<j:=by omega
  refine RB.mpr ⟨(j,i),iX.mpr ⟨h',hj⟩,?_⟩;rw[Nu hn,Nr rfl,Hn h'];exact NY.mpr rfl
def fm (t:Tg)(ps:List Int)(e:List (Nat×Int)):D:=.dct t false (e.map λ x=>kI (aF ps x.1)) (e.map λ x=>.int x.2)
def pK (t:Tg)(ps:List Int)(m:Nat)(g:Nat->List (Nat×Int)):D:=.dct t false ((List.range m).map λ i=>kI (aF ps i)) ((List.range m).map λ i=>fm t ps (g i))
def gy(hs:ps.Pairwise (· < ·)){k:Nat}(hj:j<ps.length)(hk:k<ps.length)(h:aF ps j=aF ps k):j=k:=by
 rcases OO j k with z|z|z
 ·have:=ic hs z hk;omega
 ·exact z
 ·have:=ic hs z hj;omega
def je (ps:List Int)(f:Nat->Nat->Int)(m:Nat)(g:Nat->List (Nat×Int))(a b c:Option D):SD:=[some (nF ps f),some (pK .own ps m g),a,b,c]
section
def Ej{f1 fk fv:SD->Res D}{t:Tg}{ks ks2:List KT}{ys:List D}{d d1 dk:D}{q1 q:L2.Key}(hv:fv τ=.ok d)(ho:cW τ i=some (t,false,ks,xs))(h1:f1 τ=.ok d1)(hq1:ff d1=some (.inl q1))(hl:d8 ks xs (.inl q1)=some (.dct .own false ks2 ys))(hk:fk τ=.ok dk)(hq:ff dk=some (.inl q))(hc:d.pure=true/\ks2.length<16777216) :
  oG i f1 fk fv τ=.nx (τ.set i (some (.dct t false ks (jz ks xs (.inl q1) (.dct .own false (j3 ks2 (.inl q)) (j0 ks2 ys (.inl q) d)))))):=by
 unfold oG;rw[hv,ir,ho];simp only[h1,ir,hq1,hl,hk,hq];rw[Nr hc]
def put2 {g:Nat->List (Nat×Int)}{a b c:Option D}{k:Nat}{v:Int}{f1 fk fv:SD->Res D}(hs:ps.Pairwise (· < ·))(hk:k<ps.length)(h:∀ x∈g k,aF ps x.1≠aF ps j)(hl:(g k).length<=1000)
  (h1:f1 (je ps f ps.length g a b c)=.ok (.int (aF ps k))) (h2:fk (je ps f ps.length g a b c)=.ok (.int (aF ps j))) (h3:fv (je ps f ps.length g a b c)=.ok (.int v)) :
  oG 1 f1 fk fv (je ps f ps.length g a b c)=.nx (je ps f ps.length (λ i=>if i=k then g k++[(j,v)] else g i) a b c):=by
 have inj:∀ i∈List.range ps.length,aF ps i=aF ps k->i=k:=λ i hi e=>gy hs (NC.mp hi) hk e;have lk:=gf (aF ps) (λ i=>fm .own ps (g i)) k (List.range ps.length) (NC.mpr hk) inj;have rp:=oO (aF ps) (λ i=>fm .own ps (g i)) k (fm .own ps (g k++[(j,v)])) (List.range ps.length) Pq inj;have hk1:j3 ((g k).map λ x=>kI (aF ps x.1)) (kI (aF ps j))=(g k++[(j,v)]).map λ x=>kI (aF ps x.1):=by
  unfold j3;rw[u4 (λ x:Nat×Int=>aF ps x.1) (g k) (aF ps j) h,Nu Nd,Nx];rfl
 have hk2:j0 ((g k).map λ x=>kI (aF ps x.1)) ((g k).map λ x=>D.int x.2) (kI (aF ps j)) (.int v)=(g k++[(j,v)]).map λ x=>D.int x.2:=by
  unfold j0;rw[u4 (λ x:Nat×Int=>aF ps x.1) (g k) (aF ps j) h,Nu Nd,Nx];rfl
 rw[Ej (t:=.own) (ks:=(List.range ps.length).map λ i=>kI (aF ps i)) (xs:=(List.range ps.length).map λ i=>fm .own ps (g i)) (d:=.int v) (d1:=.int (aF ps k)) (dk:=.int (aF ps j)) (q1:=.inl (aF ps k)) (q:=.inl (aF ps j)) (ks2:=(g k).map λ x:Nat×Int=>kI (aF ps x.1)) (ys:=(g k).map λ x:Nat×Int=>D.int x.2) h3 rfl h1 rfl lk h2 rfl ⟨rfl,by rw[M7];omega⟩];rw[show(Sum.inl (Sum.inl (aF ps j)):KT)=kI (aF ps j) from rfl,show(Sum.inl (Sum.inl (aF ps k)):KT)=kI (aF ps k) from rfl,hk1,hk2];show Fl.nx [_,some (.dct .own false _ (jz _ _ _ (fm .own ps (g k++[(j,v)])))),_,_,_]=_;rw[rp];have em:((List.range ps.length).map λ a=>if a=k then fm .own ps (g k++[(j,v)]) else fm .own ps (g a))=(List.range ps.length).map λ i=>fm .own ps (if i=k then g k++[(j,v)] else g i):=NJ λ i _=>by split<;>rfl
 rw[em];rfl
abbrev Mv (ps:List Int)(f:Nat->Nat->Int)(t:Nat×Nat):D:=.tup [.tup [.int (aF ps t.1),.int (aF ps t.2)],.int (f t.1 t.2)]
def Gn {pr:List (Nat×Nat)}{a:Option D}{k:Nat}(hs:ps.Pairwise (· < ·))(hj:j<k)(hk:k<ps.length)(hb:∀ t∈pr,t.2<t.1/\t.1<ps.length)(hn:(k,j)∉pr)(hl:∀ i,(ent f i pr).length<=999) :
  d9 (je ps f ps.length (λ i=>ent f i pr) a (some (.tup [.int (aF ps k),.int (aF ps j)])) (some (.int (f k j))))=.nx (je ps f ps.length (λ i=>ent f i (pr++[(k,j)])) a (some (.tup [.int (aF ps k),.int (aF ps j)])) (some (.int (f k j)))):=by
 have bnd:∀ i,∀ x∈ent f i pr,x.1<ps.length:=λ i x hx=>by
  obtain⟨t,ht,⟨_,rfl⟩|⟨_,rfl⟩⟩:=pS hx
  ·have:=hb t ht;show t.2<_;omega
  ·exact(hb t ht).2
 have n1:∀ x∈ent f k pr,aF ps x.1≠aF ps j:=λ x hx z=>by
  have e:=gy hs (bnd k x hx) (by omega) z;obtain⟨t,ht,⟨e1,rfl⟩|⟨e1,rfl⟩⟩:=pS hx
  ·have:t=(k,j):=Prod.ext e1.symm e;exact hn (this▸ht)
  ·have:=(hb t ht).1;have e:t.1=j:=e;omega
 have n2:∀ x∈ent f j pr,aF ps x.1≠aF ps k:=λ x hx z=>by
  have e:=gy hs (bnd j x hx) hk z;obtain⟨t,ht,⟨e1,rfl⟩|⟨e1,rfl⟩⟩:=pS hx
  ·have:=(hb t ht).1;have e:t.2=k:=e;omega
  ·have:t=(k,j):=Prod.ext e e1.symm;exact hn (this▸ht)
 unfold d9;rw[aA (put2 (g:=λ i=>ent f i pr) (k:=k) (j:=j) (v:=f k j) hs hk n1 (by have:=hl k;omega) rfl rfl rfl)];have hjk:j≠k:=by omega
 rw[put2 (g:=λ i=>if i=k then ent f k pr++[(j,f k j)] else ent f i pr) (k:=j) (j:=k) (v:=f k j) hs (by omega) (by simp only[Nu hjk];exact n2) (by simp only[Nu hjk];have:=hl j;omega) rfl rfl rfl]
 congr 2
 funext i;rw[Ei];by_cases h1:i=j
 ·subst h1;rw[Nr rfl,Nu hjk,Nu hjk,Nr rfl]
 ·rw[Nu h1];by_cases h2:i=k
  ·subst h2;rw[Nr rfl,Nr rfl]
  ·rw[Nu h2,Nu h2,Nu h1,NX]
def Aq (f:Nat->Nat->Int)(i:Nat):∀ pr:List (Nat×Nat),(ent f i pr).length<=pr.length
 |[]=>Nm _
 | t::r=>by
  have:=Aq f i r;unfold ent at this ⊢;rw[List.flatMap_cons,Nn,Ny];split
  ·simp only[Ny,Ob];omega
  ·split
   ·simp only[Ny,Ob];omega
   ·simp only[Ob];omega
def As:∀ n:Nat,(jL n).length<=n*n
 |0=>Nm _
 | n+1=>by
  have:=As n;show(jL n++_).length<=_;rw[Nn,M7,NO,Nat.add_mul,Nat.mul_add];omega
def An (hs:ps.Pairwise (· < ·))(hl:ps.length<=24)(a:Option D):∀ (r pr:List (Nat×Nat)) (b c:Option D),pr++r=jL ps.length->∃ b' c',bW (gT 2 (bz 3 (bz 4 dG))) d9 (r.map (Mv ps f)) (je ps f ps.length (λ i=>ent f i pr) a b c)=.nx (je ps f ps.length (λ i=>ent f i (jL ps.length)) a b' c')
 | [],pr,b,c,e=>by
  rw[NX]at e;subst e;exact⟨b,c,rfl⟩
 | t::r,pr,b,c,e=>by
  have nd:=tO ps.length;have hm:∀ x∈pr++t::r,x.2<x.1/\x.1<ps.length:=λ x hx=>iX.mp (e▸hx);have hn:t∉pr:=λ z=>by
   rw[<-e,Np]at nd;exact nd.2.2 t z t Na rfl
  have ht:=hm t (by simp);have hlen:∀ i,(ent f i pr).length<=999:=λ i=>by
   have h1:=Aq f i pr;have h2:=As ps.length;rw[<-e,Nn]at h2;have h3:ps.length*ps.length<=576:=Nat.mul_le_mul (show ps.length<=24 by omega) (show ps.length<=24 by omega);omega
  have st:=Gn (f:=f) (pr:=pr) (a:=a) (k:=t.1) (j:=t.2) hs ht.1 ht.2 (λ x hx=>hm x (Nt _ hx)) hn hlen;obtain⟨b',c',ih⟩:=An hs hl a r (pr++[t]) (some (.tup [.int (aF ps t.1),.int (aF ps t.2)])) (some (.int (f t.1 t.2))) (by rw[NT];exact e);refine⟨b',c',?_⟩;rw[ND,gx (τ':=je ps f ps.length (λ i=>ent f i pr) a (some (.tup [.int (aF ps t.1),.int (aF ps t.2)])) (some (.int (f t.1 t.2)))) rfl st];exact ih
def qZ:∀ ts:List N2.D0,gQ (qX ts) (qW ts)=ts.map λ t=>.tup [.tup [.int (N2.uV t).1,.int (N2.uV t).2],.int t.2.2]
 |[]=>rfl
 | t::r=>by
  show D.tup [Ab (kt (N2.uV t)),.int t.2.2]::gQ (qX r) (qW r)=_;rw[qZ r];rfl
def Eg(hs:ps.Pairwise (· < ·))(hl:ps.length<=24)(h0:τ[0]?=some (some (nF ps f))):kP (aw dD (ae (aa 0) ao)) τ=.ok (false,(jL ps.length).map (Mv ps f)):=by
 have hc:aw dD (ae (aa 0) ao) τ=.ok (.dct .own true (qX (di ps f ps.length)) (qW (di ps f ps.length))):=
  fP (ds:=[nF ps f]) (cO (dI h0 (aU _ _))) (by show dD [(nF ps f).ak]=_;rw[bL _ (aU _ _)];exact yI hs hl) (by show((nF ps f).az||false)=false;rw[ck _ (aU _ _)];rfl)
 unfold kP;rw[hc,Res.aH];show(if aI (qW (di ps f ps.length))=true then Res.ok ((false||au (qW (di ps f ps.length))),gQ (qX (di ps f ps.length)) (qW (di ps f ps.length))) else .bad)=_;rw[Nr (Am _),bM _ (Am _),qZ,w4,NK]
 congr 2
 refine NJ λ t ht=>?_;have h:=iX.mp ht;show D.tup [.tup [.int (N2.keyOf (aF ps t.1) (aF ps t.2)).1,.int (N2.keyOf (aF ps t.1) (aF ps t.2)).2],.int (f t.1 t.2)]=_;rw[u0 (ic hs h.1 h.2)]
def wY (ps:List Int):ps.map D.int=(List.range ps.length).map λ i=>D.int (aF ps i):=by
 refine OA λ i=>?_;by_cases h:i<ps.length
 ·rw[uZ h,NG,Oi h];rfl
 ·rw[Oa (by rw[M7];omega),Oa (by rw[M7,NO];omega)]
def Eh (l:List (Nat×Nat)):aI (l.map (Mv ps f))=true:=bo λ d m=>by
 obtain⟨t,_,rfl⟩:=Ni.mp m;rfl
def oM (hs:ps.Pairwise (· < ·))(hl:ps.length<=24):bQ [nF ps f]=.ok (pK .own ps ps.length λ i=>ent f i (jL ps.length)):=by
 refine cJ (τ:=[some (nF ps f),none,none,none,none]) rfl rfl ?_;unfold k8;rw[aA (aP (d:=.dct .own false [] []) rfl rfl)];show aC _ _ (je ps f 0 (λ _=>[]) none none none)=_;have v0:∀ m o,aa 0 (je ps f m (λ _=>[]) o none none)=.ok (nF ps f):=λ m o=>dI rfl (aU _ _);have l1:∃ o,b6 [0] (cV (ah cS (aa 0) (eC (.int 0)))) (gN 2) iJ (je ps f 0 (λ _=>[]) none none none)=.nx (je ps f ps.length (λ _=>[]) o none none):=by
  obtain⟨t,h1,o,h2⟩:=gG (tg:=gN 2) (body:=iJ) (λ i t=>∃ o,t=je ps f i (λ _=>[]) o none none) (ds:=(List.range ps.length).map λ i=>D.int (aF ps i)) 0 (je ps f 0 (λ _=>[]) none none none) ⟨none,rfl⟩ (λ j d τ hx hp=>by
   obtain⟨o,rfl⟩:=hp;rw[OW];have hj:j<ps.length:=by
    have:=(Ng.mp hx).1;simpa using this
   rw[NG,Oi hj]at hx;cases hx;refine⟨_,_,rfl,.inl (D8 (k:=false) (ks:=(List.range j).map λ i=>kI (aF ps i)) (xs:=(List.range j).map λ i=>fm .own ps []) (d:=.dct .own false [] []) (dk:=.int (aF ps j)) (q:=kI (aF ps j)) rfl rfl rfl rfl ⟨rfl,rfl,by rw[M7,NO];omega⟩ (u4 (aF ps) _ _ λ i hi z=>?_)),some (.int (aF ps j)),?_⟩
   ·have:=gy hs (by have:=NC.mp hi;omega) hj z;have:=NC.mp hi;omega
   ·show [_,some (D.dct .own false (((List.range j).map λ i=>kI (aF ps i))++[kI (aF ps j)]) (((List.range j).map λ i=>fm .own ps [])++[fm .own ps []])),_,_,_]=_;unfold je pK;rw[Qp,Nx,Nx];rfl)
  rw[M7,NO,OW]at h2;refine⟨o,?_⟩;rw[jc (τ':=je ps f 0 (λ _=>[]) none none none) (ds:=(List.range ps.length).map λ i=>D.int (aF ps i)) ?_ ?_ ?_,h1,h2]
  ·show [some (nF ps f).ak,_,_,_,_]=_;rw[bL _ (aU _ _)];rfl
  ·unfold cV;rw[u3 (v0 0 none),Res.aH,n6 (af _),wY]
  ·rw[<-wY];exact af _
 obtain⟨o,l1⟩:=l1;rw[aA l1];obtain⟨b',c',l2⟩:=An (f:=f) hs hl o (jL ps.length) [] none none rfl;have l3:b6 [0] (kP (aw dD (ae (aa 0) ao))) (gT 2 (bz 3 (bz 4 dG))) d9 (je ps f ps.length (λ _=>[]) o none none)=.nx (je ps f ps.length (λ i=>ent f i (jL ps.length)) o b' c'):=by
  rw[jc (τ':=je ps f ps.length (λ _=>[]) o none none) ?_ (Eg hs hl rfl) (Eh _)]
  ·exact l2
  ·show [some (nF ps f).ak,_,_,_,_]=_;rw[bL _ (aU _ _)];rfl
 rw[aA l3];rfl
end
def Gm (ps:List Int)(e:List (Nat×Int)):(fm .own ps e).ak=fm .ak ps e:=by
 show D.dct .ak false _ (aG (e.map λ x=>D.int x.2))=_;rw[dO _ (bo λ d m=>by obtain⟨x,_,rfl⟩:=Ni.mp m;rfl)];rfl
def wZ (ps:List Int)(e:List (Nat×Int)):(fm .ak ps e).view=fm .ak ps e:=by
 show D.dct .ak false _ (bG (e.map λ x=>D.int x.2))=_;rw[dX _ (bo λ d m=>by obtain⟨x,_,rfl⟩:=Ni.mp m;rfl)];rfl
def q9 (ps:List Int)(e:List (Nat×Int)):(fm .ak ps e).ak=fm .ak ps e:=by
 show D.dct .ak false _ (aG (e.map λ x=>D.int x.2))=_;rw[dO _ (bo λ d m=>by obtain⟨x,_,rfl⟩:=Ni.mp m;rfl)];rfl
def yJ (ps:List Int)(m:Nat)(g:Nat->List (Nat×Int)):(pK .own ps m g).ak=pK .ak ps m g:=by
 show D.dct .ak false _ (aG ((List.range m).map λ i=>fm .own ps (g i)))=_;rw[iR,NK];unfold pK
 congr 1
 exact NJ λ i _=>Gm ps (g i)
def u5 (ps:List Int)(m:Nat)(g:Nat->List (Nat×Int)):(pK .ak ps m g).view=pK .ak ps m g:=by
 show D.dct .ak false _ (bG ((List.range m).map λ i=>fm .ak ps (g i)))=_;rw[kG,NK];unfold pK
 congr 1
 exact NJ λ i _=>wZ ps (g i)
def u7 (ps:List Int)(m:Nat)(g:Nat->List (Nat×Int)):(pK .ak ps m g).ak=pK .ak ps m g:=by
 show D.dct .ak false _ (aG ((List.range m).map λ i=>fm .ak ps (g i)))=_;rw[iR,NK];unfold pK
 congr 1
 exact NJ λ i _=>q9 ps (g i)
abbrev lN (ps:List Int)(f:Nat->Nat->Int):D:=pK .ak ps ps.length λ i=>ent f i (jL ps.length)
section
def Hm {F G H:SD->Res D}{p q:Nat}(hs:ps.Pairwise (· < ·))(hp:p<ps.length)(hq:q<ps.length)(hn:p≠q)(h1:F τ=.ok (lN ps f))(h2:G τ=.ok (.int (aF ps p)))(h3:H τ=.ok (.int (aF ps q))) :
  ah cD (ah cD F G) H τ=.ok (.int (cc f p q)):=by
 have lk:=gf (aF ps) (λ i=>fm .ak ps (ent f i (jL ps.length))) p (List.range ps.length) (NC.mpr hp) λ i hi e=>gy hs (NC.mp hi) hp e;have lk2:=gf (λ x:Nat×Int=>aF ps x.1) (λ x=>D.int x.2) (q,cc f p q) (ent f p (jL ps.length)) (Ao hp hq hn) λ x hx e=>by
  have e1:=gy hs (u6 hx).2.1 hq e;have e2:=(u6 hx).1;rw[e1]at e2;exact Prod.ext e1 e2
 have d1:ah cD F G τ=.ok (fm .ak ps (ent f p (jL ps.length))):=by
  rw[bf h1 h2];show(if (kI (aF ps p)).kind=false then (match d8 ((List.range ps.length).map λ i=>kI (aF ps i)) ((List.range ps.length).map λ i=>fm .ak ps (ent f i (jL ps.length))) (kI (aF ps p)) with|some d=>Res.ok d|none=>.bad) else .bad)=_;rw[Nr (show(kI (aF ps p)).kind=false from rfl),lk]
 rw[bf d1 h3];show(if (kI (aF ps q)).kind=false then (match d8 ((ent f p (jL ps.length)).map λ x=>kI (aF ps x.1)) ((ent f p (jL ps.length)).map λ x=>D.int x.2) (kI (aF ps q)) with|some d=>Res.ok d|none=>.bad) else .bad)=_;rw[Nr (show(kI (aF ps q)).kind=false from rfl),lk2]
end
def lO {α:Type}{tt:SD->Res Bool}{elt:SD->Res D}{caps:SD}(h:α->D)(p:α->Bool)(f:α->D):∀ {l:List α} (o:Option D),(∀ a∈l,tt (some (h a)::caps)=.ok (p a))->(∀ a∈l,p a=true->elt (some (h a)::caps)=.ok (f a)/\(f a).az=false)->fT (gN 0) tt elt (l.map h) (o::caps)=.ok ((l.filter p).map f)
 |[],o,_,_=>rfl
 | a::l,o,h1,h2=>by
  have ih:=lO h p f (l:=l) (some (h a)) (λ b hb=>h1 b (Nb _ hb)) λ b hb=>h2 b (Nb _ hb);rw[ND,fT];show((tt (some (h a)::caps)).bind λ b=>if b=true then (elt (some (h a)::caps)).bind λ x=>if x.az=true then Res.bad else (fT (gN 0) tt elt (l.map h) (some (h a)::caps)).bind λ xs=>.ok (x::xs) else fT (gN 0) tt elt (l.map h) (some (h a)::caps))=_;rw[h1 a Na,Res.aH];cases hp:p a with
  | false =>
   rw[Nu Nd,ih,Qg,hp];rfl
  | true =>
   obtain⟨e1,e2⟩:=h2 a Na hp;rw[Nr rfl,e1,Res.aH,Nu (by rw[e2];exact Nd),ih,Qg,hp];rfl
def gh{it:SD->Res (Bool×List D)}{tt:SD->Res Bool}{elt:SD->Res D}{cap:List (PySem.Str×Nat)}{fl:Bool}{l:List α}(h:α->D)(p:α->Bool)(f:α->D)(hit:it τ=.ok (fl,l.map h))(hh:∀ a∈l,(h a).pure=true)
  (ht:∀ a∈l,tt (some (h a)::cN τ cap)=.ok (p a)) (he:∀ a∈l,p a=true->elt (some (h a)::cN τ cap)=.ok (f a)/\(f a).pure=true) (hl:l.length<=1000):aJ it (gN 0) tt elt 1 cap τ=.ok (.lst .own ((l.filter p).map f)):=by
 have hp:aI ((l.filter p).map f)=true:=bo λ d m=>by
  obtain⟨x,hx,rfl⟩:=Ni.mp m;obtain⟨h1,h2⟩:=NF.mp hx;exact(he x h1 h2).2
 have hl':((l.filter p).map f).length<=16777216:=by
  rw[M7];have:=Oh p l;omega
 have hc:fT (gN 0) tt elt (aG (l.map h)) (List.replicate 1 none++cN τ cap)=.ok ((l.filter p).map f):=by
  rw[dO _ (bo λ d m=>by obtain⟨x,hx,rfl⟩:=Ni.mp m;exact hh x hx)];exact lO h p f none ht λ a m q=>⟨(he a m q).1,ck _ (he a m q).2⟩
 unfold aJ;rw[hit,Res.aH];simp only[hc,Nr hl',dW _ hp,ite_self]
def jH{it:SD->Res (Bool×List D)}{elt:SD->Res D}{cap:List (PySem.Str×Nat)}{fl:Bool}{l:List α}(h:α->D)(f:α->D)(hit:it τ=.ok (fl,l.map h))(hh:∀ a∈l,(h a).pure=true)
  (he:∀ a∈l,elt (some (h a)::cN τ cap)=.ok (f a)/\(f a).pure=true) (hl:l.length<=1000):aJ it (gN 0) bP elt 1 cap τ=.ok (.lst .own (l.map f)):=by
 have:=gh (tt:=bP) (elt:=elt) h (λ _=>true) f hit hh (λ _ _=>rfl) (λ a m _=>he a m) hl;rw[this,List.filter_eq_self.mpr λ _ _=>rfl]
def pp (ps:List Int)(l:List Nat):List Int:=l.map (aF ps)
def jf (ps:List Int)(l:List Nat):(pp ps l).map D.int=l.map λ i=>D.int (aF ps i):=by
 unfold pp;rw[NK];rfl
def jG (ps:List Int)(l m:List Nat):pp ps (l++m)=pp ps l++pp ps m:=Nx
def yK(hs:ps.Pairwise (· < ·)){l:List Nat}(hi:i<ps.length)(hl:∀ x∈l,x<ps.length):aF ps i∈pp ps l↔i∈l:=by
 unfold pp;constructor
 ·intro h;obtain⟨j,hj,e⟩:=Ni.mp h;rw[gy hs hi (hl j hj) e.symm];exact hj
 ·intro h;exact Ni.mpr ⟨i,h,rfl⟩
def vc(h:τ[i]?=some (some (.lst .own xs)))(hp:aI xs=true):cV (aa i) τ=.ok (true,xs):=by
 unfold cV;rw[eV h hp,Res.aH];show Res.ok ((decide (Tg.bor=Tg.bor)||au xs),xs)=_;rw[NP rfl,Bool.true_or]
def rf(h:τ[i]?=some (some (.lst .ak xs)))(hp:aI xs=true):cV (aa i) τ=.ok (false,xs):=by
 unfold cV;rw[cQ h hp,Res.aH];exact Gj (.inl rfl) hp
def rh:∀ ns:List Int,kO (ns.map D.int)=true
 |[]=>rfl
 | n::r=>by
  show((D.int n).plain&&kO (r.map D.int))=true;rw[rh r];rfl
abbrev u9 (ps:List Int)(fi:Nat)(x:Nat×Nat):D:=.tup [.int (aF ps x.1),.int (aF ps fi),.int (aF ps x.2)]
def n8 (ps:List Int)(fi:Nat)(l:List (Nat×Nat)):aI (l.map (u9 ps fi))=true:=bo λ d m=>by
 obtain⟨x,_,rfl⟩:=Ni.mp m;rfl
def fu (ps:List Int)(f:Nat->Nat->Int)(ms:List Nat)(fi:Nat)(O W:List Nat)(Pl:List (Nat×Nat))(a b:Option D):SD:=
 [some (lN ps f),some (.lst .ak ((pp ps ms).map .int)),some (.int (aF ps fi)),some (.lst .own ((pp ps O).map .int)),some (.lst .own ((pp ps W).map .int)),some (.lst .own (Pl.map (u9 ps fi))),a,b]
section
variable{ms O W:List Nat}{fi:Nat}{Pl:List (Nat×Nat)}
def Li (hs:ps.Pairwise (· < ·)){p q:Nat}(hp:p<ps.length)(hq:q<ps.length)(hf:fi<ps.length)(n1:p≠q)(n2:p≠fi):fC [some (.int (aF ps p)),some (lN ps f),some (.int (aF ps q)),some (.int (aF ps fi))]=.ok (!decide (cc f p q=cc f p fi)):=by
 have v1:aa 1 [some (D.int (aF ps p)),some (lN ps f),some (.int (aF ps q)),some (.int (aF ps fi))]=.ok (lN ps f):=by
  show Res.ok (lN ps f).view=_;rw[u5]
 exact yH (Hm hs hp hq n1 v1 rfl rfl) (Hm hs hp hf n2 v1 rfl rfl)
def Gp (hs:ps.Pairwise (· < ·))(hl:ps.length<=24){q:Nat}(S:PG.St (cc f) ps.length fi ms O (W++[q]) Pl)(hm:∀ x∈ms,x<ps.length)(hf:fi∈ms)(hw:(W++[q]).length<=100)(hpl:Pl.length<=100)(a b:Option D) :
  ∃ a' b',bF (fu ps f ms fi O (W++[q]) Pl a b)=.nx (fu ps f ms fi (PG.left (cc f) fi q O) (W++PG.cK (cc f) fi q O) (Pl++(PG.cK (cc f) fi q O).map λ p=>(p,q)) a' b'):=by
 have hO:∀ x∈O,x<ps.length:=λ x hx=>((S.out x).mp hx).1;have hnd:O.length<=24:=N9 (PG.dj S.nd hO) hl;have hgr:∀ x∈PG.gr ms Pl,x<ps.length:=λ x hx=>by
  rcases Nk.mp hx with z|z
  ·exact hm x z
  ·obtain⟨y,hy,rfl⟩:=Ni.mp z;exact S.val.bound y hy
 have hq:q∈PG.gr ms Pl:=S.wait q (by simp);have hfg:fi∈PG.gr ms Pl:=Nt _ hf;have hqn:=hgr q hq;have hfn:=hgr fi hfg;have hC:∀ x∈PG.cK (cc f) fi q O,x<ps.length:=λ x hx=>hO x (PG.jF.mp hx).1;have hCl:(PG.cK (cc f) fi q O).length<=24:=N9 (Oh _ _) hnd;have nq:∀ p∈O,p≠q/\p≠fi:=λ p hp=>⟨λ z=>((S.out p).mp hp).2 (z▸hq),λ z=>((S.out p).mp hp).2 (z▸hfg)⟩;have s1:FY 6 4 (fu ps f ms fi O (W++[q]) Pl a b)=.nx (fu ps f ms fi O W Pl (some (.int (aF ps q))) b):=by
  have e1:(pp ps (W++[q])).map D.int=(pp ps W).map D.int++[D.int (aF ps q)]:=by rw[jG,Nx];rfl
  show F0 6 4 ((pp ps (W++[q])).map D.int) (fu ps f ms fi O (W++[q]) Pl a b) ((pp ps (W++[q])).map D.int)[((pp ps (W++[q])).map D.int).length-1]?=_;rw[e1,Nn,NW,Rg,OJ (Nm _),Nat.sub_self];show Fl.nx (((fu ps f ms fi O (W++[q]) Pl a b).set 4 (some (.lst .own ((pp ps W).map D.int++[D.int (aF ps q)]).dropLast))).set 6 (some (.int (aF ps q))))=_;rw[QR];rfl
 have s2:aS 7 (aJ (cV (aa 3)) (gN 0) fC g9 1 [("sights",0),("newcomer",6),("first",2)]) (fu ps f ms fi O W Pl (some (.int (aF ps q))) b)=.nx (fu ps f ms fi O W Pl (some (.int (aF ps q))) (some (.lst .own ((pp ps (PG.cK (cc f) fi q O)).map .int)))):=by
  have hi:cV (aa 3) (fu ps f ms fi O W Pl (some (.int (aF ps q))) b)=.ok (true,O.map λ i=>D.int (aF ps i)):=by rw[<-jf];exact vc rfl (af _)
  have hcap:cN (fu ps f ms fi O W Pl (some (.int (aF ps q))) b) [("sights",0),("newcomer",6),("first",2)]=[some (lN ps f),some (.int (aF ps q)),some (.int (aF ps fi))]:=by
   show [some (lN ps f).ak,_,_]=_;rw[u7];rfl
  have c:=gh (τ:=fu ps f ms fi O W Pl (some (.int (aF ps q))) b) (tt:=fC) (elt:=g9) (cap:=[("sights",0),("newcomer",6),("first",2)]) (λ i=>D.int (aF ps i)) (λ p=>!decide (cc f p q=cc f p fi)) (λ i=>D.int (aF ps i)) hi (λ _ _=>rfl)
   (λ p hp=>by rw[hcap];exact Li hs (hO p hp) hqn hfn (nq p hp).1 (nq p hp).2) (λ _ _ _=>⟨rfl,rfl⟩) (by omega)
  rw[aP c (cI (bo λ d m=>by obtain⟨x,_,rfl⟩:=Ni.mp m;rfl)),jf];rfl
 have s3:aS 3 (aJ (cV (aa 3)) (gN 0) gY gX 1 [("came",7)]) (fu ps f ms fi O W Pl (some (.int (aF ps q))) (some (.lst .own ((pp ps (PG.cK (cc f) fi q O)).map .int))))=.nx (fu ps f ms fi (PG.left (cc f) fi q O) W Pl (some (.int (aF ps q))) (some (.lst .own ((pp ps (PG.cK (cc f) fi q O)).map .int)))):=by
  have hi:cV (aa 3) (fu ps f ms fi O W Pl (some (.int (aF ps q))) (some (.lst .own ((pp ps (PG.cK (cc f) fi q O)).map .int))))=.ok (true,O.map λ i=>D.int (aF ps i)):=by rw[<-jf];exact vc rfl (af _)
  have hcap:cN (fu ps f ms fi O W Pl (some (.int (aF ps q))) (some (.lst .own ((pp ps (PG.cK (cc f) fi q O)).map .int)))) [("came",7)]=[some (.lst .ak ((pp ps (PG.cK (cc f) fi q O)).map .int))]:=by
   show [some (D.lst .ak (aG ((pp ps (PG.cK (cc f) fi q O)).map .int)))]=_;rw[a7]
  have c:=gh (τ:=fu ps f ms fi O W Pl (some (.int (aF ps q))) (some (.lst .own ((pp ps (PG.cK (cc f) fi q O)).map .int)))) (tt:=gY) (elt:=gX) (cap:=[("came",7)]) (λ i=>D.int (aF ps i)) (λ p=>!decide (p∈PG.cK (cc f) fi q O)) (λ i=>D.int (aF ps i)) hi (λ _ _=>rfl)
   (λ p hp=>by
    rw[hcap];refine(jE (x:=aF ps p) (qs:=pp ps (PG.cK (cc f) fi q O)) rfl (cQ rfl (af _))).trans ?_;rw[Oj.mpr (yK hs (hO p hp) hC)]) (λ _ _ _=>⟨rfl,rfl⟩) (by omega)
  rw[aP c (cI (bo λ d m=>by obtain⟨x,_,rfl⟩:=Ni.mp m;rfl))];unfold fu;rw[jf ps (PG.left (cc f) fi q O)];rfl
 have s4:x8 5 (aJ (cV (aa 7)) (gN 0) bP gW 1 [("first",2),("newcomer",6)]) (fu ps f ms fi (PG.left (cc f) fi q O) W Pl (some (.int (aF ps q))) (some (.lst .own ((pp ps (PG.cK (cc f) fi q O)).map .int))))=.nx (fu ps f ms fi (PG.left (cc f) fi q O) W (Pl++(PG.cK (cc f) fi q O).map λ p=>(p,q)) (some (.int (aF ps q))) (some (.lst .own ((pp ps (PG.cK (cc f) fi q O)).map .int)))):=by
  have hi:cV (aa 7) (fu ps f ms fi (PG.left (cc f) fi q O) W Pl (some (.int (aF ps q))) (some (.lst .own ((pp ps (PG.cK (cc f) fi q O)).map .int))))=.ok (true,(PG.cK (cc f) fi q O).map λ i=>D.int (aF ps i)):=by rw[<-jf];exact vc rfl (af _)
  have c:=jH (τ:=fu ps f ms fi (PG.left (cc f) fi q O) W Pl (some (.int (aF ps q))) (some (.lst .own ((pp ps (PG.cK (cc f) fi q O)).map .int)))) (elt:=gW) (cap:=[("first",2),("newcomer",6)]) (λ i=>D.int (aF ps i)) (λ p=>u9 ps fi (p,q)) hi (λ _ _=>rfl) (λ _ _=>⟨rfl,rfl⟩) (by omega);have e2:((PG.cK (cc f) fi q O).map λ p=>u9 ps fi (p,q))=((PG.cK (cc f) fi q O).map λ p=>(p,q)).map (u9 ps fi):=by rw[NK];rfl
  show(Res.i8 _ _ (FT 5 (Pl.map (u9 ps fi)) _))=_;rw[c,e2];show(if au (((PG.cK (cc f) fi q O).map λ p=>(p,q)).map (u9 ps fi))=true then Fl.bad else if (Pl.map (u9 ps fi)).length+(((PG.cK (cc f) fi q O).map λ p=>(p,q)).map (u9 ps fi)).length<=16777216 then _ else _)=_;rw[bM _ (n8 _ _ _),Nu Nd,Nr (by rw[M7,M7,M7];omega)];unfold fu;rw[Nx];rfl
 have s5:zR 4 7 (fu ps f ms fi (PG.left (cc f) fi q O) W (Pl++(PG.cK (cc f) fi q O).map λ p=>(p,q)) (some (.int (aF ps q))) (some (.lst .own ((pp ps (PG.cK (cc f) fi q O)).map .int))))=.nx (fu ps f ms fi (PG.left (cc f) fi q O) (W++PG.cK (cc f) fi q O) (Pl++(PG.cK (cc f) fi q O).map λ p=>(p,q)) (some (.int (aF ps q))) (some (.lst .own ((pp ps (PG.cK (cc f) fi q O)).map .int)))):=by
  show(if kO ((pp ps (PG.cK (cc f) fi q O)).map D.int)=true/\((pp ps W).map D.int).length+((pp ps (PG.cK (cc f) fi q O)).map D.int).length<=16777216 then _ else _)=_;rw[Nr ⟨rh _,by
   rw[M7,M7];unfold pp;rw[M7,M7];rw[Nn,NW]at hw;omega⟩]
  have e5:(pp ps (W++PG.cK (cc f) fi q O)).map D.int=(pp ps W).map D.int++(pp ps (PG.cK (cc f) fi q O)).map D.int:=by rw[jG,Nx]
  unfold fu;rw[e5];rfl
 refine⟨some (.int (aF ps q)),some (.lst .own ((pp ps (PG.cK (cc f) fi q O)).map .int)),?_⟩;unfold bF;rw[aA s1,aA s2,aA s3,aA s4];exact s5
def Ek (hs:ps.Pairwise (· < ·))(hl:ps.length<=24)(hm:∀ x∈ms,x<ps.length)(hmd:ms.Nodup)(hf:fi∈ms):∀ (m:Nat),m<=90->∀ (O W:List Nat) (Pl:List (Nat×Nat)) (a b:Option D),PG.St (cc f) ps.length fi ms O W Pl->W.length+2*O.length<=m ->
  ∃ O' Pl' a' b',PG.St (cc f) ps.length fi ms O' [] Pl'/\bU bR bF (m+1) (fu ps f ms fi O W Pl a b)=.nx (fu ps f ms fi O' [] Pl' a' b'):=by
 intro m
 induction m with
 | zero =>
  intro _ O W Pl a b S h;have e:W=[]:=OU.mp (by omega);subst e;exact⟨O,Pl,a,b,S,rfl⟩
 | succ m ih =>
  intro h90 O W Pl a b S h;rcases QF W with rfl|⟨W',q,rfl⟩
  ·exact⟨O,Pl,a,b,S,rfl⟩
  ·rw[QG]at S h ⊢;have hpl:Pl.length<=100:=by
    have:=PG.dj (S.val.nodup hmd) (n:=ps.length) λ x hx=>by
     rcases Nk.mp hx with z|z
     ·exact hm x z
     ·obtain⟨y,hy,rfl⟩:=Ni.mp z;exact S.val.bound y hy
    rw[Nn,M7]at this;omega
   obtain⟨a',b',e⟩:=Gp hs hl S hm hf (by rw[Nn,NW]at h ⊢;omega) hpl a b;have S':=S.step;have lc:=PG.Ef (c:=cc f) fi q O;have h':=h;rw[Nn,NW]at h;have hO:O.length<=24:=N9 (PG.dj S.nd λ x hx=>((S.out x).mp hx).1) hl;obtain⟨O',Pl',a2,b2,S2,e2⟩:=ih (by omega) _ _ _ a' b' S' (by rw[Nn];omega);refine⟨O',Pl',a2,b2,S2,?_⟩;have c:bR (fu ps f ms fi O (W'++[q]) Pl a b)=.ok true:=by
    unfold bR JT;rw[eV (xs:=(pp ps (W'++[q])).map D.int) rfl (af _),Res.aH];show Res.ok (!((pp ps (W'++[q])).map D.int).isEmpty)=_;rw[jG,Nx];cases (pp ps W').map D.int<;>rfl
   rw[bU,c];show(match bF (fu ps f ms fi O (W'++[q]) Pl a b) with|.nx t=>bU bR bF (m+1) t|.ct t=>bU bR bF (m+1) t|.bk t=>Fl.nx t|o=>o)=_;rw[e];exact e2
end
end KL
namespace KL
open DL XF
variable {ps qs:List Int}{l:List Nat}{fi i n:Nat}{f:Nat->Nat->Int}{τ:SD}{g:SD->Res D}
def Jw (b:Bool)(x:Int)(qs:List Int):inD b (.int x) (.tup (qs.map .int))=.ok (.bl (if b then !decide (x∈qs) else decide (x∈qs))):=by
 have h1:(qs.map D.int).all D.flat=true:=by simp[D.flat]
 have h2:lD (.int x) (qs.map D.int)=decide (x∈qs):=by
  unfold lD;rw[O0,Pr,Og];constructor
  ·rintro⟨y,hy,e⟩;obtain⟨z,hz,rfl⟩:=Ni.mp hy;have e:z=x:=by simpa[Ir] using e
   rw[<-e];exact hz
  ·intro h;exact⟨.int x,Ni.mpr ⟨x,h,rfl⟩,by simp[Ir]⟩
 show(if (D.int x).flat=true/\(qs.map D.int).all D.flat=true then Res.ok (D.bl (if b then !lD (.int x) (qs.map .int) else lD (.int x) (qs.map .int))) else .bad)=_;rw[Nr ⟨rfl,h1⟩,h2]
def Au(h:τ[i]?=some (some (.tup (qs.map .int)))):aa i τ=.ok (.tup (qs.map .int)):=dI h (af qs)
def El {f:SD->Res D}{x:Int}(h1:f τ=.ok (.int x))(h2:g τ=.ok (.tup (qs.map .int))):eT (ah (inD true) f g) τ=.ok (!decide (x∈qs)):=pq ((bf h1 h2).trans (Jw true x qs))
def Ju (ns:List Int)(k:Int):k∈L2.dd ns↔k∈ns:=by
 have h:=PyProof.Rows.firstMet_any (λ i=>ns.getD i 0) ns.length k;have e:(List.range ns.length).map (λ i=>ns.getD i 0)=ns:=by
  refine OS (by simp) λ i h1 h2=>?_;simp;rw[M9 h2];rfl
 rw[e]at h;have m:∀ l:List Int,(l.any λ x=>x == k)=true↔k∈l:=λ l=>by
  rw[Pr];constructor
  ·rintro⟨x,hx,e⟩;have:x=k:=by simpa using e
   exact this▸hx
  ·intro hk;exact⟨k,hk,by simp⟩
 unfold L2.dd;rw[<-m,h,m]
def ri:∀ (ns acc:List Int),acc.Nodup->(ns.foldl PyProof.Rows.step_dedup acc).Nodup
 |[],_,h=>h
 | x::r,acc,h=>by
  rw[RG];refine ri r _ ?_;unfold PyProof.Rows.step_dedup;split
  ·exact h
  ·rename_i hx;rw[Np];refine⟨h,Nv.mpr ⟨Oe,OG⟩,λ a ha b hb z=>?_⟩;have hb:b=x:=by simpa using hb
   subst hb z;exact hx (Pr.mpr ⟨a,ha,by simp⟩)
def Em (ns:List Int):(L2.dd ns).Nodup:=ri _ [] OG
def Eo{x:Int}(h:x∈qs):dM [.tup (qs.map .int),.int x]=.ok .bx:=by
 refine Jo (t:=[some (.tup (qs.map .int)),some (.int x)]) rfl rfl ?_;show fD [some (.tup (qs.map .int)),some (.int x)]=.nx _;unfold fD;have t:=El (τ:=[some (.tup (qs.map .int)),some (.int x)]) (f:=aa 1) (g:=aa 0) (x:=x) (qs:=qs) rfl (Au rfl);rw[NP h]at t;rw[k9 t];rfl
def xf (ps qs:List Int)(o:Option D):SD:=[some (.tup (ps.map .int)),some (.lst .ak (qs.map .int)),o]
section
def Gq {q:Int}(h:q∈ps):aw dM (ae (aa 0) (ae (aa 2) ao)) (xf ps qs (some (.int q)))=.ok .bx:=
 fP (ds:=[.tup (ps.map .int),.int q]) (aQ (Au rfl) (cO rfl)) (by show dM [.tup (aG (ps.map .int)),.int q]=_;rw[a7];exact Eo h) (by show((au (ps.map .int))||_)=false;rw[bM _ (af _)];rfl)
def Av:∀ (R:List Int) (o:Option D),(∀ q∈R,q∈ps)->∃ o',bW (gN 2) dh (R.map .int) (xf ps qs o)=.nx (xf ps qs o')
 |[],o,_=>⟨o,rfl⟩
 | q::R,o,h=>by
  obtain⟨o',i1⟩:=Av R (some (.int q)) λ x hx=>h x (Nb _ hx);refine⟨o',?_⟩;rw[ND,gx (body:=dh) (τ':=xf ps qs (some (.int q))) rfl (Ge (Gq (h q Na)))];exact i1
def Jt:b6 [1] (cV (aa 1)) (gN 2) dh (xf ps qs none)=bW (gN 2) dh (qs.map .int) (xf ps qs none):=by
 refine jc ?_ (rf rfl (af qs)) (af qs);show [some (D.tup (ps.map .int)),some (.lst .ak (aG (qs.map .int))),none]=_;rw[a7];rfl
def mK (h1:∀ q∈qs,q∈ps)(h2:qs≠[])(hl:qs.length<64):bD [.tup (ps.map .int),.lst .ak (qs.map .int)]=.ok (.lst .own ((sortI (L2.dd qs)).map .int)):=by
 obtain⟨o,e⟩:=Av (ps:=ps) (qs:=qs) qs none h1;refine cJ (τ:=xf ps qs none) rfl rfl ?_;unfold jb;rw[aA (Jt.trans e)];have v1:aa 1 (xf ps qs o)=.ok (.lst .ak (qs.map .int)):=cQ rfl (af qs);have t:=jX (uW v1) (g:=eC (.int 0)) (b:=0) rfl;rw[NN (by rw[M7];cases qs with|nil=>exact absurd rfl h2|cons _ _=>simp only[Ny];omega)]at t;rw[tF t];refine kN ?_ (cI (af _));unfold nh;rw[v1,Res.aH];show(match intsOf (qs.map D.int) with|some ns=>if ns.length<64 then Res.ok (D.lst .own ((sortI (L2.dd ns)).map D.int)) else .bad|none=>.bad)=_;rw[dC];show(if qs.length<64 then Res.ok (D.lst .own ((sortI (L2.dd qs)).map D.int)) else .bad)=_;rw[Nr hl]
end
def eu {G:DF}{fs:SD->Res (List D)}{ds:List D}{d:D}(ha:fs τ=.ok ds)(h:G (aG ds)=.ok d)(ht:d.aM=d):aw G fs τ=.ok d:=by
 unfold aw;rw[ha,Res.aH];unfold dS;rw[h];show(if au ds=true then Res.ok d.aM else Res.ok d)=_;rw[ht,ite_self]
def fQ {xs:List D}(h:aI xs=true):(D.lst .own xs).aM=.lst .own xs:=by
 show D.lst .own (bu xs)=_;rw[dW _ h]
def Jv (ps:List Int)(e:List (Nat×Int)):(fm .ak ps e).az=false:=by
 show(false||au (e.map λ x=>D.int x.2))=false;rw[bM _ (bo λ d m=>by obtain⟨x,_,rfl⟩:=Ni.mp m;rfl)];rfl
def Ho (ps:List Int)(m:Nat)(g:Nat->List (Nat×Int)):(pK .ak ps m g).az=false:=by
 show(false||au ((List.range m).map λ i=>fm .ak ps (g i)))=false;rw[qh,Bool.false_or,Qv];intro d hd;obtain⟨i,_,rfl⟩:=Ni.mp hd;rw[Jv];exact Nd
section
def En (hs:ps.Pairwise (· < ·))(hl:ps.length<=24){rest:List Nat}(hm:∀ x∈fi::rest,x<ps.length)(hmd:(fi::rest).Nodup) :
  ∃ O Pl,PG.St (cc f) ps.length fi (fi::rest) O [] Pl/\fV [lN ps f,.lst .ak ((pp ps (fi::rest)).map .int)]=.ok (.lst .own (Pl.map (u9 ps fi))):=by
 have v1:∀ τ:SD,τ[1]?=some (some (.lst .ak ((pp ps (fi::rest)).map .int)))->aa 1 τ=.ok (.lst .ak ((pp ps (fi::rest)).map .int)):=λ τ h=>cQ h (af _);have S0:=PG.St.init (cc f) ps.length fi rest;have hO:(PG.mq ps.length (fi::rest)).length<=24:=by
  unfold PG.mq;have:=Oh (λ p=>!decide (p∈fi::rest)) (List.range ps.length);rw[NO]at this;omega
 have hr:rest.length<=24:=by
  have:=PG.dj hmd hm;rw[Ny]at this;omega
 obtain⟨O,Pl,a,b,S,e⟩:=Ek (f:=f) hs hl hm hmd Na 90 (by omega) (PG.mq ps.length (fi::rest)) rest [] none none S0 (by omega);refine⟨O,Pl,S,?_⟩;refine cJ (τ:=[some (lN ps f),some (.lst .ak ((pp ps (fi::rest)).map .int)),none,none,none,none,none,none]) rfl rfl ?_;unfold jU;have s1:ah cS (aa 1) (eC (.int 0)) [some (lN ps f),some (.lst .ak ((pp ps (fi::rest)).map .int)),none,none,none,none,none,none]=.ok (.int (aF ps fi)):=iL (v1 _ rfl) (y:=.int 0) rfl (qT (j:=0) rfl rfl);rw[aA (aP s1 rfl)];show aC _ _ [some (lN ps f),some (.lst .ak ((pp ps (fi::rest)).map .int)),some (.int (aF ps fi)),none,none,none,none,none]=_;have s2:aJ (j6 (aa 0)) (gN 0) gZ ia 1 [("members",1)] [some (lN ps f),some (.lst .ak ((pp ps (fi::rest)).map .int)),some (.int (aF ps fi)),none,none,none,none,none]=.ok (.lst .own ((pp ps (PG.mq ps.length (fi::rest))).map .int)):=by
  have hi:j6 (aa 0) [some (lN ps f),some (.lst .ak ((pp ps (fi::rest)).map .int)),some (.int (aF ps fi)),none,none,none,none,none]=.ok (false,(List.range ps.length).map λ i=>D.int (aF ps i)):=by
   unfold j6;show(Res.ok (lN ps f).view).bind ym=_;rw[u5];show Res.ok ((lN ps f).az,((List.range ps.length).map λ i=>kI (aF ps i)).map wx)=_;rw[Ho,NK];rfl
  have hcap:cN [some (lN ps f),some (.lst .ak ((pp ps (fi::rest)).map .int)),some (.int (aF ps fi)),none,none,none,none,none] [("members",1)]=[some (.lst .ak ((pp ps (fi::rest)).map .int))]:=by
   show [some (D.lst .ak (aG ((pp ps (fi::rest)).map .int)))]=_;rw[a7]
  rw[gh (tt:=gZ) (elt:=ia) (cap:=[("members",1)]) (λ i=>D.int (aF ps i)) (λ p=>!decide (p∈fi::rest)) (λ i=>D.int (aF ps i)) hi (λ _ _=>rfl)
   (λ p hp=>by
    rw[hcap];refine(jE (x:=aF ps p) (qs:=pp ps (fi::rest)) rfl (cQ rfl (af _))).trans ?_;rw[Oj.mpr (yK hs (NC.mp hp) hm)]) (λ _ _ _=>⟨rfl,rfl⟩) (by rw[NO];omega),jf]
  rfl
 rw[aA (aP s2 (cI (af _)))];show aC _ _ [some (lN ps f),some (.lst .ak ((pp ps (fi::rest)).map .int)),some (.int (aF ps fi)),some (.lst .own ((pp ps (PG.mq ps.length (fi::rest))).map .int)),none,none,none,none]=_;have s3:jt (aa 1) (eP (eC (.int 1))) uq [some (lN ps f),some (.lst .ak ((pp ps (fi::rest)).map .int)),some (.int (aF ps fi)),some (.lst .own ((pp ps (PG.mq ps.length (fi::rest))).map .int)),none,none,none,none]=.ok (.lst .own ((pp ps rest).map .int)):=by
  unfold jt;rw[v1 _ rfl,Res.aH];show Res.ok (D.lst .own (DL.cut ((pp ps (fi::rest)).map D.int) (some ((1:Nat):Int)) none))=_;rw[Dc];rfl
 rw[aA (aP s3 (cI (af _)))];rw[aA (aP (d:=.lst .own []) rfl rfl)];show aC (jQ bR bF) _ (fu ps f (fi::rest) fi (PG.mq ps.length (fi::rest)) rest [] none none)=_;have w:jQ bR bF (fu ps f (fi::rest) fi (PG.mq ps.length (fi::rest)) rest [] none none)=.nx (fu ps f (fi::rest) fi O [] Pl a b):=by
  rw[sO (n:=91) (by rw[e];exact Fl.noConfusion),e]
 rw[aA w];rfl
def BX (hs:ps.Pairwise (· < ·))(hl:ps.length<=24){rest:List Nat}(hm:∀ x∈fi::rest,x<ps.length)(hmd:(fi::rest).Nodup)(h1:∀ q∈qs,q∈ps)(h2:qs≠[])(hq:qs.length<64)(hd:sortI (L2.dd qs)=pp ps (fi::rest)) :
  ∃ O Pl,PG.St (cc f) ps.length fi (fi::rest) O [] Pl/\iH [nF ps f,.lst .ak (qs.map .int)]=.ok (.tup [.lst .own ((sortI (pp ps (PG.gr (fi::rest) Pl))).map .int),.lst .own (Pl.map (u9 ps fi))]):=by
 obtain⟨O,Pl,S,e⟩:=En (f:=f) hs hl hm hmd;refine⟨O,Pl,S,?_⟩;have hg:(PG.gr (fi::rest) Pl).length<=24:=N9 (PG.dj (S.val.nodup hmd) (n:=ps.length) λ x hx=>by
  rcases Nk.mp hx with z|z
  ·exact hm x z
  ·obtain⟨y,hy,rfl⟩:=Ni.mp z;exact S.val.bound y hy) hl
 have hpl:Pl.length<=24:=by
  rw[Nn,M7]at hg;omega
 refine cJ (τ:=[some (nF ps f),some (.lst .ak (qs.map .int)),none,none]) rfl rfl ?_;unfold qG;have v0:∀ τ:SD,τ[0]?=some (some (nF ps f))->aa 0 τ=.ok (nF ps f):=λ τ h=>dI h (aU _ _);have s1:aw bD (ae (ah cS (aa 0) (eC (.int 0))) (ae (aa 1) ao)) [some (nF ps f),some (.lst .ak (qs.map .int)),none,none]=.ok (.lst .own ((pp ps (fi::rest)).map .int)):=
  eu (ds:=[.tup (ps.map .int),.lst .ak (qs.map .int)]) (aQ (u3 (v0 _ rfl)) (cO (cQ rfl (af _)))) (by
   show bD [.tup (aG (ps.map .int)),.lst .ak (aG (qs.map .int))]=_;rw[a7,a7,mK h1 h2 hq,hd]) (fQ (af _))
 rw[aA (aP s1 (cI (af _)))];show aC _ _ [some (nF ps f),some (.lst .ak (qs.map .int)),some (.lst .own ((pp ps (fi::rest)).map .int)),none]=_;have s2:aw fV (ae (aw bQ (ae (aa 0) ao)) (ae (aa 2) ao)) [some (nF ps f),some (.lst .ak (qs.map .int)),some (.lst .own ((pp ps (fi::rest)).map .int)),none]=.ok (.lst .own (Pl.map (u9 ps fi))):=by
  have sg:aw bQ (ae (aa 0) ao) [some (nF ps f),some (.lst .ak (qs.map .int)),some (.lst .own ((pp ps (fi::rest)).map .int)),none]=.ok (pK .own ps ps.length λ i=>ent f i (jL ps.length)):=
   fP (ds:=[nF ps f]) (cO (v0 _ rfl)) (by show bQ [(nF ps f).ak]=_;rw[bL _ (aU _ _)];exact oM hs hl) (by show((nF ps f).az||false)=false;rw[ck _ (aU _ _)];rfl)
  refine eu (ds:=[pK .own ps ps.length λ i=>ent f i (jL ps.length),.lst .bor ((pp ps (fi::rest)).map .int)]) (aQ sg (cO (eV rfl (af _)))) ?_ (fQ (n8 _ _ _));show fV [(pK .own ps ps.length λ i=>ent f i (jL ps.length)).ak,.lst .ak (aG ((pp ps (fi::rest)).map .int))]=_;rw[yJ,a7,e]
 rw[aA (aP s2 (cI (n8 _ _ _)))];show Dl _ _ [some (nF ps f),some (.lst .ak (qs.map .int)),some (.lst .own ((pp ps (fi::rest)).map .int)),some (.lst .own (Pl.map (u9 ps fi)))]=_;have s3:aJ (cV (aa 3)) (gN 0) bP gJ 1 [] [some (nF ps f),some (.lst .ak (qs.map .int)),some (.lst .own ((pp ps (fi::rest)).map .int)),some (.lst .own (Pl.map (u9 ps fi)))]=.ok (.lst .own ((pp ps (Pl.map (·.1))).map .int)):=by
  rw[jH (elt:=gJ) (cap:=[]) (u9 ps fi) (λ x=>D.int (aF ps x.1)) (vc rfl (n8 _ _ _)) (λ _ _=>rfl) (λ x _=>⟨iL (x:=u9 ps fi x) (y:=.int 0) rfl rfl (i6 (j:=0) rfl rfl),rfl⟩) (by omega),jf,NK];rfl
 have s4:ah cy (aa 2) (aJ (cV (aa 3)) (gN 0) bP gJ 1 []) [some (nF ps f),some (.lst .ak (qs.map .int)),some (.lst .own ((pp ps (fi::rest)).map .int)),some (.lst .own (Pl.map (u9 ps fi)))]=.ok (.lst .own ((pp ps (PG.gr (fi::rest) Pl)).map .int)):=by
  rw[bf (eV rfl (af _)) s3];show(if ((pp ps (fi::rest)).map D.int).length+((pp ps (Pl.map (·.1))).map D.int).length<=16777216 then Res.ok (D.lst .own ((pp ps (fi::rest)).map D.int++(pp ps (Pl.map (·.1))).map D.int)) else .bad)=_;rw[Nr (by
   unfold pp;rw[M7,M7,M7,M7,M7];rw[Nn,M7]at hg;omega),<-Nx,<-jG]
 have s5:eA bY (ae (ah cy (aa 2) (aJ (cV (aa 3)) (gN 0) bP gJ 1 [])) ao) [some (nF ps f),some (.lst .ak (qs.map .int)),some (.lst .own ((pp ps (fi::rest)).map .int)),some (.lst .own (Pl.map (u9 ps fi)))]=.ok (.lst .own ((sortI (pp ps (PG.gr (fi::rest) Pl))).map .int)):=by
  rw[ig (cO s4)];show(match intsOf ((pp ps (PG.gr (fi::rest) Pl)).map D.int) with|some ns=>if ns.length<64 then Res.ok (D.lst .own ((sortI ns).map D.int)) else .bad|none=>.bad)=_;rw[dC];show(if (pp ps (PG.gr (fi::rest) Pl)).length<64 then Res.ok (D.lst .own ((sortI (pp ps (PG.gr (fi::rest) Pl))).map D.int)) else .bad)=_;rw[Nr (by unfold pp;rw[M7];omega)]
 show(Res.i8 _ _ _)=_;rw[s5];show(if (D.lst .own ((sortI (pp ps (PG.gr (fi::rest) Pl))).map .int)).az=true then Fl.bad else _)=_;rw[cI (af _),Nu Nd]
end
def ni (l:List Nat):List Int:=l.map λ i:Nat=>(i:Int)
def rm (l:List Nat):(ni l).map D.int=l.map λ i:Nat=>D.int (i:Int):=by
 unfold ni;rw[NK];rfl
def BY (l m:List Nat):ni (l++m)=ni l++ni m:=Nx
def yL:(i:Int)∈ni l↔i∈l:=by
 unfold ni;constructor
 ·intro h;obtain⟨j,hj,e⟩:=Ni.mp h;have:j=i:=by omega
  exact this▸hj
 ·intro h;exact Ni.mpr ⟨i,h,rfl⟩
def vd (l:List Nat):(ni l).length=l.length:=M7 _
def tP {l0:Nat}{lr:List Nat}(h:∀ k,k<n->k∉l0::lr->∀ j∈lr,cc f k j=cc f k l0):PG.bc (cc f) n (l0::lr):=by
 have one:∀ k,k<n->k∉l0::lr->∀ i∈l0::lr,cc f k i=cc f k l0:=λ k hk hn i hi=>by
  rcases Nq.mp hi with e|m
  ·rw[e]
  ·exact h k hk hn i m
 exact λ k hk hn i hi j hj=>(one k hk hn i hi).trans (one k hk hn j hj).symm
section
def Jy {j:Nat}{e:SD->Res D}(h:e τ=.ok (nF ps f))(hg:g τ=.ok (.int j))(hj:j<ps.length):ah cS (ah cS e (eC (.int 0))) g τ=.ok (.int (aF ps j)):=
 iL (u3 h) hg (i6 rfl (uZ hj))
def Jx {k j:Nat}{e i:SD->Res D}(h:e τ=.ok (nF ps f))(hg:g τ=.ok (.int k))(hi:i τ=.ok (.int j))(hj:j<k)(hk:k<ps.length):ah cS (ah cS (ah cS e (eC (.int 1))) g) i τ=.ok (.int (f k j)):=
 iL (iL (Lh h) hg (i6 rfl (Ed hk))) hi (i6 rfl (Eb hj))
def tR(h:τ[0]?=some (some (nF ps f))):aa 0 τ=.ok (nF ps f):=dI h (aU _ _)
def kh(h:l≠[]):∃ l0 lr,l=l0::lr:=by
 cases l with
 |nil=>exact absurd rfl h|cons a r=>exact⟨a,r,rfl⟩
def Aw(nd:l.Nodup):∃ m:List Nat,m.Perm l/\m.Pairwise (· < ·)/\sortI (ni l)=ni m:=by
 refine⟨(sortI (ni l)).map Int.toNat,?_,?_,?_⟩
 ·have h:=(sortI_perm (ni l)).map Int.toNat;have e:(ni l).map Int.toNat=l:=by
   unfold ni;rw[NK];show l.map (λ i=>i)=l;exact List.map_id' l
  rw[e]at h;exact h
 ·have h1:=iq (ni l);have h2:(sortI (ni l)).Nodup:=(sortI_perm (ni l)).nodup_iff.mpr (Rt (λ i:Nat=>(i:Int)) (λ a b (h:a≠b) (z:(a:Int)=(b:Int))=>h (by omega)) nd);have h3:∀ x∈sortI (ni l),0<=x:=λ x hx=>by
   obtain⟨i,_,rfl⟩:=Ni.mp ((sortI_perm (ni l)).mem_iff.mp hx);omega
  rw[Pc];refine(h1.and h2).imp_of_mem λ {a b} ha hb h=>?_;have:=h3 a ha;have:=h3 b hb;have:=h.1;have:=h.2;omega
 ·unfold ni;rw[NK];refine(List.map_id' _).symm.trans (NJ λ x hx=>?_);obtain⟨i,_,rfl⟩:=Ni.mp ((sortI_perm _).mem_iff.mp hx);show(i:Int)=((i:Int).toNat:Int);omega
structure Gs (n:Nat)(l:List Nat):Prop where
 ne:l≠[]
 up:l.Pairwise (· < ·)
 lt:∀ x∈l,x<n
def Gs.nd(g:Gs n l):l.Nodup:=g.up.imp λ h=>NH h
def Gs.len(g:Gs n l):l.length<=n:=PG.dj g.nd g.lt
def Gr(h:τ[0]?=some (some (nF ps f))):eA df (ae (ah cS (aa 0) (eC (.int 0))) ao) τ=.ok (.int ps.length):=by
 rw[ig (cO (u3 (tR h)))];show Res.ok (D.int ((ps.map D.int).length:Nat))=_;rw[M7]
def Jz (hs:ps.Pairwise (· < ·))(hi:i<ps.length):x9 ps (aF ps i)=some i:=by
 unfold x9;rw[Px];have at_:∀ j (h:j<ps.length),ps[j]=aF ps j:=λ j h=>by
  unfold aF;rw[Nf,M9 h];rfl
 refine⟨hi,by simp[at_ i hi],λ j hj=>?_⟩;have:=ic hs hj hi;intro z;rw[Og,at_ j (by omega)]at z;omega
def JB (hs:ps.Pairwise (· < ·)){a b:SD->Res D}(hi:i<ps.length)(h1:a τ=.ok (nF ps f))(h2:b τ=.ok (.int (aF ps i))):FW (ah cS a (eC (.int 0))) b τ=.ok (.int i):=by
 unfold FW;rw[u3 h1,Res.aH,Nr (show isTup (D.tup (ps.map D.int))=true from rfl),h2,Res.aH];show(match intsOf (ps.map D.int) with|some ns=>(match x9 ns (aF ps i) with|some j=>Res.ok (D.int j)|none=>.bad)|none=>.bad)=_;rw[dC];show(match x9 ps (aF ps i) with|some j=>Res.ok (D.int j)|none=>.bad)=_;rw[Jz hs hi]
def Ax(hi:i<ps.length):aF ps i∈ps:=by
 unfold aF;rw[Nf,M9 hi];exact Of hi
def Hq (hs:ps.Pairwise (· < ·))(g:Gs ps.length l):(pp ps l).Pairwise (· < ·):=by
 unfold pp;rw[Pc];refine g.up.imp_of_mem λ {a b} ha hb h=>ic hs h (g.lt b hb)
def tQ (hs:ps.Pairwise (· < ·))(g:Gs ps.length l)(h:qs.Perm (pp ps l)):sortI qs=pp ps l:=
 gk ((sortI_perm qs).trans h) (iq qs) ((Hq hs g).imp λ h=>by omega)
def Lk (hs:ps.Pairwise (· < ·))(g:Gs ps.length l):(pp ps l).Nodup:=(Hq hs g).imp λ h=>by omega
def oQ (hs:ps.Pairwise (· < ·))(g:Gs ps.length l)(h:∀ q,q∈qs↔q∈pp ps l):sortI (L2.dd qs)=pp ps l:=
 tQ hs g ((Pw (Em qs) (Lk hs g)).mpr λ a=>(Ju qs a).trans (h a))
def Lj{rest O:List Nat}{Pl:List (Nat×Nat)}(g:Gs ps.length (fi::rest))(S:PG.St (cc f) ps.length fi (fi::rest) O [] Pl):∃ m:List Nat,m.Perm (PG.gr (fi::rest) Pl)/\Gs ps.length m/\sortI (ni (PG.gr (fi::rest) Pl))=ni m:=by
 obtain⟨m,pm,um,em⟩:=Aw (S.val.nodup g.nd);refine⟨m,pm,⟨λ z=>?_,um,λ x hx=>?_⟩,em⟩
 ·have:=pm.length_eq;rw[z]at this;simp at this
 ·rcases Nk.mp (pm.mem_iff.mp hx) with z|z
  ·exact g.lt x z
  ·obtain⟨y,hy,rfl⟩:=Ni.mp z;exact S.val.bound y hy
def xg{m:List Nat}(h:∀ x,x∈m↔x∈l)(hc:PG.bc (cc f) n l):PG.bc (cc f) n m:=λ k hk hn i hi j hj=>hc k hk (λ z=>hn ((h k).mpr z)) i ((h i).mp hi) j ((h j).mp hj)
end
end KL
namespace PG
variable {acc:List (Int×List Nat)}{T W:List (List Nat)}{l:List Nat}{n:Nat}{c:Nat->Nat->Int}
def iY (c:Nat->Int)(acc:List (Int×List Nat))(m:Nat):List (Int×List Nat):=
 if c m∈acc.map (·.1) then acc.map λ e=>if e.1=c m then (e.1,e.2++[m]) else e else acc++[(c m,[m])]
structure Sh (c:Nat->Int)(l:List Nat)(acc:List (Int×List Nat)):Prop where
 nd:(acc.map (·.1)).Nodup
 eq:∀ e∈acc,e.2=l.filter λ m=>decide (c m=e.1)
 all:∀ m∈l,c m∈acc.map (·.1)
 ne:∀ e∈acc,e.2≠[]
def Sh.nil (c:Nat->Int):Sh c [] []:=⟨by simp,λ _ h=>absurd h Oe,λ _ h=>absurd h Oe,λ _ h=>absurd h Oe⟩
def Sh.step {c:Nat->Int}(h:Sh c l acc)(m:Nat):Sh c (l++[m]) (iY c acc m):=by
 unfold iY;split
 ·rename_i hm;have e1:(acc.map λ e=>if e.1=c m then (e.1,e.2++[m]) else e).map (·.1)=acc.map (·.1):=by
   rw[NK];refine NJ λ e _=>?_;show(if e.1=c m then (e.1,e.2++[m]) else e).1=e.1;split<;>rfl
  refine⟨by rw[e1];exact h.nd,λ e he=>?_,λ x hx=>?_,λ e he=>?_⟩
  ·obtain⟨a,ha,rfl⟩:=Ni.mp he;rw[Qq];have q:=h.eq a ha;by_cases z:a.1=c m
   ·simp only[z,PN];rw[q,z];simp
   ·simp only[z,PV];rw[q];have z':¬ c m=a.1:=λ y=>z y.symm;simp[z']
  ·rw[e1];rcases Nk.mp hx with x'|x'
   ·exact h.all x x'
   ·rw[NY.mp x'];exact hm
  ·obtain⟨a,ha,rfl⟩:=Ni.mp he;by_cases z:a.1=c m
   ·simp only[z,PN];simp
   ·simp only[z,PV];exact h.ne a ha
 ·rename_i hm;refine⟨?_,λ e he=>?_,λ x hx=>?_,λ e he=>?_⟩
  ·rw[Nx,Np];exact⟨h.nd,by simp,λ a ha b hb z=>hm (by
    have e:b=c m:=by simpa using hb
    rw[<-e,<-z];exact ha)⟩
  ·rw[Qq];rcases Nk.mp he with x|x
   ·have z:¬ c m=e.1:=λ y=>hm (y▸Ni.mpr ⟨e,x,rfl⟩);rw[h.eq e x];simp[z]
   ·rw[NY.mp x];have:l.filter (λ y=>decide (c y=c m))=[]:=Po.mpr λ y hy z=>hm (by
     have z:c y=c m:=by simpa using z
     rw[<-z];exact h.all y hy)
    show [m]=l.filter (λ y=>decide (c y=c m))++[m].filter (λ y=>decide (c y=c m));rw[this];simp
  ·rw[Nx];rcases Nk.mp hx with x'|x'
   ·exact Nt _ (h.all x x')
   ·rw[NY.mp x'];simp
  ·rcases Nk.mp he with x|x
   ·exact h.ne e x
   ·rw[NY.mp x];simp
def jg (c:Nat->Int)(l:List Nat):List (Int×List Nat):=l.foldl (iY c) []
def xh (c:Nat->Int):∀ (r l:List Nat) (acc:List (Int×List Nat)),Sh c l acc->Sh c (l++r) (r.foldl (iY c) acc)
 |[],l,acc,h=>by simpa using h
 | m::r,l,acc,h=>by
  have:=xh c r (l++[m]) _ (h.step m);simpa using this
def tT (c:Nat->Int)(l:List Nat):Sh c l (jg c l):=by
 have:=xh c l [] [] (Sh.nil c);simpa[jg] using this
def n9 (c:Nat->Int):∀ (K:List Int) (l:List Nat),K.Nodup->(∀ m∈l,c m∈K)->((K.map λ k=>l.filter λ m=>decide (c m=k)).flatten).Perm l
 | [],l,_,h=>by
  cases l with
  |nil=>exact Ox _|cons a r=>cases h a Na
 | k::K,l,hn,h=>by
  have hn':=Nv.mp hn;have ih:=n9 c K (l.filter λ m=>!decide (c m=k)) hn'.2 λ m hm=>by
   have q:=NF.mp hm;have z:c m≠k:=by simpa using q.2
   exact(Nq.mp (h m q.1)).resolve_left z
  have e:(K.map λ j=>(l.filter λ m=>!decide (c m=k)).filter λ m=>decide (c m=j))=K.map λ j=>l.filter λ m=>decide (c m=j):=by
   refine NJ λ j hj=>?_;rw[List.filter_filter];refine List.filter_congr λ m _=>?_;by_cases z:c m=j
   ·have:¬ j=k:=λ y=>hn'.1 (y▸hj);simp[z,this]
   ·simp[z]
  rw[e]at ih;rw[ND,O9];exact(QN (Ox _) ih).trans (List.filter_append_perm (λ m=>decide (c m=k)) l)
def Sh.perm {c:Nat->Int}(h:Sh c l acc):((acc.map (·.2)).flatten).Perm l:=by
 have e:acc.map (·.2)=(acc.map (·.1)).map λ k=>l.filter λ m=>decide (c m=k):=by
  rw[NK];exact NJ λ e he=>h.eq e he
 rw[e];exact n9 c _ l h.nd h.all
def Sh.two {c:Nat->Int}(h:Sh c l acc){i j:Nat}(hi:i∈l)(hj:j∈l)(hn:c i≠c j):2<=acc.length:=by
 match acc,h.all i hi,h.all j hj with
 |[],a,_=>cases a
 | [e],a,b =>
  have a:c i=e.1:=by simpa using a
  have b:c j=e.1:=by simpa using b
  exact absurd (a.trans b.symm) hn
 |_::_::_,_,_=>simp
structure Gw (c:Nat->Nat->Int)(n:Nat)(S:List Nat)(W T:List (List Nat)):Prop where
 ne:∀ l∈W++T,l≠[]
 up:∀ l∈W++T,l.Pairwise (· < ·)
 perm:((W++T).flatten).Perm S
 cl:∀ l∈T,bc c n l
 JC:∀ C:List Nat,C≠[]->bc c n C->(∀ x∈C,x∈S)->∃ l∈W++T,∀ x∈C,x∈l
def Gw.init{S:List Nat}(h:S≠[])(hu:S.Pairwise (· < ·)):Gw c n S [S] []:=
 ⟨λ l m=>by rw[NY.mp m];exact h,λ l m=>by rw[NY.mp m];exact hu,by simp,λ l m=>absurd m Oe,λ C _ _ hC=>⟨S,by simp,hC⟩⟩
def Ep:((W++[l])++T).Perm (W++(T++[l])):=by
 rw[NT];exact QN (Ox _) List.perm_append_comm
def Gw.told{S:List Nat}(h:Gw c n S (W++[l]) T)(hc:bc c n l):Gw c n S W (T++[l]):=by
 have p:=Ep (W:=W) (T:=T) (l:=l);refine⟨λ x m=>h.ne x (p.mem_iff.mpr m),λ x m=>h.up x (p.mem_iff.mpr m),(p.flatten).symm.trans h.perm,λ x m=>?_,λ C h1 h2 h3=>?_⟩
 ·rcases Nk.mp m with m|m
  ·exact h.cl x m
  ·rw[NY.mp m];exact hc
 ·obtain⟨x,m,q⟩:=h.JC C h1 h2 h3;exact⟨x,p.mem_iff.mp m,q⟩
def Gw.part{S:List Nat}(h:Gw c n S (W++[l]) T){k:Nat}(hk:k<n)(hn:k∉l):Gw c n S (W++(jg (c k) l).map (·.2)) T:=by
 have sh:=tT (c k) l;have mem:∀ x,x∈W++(jg (c k) l).map (·.2)++T->x∈(W++[l])++T\/∃ e∈jg (c k) l,x=e.2:=λ x m=>by
  rcases Nk.mp m with m|m
  ·rcases Nk.mp m with m|m
   ·exact .inl (Nt _ (Nt _ m))
   ·obtain⟨e,he,rfl⟩:=Ni.mp m;exact .inr ⟨e,he,rfl⟩
  ·exact .inl (Nz _ m)
 refine⟨λ x m=>?_,λ x m=>?_,?_,h.cl,λ C h1 h2 h3=>?_⟩
 ·rcases mem x m with m|⟨e,he,rfl⟩
  ·exact h.ne x m
  ·exact sh.ne e he
 ·rcases mem x m with m|⟨e,he,rfl⟩
  ·exact h.up x m
  ·rw[sh.eq e he];exact(h.up l (by simp)).filter _
 ·refine List.Perm.trans ?_ h.perm;rw[OZ,OZ,OZ,OZ];refine QN (QN (Ox _) ?_) (Ox _);simpa using sh.perm
 ·obtain⟨x,m,q⟩:=h.JC C h1 h2 h3;have old:x∈W\/x=l\/x∈T:=by
   rcases Nk.mp m with m|m
   ·rcases Nk.mp m with m|m
    ·exact .inl m
    ·exact .inr (.inl (NY.mp m))
   ·exact .inr (.inr m)
  rcases old with m|rfl|m
  ·exact⟨x,by simp[m],q⟩
  ·obtain⟨y,r,rfl⟩:∃ y r,C=y::r:=by
    cases C with
    |nil=>exact absurd rfl h1|cons y r=>exact⟨y,r,rfl⟩
   have nk:k∉y::r:=λ z=>hn (q k z);obtain⟨e,he,ee⟩:=Ni.mp (sh.all y (q y Na));refine⟨e.2,Nt _ (Nz _ (Ni.mpr ⟨e,he,rfl⟩)),λ z hz=>?_⟩;rw[sh.eq e he];refine NF.mpr ⟨q z hz,?_⟩;have:=h2 k hk nk z hz y Na;simp[this,ee]
  ·exact⟨x,by simp[m],q⟩
def todo (W:List (List Nat)):Nat:=2*W.flatten.length-W.length
def lQ:∀ {W:List (List Nat)},(∀ l∈W,l≠[])->W.length<=W.flatten.length
 |[],_=>Nm _
 | l::W,h=>by
  have:=lQ (W:=W) λ x m=>h x (Nb _ m);have q:=Q3.mpr (h l Na);rw[O9,Nn,Ny];omega
def tS(h:∀ x∈W++[l],x≠[]):todo W<todo (W++[l]):=by
 unfold todo;have a:=lQ (W:=W) λ x m=>h x (Nt _ m);have q:=Q3.mpr (h l (by simp));rw[OZ,Nn,Nn];simp only[O9,RC,NX,NW];omega
def BZ{P:List (List Nat)}(h:∀ x∈W++[l],x≠[])(hp:P.flatten.Perm l)(h2:2<=P.length)(hP:∀ x∈P,x≠[]):todo (W++P)<todo (W++[l]):=by
 unfold todo;have a:=lQ (W:=W) λ x m=>h x (Nt _ m);have b:=lQ hP;have e:=hp.length_eq;rw[OZ,Nn,Nn,OZ,Nn,Nn];simp only[O9,RC,NX,NW];omega
end PG
namespace KL
open DL
variable {d:D}{T W:List (List Nat)}{xs:List D}{ps qs:List Int}{l lr:List Nat}{i j l0:Nat}{f:Nat->Nat->Int}{τ:SD}
abbrev lD (ps:List Int)(f:Nat->Nat->Int)(k:Nat):D:=fm .ak ps (ent f k (jL ps.length))
section
def MA {F H:SD->Res D}{p q:Nat}(hs:ps.Pairwise (· < ·))(hp:p<ps.length)(hq:q<ps.length)(hn:p≠q)(h1:F τ=.ok (lD ps f p))(h3:H τ=.ok (.int (aF ps q))):ah cD F H τ=.ok (.int (cc f p q)):=by
 have lk2:=gf (λ x:Nat×Int=>aF ps x.1) (λ x=>D.int x.2) (q,cc f p q) (ent f p (jL ps.length)) (Ao hp hq hn) λ x hx e=>by
  have e1:=gy hs (u6 hx).2.1 hq e;have e2:=(u6 hx).1;rw[e1]at e2;exact Prod.ext e1 e2
 rw[bf h1 h3];show(if (kI (aF ps q)).kind=false then (match d8 ((ent f p (jL ps.length)).map λ x=>kI (aF ps x.1)) ((ent f p (jL ps.length)).map λ x=>D.int x.2) (kI (aF ps q)) with|some d=>Res.ok d|none=>.bad) else .bad)=_;rw[Nr (show(kI (aF ps q)).kind=false from rfl),lk2]
def Es {F G:SD->Res D}{p:Nat}(hs:ps.Pairwise (· < ·))(hp:p<ps.length)(h1:F τ=.ok (lN ps f))(h2:G τ=.ok (.int (aF ps p))):ah cD F G τ=.ok (lD ps f p):=by
 have lk:=gf (aF ps) (λ i=>fm .ak ps (ent f i (jL ps.length))) p (List.range ps.length) (NC.mpr hp) λ i hi e=>gy hs (NC.mp hi) hp e;rw[bf h1 h2];show(if (kI (aF ps p)).kind=false then (match d8 ((List.range ps.length).map λ i=>kI (aF ps i)) ((List.range ps.length).map λ i=>fm .ak ps (ent f i (jL ps.length))) (kI (aF ps p)) with|some d=>Res.ok d|none=>.bad) else .bad)=_;rw[Nr (show(kI (aF ps p)).kind=false from rfl),lk]
def yM {k:Nat}(h:τ[i]?=some (some (lD ps f k))):aa i τ=.ok (lD ps f k):=by
 unfold aa;rw[h];show Res.ok (lD ps f k).view=_;rw[wZ]
def ve(h:τ[i]?=some (some (lN ps f))):aa i τ=.ok (lN ps f):=by
 unfold aa;rw[h];show Res.ok (lN ps f).view=_;rw[u5]
def lg (ps:List Int)(f:Nat->Nat->Int)(k:Nat)(l:List Nat)(o:Option D):SD:=[some (lD ps f k),some (.lst .ak ((pp ps l).map .int)),o]
def Ll {k:Nat}{o:Option D}:ah cS (aa 1) (eC (.int 0)) (lg ps f k (l0::lr) o)=.ok (.int (aF ps l0)):=iL (cQ rfl (af _)) (y:=.int 0) rfl (qT (j:=0) rfl rfl)
def Ay (hs:ps.Pairwise (· < ·)){k l0:Nat}{lr:List Nat}(hk:k<ps.length)(hl:∀ x∈l0::lr,x<ps.length)(hn:k∉l0::lr):∀ (r:List Nat) (o:Option D),(∀ x∈r,x∈l0::lr) ->
  (∃ o',bW (gN 2) bg ((pp ps r).map .int) (lg ps f k (l0::lr) o)=.nx (lg ps f k (l0::lr) o')/\∀ j∈r,cc f k j=cc f k l0) ∨
  ∃ j:Nat,(j∈l0::lr/\cc f k j≠cc f k l0)/\bW (gN 2) bg ((pp ps r).map .int) (lg ps f k (l0::lr) o)=.rt (.int (aF ps j))
 |[],o,_=>.inl ⟨o,rfl,λ j hj=>absurd hj Oe⟩
 | j::r,o,h=>by
  have hj:=h j Na;have hjn:k≠j:=λ z=>hn (z▸hj);have h0n:k≠l0:=λ z=>hn (z▸Na);have c1:=MA (f:=f) (τ:=lg ps f k (l0::lr) (some (.int (aF ps j)))) (F:=aa 0) (H:=aa 2) hs hk (hl j hj) hjn (yM rfl) rfl;have c2:=MA (f:=f) (τ:=lg ps f k (l0::lr) (some (.int (aF ps j)))) (F:=aa 0) (H:=ah cS (aa 1) (eC (.int 0))) hs hk (hl l0 Na) h0n (yM rfl) Ll;have t:=yH c1 c2;by_cases e:cc f k j=cc f k l0
  ·rw[NP e]at t;have st:bg (lg ps f k (l0::lr) (some (.int (aF ps j))))=.nx (lg ps f k (l0::lr) (some (.int (aF ps j)))):=by
    unfold bg;rw[k9 t];rfl
   have go:bW (gN 2) bg ((pp ps (j::r)).map .int) (lg ps f k (l0::lr) o)=bW (gN 2) bg ((pp ps r).map .int) (lg ps f k (l0::lr) (some (.int (aF ps j)))):=gx (τ':=lg ps f k (l0::lr) (some (.int (aF ps j)))) rfl st;rw[go];rcases Ay hs hk hl hn r (some (.int (aF ps j))) (λ x hx=>h x (Nb _ hx)) with ⟨b',e1,e2⟩|q
   ·refine .inl ⟨b',e1,λ x hx=>?_⟩;rcases Nq.mp hx with rfl|hx
    ·exact e
    ·exact e2 x hx
   ·exact .inr q
  ·rw[NN e]at t;refine .inr ⟨j,⟨hj,e⟩,uY (τ':=lg ps f k (l0::lr) (some (.int (aF ps j)))) rfl ?_⟩;unfold bg;rw[nY t];rfl
def Er (hs:ps.Pairwise (· < ·)){k:Nat}(hk:k<ps.length)(hl:∀ x∈l0::lr,x<ps.length)(hn:k∉l0::lr) :
  (c7 [lD ps f k,.lst .ak ((pp ps (l0::lr)).map .int)]=.ok .bx/\∀ j∈l0::lr,cc f k j=cc f k l0) ∨
  ∃ j:Nat,(j∈l0::lr/\cc f k j≠cc f k l0)/\c7 [lD ps f k,.lst .ak ((pp ps (l0::lr)).map .int)]=.ok (.int (aF ps j)):=by
 have hf:b6 [1] (cV (aa 1)) (gN 2) bg (lg ps f k (l0::lr) none)=bW (gN 2) bg ((pp ps (l0::lr)).map .int) (lg ps f k (l0::lr) none):=
  jc (τ':=lg ps f k (l0::lr) none) (by
   show [some (lD ps f k),some (D.lst .ak (aG ((pp ps (l0::lr)).map .int))),none]=_;rw[a7];rfl) (rf rfl (af _)) (af _)
 rcases Ay (f:=f) hs hk hl hn (l0::lr) none (λ _ h=>h) with ⟨o',e1,e2⟩|⟨j,hj,e⟩
 ·refine .inl ⟨?_,e2⟩;refine cJ (τ:=lg ps f k (l0::lr) none) rfl rfl ?_;unfold gu;rw[aA (hf.trans e1)];rfl
 ·refine .inr ⟨j,hj,?_⟩;refine cJ (τ:=lg ps f k (l0::lr) none) rfl rfl ?_;unfold gu;exact yE (hf.trans e)
def iO (ps:List Int)(f:Nat->Nat->Int)(l:List Nat)(a b:Option D):SD:=[some (lN ps f),some (.lst .ak ((pp ps l).map .int)),a,b]
def Gu (hs:ps.Pairwise (· < ·)){k:Nat}(hl:∀ x∈l0::lr,x<ps.length)(hk:k<ps.length)(b:Option D) :
  (∃ b',aY (iO ps f (l0::lr) (some (.int (aF ps k))) b)=.nx (iO ps f (l0::lr) (some (.int (aF ps k))) b')/\(k∉l0::lr->∀ j∈l0::lr,cc f k j=cc f k l0)) ∨
  (k∉l0::lr/\∃ j:Nat,(j∈l0::lr/\cc f k j≠cc f k l0)/\aY (iO ps f (l0::lr) (some (.int (aF ps k))) b)=.rt (.tup [.int (aF ps k),.int (aF ps l0),.int (aF ps j)])):=by
 have v1:∀ b,aa 1 (iO ps f (l0::lr) (some (.int (aF ps k))) b)=.ok (.lst .ak ((pp ps (l0::lr)).map .int)):=λ b=>cQ rfl (af _);have t:=jE (f:=aa 2) (g:=aa 1) (τ:=iO ps f (l0::lr) (some (.int (aF ps k))) b) (x:=aF ps k) (qs:=pp ps (l0::lr)) rfl (v1 b);rw[Oj.mpr (yK hs hk hl)]at t;unfold aY;by_cases hn:k∈l0::lr
 ·rw[NP hn]at t;rw[k9 t];exact .inl ⟨b,rfl,λ z=>absurd hn z⟩
 ·rw[NN hn]at t;rw[nY t];have call:∀ d,c7 [lD ps f k,.lst .ak ((pp ps (l0::lr)).map .int)]=.ok d->d.pure=true->aw c7 (ae (ah cD (aa 0) (aa 2)) (ae (aa 1) ao)) (iO ps f (l0::lr) (some (.int (aF ps k))) b)=.ok d:=λ d hG hd=>by
   refine c6 (ds:=[lD ps f k,.lst .ak ((pp ps (l0::lr)).map .int)]) (aQ (Es hs hk (ve rfl) rfl) (cO (v1 b))) ?_ hd;show c7 [(lD ps f k).ak,.lst .ak (aG ((pp ps (l0::lr)).map .int))]=_;rw[q9,a7];exact hG
  rcases Er (f:=f) hs hk hl hn with ⟨e,q⟩|⟨j,hj,e⟩
  ·refine .inl ⟨some .bx,?_,λ _=>q⟩;rw[aA (aP (call _ e rfl) rfl)];show eE _ _ _ (iO ps f (l0::lr) (some (.int (aF ps k))) (some .bx))=_;rw[k9 rfl];rfl
  ·refine .inr ⟨hn,j,hj,?_⟩;rw[aA (aP (call _ e rfl) rfl)];show eE _ _ _ (iO ps f (l0::lr) (some (.int (aF ps k))) (some (.int (aF ps j))))=_;rw[nY rfl];refine kN ?_ rfl;have x0:ah cS (aa 1) (eC (.int 0)) (iO ps f (l0::lr) (some (.int (aF ps k))) (some (.int (aF ps j))))=.ok (.int (aF ps l0)):=iL (v1 _) (y:=.int 0) rfl (qT (j:=0) rfl rfl);rw[ig (aQ (d:=.int (aF ps k)) rfl (aQ x0 (cO (d:=.int (aF ps j)) rfl)))];rfl
def Az (hs:ps.Pairwise (· < ·)){l0:Nat}{lr:List Nat}(hl:∀ x∈l0::lr,x<ps.length):∀ (r:List Nat) (a b:Option D),(∀ x∈r,x<ps.length) ->
  (∃ a' b',bW (gN 2) aY ((pp ps r).map .int) (iO ps f (l0::lr) a b)=.nx (iO ps f (l0::lr) a' b')/\∀ k∈r,k∉l0::lr->∀ j∈l0::lr,cc f k j=cc f k l0) ∨
  ∃ k j:Nat,k<ps.length/\k∉l0::lr/\(j∈l0::lr/\cc f k j≠cc f k l0)/\bW (gN 2) aY ((pp ps r).map .int) (iO ps f (l0::lr) a b)=.rt (.tup [.int (aF ps k),.int (aF ps l0),.int (aF ps j)])
 |[],a,b,_=>.inl ⟨a,b,rfl,λ k hk=>absurd hk Oe⟩
 | k::r,a,b,h=>by
  have hk:=h k Na;rcases Gu (f:=f) hs hl hk b with ⟨b',e,q⟩|⟨hn,j,hj,e⟩
  ·have go:bW (gN 2) aY ((pp ps (k::r)).map .int) (iO ps f (l0::lr) a b)=bW (gN 2) aY ((pp ps r).map .int) (iO ps f (l0::lr) (some (.int (aF ps k))) b'):=gx (τ':=iO ps f (l0::lr) (some (.int (aF ps k))) b) rfl e;rw[go];rcases Az hs hl r (some (.int (aF ps k))) b' (λ x hx=>h x (Nb _ hx)) with ⟨a',b'',e1,e2⟩|q'
   ·refine .inl ⟨a',b'',e1,λ x hx=>?_⟩;rcases Nq.mp hx with rfl|hx
    ·exact q
    ·exact e2 x hx
   ·exact .inr q'
  ·exact .inr ⟨k,j,hk,hn,hj,uY (τ':=iO ps f (l0::lr) (some (.int (aF ps k))) b) rfl e⟩
def xj (hs:ps.Pairwise (· < ·))(hl:∀ x∈l0::lr,x<ps.length) :
  (bq [lN ps f,.lst .ak ((pp ps (l0::lr)).map .int)]=.ok .bx/\PG.bc (cc f) ps.length (l0::lr)) ∨
  ∃ k j:Nat,k<ps.length/\k∉l0::lr/\(j∈l0::lr/\cc f k j≠cc f k l0)/\bq [lN ps f,.lst .ak ((pp ps (l0::lr)).map .int)]=.ok (.tup [.int (aF ps k),.int (aF ps l0),.int (aF ps j)]):=by
 have hi:j6 (aa 0) (iO ps f (l0::lr) none none)=.ok (false,(pp ps (List.range ps.length)).map .int):=by
  unfold j6;rw[ve rfl];show Res.ok ((lN ps f).az,((List.range ps.length).map λ i=>kI (aF ps i)).map wx)=_;rw[Ho,NK,jf];rfl
 have hf:b6 [0] (j6 (aa 0)) (gN 2) aY (iO ps f (l0::lr) none none)=bW (gN 2) aY ((pp ps (List.range ps.length)).map .int) (iO ps f (l0::lr) none none):=
  jc (τ':=iO ps f (l0::lr) none none) (by
   show [some (lN ps f).ak,some (D.lst .ak ((pp ps (l0::lr)).map .int)),none,none]=_;rw[u7];rfl) hi (af _)
 rcases Az (f:=f) hs hl (List.range ps.length) none none (λ x hx=>NC.mp hx) with ⟨a',b',e1,e2⟩|⟨k,j,h1,h2,h3,e⟩
 ·refine .inl ⟨?_,tP λ k hk hn j hj=>e2 k (NC.mpr hk) hn j (Nb _ hj)⟩;refine cJ (τ:=iO ps f (l0::lr) none none) rfl rfl ?_;unfold fW;rw[aA (hf.trans e1)];rfl
 ·refine .inr ⟨k,j,h1,h2,h3,?_⟩;refine cJ (τ:=iO ps f (l0::lr) none none) rfl rfl ?_;unfold fW;exact yE (hf.trans e)
end
def xm {α:Type}(P:α->Int)(g:α->D)(q:Int):∀ (l:List α),(∀ a∈l,P a≠q)->d8 (l.map λ a=>kI (P a)) (l.map g) (kI q)=none
 |[],_=>rfl
 | a::l,h=>by
  rw[ND,ND,d8,Nu λ z=>h a Na (oN.mp z)];exact xm P g q l λ b hb=>h b (Nb _ hb)
def yN{fk:SD->Res D}{t:Tg}{ks:List KT}{ys:List D}{q:Int}(ho:cW τ i=some (t,false,ks,xs))(hj:τ[j]?=some (some d))(hk:fk τ=.ok (.int q))(hl:d8 ks xs (kI q)=some (.lst .own ys))(hp:d.pure=true)(h1:ks.length<16777216)(h2:ys.length<16777216) :
  jS i fk j τ=.nx (τ.set i (some (.dct t false ks (jz ks xs (kI q) (.lst .own (ys++[d])))))):=by
 unfold kI at hl;unfold jS kI;rw[ho,hj];simp only;rw[hk,ir];simp only[ff];rw[hl];simp only;rw[Nr ⟨hp,h1,h2⟩]
def yO{fk:SD->Res D}{t:Tg}{ks:List KT}{q:Int}(ho:cW τ i=some (t,false,ks,xs))(hj:τ[j]?=some (some d))(hk:fk τ=.ok (.int q))(hl:d8 ks xs (kI q)=none)(hp:d.pure=true)(h1:ks.length<16777216) :
  jS i fk j τ=.nx (τ.set i (some (.dct t false (ks++[kI q]) (xs++[.lst .own [d]])))):=by
 unfold kI at hl;unfold jS kI;rw[ho,hj];simp only;rw[hk,ir];simp only[ff];rw[hl];simp only;rw[Nr ⟨hp,h1⟩]
abbrev bJ (ps:List Int)(l:List Nat):D:=.lst .own ((pp ps l).map .int)
def LC (ps:List Int)(acc:List (Int×List Nat)):D:=.dct .own false (acc.map λ e=>kI e.1) (acc.map λ e=>bJ ps e.2)
section
def mL (ps:List Int)(f:Nat->Nat->Int)(k:Nat)(l:List Nat)(acc:List (Int×List Nat))(o:Option D):SD:=[some (lD ps f k),some (.lst .ak ((pp ps l).map .int)),some (LC ps acc),o]
def Gv (hs:ps.Pairwise (· < ·)){k m:Nat}{done:List Nat}{acc:List (Int×List Nat)}(hk:k<ps.length)(hm:m<ps.length)(hn:k≠m)(h:PG.Sh (cc f k) done acc)(hd:done.length<=100)(ha:acc.length<=100) :
  cu (mL ps f k l acc (some (.int (aF ps m))))=.nx (mL ps f k l (PG.iY (cc f k) acc m) (some (.int (aF ps m)))):=by
 have c1:=MA (f:=f) (τ:=mL ps f k l acc (some (.int (aF ps m)))) (F:=aa 0) (H:=aa 3) hs hk hm hn (yM rfl) rfl;have e2:cW (mL ps f k l acc (some (.int (aF ps m)))) 2=some (.own,false,acc.map (λ e=>kI e.1),acc.map λ e=>bJ ps e.2):=rfl;unfold cu;by_cases q:cc f k m∈acc.map (·.1)
 ·obtain⟨e,he,ee⟩:=Ni.mp q;have inj:∀ a∈acc,a.1=e.1->a=e:=λ a ma z=>by
   obtain⟨i,hi,rfl⟩:=Qh ma;obtain⟨j,hj,rfl⟩:=Qh he;have pw:acc.Pairwise (λ a b=>a.1≠b.1):=Pc.mp h.nd;rw[OF]at pw;rcases OO i j with w|w|w
   ·exact absurd z (pw i j hi hj w)
   ·subst w;rfl
   ·exact absurd z.symm (pw j i hj hi w)
  have ndA:acc.Nodup:=(List.Pairwise.of_map (·.1) (λ a b (h:a.1≠b.1) z=>h (by rw[z])) h.nd);have len:e.2.length<=100:=by
   rw[h.eq e he];exact N9 (Oh _ _) hd
  have lk:=gf (λ a:Int×List Nat=>a.1) (λ a=>bJ ps a.2) e acc he inj;rw[yN e2 rfl c1 (by rw[<-ee];exact lk) rfl (by rw[M7];omega) (by unfold pp;rw[M7,M7];omega),<-ee,oO (λ a:Int×List Nat=>a.1) (λ a=>bJ ps a.2) e _ acc ndA inj];have e3:PG.iY (cc f k) acc m=acc.map λ a=>if a.1=cc f k m then (a.1,a.2++[m]) else a:=by unfold PG.iY;rw[Nr q]
  show Fl.nx [some (lD ps f k),some (.lst .ak ((pp ps l).map .int)),some (.dct .own false (acc.map λ e=>kI e.1) (acc.map λ a=>if a=e then .lst .own ((pp ps e.2).map .int++[.int (aF ps m)]) else bJ ps a.2)),some (.int (aF ps m))]=_;unfold mL LC;rw[e3,NK,NK];have k1:(acc.map λ a=>kI a.1)=acc.map ((λ e=>kI e.1)∘λ a=>if a.1=cc f k m then (a.1,a.2++[m]) else a):=NJ λ a _=>by
   show kI a.1=kI (if a.1=cc f k m then (a.1,a.2++[m]) else a).1;split<;>rfl
  have k2:(acc.map λ a=>if a=e then D.lst .own ((pp ps e.2).map .int++[.int (aF ps m)]) else bJ ps a.2)=acc.map ((λ e=>bJ ps e.2)∘λ a=>if a.1=cc f k m then (a.1,a.2++[m]) else a):=NJ λ a ma=>by
   show _=bJ ps (if a.1=cc f k m then (a.1,a.2++[m]) else a).2;by_cases z:a=e
   ·subst z;rw[Nr rfl,Nr ee];show _=D.lst .own ((pp ps (a.2++[m])).map .int);rw[jG,Nx];rfl
   ·rw[Nu z,Nu λ y=>z (inj a ma (y.trans ee.symm))]
  rw[<-k1,<-k2]
 ·rw[yO e2 rfl c1 (xm (λ a:Int×List Nat=>a.1) (λ a=>bJ ps a.2) (cc f k m) acc λ a ma z=>q (Ni.mpr ⟨a,ma,z⟩)) rfl (by rw[M7];omega)];have e3:PG.iY (cc f k) acc m=acc++[(cc f k m,[m])]:=by unfold PG.iY;rw[Nu q]
  unfold mL LC;rw[e3,Nx,Nx];rfl
def B7 (c:Nat->Int)(acc:List (Int×List Nat))(m:Nat):(PG.iY c acc m).length<=acc.length+1:=by
 unfold PG.iY;split
 ·rw[M7];omega
 ·rw[Nn];simp
def AA (hs:ps.Pairwise (· < ·)){k:Nat}{l:List Nat}(hk:k<ps.length):∀ (r done:List Nat) (acc:List (Int×List Nat)) (o:Option D),PG.Sh (cc f k) done acc->(∀ x∈r,x<ps.length/\k≠x)->done.length+r.length<=100->acc.length<=done.length ->
  ∃ o',bW (gN 3) cu ((pp ps r).map .int) (mL ps f k l acc o)=.nx (mL ps f k l (r.foldl (PG.iY (cc f k)) acc) o')
 |[],done,acc,o,_,_,_,_=>⟨o,rfl⟩
 | m::r,done,acc,o,h,hr,hd,ha=>by
  rw[Ny]at hd;have q:=hr m Na;have st:=Gv (f:=f) (l:=l) hs hk q.1 q.2 h (by omega) (by omega);have go:bW (gN 3) cu ((pp ps (m::r)).map .int) (mL ps f k l acc o)=bW (gN 3) cu ((pp ps r).map .int) (mL ps f k l (PG.iY (cc f k) acc m) (some (.int (aF ps m)))):=gx (τ':=mL ps f k l acc (some (.int (aF ps m)))) rfl st;rw[go];have:=B7 (cc f k) acc m;exact AA hs hk r (done++[m]) _ _ (h.step m) (λ x hx=>hr x (Nb _ hx)) (by rw[Nn,NW];omega) (by rw[Nn,NW];omega)
def B6 (hs:ps.Pairwise (· < ·)){k:Nat}(hk:k<ps.length)(hl:∀ x∈l,x<ps.length)(hn:k∉l)(h24:l.length<=24):gI [lD ps f k,.lst .ak ((pp ps l).map .int)]=.ok (.lst .own (((PG.jg (cc f k) l).map (·.2)).map (bJ ps))):=by
 refine cJ (τ:=[some (lD ps f k),some (.lst .ak ((pp ps l).map .int)),none,none]) rfl rfl ?_;unfold kY;rw[aA (aP (d:=.dct .own false [] []) rfl rfl)];show aC _ _ (mL ps f k l [] none)=_;have hf:b6 [1] (cV (aa 1)) (gN 3) cu (mL ps f k l [] none)=bW (gN 3) cu ((pp ps l).map .int) (mL ps f k l [] none):=
  jc (τ':=mL ps f k l [] none) (by
   show [some (lD ps f k),some (D.lst .ak (aG ((pp ps l).map .int))),some (LC ps []),none]=_;rw[a7];rfl) (rf rfl (af _)) (af _)
 obtain⟨o',e⟩:=AA (f:=f) (l:=l) hs hk l [] [] none (PG.Sh.nil _) (λ x hx=>⟨hl x hx,λ z=>hn (z▸hx)⟩) (by simp;omega) (Nm _);rw[aA (hf.trans e)];show Fl.rt (D.lst .own ((l.foldl (PG.iY (cc f k)) []).map λ e=>bJ ps e.2))=_;rw[NK];rfl
end
def Gz(h:τ[i]?=some (some (.lst .own (xs++[d]))))(hij:i≠j):sZ j i τ=.nx ((τ.set i (some (.lst .own xs))).set j (some d)):=by
 have e:dE τ i=some (xs++[d]):=by unfold dE;rw[h]
 unfold sZ;rw[e];simp only;have e2:(xs++[d])[(xs++[d]).length-1]?=some d:=by
  rw[Nn,NW,Rg,OJ (Nm _),Nat.sub_self];rfl
 rw[e2];simp only;rw[Nr hij,QR]
def Gx(h:τ[i]?=some (some (.lst .own xs)))(hj:τ[j]?=some (some d))(hij:i≠j)(hl:xs.length<16777216):wm i j τ=.nx ((τ.set j none).set i (some (.lst .own (xs++[d])))):=by
 have e:dE τ i=some xs:=by unfold dE;rw[h]
 unfold wm;rw[e,hj];simp only;rw[Nr ⟨hij,hl⟩]
def GA{g:SD->Res D}{ys:List D}(h:τ[i]?=some (some (.lst .own xs)))(hf:g τ=.ok (.lst .own ys))(hb:au ys=false)(hl:xs.length+ys.length<=16777216):x8 i g τ=.nx (τ.set i (some (.lst .own (xs++ys)))):=by
 have e:dE τ i=some xs:=by unfold dE;rw[h]
 unfold x8;rw[e];simp only;rw[hf,ir];unfold FT;simp only;rw[hb,Nu Nd,Nr hl]
def yP (ps:List Int):∀ P:List (List Nat),au (P.map (bJ ps))=false
 |[]=>rfl
 | l::P=>by
  show((bJ ps l).az||au (P.map (bJ ps)))=false;rw[cI (af _),yP ps P];rfl
def Eu (ps:List Int)(P:List (List Nat)):(D.lst .own (P.map (bJ ps))).aM=.lst .own (P.map (bJ ps)):=by
 show D.lst .own (bu (P.map (bJ ps)))=_;rw[jm,NK]
 congr 1
 exact NJ λ l _=>fQ (af _)
def lex_trans:∀ (a b c:List Int),SR.lexLt a b=true->SR.lexLt b c=true->SR.lexLt a c=true
 |[],[],_,h,_=>by cases h
 |[],_::_,[],_,h=>by cases h
 |[],_::_,_::_,_,_=>rfl|_::_,[],_,h,_=>by cases h
 |_::_,_::_,[],_,h=>by cases h
 | x::r,y::q,z::s,h1,h2=>by
  unfold SR.lexLt at h1 h2 ⊢;by_cases e1:x=y
  ·subst e1;rw[Nr rfl]at h1;by_cases e2:x=z
   ·rw[Nr e2]at h2 ⊢;exact lex_trans r q s h1 h2
   ·rw[Nu e2]at h2 ⊢;exact h2
  ·rw[Nu e1]at h1;have h1:x<y:=by simpa using h1
   by_cases e2:y=z
   ·subst e2;rw[Nu e1];simpa using h1
   ·rw[Nu e2]at h2;have h2:y<z:=by simpa using h2
    rw[Nu (by omega)];simp;omega
section
def jh (ps:List Int)(f:Nat->Nat->Int)(qs:List Int)(W T:List (List Nat))(a b:Option D):SD:=[some (nF ps f),some (.lst .ak (qs.map .int)),some (.lst .own (W.map (bJ ps))),some (lN ps f),some (.lst .own (T.map (bJ ps))),a,b]
def AB {S:List Nat}(G:PG.Gw (cc f) ps.length S W T)(hS:∀ x∈S,x<ps.length)(hl:l∈W++T):∀ x∈l,x<ps.length:=λ x hx=>hS x (G.perm.mem_iff.mp (List.mem_flatten.mpr ⟨l,hl,hx⟩))
def Gy (hs:ps.Pairwise (· < ·))(hp:ps.length<=24){S:List Nat}(G:PG.Gw (cc f) ps.length S (W++[l]) T)(hS:∀ x∈S,x<ps.length)(hc:W.length<=100)(hT:T.length<=100)(a b:Option D) :
  ∃ W' T' a' b',PG.Gw (cc f) ps.length S W' T'/\PG.todo W' < PG.todo (W++[l])/\a8 (jh ps f qs (W++[l]) T a b)=.nx (jh ps f qs W' T' a' b'):=by
 have hll:=AB G hS (l:=l) (by simp);have hne:=G.ne l (by simp);have hup:=G.up l (by simp);have hnd:l.Nodup:=hup.imp λ h=>NH h;have hlen:=PG.dj hnd hll;have ne1:∀ x∈W++[l],x≠[]:=λ x m=>G.ne x (Nt _ m);obtain⟨l0,lr,el⟩:=kh hne;have e1:sZ 5 2 (jh ps f qs (W++[l]) T a b)=.nx (jh ps f qs W T (some (bJ ps l)) b):=by
  rw[Gz (xs:=W.map (bJ ps)) (d:=bJ ps l) (show(jh ps f qs (W++[l]) T a b)[2]?=_ by show some (some (D.lst .own ((W++[l]).map (bJ ps))))=_;rw[Nx];rfl) (by decide)];rfl
 have v5:∀ b,aa 5 (jh ps f qs W T (some (bJ ps l)) b)=.ok (.lst .bor ((pp ps l).map .int)):=λ b=>eV rfl (af _);have call:∀ d,bq [lN ps f,.lst .ak ((pp ps l).map .int)]=.ok d->d.pure=true->aw bq (ae (aa 3) (ae (aa 5) ao)) (jh ps f qs W T (some (bJ ps l)) b)=.ok d:=λ d hG hd=>by
  refine c6 (ds:=[lN ps f,.lst .bor ((pp ps l).map .int)]) (aQ (ve rfl) (cO (v5 b))) ?_ hd;show bq [(lN ps f).ak,.lst .ak (aG ((pp ps l).map .int))]=_;rw[u7,a7];exact hG
 have am:=xj (f:=f) hs (l0:=l0) (lr:=lr) (by rw[<-el];exact hll);rw[<-el]at am;unfold a8;rw[aA e1];rcases am with ⟨e,cl⟩|⟨k,j,h1,h2,⟨h3,h4⟩,e⟩
 ·refine⟨W,T++[l],none,some .bx,G.told cl,PG.tS ne1,?_⟩;rw[aA (aP (call _ e rfl) rfl)];show eE _ _ _ (jh ps f qs W T (some (bJ ps l)) (some .bx))=_;rw[nY rfl,Gx (xs:=T.map (bJ ps)) (d:=bJ ps l) rfl rfl (by decide) (by rw[M7];omega)];unfold jh;rw[Nx];rfl
 ·have sh:=PG.tT (cc f k) l;have two:=sh.two h3 (show l0∈l by rw[el];exact Na) h4;refine⟨W++(PG.jg (cc f k) l).map (·.2),T,some (bJ ps l),some (.tup [.int (aF ps k),.int (aF ps l0),.int (aF ps j)]),G.part h1 h2,PG.BZ ne1 sh.perm (by rw[M7];exact two) (λ x m=>by obtain⟨z,hz,rfl⟩:=Ni.mp m;exact sh.ne z hz),?_⟩;rw[aA (aP (call _ e rfl) rfl)];show eE _ _ _ (jh ps f qs W T (some (bJ ps l)) (some (.tup [.int (aF ps k),.int (aF ps l0),.int (aF ps j)])))=_;rw[k9 rfl];have x0:ah cS (aa 6) (eC (.int 0)) (jh ps f qs W T (some (bJ ps l)) (some (.tup [.int (aF ps k),.int (aF ps l0),.int (aF ps j)])))=.ok (.int (aF ps k)):=iL (x:=.tup [.int (aF ps k),.int (aF ps l0),.int (aF ps j)]) rfl rfl (i6 (j:=0) rfl rfl);have cs:aw gI (ae (ah cD (aa 3) (ah cS (aa 6) (eC (.int 0)))) (ae (aa 5) ao)) (jh ps f qs W T (some (bJ ps l)) (some (.tup [.int (aF ps k),.int (aF ps l0),.int (aF ps j)])))=.ok (.lst .own (((PG.jg (cc f k) l).map (·.2)).map (bJ ps))):=by
   refine eu (ds:=[lD ps f k,.lst .bor ((pp ps l).map .int)]) (aQ (Es hs h1 (ve rfl) x0) (cO (v5 _))) ?_ (Eu ps _);show gI [(lD ps f k).ak,.lst .ak (aG ((pp ps l).map .int))]=_;rw[q9,a7];exact B6 hs h1 hll h2 (by omega)
  have sl:((PG.jg (cc f k) l).map (·.2)).length<=24:=by
   have:=PG.lQ (W:=(PG.jg (cc f k) l).map (·.2)) (λ x m=>by obtain⟨z,hz,rfl⟩:=Ni.mp m;exact sh.ne z hz);rw[sh.perm.length_eq]at this;omega
  rw[GA (xs:=W.map (bJ ps)) rfl cs (yP ps _) (by rw[M7,M7];omega)];unfold jh;rw[Nx];rfl
def yQ {S:List Nat}(G:PG.Gw (cc f) ps.length S W T):W.length+T.length<=S.length:=by
 have:=PG.lQ (W:=W++T) G.ne;rw[G.perm.length_eq,Nn]at this;exact this
def Et (hs:ps.Pairwise (· < ·))(hp:ps.length<=24){S:List Nat}(hS:∀ x∈S,x<ps.length)(hSl:S.length<=24):∀ (m:Nat) (W T:List (List Nat)) (a b:Option D),PG.Gw (cc f) ps.length S W T->PG.todo W<=m ->
  ∃ T' a' b',PG.Gw (cc f) ps.length S [] T'/\bU br a8 (m+1) (jh ps f qs W T a b)=.nx (jh ps f qs [] T' a' b'):=by
 intro m
 induction m with
 | zero =>
  intro W T a b G h;rcases QF W with rfl|⟨W',l,rfl⟩
  ·exact⟨T,a,b,G,rfl⟩
  ·rw[QG]at G h;have:=PG.tS (W:=W') (l:=l) λ x m=>G.ne x (Nt _ m);omega
 | succ m ih =>
  intro W T a b G h;rcases QF W with rfl|⟨W',l,rfl⟩
  ·exact⟨T,a,b,G,rfl⟩
  ·rw[QG]at G h ⊢;have hl:=yQ G;rw[Nn,NW]at hl;obtain⟨W2,T2,a2,b2,G2,t2,e2⟩:=Gy (qs:=qs) hs hp G hS (by omega) (by omega) a b;obtain⟨T',a',b',G',e'⟩:=ih W2 T2 a2 b2 G2 (by omega);refine⟨T',a',b',G',?_⟩;have c:br (jh ps f qs (W'++[l]) T a b)=.ok true:=by
    unfold br JT aa;show(Res.ok (D.lst .bor (bG ((W'++[l]).map (bJ ps))))).bind _=_;rw[Res.aH,kG,Nx,Nx];show Res.ok (!(((W'.map (bJ ps)).map D.view++_).isEmpty))=_;cases (W'.map (bJ ps)).map D.view<;>rfl
   rw[bU,c];show(match a8 (jh ps f qs (W'++[l]) T a b) with|.nx t=>bU br a8 (m+1) t|.ct t=>bU br a8 (m+1) t|.bk t=>Fl.nx t|o=>o)=_;rw[e2];exact e'
end
def GC {c:Nat->Nat->Int}{n:Nat}{S:List Nat}{T':List (List Nat)}(h:PG.Gw c n S [] T)(p:T'.Perm T):PG.Gw c n S [] T':=
 ⟨λ l m=>h.ne l (p.mem_iff.mp m),λ l m=>h.up l (p.mem_iff.mp m),(p.flatten).trans h.perm,λ l m=>h.cl l (p.mem_iff.mp m),λ C h1 h2 h3=>by
  obtain⟨l,m,q⟩:=h.JC C h1 h2 h3;exact⟨l,p.mem_iff.mpr m,q⟩⟩
def Ew {c:Nat->Nat->Int}{n:Nat}{S:List Nat}(h:PG.Gw c n S [] T)(hS:S.Nodup)(hi:i<T.length)(hj:j<T.length)(hij:i≠j):∃ a r b q,T[i]=a::r/\T[j]=b::q/\a≠b:=by
 obtain⟨a,r,ea⟩:=kh (h.ne T[i] (by simp));obtain⟨b,q,eb⟩:=kh (h.ne T[j] (by simp));refine⟨a,r,b,q,ea,eb,λ z=>?_⟩;have nd:T.flatten.Nodup:=by
  have:=h.perm.nodup_iff.mpr hS;simpa using this
 have dis:=(List.pairwise_flatten.mp nd).2;rw[OF]at dis;rcases OO i j with w|w|w
 ·exact dis i j hi hj w a (by rw[ea];simp) b (by rw[eb];simp) z
 ·exact hij w
 ·exact dis j i hj hi w b (by rw[eb];simp) a (by rw[ea];simp) z.symm
def JD (ps:List Int)(m:Nat)(g:Nat->List (Nat×Int)):(pK .own ps m g).az=false:=by
 show(false||au ((List.range m).map λ i=>fm .own ps (g i)))=false;rw[Bool.false_or];generalize List.range m=L
 induction L with
 |nil=>rfl
 | cons i r ih =>
  show((fm .own ps (g i)).az||au (r.map λ i=>fm .own ps (g i)))=false;rw[ih];show((false||au ((g i).map λ x=>D.int x.2))||false)=false;rw[bM _ (bo λ d m=>by obtain⟨x,_,rfl⟩:=Ni.mp m;rfl)];rfl
section
def GB (hs:ps.Pairwise (· < ·)){S:List Nat}(G:PG.Gw (cc f) ps.length S [] T)(hS:∀ x∈S,x<ps.length)(hSn:S.Nodup)(hT:T.length<64)(h:τ[4]?=some (some (.lst .own (T.map (bJ ps))))) :
  ∃ T',PG.Gw (cc f) ps.length S [] T'/\T'.Pairwise (λ a b=>a.headD 0<b.headD 0)/\gH 4 τ=.rt (.lst .own (T'.map (bJ ps))):=by
 have hlt:∀ i (hi:i<T.length) x,x∈T[i]->x<ps.length:=λ i hi x hx=>AB G hS (l:=T[i]) (by simp) x hx;have gd:∀ i,i<T.length->(T.map (pp ps)).getD i []=pp ps (T.getD i []):=λ i hi=>by
  rw[Nf,Nf,NG,M9 hi];rfl
 have ge:∀ i (hi:i<T.length),T.getD i []=T[i]:=λ i hi=>by rw[Nf,M9 hi];rfl
 have lt_of:∀ i j (hi:i<T.length) (hj:j<T.length),i≠j->∃ a b,(T.getD i []).headD 0=a/\(T.getD j []).headD 0=b/\a≠b/\(SR.rO (T.map (pp ps)) i j=true↔a<b):=λ i j hi hj hij=>by
  obtain⟨a,r,b,q,ea,eb,ne⟩:=Ew G hSn hi hj hij;refine⟨a,b,by rw[ge i hi,ea];rfl,by rw[ge j hj,eb];rfl,ne,?_⟩;show SR.lexLt ((T.map (pp ps)).getD i []) ((T.map (pp ps)).getD j [])=true↔_;rw[gd i hi,gd j hj,ge i hi,ge j hj,ea,eb];have ha:=hlt i hi a (by rw[ea];simp);have hb:=hlt j hj b (by rw[eb];simp);have np:aF ps a≠aF ps b:=λ z=>ne (gy hs ha hb z);show SR.lexLt (aF ps a::pp ps r) (aF ps b::pp ps q)=true↔_;unfold SR.lexLt;rw[Nu np,OL];refine⟨λ z=>?_,λ z=>ic hs z hb⟩;rcases OO a b with y|y|y
  ·exact y
  ·exact absurd y ne
  ·have:=ic hs y ha;omega
 have o:SR.Ord (T.map (bJ ps)).length (SR.rO (T.map (pp ps))):=⟨λ i j k h1 h2=>lex_trans _ _ _ h1 h2,λ i j hi hj hij=>by
  rw[M7]at hi hj;obtain⟨a,b,_,_,ne,w⟩:=lt_of i j hi hj hij;obtain⟨b',a',e1,e2,ne',w'⟩:=lt_of j i hj hi (OV hij);obtain⟨a3,b3,e3,e4,_,_⟩:=lt_of i j hi hj hij;rcases OO a b with z|z|z
  ·exact .inl (w.mpr z)
  ·exact absurd z ne
  ·refine .inr (w'.mpr ?_);subst e1 e2;rename_i h1 h2;omega⟩
 obtain⟨q,qp,qe,qw⟩:=qt D.bx o;rw[M7]at qp;have qlt:∀ i∈q,i<T.length:=λ i m=>NC.mp (qp.mem_iff.mp m);refine⟨q.map λ i=>T.getD i [],GC G ?_,?_,?_⟩
 ·refine(qp.map _).trans ?_;have e3:(List.range T.length).map (λ i=>T.getD i [])=T:=by
   refine OS (by simp) λ i h1 h2=>?_;simp;rw[M9 h2];rfl
  rw[e3]
 ·rw[Pc];have nd:q.Nodup:=qp.nodup_iff.mpr Pq;refine(qw.and nd).imp_of_mem λ {i j} mi mj h=>?_;obtain⟨a,b,e1,e2,_,w⟩:=lt_of i j (qlt i mi) (qlt j mj) h.2;rw[e1,e2];exact w.mp h.1
 ·unfold gH;rw[h];simp only;have e:km (T.map (bJ ps))=some (T.map (pp ps)):=by
   have:=iy (T.map (pp ps)) λ _=>.own;rw[NK]at this;exact this
  rw[e];simp only;rw[Nr (by rw[M7];exact hT),qe,NK]
  congr 2
  refine NJ λ i m=>?_;show(T.map (bJ ps)).getD i .bx=bJ ps (T.getD i []);rw[Nf,NG,M9 (qlt i m),ge i (qlt i m)];rfl
def xn (hs:ps.Pairwise (· < ·))(hp:ps.length<=24)(g:Gs ps.length l)(hq:∀ q,q∈qs↔q∈pp ps l)(hql:qs.length<64) :
  ∃ T,PG.Gw (cc f) ps.length l [] T/\T.Pairwise (λ a b=>a.headD 0<b.headD 0)/\cX [nF ps f,.lst .ak (qs.map .int)]=.ok (.lst .own (T.map (bJ ps))):=by
 have hll:=g.len;have h1:∀ q∈qs,q∈ps:=λ q m=>by
  obtain⟨i,hi,rfl⟩:=Ni.mp ((hq q).mp m);exact Ax (g.lt i hi)
 have h2:qs≠[]:=λ e=>by
  obtain⟨l0,lr,el⟩:=kh g.ne;have:=(hq (aF ps l0)).mpr (by rw[el];exact Na);rw[e]at this;cases this
 have hd:=oQ hs g hq;have G0:PG.Gw (cc f) ps.length l [l] []:=PG.Gw.init g.ne g.up;have ht:PG.todo [l]<=60:=by
  unfold PG.todo;simp only[O9,RC,NX,NW];omega
 obtain⟨T,a,b,G,e⟩:=Et (f:=f) (qs:=qs) hs hp g.lt (by omega) 60 [l] [] none none G0 ht;have gl:=yQ G;obtain⟨T',G',pw,er⟩:=GB (f:=f) hs G g.lt g.nd (by simp at gl;omega) (τ:=jh ps f qs [] T a b) rfl;refine⟨T',G',pw,?_⟩;refine cJ (τ:=[some (nF ps f),some (.lst .ak (qs.map .int)),none,none,none,none,none]) rfl rfl ?_;unfold fU;have s1:aw bD (ae (ah cS (aa 0) (eC (.int 0))) (ae (aa 1) ao)) [some (nF ps f),some (.lst .ak (qs.map .int)),none,none,none,none,none]=.ok (bJ ps l):=
  eu (ds:=[.tup (ps.map .int),.lst .ak (qs.map .int)]) (aQ (u3 (tR rfl)) (cO (cQ rfl (af _)))) (by
   show bD [.tup (aG (ps.map .int)),.lst .ak (aG (qs.map .int))]=_;rw[a7,a7,mK h1 h2 hql,hd]) (fQ (af _))
 rw[aA (aP (d:=.lst .own [bJ ps l]) ((ig (cO s1)).trans rfl) (by
  show(false||au ([l].map (bJ ps)))=false;rw[yP];rfl))]
 have sg:aw bQ (ae (aa 0) ao) [some (nF ps f),some (.lst .ak (qs.map .int)),some (.lst .own [bJ ps l]),none,none,none,none]=.ok (pK .own ps ps.length λ i=>ent f i (jL ps.length)):=
  fP (ds:=[nF ps f]) (cO (tR rfl)) (by show bQ [(nF ps f).ak]=_;rw[bL _ (aU _ _)];exact oM hs hp) (by show((nF ps f).az||false)=false;rw[ck _ (aU _ _)];rfl)
 show aC _ _ [some (nF ps f),some (.lst .ak (qs.map .int)),some (.lst .own [bJ ps l]),none,none,none,none]=_;rw[aA (aP sg (JD _ _ _))];have fz:iD [3] (aS 4 (eA dw ao)) [some (nF ps f),some (.lst .ak (qs.map .int)),some (.lst .own [bJ ps l]),some (pK .own ps ps.length λ i=>ent f i (jL ps.length)),none,none,none]=.nx (jh ps f qs [l] [] none none):=by
  unfold iD;show aS 4 (eA dw ao) [some (nF ps f),some (.lst .ak (qs.map .int)),some (.lst .own [bJ ps l]),some (pK .own ps ps.length λ i=>ent f i (jL ps.length)).ak,none,none,none]=_;rw[yJ];rfl
 show aC _ _ [some (nF ps f),some (.lst .ak (qs.map .int)),some (.lst .own [bJ ps l]),some (pK .own ps ps.length λ i=>ent f i (jL ps.length)),none,none,none]=_;rw[aA fz];have w:jQ br a8 (jh ps f qs [l] [] none none)=.nx (jh ps f qs [] T a b):=by
  rw[sO (n:=61) (by rw[e];exact Fl.noConfusion),e]
 rw[aA w];exact er
end
end KL
namespace PG
variable {A B C l:List Nat}{n:Nat}
def bits (n m:Nat):List Nat:=(List.range n).filter λ k=>decide (m/2^k%2=1)
def AD (p:Nat->Bool):∀ n,∃ m,m<2^n/\∀ k,k<n->(m/2^k%2=1↔p k=true)
 |0=>⟨0,by decide,λ k hk=>absurd hk (by omega)⟩
 | n+1=>by
  obtain⟨m,hm,h⟩:=AD p n;have e2:2^(n+1)=2^n+2^n:=by rw[Nat.pow_succ];omega
  have pos:0<2^n:=RK (by decide);cases q:p n with
  | false =>
   refine⟨m,by omega,λ k hk=>?_⟩;by_cases z:k=n
   ·subst z;rw[Nat.div_eq_of_lt hm,q];decide
   ·exact h k (by omega)
  | true =>
   refine⟨m+2^n,by omega,λ k hk=>?_⟩;by_cases z:k=n
   ·subst z;rw[Nat.add_div_right _ pos,Nat.div_eq_of_lt hm,q];decide
   ·have hk':k<n:=by omega
    have e3:2^n=2^k*(2*2^(n-k-1)):=by
     rw[<-Nat.pow_succ',<-Nat.pow_add]
     congr 1
     omega
    rw[e3,Nat.add_mul_div_left _ _ (RK (by decide)),Nat.add_mul_mod_self_left];exact h k hk'
def yT {a b:List Nat}(ha:a.Pairwise (· < ·))(hb:b.Pairwise (· < ·))(h:∀ x,x∈a↔x∈b):a=b:=
 List.Perm.eq_of_pairwise (λ a b _ _ h1 h2=>by omega) (ha.imp λ h=>Ph h) (hb.imp λ h=>Ph h) ((Pw (ha.imp λ h=>NH h) (hb.imp λ h=>NH h)).mpr h)
def vf (n m:Nat):(bits n m).Pairwise (· < ·):=List.pairwise_lt_range.sublist ON
def GD {m x:Nat}(h:x∈bits n m):x<n:=NC.mp (NF.mp h).1
def Ey(hu:l.Pairwise (· < ·))(hl:∀ x∈l,x<n):∃ m,m<2^n/\bits n m=l:=by
 obtain⟨m,hm,h⟩:=AD (λ k=>decide (k∈l)) n;refine⟨m,hm,yT (vf n m) hu λ x=>?_⟩;unfold bits;rw[NF,Og,NC];constructor
 ·rintro⟨h1,h2⟩;exact O8 ((h x h1).mp h2)
 ·intro hx;exact⟨hl x hx,(h x (hl x hx)).mpr (NP hx)⟩
def xo {m m':Nat}(h1:m<2^n)(h2:m' < 2^n)(h:bits n m=bits n m'):m=m':=by
 refine Nat.eq_of_testBit_eq λ k=>?_;by_cases hk:k<n
 ·rw[PF,PF,Oj];have q:k∈bits n m↔k∈bits n m':=by rw[h]
  unfold bits at q;rw[NF,NF,Og,Og,NC]at q;exact⟨λ z=>(q.mp ⟨hk,z⟩).2,λ z=>(q.mpr ⟨hk,z⟩).2⟩
 ·have p:2^n<=2^k:=Qc (by decide) (by omega);rw[Nat.testBit_lt_two_pow (by omega),Nat.testBit_lt_two_pow (by omega)]
def tU (n:Nat):bits n 0=[]:=by
 unfold bits;rw[Po];intro k _;rw[Nat.zero_div];decide
def rX (n:Nat):List (List Nat):=(List.range (2^n-1)).map λ i=>bits n (i+1)
def rq:l∈rX n↔l≠[]/\l.Pairwise (· < ·)/\∀ x∈l,x<n:=by
 unfold rX;have pos:0<2^n:=RK (by decide);constructor
 ·intro h;obtain⟨i,hi,rfl⟩:=Ni.mp h;have hi:=NC.mp hi;refine⟨λ z=>?_,vf _ _,λ x hx=>GD hx⟩;have:=xo (n:=n) (m:=i+1) (m':=0) (by omega) pos (z.trans (tU n).symm);omega
 ·rintro⟨h1,h2,h3⟩;obtain⟨m,hm,e⟩:=Ey h2 h3;have:m≠0:=λ z=>h1 (by rw[<-e,z,tU]);exact Ni.mpr ⟨m-1,NC.mpr (by omega),by rw[show m-1+1=m by omega];exact e⟩
def yR (n:Nat):(rX n).Nodup:=by
 unfold rX;rw[List.Nodup,Pc];refine(Pq).imp_of_mem λ {a b} ha hb h z=>h ?_;have ha:=NC.mp ha;have hb:=NC.mp hb;have:=xo (n:=n) (by omega) (by omega) z;omega
def B8(h:1<=n):∃ r,rX n=r++[List.range n]:=by
 have pos:2<=2^n:=by
  have:=Qc (n:=2) (by decide) h;omega
 unfold rX;rw[show 2^n-1=(2^n-2)+1 by omega,Qp,Nx];refine⟨(List.range (2^n-2)).map λ i=>bits n (i+1),?_⟩
 congr 1
 show [bits n (2^n-2+1)]=_
 congr 1
 refine yT (vf _ _) Qy λ x=>?_;unfold bits;rw[NF,Og];refine⟨λ z=>z.1,λ hx=>⟨hx,?_⟩⟩;have hx:=NC.mp hx;have t:=Nat.testBit_two_pow_sub_one n x;rw[PF,show 2^n-1=2^n-2+1 by omega]at t;rw[NP hx]at t;exact O8 t
open Classical in
def GF (c:Nat->Nat->Int)(n:Nat):List (List Nat):=(rX n).filter λ l=>decide (bc c n l)
section
variable {c:Nat->Nat->Int}
open Classical in
def Ez:l∈GF c n↔(l≠[]/\l.Pairwise (· < ·)/\∀ x∈l,x<n)/\bc c n l:=by
 unfold GF;rw[NF,rq,Og]
def yS:(GF c n).Nodup:=(yR n).sublist ON
def bc.meet(hA:bc c n A)(hB:bc c n B)(h:∀ x,x∈C↔x∈A/\x∈B):bc c n C:=λ k hk hn i hi j hj=>by
 by_cases z:k∈A
 ·exact hB k hk (λ y=>hn ((h k).mpr ⟨z,y⟩)) i ((h i).mp hi).2 j ((h j).mp hj).2
 ·exact hA k hk z i ((h i).mp hi).1 j ((h j).mp hj).1
def bc.both(hA:bc c n A)(hB:bc c n B){z:Nat}(zA:z∈A)(zB:z∈B)(h:∀ x,x∈C↔x∈A\/x∈B):bc c n C:=λ k hk hn i hi j hj=>by
 have nA:k∉A:=λ y=>hn ((h k).mpr (.inl y));have nB:k∉B:=λ y=>hn ((h k).mpr (.inr y));have to:∀ i∈C,c k i=c k z:=λ i hi=>by
  rcases (h i).mp hi with y|y
  ·exact hA k hk nA i y z zA
  ·exact hB k hk nB i y z zB
 rw[to i hi,to j hj]
def bc.rest(sy:∀ a b,c a b=c b a)(hA:bc c n A)(hB:bc c n B)(lA:∀ x∈A,x<n)(lB:∀ x∈B,x<n){z:Nat}(zB:z∈B)(zA:z∉A)(h:∀ x,x∈C↔x∈A/\x∉B):bc c n C:=λ k hk hn i hi j hj=>by
 obtain⟨iA,iB⟩:=(h i).mp hi;obtain⟨jA,jB⟩:=(h j).mp hj;by_cases kA:k∈A
 ·have kB:k∈B:=Od λ y=>hn ((h k).mpr ⟨kA,y⟩);rw[sy k i,hB i (lA i iA) iB k kB z zB,sy i z,hA z (lB z zB) zA i iA j jA,sy z j,hB j (lA j jA) jB z zB k kB,sy]
 ·exact hA k hk kA i iA j jA
def sub_len:∀ {a b:List Nat},a.Nodup->(∀ x∈a,x∈b)->a.length<=b.length
 |[],_,_,_=>OD _
 | x::a,b,na,h=>by
  obtain⟨n1,n2⟩:=Nv.mp na;have:=sub_len (a:=a) (b:=b.erase x) n2 λ y hy=>by
   have ne:y≠x:=λ z=>n1 (z▸hy);exact(QT ne).mpr (h y (Nb _ hy))
  have hx:=h x Na;rw[List.length_erase_of_mem hx]at this;have:=List.length_pos_of_mem hx;rw[Ny];omega
def Ex {a b:List Nat}(ha:a.Pairwise (· < ·))(hb:b.Pairwise (· < ·))(h:∀ x∈a,x∈b)(hl:b.length<=a.length):a=b:=by
 have na:a.Nodup:=ha.imp λ h=>NH h;have nb:b.Nodup:=hb.imp λ h=>NH h;refine yT ha hb λ x=>⟨h x,λ hx=>Od λ z=>?_⟩;have:=sub_len (a:=x::a) (b:=b) (Nv.mpr ⟨z,na⟩) λ y hy=>by
  rcases Nq.mp hy with rfl|hy
  ·exact hx
  ·exact h y hy
 rw[Ny]at this;omega
end
end PG
namespace KL
open DL XF
variable {P T:List (List Nat)}{ns ps qs:List Int}{l m:List Nat}{i j n:Nat}{c f:Nat->Nat->Int}{τ:SD}{tt:SD->Res Bool}{a elt:SD->Res D}
abbrev LL (t:Tg)(Z:List (List Int)):List D:=Z.map λ ns=>.lst t (ns.map .int)
def yW (t:Tg)(Z:List (List Int)):aG (LL t Z)=LL .ak Z:=by
 rw[iR,NK];refine NJ λ ns _=>?_;show D.lst .ak (aG (ns.map .int))=_;rw[a7]
def GI (Z:List (List Int)):bG (LL .ak Z)=LL .ak Z:=by
 rw[kG,NK];refine NJ λ ns _=>?_;show D.lst .ak (bG (ns.map .int))=_;rw[dX _ (af ns)]
def Hr (t:Tg)(ht:t=.ak\/t=.own):∀ Z:List (List Int),au (LL t Z)=false
 |[]=>rfl
 | ns::Z=>by
  show((D.lst t (ns.map .int)).az||au (LL t Z))=false;rw[Hr t ht Z];rcases ht with rfl|rfl
  ·show((false||au (ns.map D.int))||false)=false;rw[nu];rfl
  ·rw[cI (af _)];rfl
def JG (ps:List Int)(T:List (List Nat)):T.map (bJ ps)=LL .own (T.map (pp ps)):=by
 unfold LL;rw[NK];rfl
def JE{Z:List (List Int)}(h:τ[i]?=some (some (.lst .ak (LL .ak Z)))):aa i τ=.ok (.lst .ak (LL .ak Z)):=by
 unfold aa;rw[h];show Res.ok (D.lst .ak (bG (LL .ak Z)))=_;rw[GI]
def Lm{Z:List (List Int)}(h:τ[i]?=some (some (.lst .ak (LL .ak Z)))):cV (aa i) τ=.ok (false,LL .ak Z):=by
 unfold cV;rw[JE h,Res.aH];show Res.ok ((false||au (LL .ak Z)),LL .ak Z)=_;rw[Hr _ (.inl rfl)];rfl
def rA {js:List Nat}{it:SD->Res (Bool×List D)}{tg:uv}{body:SF}{τ':SD}{ds:List D}(hf:b9 js τ=τ')(h:it τ'=.ok (false,ds)):b6 js it tg body τ=bW tg body (aG ds) τ':=by
 unfold b6;rw[hf,h]
def JH {t:Tg}{xs:List D}{x:D}:cS (.lst t (xs++[x])) (.int (-1))=.ok x:=by
 have e:L2.rH (xs++[x]) (-1)=some x:=by
  have hl:(xs++[x]).length=xs.length+1:=by simp
  have hn:L2.Ff (xs.length+1) (-1)=some xs.length:=by
   unfold L2.Ff;simp;omega
  unfold L2.rH;rw[hl,hn];simp
 show(match L2.rH (xs++[x]) (-1) with|some d=>Res.ok d|none=>.bad)=_;rw[e]
def GG{t:Tg}(h:a τ=.ok (.lst t (ns.map .int)))(hl:ns.length<64):eA bY (ae a ao) τ=.ok (.lst .own ((sortI ns).map .int)):=by
 rw[ig (cO h)];show(match intsOf (ns.map D.int) with|some ns=>if ns.length<64 then Res.ok (D.lst .own ((sortI ns).map D.int)) else .bad|none=>.bad)=_;rw[dC];show(if ns.length<64 then Res.ok (D.lst .own ((sortI ns).map D.int)) else .bad)=_;rw[Nr hl]
def oR (bt:Nat->Nat->Bool)(F:Nat->Int)(hb:∀ i j,bt i j=decide (F i<F j)):∀ k,PySem.argBest bt k<=k/\∀ i,i<=k->F (PySem.argBest bt k)<=F i
 | 0=>⟨Nm _,λ i hi=>by
  have:i=0:=by omega
  subst this;exact RJ _⟩
 | k+1=>by
  obtain⟨h1,h2⟩:=oR bt F hb k;have e:PySem.argBest bt (k+1)=if bt (k+1) (PySem.argBest bt k)=true then k+1 else PySem.argBest bt k:=rfl
  rw[e,hb];by_cases h:F (k+1)<F (PySem.argBest bt k)
  ·rw[NP h,Nr rfl];refine⟨Nm _,λ i hi=>?_⟩;by_cases z:i=k+1
   ·rw[z];exact RJ _
   ·have:=h2 i (by omega);omega
  ·rw[NN h,Nu Nd];refine⟨by omega,λ i hi=>?_⟩;by_cases z:i=k+1
   ·rw[z];omega
   ·exact h2 i (by omega)
def yV(h:0<ns.length):L2.least ns∈ns/\∀ x∈ns,L2.least ns<=x:=by
 obtain⟨h1,h2⟩:=oR (λ i j=>decide (ns.getD i 0<ns.getD j 0)) (λ i=>ns.getD i 0) (λ _ _=>rfl) (ns.length-1);refine⟨?_,λ x hx=>?_⟩
 ·unfold L2.least;rw[Nf,M9 (by omega)];exact Of _
 ·obtain⟨i,hi,e⟩:=OE.mp hx;have:=h2 i (by omega);have e2:ns.getD i 0=x:=by rw[Nf,M9 hi];exact e
  rw[e2]at this;exact this
def JI{t:Tg}(h:a τ=.ok (.lst t (ns.map .int)))(hl:0<ns.length):eA wg (ae a ao) τ=.ok (.int (L2.least ns)):=by
 rw[ig (cO h)];show(match intsOf (ns.map D.int) with|some ns=>if 0<ns.length then Res.ok (D.int (L2.least ns)) else .bad|none=>.bad)=_;rw[dC];show(if 0<ns.length then Res.ok (D.int (L2.least ns)) else .bad)=_;rw[Nr hl]
def rz {α:Type}{it:SD->Res (Bool×List D)}{cap:List (PySem.Str×Nat)}{l:List α}(h h' f:α->D)(p:α->Bool)(hit:it τ=.ok (false,l.map h))(hz:∀ a∈l,(h a).ak=h' a)
  (ht:∀ a∈l,tt (some (h' a)::cN τ cap)=.ok (p a)) (he:∀ a∈l,p a=true->elt (some (h' a)::cN τ cap)=.ok (f a)/\(f a).az=false) (hl:l.length<=1000) (hcap:cE τ cap=false:=by rfl):aJ it (gN 0) tt elt 1 cap τ=.ok (.lst .own ((l.filter p).map f)):=by
 have hc:fT (gN 0) tt elt (aG (l.map h)) (List.replicate 1 none++cN τ cap)=.ok ((l.filter p).map f):=by
  have ez:l.map (D.ak∘h)=l.map h':=NJ λ a m=>hz a m;rw[iR,NK,ez];exact lO (tt:=tt) (elt:=elt) (caps:=cN τ cap) h' p f (l:=l) none ht he
 have hl2:=Oh p l;unfold aJ;rw[hit,Res.aH];simp only[hc,Nr (show((l.filter p).map f).length<=16777216 by rw[M7];omega),hcap,Bool.or_self,NR,PV]
section
def JF {e g h:SD->Res D}{k:Nat}(h0:e τ=.ok (nF ps f))(hg:g τ=.ok (.int k))(hh:h τ=.ok (.int j))(hk:k<ps.length)(hj:j<ps.length)(hn:k≠j):ah cS (ah cS (ah cS e (eC (.int 1))) (eA eZ (ae g (ae h ao)))) (eA e9 (ae g (ae h ao))) τ=.ok (.int (cc f k j)):=by
 unfold cc;refine Jx h0 ?_ ?_ (by omega) (by omega)
 ·rw[ig (aQ hg (cO hh))];show Res.ok (D.int (if (j:Int)>k then (j:Int) else k))=_;by_cases h:j<k
  ·rw[Nu (by omega),RI (by omega)]
  ·rw[Nr (by omega),Nat.max_eq_right (by omega)]
 ·rw[ig (aQ hg (cO hh))];show Res.ok (D.int (if (j:Int)<k then (j:Int) else k))=_;by_cases h:j<k
  ·rw[Nr (by omega),Nat.min_eq_right (by omega)]
  ·rw[Nu (by omega),RH (by omega)]
def AE(g:Gs ps.length l)(hq:∀ q,q∈qs↔q∈pp ps l):(∀ q∈qs,q∈ps)/\qs≠[]:=by
 refine⟨λ q m=>?_,λ e=>?_⟩
 ·obtain⟨i,hi,rfl⟩:=Ni.mp ((hq q).mp m);exact Ax (g.lt i hi)
 ·obtain⟨l0,lr,el⟩:=kh g.ne;have:=(hq (aF ps l0)).mpr (by rw[el];exact Na);rw[e]at this;cases this
def GH (hs:ps.Pairwise (· < ·))(hp:ps.length<=24)(g:Gs ps.length l)(hq:∀ q,q∈qs↔q∈pp ps l)(hql:qs.length<64){d:D}(hG:bq [lN ps f,.lst .ak ((pp ps l).map .int)]=.ok d)(hd:d.pure=true):kQ [nF ps f,.lst .ak (qs.map .int)]=.ok d:=by
 obtain⟨h1,h2⟩:=AE g hq;refine cJ (τ:=[some (nF ps f),some (.lst .ak (qs.map .int)),none]) rfl rfl ?_;unfold qO;have s1:aw bD (ae (ah cS (aa 0) (eC (.int 0))) (ae (aa 1) ao)) [some (nF ps f),some (.lst .ak (qs.map .int)),none]=.ok (.lst .own ((pp ps l).map .int)):=
  eu (ds:=[.tup (ps.map .int),.lst .ak (qs.map .int)]) (aQ (u3 (tR rfl)) (cO (cQ rfl (af _)))) (by
   show bD [.tup (aG (ps.map .int)),.lst .ak (aG (qs.map .int))]=_;rw[a7,a7,mK h1 h2 hql,oQ hs g hq]) (fQ (af _))
 rw[aA (aP s1 (cI (af _)))];show cU _ [some (nF ps f),some (.lst .ak (qs.map .int)),some (.lst .own ((pp ps l).map .int))]=_;have sg:aw bQ (ae (aa 0) ao) [some (nF ps f),some (.lst .ak (qs.map .int)),some (.lst .own ((pp ps l).map .int))]=.ok (pK .own ps ps.length λ i=>ent f i (jL ps.length)):=
  fP (ds:=[nF ps f]) (cO (tR rfl)) (by show bQ [(nF ps f).ak]=_;rw[bL _ (aU _ _)];exact oM hs hp) (by show((nF ps f).az||false)=false;rw[ck _ (aU _ _)];rfl)
 refine kN (c6 (ds:=[pK .own ps ps.length λ i=>ent f i (jL ps.length),.lst .bor ((pp ps l).map .int)]) (aQ sg (cO (eV rfl (af _)))) ?_ hd) (ck _ hd);show bq [(pK .own ps ps.length λ i=>ent f i (jL ps.length)).ak,.lst .ak (aG ((pp ps l).map .int))]=_;rw[yJ,a7,hG]
end
abbrev aE (l:List Nat):D:=.lst .ak ((ni l).map .int)
abbrev jI (l:List Nat):D:=.lst .own ((ni l).map .int)
def cj(h:τ[i]?=some (some (aE l))):aa i τ=.ok (aE l):=cQ h (af _)
def vg(h:τ[i]?=some (some (aE l))):cV (aa i) τ=.ok (false,l.map λ i:Nat=>D.int (i:Int)):=by
 rw[<-rm];exact rf h (af _)
def EM (l:List Nat):(aE l).az=false:=by
 show(false||au ((ni l).map D.int))=false;rw[nu];rfl
def Ln (l:List Nat):(jI l).az=false:=cI (af _)
def MB (l:List Nat):(aE l).bI=false:=by
 show(false||bA ((ni l).map D.int))=false;rw[C8];rfl
def xr (l:List Nat):(aE l).ak=aE l:=by
 show D.lst .ak (aG ((ni l).map .int))=_;rw[a7]
def M4 (l:List Nat):(jI l).ak=aE l:=by
 show D.lst .ak (aG ((ni l).map .int))=_;rw[a7]
def M5 (l:List Nat):(aE l).view=aE l:=by
 show D.lst .ak (bG ((ni l).map .int))=_;rw[dX _ (af _)]
def yU:∀ P:List (List Nat),bG (P.map aE)=P.map aE:=λ P=>by
 rw[kG,NK];exact NJ λ l _=>M5 l
def rY (P:List (List Nat)):aG (P.map aE)=P.map aE:=by
 rw[iR,NK];exact NJ λ l _=>xr l
def EA:∀ P:List (List Nat),au (P.map aE)=false
 |[]=>rfl
 | l::P=>by
  show((aE l).az||au (P.map aE))=false;rw[EM,EA P];rfl
def rB(h:τ[i]?=some (some (.lst .ak (P.map aE)))):cV (aa i) τ=.ok (false,P.map aE):=by
 unfold cV aa;rw[h];show(Res.ok (D.lst .ak (bG (P.map aE)))).bind bH=_;rw[yU,Res.aH];show Res.ok ((false||au (P.map aE)),P.map aE)=_;rw[EA];rfl
def Ca(h:0<ns.length):L2.most ns∈ns/\∀ x∈ns,x<=L2.most ns:=by
 obtain⟨h1,h2⟩:=oR (λ i j=>decide (ns.getD i 0>ns.getD j 0)) (λ i=>- ns.getD i 0) (λ i j=>by rw[Oj];omega) (ns.length-1);refine⟨?_,λ x hx=>?_⟩
 ·unfold L2.most;rw[Nf,M9 (by omega)];exact Of _
 ·obtain⟨i,hi,e⟩:=OE.mp hx;have h3:=h2 i (by omega);have e2:ns.getD i 0=x:=by rw[Nf,M9 hi];exact e
  have e3:L2.most ns=ns.getD (PySem.argBest (λ i j=>decide (ns.getD i 0>ns.getD j 0)) (ns.length-1)) 0:=rfl;rw[e3];have h4 : - ns.getD (PySem.argBest (λ i j=>decide (ns.getD i 0>ns.getD j 0)) (ns.length-1)) 0 <= - ns.getD i 0:=h3;omega
def JJ{t:Tg}(h:a τ=.ok (.lst t (ns.map .int)))(hl:0<ns.length):eA wu (ae a ao) τ=.ok (.int (L2.most ns)):=by
 rw[ig (cO h)];show(match intsOf (ns.map D.int) with|some ns=>if 0<ns.length then Res.ok (D.int (L2.most ns)) else .bad|none=>.bad)=_;rw[dC];show(if 0<ns.length then Res.ok (D.int (L2.most ns)) else .bad)=_;rw[Nr hl]
section
def EB (hs:ps.Pairwise (· < ·))(hp:ps.length<=24)(g:Gs ps.length l)(hq:∀ q,q∈qs↔q∈pp ps l)(hql:qs.length<64) :
  (PG.bc (cc f) ps.length l/\fH [nF ps f,.lst .ak (qs.map .int)]=.ok (.bl true))\/(¬ PG.bc (cc f) ps.length l/\fH [nF ps f,.lst .ak (qs.map .int)]=.ok (.bl false)):=by
 have call:∀ d,d.pure=true->bq [lN ps f,.lst .ak ((pp ps l).map .int)]=.ok d->aw kQ (ae (aa 0) (ae (aa 1) ao)) [some (nF ps f),some (.lst .ak (qs.map .int))]=.ok d:=λ d hd hG=>by
  refine c6 (ds:=[nF ps f,.lst .ak (qs.map .int)]) (aQ (tR rfl) (cO (cQ rfl (af _)))) ?_ hd;show kQ [(nF ps f).ak,.lst .ak (aG (qs.map .int))]=_;rw[bL _ (aU _ _),a7];exact GH hs hp g hq hql hG hd
 obtain⟨l0,lr,el⟩:=kh g.ne;have am:=xj (f:=f) hs (l0:=l0) (lr:=lr) (by rw[<-el];exact g.lt);rw[<-el]at am;rcases am with ⟨e,cl⟩|⟨k,j,h1,h2,⟨h3,h4⟩,e⟩
 ·refine .inl ⟨cl,cJ (τ:=[some (nF ps f),some (.lst .ak (qs.map .int))]) rfl rfl ?_⟩;unfold jW;refine kN ?_ rfl;rw[bf (call _ rfl e) (y:=.bx) rfl];rfl
 ·refine .inr ⟨λ cl=>h4 (cl k h1 h2 j h3 l0 (by rw[el];exact Na)),cJ (τ:=[some (nF ps f),some (.lst .ak (qs.map .int))]) rfl rfl ?_⟩;unfold jW;refine kN ?_ rfl;rw[bf (call _ rfl e) (y:=.bx) rfl];rfl
def jJ (ps:List Int)(f:Nat->Nat->Int)(l:List Nat)(a b:Option D):SD:=[some (nF ps f),some (aE l),a,b]
def GJ {l0 k:Nat}{lr:List Nat}(hp:ps.length<=24)(g:Gs ps.length (l0::lr))(hk:k<ps.length)(b:Option D) :
  (∃ b',g_Llooked_b2 (jJ ps f (l0::lr) (some (.int k)) b)=.nx (jJ ps f (l0::lr) (some (.int k)) b')/\(k∉l0::lr->∀ j∈l0::lr,cc f k j=cc f k l0)) ∨
  (k∉l0::lr/\(∃ i∈l0::lr,∃ j∈l0::lr,cc f k i≠cc f k j)/\g_Llooked_b2 (jJ ps f (l0::lr) (some (.int k)) b)=.rt (.bl false)):=by
 have glen:=g.len;have t:=jE (f:=aa 2) (g:=aa 1) (τ:=jJ ps f (l0::lr) (some (.int k)) b) (x:=(k:Int)) (qs:=ni (l0::lr)) rfl (cj rfl);rw[Oj.mpr yL]at t;by_cases hn:k∈l0::lr
 ·rw[NP hn]at t;unfold g_Llooked_b2;rw[k9 t];exact .inl ⟨b,rfl,λ z=>absurd hn z⟩
 ·rw[NN hn]at t;have s3:aJ (cV (aa 1)) (gN 0) bP g_Llooked_e1 1 [("_law_net_here",0),("_law_k",2)] (jJ ps f (l0::lr) (some (.int k)) b)=.ok (.lst .own (((l0::lr).map (cc f k)).map .int)):=by
   rw[jH (elt:=g_Llooked_e1) (λ i:Nat=>D.int (i:Int)) (λ j=>D.int (cc f k j)) (vg rfl) (λ _ _=>rfl) (λ j hj=>⟨by
    show g_Llooked_e1 [some (.int j),some (nF ps f).ak,some (.int k)]=_;rw[bL _ (aU _ _)];exact JF (f:=f) (e:=aa 1) (g:=aa 2) (h:=aa 0) (k:=k) (j:=j) (dI rfl (aU _ _)) rfl rfl hk (g.lt j hj) (λ z=>hn (z▸hj)),rfl⟩) (by omega),NK]
   rfl
  have hlen:0<((l0::lr).map (cc f k)).length:=by simp
  have v3:aa 3 (jJ ps f (l0::lr) (some (.int k)) (some (.lst .own (((l0::lr).map (cc f k)).map .int))))=.ok (.lst .bor (((l0::lr).map (cc f k)).map .int)):=eV rfl (af _);have lt:=qS (JI v3 hlen) (JJ v3 hlen);obtain⟨m1,m2⟩:=yV hlen;obtain⟨m3,m4⟩:=Ca hlen;have red:g_Llooked_b2 (jJ ps f (l0::lr) (some (.int k)) b)=eE (eT (ah FA (eA wg (ae (aa 3) ao)) (eA wu (ae (aa 3) ao)))) (cU (eC (.bl false))) bj (jJ ps f (l0::lr) (some (.int k)) (some (.lst .own (((l0::lr).map (cc f k)).map .int)))):=by
   unfold g_Llooked_b2;rw[nY t,aA (aP s3 (cI (af _)))];rfl
  rw[red];by_cases z:L2.least ((l0::lr).map (cc f k))<L2.most ((l0::lr).map (cc f k))
  ·rw[NP z]at lt;obtain⟨i,hi,ei⟩:=Ni.mp m1;obtain⟨j,hj,ej⟩:=Ni.mp m3;refine .inr ⟨hn,⟨i,hi,j,hj,by rw[ei,ej];omega⟩,?_⟩;rw[nY lt];rfl
  ·rw[NN z]at lt;refine .inl ⟨_,by rw[k9 lt];rfl,λ _ j hj=>?_⟩;have a1:=m2 _ (PU (f:=cc f k) hj);have a2:=m4 _ (PU (f:=cc f k) hj);have a3:=m2 _ (PU (f:=cc f k) (Na (a:=l0) (l:=lr)));have a4:=m4 _ (PU (f:=cc f k) (Na (a:=l0) (l:=lr)));omega
def AG {l0:Nat}{lr:List Nat}(hp:ps.length<=24)(g:Gs ps.length (l0::lr)):∀ (r:List Nat) (a b:Option D),(∀ x∈r,x<ps.length) ->
  (∃ a' b',bW (gN 2) g_Llooked_b2 (r.map λ i:Nat=>D.int (i:Int)) (jJ ps f (l0::lr) a b)=.nx (jJ ps f (l0::lr) a' b')/\∀ k∈r,k∉l0::lr->∀ j∈l0::lr,cc f k j=cc f k l0) ∨
  ((∃ k,k<ps.length/\k∉l0::lr/\∃ i∈l0::lr,∃ j∈l0::lr,cc f k i≠cc f k j)/\bW (gN 2) g_Llooked_b2 (r.map λ i:Nat=>D.int (i:Int)) (jJ ps f (l0::lr) a b)=.rt (.bl false))
 |[],a,b,_=>.inl ⟨a,b,rfl,λ k hk=>absurd hk Oe⟩
 | k::r,a,b,h=>by
  have hk:=h k Na;rcases GJ (f:=f) hp g hk b with ⟨b',e,q⟩|⟨hn,hu,e⟩
  ·have go:bW (gN 2) g_Llooked_b2 ((k::r).map λ i:Nat=>D.int (i:Int)) (jJ ps f (l0::lr) a b)=bW (gN 2) g_Llooked_b2 (r.map λ i:Nat=>D.int (i:Int)) (jJ ps f (l0::lr) (some (.int k)) b'):=gx (τ':=jJ ps f (l0::lr) (some (.int k)) b) rfl e;rw[go];rcases AG hp g r (some (.int k)) b' (λ x hx=>h x (Nb _ hx)) with ⟨a',b'',e1,e2⟩|q'
   ·refine .inl ⟨a',b'',e1,λ x hx=>?_⟩;rcases Nq.mp hx with rfl|hx
    ·exact q
    ·exact e2 x hx
   ·exact .inr q'
  ·exact .inr ⟨⟨k,hk,hn,hu⟩,uY (τ':=jJ ps f (l0::lr) (some (.int k)) b) rfl e⟩
def B9 (hp:ps.length<=24)(g:Gs ps.length l):(PG.bc (cc f) ps.length l/\G_Llooked [nF ps f,aE l]=.ok (.bl true))\/(¬ PG.bc (cc f) ps.length l/\G_Llooked [nF ps f,aE l]=.ok (.bl false)):=by
 obtain⟨l0,lr,rfl⟩:=kh g.ne;have hr:bN (ae (eA df (ae (ah cS (aa 0) (eC (.int 0))) ao)) ao) (jJ ps f (l0::lr) none none)=.ok (false,(List.range ps.length).map λ i:Nat=>D.int (i:Int)):=by
  unfold bN;rw[cO (Gr rfl),Res.aH,iF (by omega)]
 have hf:b6 [] (bN (ae (eA df (ae (ah cS (aa 0) (eC (.int 0))) ao)) ao)) (gN 2) g_Llooked_b2 (jJ ps f (l0::lr) none none)=bW (gN 2) g_Llooked_b2 ((List.range ps.length).map λ i:Nat=>D.int (i:Int)) (jJ ps f (l0::lr) none none):=
  jc rfl hr (bo λ d m=>by obtain⟨x,_,rfl⟩:=Ni.mp m;rfl)
 rcases AG (f:=f) hp g (List.range ps.length) none none (λ x hx=>NC.mp hx) with ⟨a',b',e1,e2⟩|⟨⟨k,h1,h2,i,hi,j,hj,ne⟩,e⟩
 ·refine .inl ⟨tP λ k hk hn j hj=>e2 k (NC.mpr hk) hn j (Nb _ hj),?_⟩;refine cJ (τ:=jJ ps f (l0::lr) none none) rfl rfl ?_;unfold g_Llooked;rw[aA (hf.trans e1)];rfl
 ·refine .inr ⟨λ cl=>ne (cl k h1 h2 i hi j hj),?_⟩;refine cJ (τ:=jJ ps f (l0::lr) none none) rfl rfl ?_;unfold g_Llooked;exact yE (hf.trans e)
def lU (ps:List Int)(f:Nat->Nat->Int)(Q acc:List (List Int))(a:Option D):SD:=[some (nF ps f),some (.lst .ak (LL .ak Q)),some (.lst .own (LL .own acc)),a]
def AF (hs:ps.Pairwise (· < ·)){Q:List (List Int)}:∀ (Z:List (List Nat)) (acc:List (List Int)) (o:Option D),(∀ l∈Z,l.length<=1000/\∀ x∈l,x<ps.length)->acc.length+Z.length<=1000->∃ o',bW (gN 3) g_Lnumbers_b2 (LL .ak (Z.map (pp ps))) (lU ps f Q acc o)=.nx (lU ps f Q (acc++Z.map ni) o')
 |[],acc,o,_,_=>⟨o,by rw[Q6,Q6,NX];rfl⟩
 | l::Z,acc,o,h,hl=>by
  rw[Ny]at hl;obtain⟨h1,h2⟩:=h l Na;obtain⟨o',i1⟩:=AF hs (Q:=Q) Z (acc++[ni l]) (some (.lst .ak ((pp ps l).map .int))) (λ x hx=>h x (Nb _ hx)) (by rw[Nn,NW];omega);refine⟨o',?_⟩;have v3:aa 3 (lU ps f Q acc (some (.lst .ak ((pp ps l).map .int))))=.ok (.lst .ak ((pp ps l).map .int)):=cQ rfl (af _);have t:eT (nh (d7 uz) (aa 3)) (lU ps f Q acc (some (.lst .ak ((pp ps l).map .int))))=.ok true:=by
   unfold eT nh;rw[v3];rfl
  have hi:cV (aa 3) (lU ps f Q acc (some (.lst .ak ((pp ps l).map .int))))=.ok (false,l.map λ i=>D.int (aF ps i)):=by
   rw[<-jf];exact rf rfl (af _)
  have c:=jH (τ:=lU ps f Q acc (some (.lst .ak ((pp ps l).map .int)))) (elt:=g_Lnumbers_e1) (cap:=[("_law_net_here",0)]) (λ i=>D.int (aF ps i)) (λ i:Nat=>D.int (i:Int)) hi (λ _ _=>rfl) (λ i hi=>⟨by
   show g_Lnumbers_e1 [some (.int (aF ps i)),some (nF ps f).ak]=_;rw[bL _ (aU _ _)];exact JB hs (h2 i hi) (dI rfl (aU _ _)) rfl,rfl⟩) h1
  rw[<-rm]at c;have st:g_Lnumbers_b2 (lU ps f Q acc (some (.lst .ak ((pp ps l).map .int))))=.nx (lU ps f Q (acc++[ni l]) (some (.lst .ak ((pp ps l).map .int)))):=by
   unfold g_Lnumbers_b2;rw[tF ((yG t).trans rfl),qQ (xs:=LL .own acc) rfl c (cI (af _)) (by rw[M7];omega)];unfold lU LL;rw[Nx];rfl
  have go:bW (gN 3) g_Lnumbers_b2 (LL .ak ((l::Z).map (pp ps))) (lU ps f Q acc o)=bW (gN 3) g_Lnumbers_b2 (LL .ak (Z.map (pp ps))) (lU ps f Q (acc++[ni l]) (some (.lst .ak ((pp ps l).map .int)))):=gx (τ':=lU ps f Q acc (some (.lst .ak ((pp ps l).map .int)))) rfl st;rw[go,i1,NT];rfl
def yX (hs:ps.Pairwise (· < ·)){Z:List (List Nat)}(h:∀ l∈Z,l.length<=1000/\∀ x∈l,x<ps.length)(hl:Z.length<=1000):G_Lnumbers [nF ps f,.lst .ak (LL .ak (Z.map (pp ps)))]=.ok (.lst .own (LL .own (Z.map ni))):=by
 obtain⟨o,e⟩:=AF (f:=f) hs (Q:=Z.map (pp ps)) Z [] none h (by rw[Ob];omega);refine cJ (τ:=[some (nF ps f),some (.lst .ak (LL .ak (Z.map (pp ps)))),none,none]) rfl rfl ?_;unfold g_Lnumbers;rw[aA (aP (d:=.lst .own []) rfl rfl)];show aC _ _ (lU ps f (Z.map (pp ps)) [] none)=_;have zf:b6 [1] (cV (aa 1)) (gN 3) g_Lnumbers_b2 (lU ps f (Z.map (pp ps)) [] none)=.nx (lU ps f (Z.map (pp ps)) (Z.map ni) o):=by
  rw[rA (τ':=lU ps f (Z.map (pp ps)) [] none) (by
   show [some (nF ps f),some (D.lst .ak (aG (LL .ak (Z.map (pp ps))))),_,_]=_;rw[yW];rfl) (Lm rfl),yW,e,List.nil_append]
 rw[aA zf];rfl
end
def ED{d:D}(h:(P.map aE)[j]?=some d):∃ hj:j<P.length,d=aE P[j]:=by
 rw[NG]at h;cases e:P[j]? with
 |none=>rw[e]at h;cases h
 | some x =>
  rw[e]at h;injection h with h
  obtain⟨hj,e2⟩:=Ng.mp e;exact⟨hj,by rw[e2];exact h.symm⟩
def JK(h:τ[i]?=some (some (.lst .ak (P.map aE)))):aa i τ=.ok (.lst .ak (P.map aE)):=by
 unfold aa;rw[h];show Res.ok (D.lst .ak (bG (P.map aE)))=_;rw[yU]
def EE{tg:uv}{body:SF}(hf:b9 [i] τ=τ)(h:τ[i]?=some (some (.lst .ak (P.map aE)))):b6 [i] (cV (aa i)) tg body τ=bW tg body (P.map aE) τ:=by
 rw[rA hf (rB h),rY]
def lh{cap:List (PySem.Str×Nat)}(h:τ[i]?=some (some (aE l)))(hc:cN τ cap=[some (aE m)])(ht:tt=eT (ah (inD true) (aa 0) (aa 1)))(he:elt=aa 0)(hl:l.length<=1000):aJ (cV (aa i)) (gN 0) tt elt 1 cap τ=.ok (jI (l.filter λ x=>!decide (x∈m))):=by
 subst ht he;rw[gh (λ i:Nat=>D.int (i:Int)) (λ x=>!decide (x∈m)) (λ i:Nat=>D.int (i:Int)) (vg h) (λ _ _=>rfl) (λ x _=>by
  rw[hc];have c:=jE (f:=aa 0) (g:=aa 1) (τ:=[some (.int x),some (aE m)]) (x:=(x:Int)) (qs:=ni m) rfl (cj rfl);rw[Oj.mpr yL]at c;exact c) (λ _ _ _=>⟨rfl,rfl⟩) hl]
 unfold jI;rw[rm]
def GK{cap:List (PySem.Str×Nat)}(h:τ[i]?=some (some (aE l)))(hc:cN τ cap=[some (aE m)])(ht:tt=eT (ah (inD false) (aa 0) (aa 1)))(he:elt=aa 0)(hl:l.length<=1000):aJ (cV (aa i)) (gN 0) tt elt 1 cap τ=.ok (jI (l.filter λ x=>decide (x∈m))):=by
 subst ht he;rw[gh (λ i:Nat=>D.int (i:Int)) (λ x=>decide (x∈m)) (λ i:Nat=>D.int (i:Int)) (vg h) (λ _ _=>rfl) (λ x _=>by
  rw[hc];have c:=D9 (f:=aa 0) (g:=aa 1) (τ:=[some (.int x),some (aE m)]) (x:=(x:Int)) (qs:=ni m) rfl (cj rfl);rw[Oj.mpr yL]at c;exact c) (λ _ _ _=>⟨rfl,rfl⟩) hl]
 unfold jI;rw[rm]
def sb (l m:List Nat):Bool:=decide (∀ x∈l,x∈m)
def mO:sb l m=true↔∀ x∈l,x∈m:=OL
def yY:decide (((l.filter λ x=>!decide (x∈m)).length:Int)=0)=sb l m:=by
 unfold sb;rw[Oj];constructor
 ·intro h x hx;have h0:(l.filter λ x=>!decide (x∈m)).length=0:=by omega
  have:=Po.mp (OU.mp h0) x hx;cases q:decide (x∈m) with
  |true=>exact O8 q|false=>rw[q]at this;exact absurd rfl this
 ·intro h;have:(l.filter λ x=>!decide (x∈m))=[]:=Po.mpr λ x hx=>by
   rw[NP (h x hx)];exact Nd
  rw[this];rfl
def eW{t:Tg}(h:a τ=.ok (.lst t ((ni l).map .int))):eA df (ae a ao) τ=.ok (.int l.length):=by
 have:=uW h;rw[M7,vd]at this;exact this
def jY (P:List (List Nat))(l:List Nat)(a b c:Option D):SD:=[some (.lst .ak (P.map aE)),some (aE l),a,b,c]
def vh {P A:List (List Nat)}{l:List Nat}:∀ (R:List (List Nat)) (B:List Nat) (c:Option D),∃ B' c',(B'=B\/B'∈R)/\B'.length<=B.length/\(∀ C∈R,B'.length<=C.length)/\bW (gN 4) g_Lleast_b1 (R.map aE) (jY P l (some (.lst .ak (A.map aE))) (some (aE B)) c)=.nx (jY P l (some (.lst .ak (A.map aE))) (some (aE B')) c')
 |[],B,c=>⟨B,c,.inl rfl,Nm _,λ C h=>absurd h Oe,rfl⟩
 | C::R,B,c=>by
  have l4:=eW (a:=aa 4) (τ:=jY P l (some (.lst .ak (A.map aE))) (some (aE B)) (some (aE C))) (l:=C) (cj rfl);have l3:=eW (a:=aa 3) (τ:=jY P l (some (.lst .ak (A.map aE))) (some (aE B)) (some (aE C))) (l:=B) (cj rfl);have lt:=qS l4 l3;by_cases h:C.length<B.length
  ·rw[NP (by omega)]at lt;obtain⟨B',c',h1,h2,h3,e⟩:=vh (P:=P) (A:=A) (l:=l) R C (some (aE C));refine⟨B',c',h1.elim (λ z=>.inr (z▸Na)) (λ z=>.inr (Nb _ z)),by omega,λ X hX=>?_,?_⟩
   ·rcases Nq.mp hX with rfl|hX
    ·exact h2
    ·exact h3 X hX
   ·have st:g_Lleast_b1 (jY P l (some (.lst .ak (A.map aE))) (some (aE B)) (some (aE C)))=.nx (jY P l (some (.lst .ak (A.map aE))) (some (aE C)) (some (aE C))):=by
     unfold g_Lleast_b1;rw[nY lt,aP (cj (l:=C) rfl) (EM C)];rfl
    rw[<-e];exact gx (τ':=jY P l (some (.lst .ak (A.map aE))) (some (aE B)) (some (aE C))) rfl st
  ·rw[NN (by omega)]at lt;obtain⟨B',c',h1,h2,h3,e⟩:=vh (P:=P) (A:=A) (l:=l) R B (some (aE C));refine⟨B',c',h1.elim .inl (λ z=>.inr (Nb _ z)),h2,λ X hX=>?_,?_⟩
   ·rcases Nq.mp hX with rfl|hX
    ·omega
    ·exact h3 X hX
   ·have st:g_Lleast_b1 (jY P l (some (.lst .ak (A.map aE))) (some (aE B)) (some (aE C)))=.nx (jY P l (some (.lst .ak (A.map aE))) (some (aE B)) (some (aE C))):=by
     unfold g_Lleast_b1;rw[k9 lt];rfl
    rw[<-e];exact gx (τ':=jY P l (some (.lst .ak (A.map aE))) (some (aE B)) (some (aE C))) rfl st
def EC(hP:P.length<=1000)(hl:l.length<=1000){C0:List Nat}(h0:C0∈P)(h1:∀ x∈l,x∈C0) :
  ∃ B∈P,(∀ x∈l,x∈B)/\(∀ C∈P,(∀ x∈l,x∈C)->B.length<=C.length)/\G_Lleast [.lst .ak (P.map aE),aE l]=.ok (aE B):=by
 have cm:aJ (cV (aa 0)) (gN 0) g_Lleast_c4 g_Lleast_e5 1 [("_law_inside",1)] (jY P l none none none)=.ok (.lst .own ((P.filter λ C=>sb l C).map aE)):=
  rz (tt:=g_Lleast_c4) (elt:=g_Lleast_e5) aE aE aE (λ C=>sb l C) (rB rfl) (λ C _=>xr C) (λ C _=>by
   have hc:cN (jY P l none none none) [("_law_inside",1)]=[some (aE l)]:=by
    show [some (aE l).ak]=_;rw[xr]
   rw[hc];unfold g_Lleast_c4;have c:=lh (tt:=g_Lleast_c2) (elt:=g_Lleast_e3) (i:=1) (cap:=[("_law_one",0)]) (τ:=[some (aE C),some (aE l)]) (l:=l) (m:=C) rfl (by show [some (aE C).ak]=_;rw[xr]) rfl rfl hl;rw[jX (eW c) (g:=eC (.int 0)) (b:=0) rfl,yY]) (λ C _ _=>⟨cj rfl,EM C⟩) hP (by show((aE l).bI||false)=false;rw[MB];rfl)
 obtain⟨A0,Ar,eA⟩:∃ A0 Ar,(P.filter λ C=>sb l C)=A0::Ar:=by
  have:C0∈P.filter λ C=>sb l C:=NF.mpr ⟨h0,mO.mpr h1⟩;cases q:P.filter λ C=>sb l C with
  |nil=>rw[q]at this;cases this|cons a r=>exact⟨a,r,rfl⟩
 obtain⟨B,c,hB,hB1,hB2,e⟩:=vh (P:=P) (A:=A0::Ar) (l:=l) (A0::Ar) A0 none;have mB:B∈P.filter λ C=>sb l C:=by
  rw[eA];rcases hB with rfl|hB
  ·exact Na
  ·exact hB
 refine⟨B,(NF.mp mB).1,mO.mp (NF.mp mB).2,λ C hC hs=>hB2 C (by rw[<-eA];exact NF.mpr ⟨hC,mO.mpr hs⟩),?_⟩;refine cJ (τ:=jY P l none none none) rfl rfl ?_;unfold g_Lleast;rw[eA]at cm;rw[aA (aP cm (by show(false||au _)=false;rw[EA];rfl))];show aC _ _ (jY P l (some (.lst .own ((A0::Ar).map aE))) none none)=_;have x0:ah cS (aa 2) (eC (.int 0)) (jY P l (some (.lst .own ((A0::Ar).map aE))) none none)=.ok (aE A0):=by
  refine iL (x:=.lst .bor (bG ((A0::Ar).map aE))) (y:=.int 0) rfl rfl ?_;rw[yU];exact qT (j:=0) rfl rfl
 rw[aA (aP x0 (EM A0))];show aC _ _ (jY P l (some (.lst .own ((A0::Ar).map aE))) (some (aE A0)) none)=_;have zf:b6 [2] (cV (aa 2)) (gN 4) g_Lleast_b1 (jY P l (some (.lst .own ((A0::Ar).map aE))) (some (aE A0)) none)=.nx (jY P l (some (.lst .ak ((A0::Ar).map aE))) (some (aE B)) c):=by
  rw[rA (τ':=jY P l (some (.lst .ak ((A0::Ar).map aE))) (some (aE A0)) none) (by
   show [some (.lst .ak (P.map aE)),some (aE l),some (D.lst .ak (aG ((A0::Ar).map aE))),some (aE A0),none]=_;rw[rY];rfl) (rB rfl),rY,e]
 rw[aA zf];rfl
def yZ {f g:SD->Res Bool}{a b:Bool}(h:f τ=.ok a)(h2:g τ=.ok b):fX f g τ=.ok (a&&b):=by
 cases a with
 |true=>exact Lb h h2|false=>exact Ld h
def vj {b:SD->Res D}{t t':Tg}{C:List Nat}(h1:a τ=.ok (.lst t ((ni C).map .int)))(h2:b τ=.ok (.lst t' (P.map aE)))(hC:C∈P):eT (ah yk a b) τ=.ok false:=by
 refine pq ?_;rw[bf h1 h2];have l2:km (P.map aE)=some (P.map ni):=by
  have:=iy (P.map ni) λ _=>.ak;rw[NK]at this;exact this
 show(match intsOf ((ni C).map D.int),km (P.map aE) with|some ns,some nss=>Res.ok (D.bl (!decide (ns∈nss)))|_,_=>.bad)=_;rw[dC,l2];show Res.ok (D.bl (!decide (ni C∈P.map ni)))=_;rw[NP (PU hC)];rfl
def ie (P:List (List Nat))(a b c d e:Option D):SD:=[some (.lst .ak (P.map aE)),a,b,c,d,e]
def GL{A B:List Nat}(gA:Gs n A)(gB:Gs n B)(hn:n<=24)(h1:∀ C,Gs n C->(∀ x,x∈C↔x∈A/\x∈B)->C∈P)(h2:∀ C,Gs n C->(∀ x,x∈C↔x∈A/\x∉B)->(∃ z∈B,z∉A)->C∈P)(h3:∀ C,Gs n C->(∀ x,x∈C↔x∈A\/x∈B)->(∃ z∈A,z∈B)->C∈P)(c d e:Option D) :
  ∃ c' d' e',g_Lmeets_b7 (ie P (some (aE A)) (some (aE B)) c d e)=.nx (ie P (some (aE A)) (some (aE B)) c' d' e'):=by
 have lA:=gA.len;have lB:=gB.len;have s3:=GK (tt:=g_Lmeets_c5) (elt:=g_Lmeets_e6) (i:=1) (cap:=[("_law_two",2)]) (τ:=ie P (some (aE A)) (some (aE B)) c d e) (l:=A) (m:=B) rfl (by show [some (aE B).ak]=_;rw[xr]) rfl rfl (by omega);have v3:∀ {d e},aa 3 (ie P (some (aE A)) (some (aE B)) (some (jI (A.filter λ x=>decide (x∈B)))) d e)=.ok (.lst .bor ((ni (A.filter λ x=>decide (x∈B))).map .int)):=λ {d e}=>eV rfl (af _);have q1:=yF (eW (v3 (d:=d) (e:=e))) (g:=eC (.int 0)) (b:=0) rfl;have q2:=qS (eW (v3 (d:=d) (e:=e))) (eW (a:=aa 1) (τ:=ie P (some (aE A)) (some (aE B)) (some (jI (A.filter λ x=>decide (x∈B)))) d e) (l:=A) (cj rfl));have q3:=qS (eW (v3 (d:=d) (e:=e))) (eW (a:=aa 2) (τ:=ie P (some (aE A)) (some (aE B)) (some (jI (A.filter λ x=>decide (x∈B)))) d e) (l:=B) (cj rfl));have q:=yZ q1 (yZ q2 q3);unfold g_Lmeets_b7;by_cases z:(decide ((0:Int)<((A.filter λ x=>decide (x∈B)).length:Int))&&(decide (((A.filter λ x=>decide (x∈B)).length:Int)<(A.length:Int))&&decide (((A.filter λ x=>decide (x∈B)).length:Int)<(B.length:Int))))=true
 ·rw[z]at q;rw[NQ,NQ,OL,OL,OL]at z;obtain⟨z1,z2,z3⟩:=z;have gC:Gs n (A.filter λ x=>decide (x∈B)):=⟨λ y=>by rw[y]at z1;exact absurd z1 (by decide),gA.up.sublist ON,λ x hx=>gA.lt x (NF.mp hx).1⟩;have mC:(A.filter λ x=>decide (x∈B))∈P:=h1 _ gC λ x=>by rw[NF,OL]
  obtain⟨w,hw⟩:∃ w,w∈A.filter λ x=>decide (x∈B):=by
   obtain⟨w,r,y⟩:=kh gC.ne;exact⟨w,by rw[y];exact Na⟩
  have wA:=(NF.mp hw).1;have wB:=O8 (NF.mp hw).2;have rne:(A.filter λ x=>!decide (x∈B))≠[]:=λ y=>by
   have all:∀ x∈A,x∈A.filter λ x=>decide (x∈B):=λ x hx=>by
    have:=Po.mp y x hx;refine NF.mpr ⟨hx,?_⟩;cases t:decide (x∈B) with
    |true=>rfl|false=>rw[t]at this;exact absurd rfl this
   have:=PG.sub_len gA.nd all;omega
  have zB:∃ z∈B,z∉A:=Od λ y=>by
   have all:∀ x∈B,x∈A.filter λ x=>decide (x∈B):=λ x hx=>NF.mpr ⟨Od λ t=>y ⟨x,hx,t⟩,NP hx⟩;have:=PG.sub_len gB.nd all;omega
  have gR:Gs n (A.filter λ x=>!decide (x∈B)):=⟨rne,gA.up.sublist ON,λ x hx=>gA.lt x (NF.mp hx).1⟩;have mR:(A.filter λ x=>!decide (x∈B))∈P:=h2 _ gR (λ x=>by rw[NF,QA,PY]) zB;have nd:(A++B.filter λ x=>!decide (x∈A)).Nodup:=Np.mpr ⟨gA.nd,gB.nd.sublist ON,λ a ha b hb y=>by
   have:=(NF.mp hb).2;rw[QA,PY]at this;exact this (y▸ha)⟩
  obtain⟨U,pU,uU,eU⟩:=Aw nd;have memU:∀ x,x∈U↔x∈A\/x∈B:=λ x=>by
   rw[pU.mem_iff,Nk,NF,QA,PY];constructor
   ·rintro (y|y)
    ·exact .inl y
    ·exact .inr y.1
   ·rintro (y|y)
    ·exact .inl y
    ·by_cases t:x∈A
     ·exact .inl t
     ·exact .inr ⟨y,t⟩
  have gU:Gs n U:=⟨λ y=>by
   have:=(memU w).mpr (.inl wA);rw[y]at this;exact absurd this Oe,uU,λ x hx=>((memU x).mp hx).elim (gA.lt x) (gB.lt x)⟩
  have mU:U∈P:=h3 U gU memU ⟨w,wA,wB⟩;refine⟨some (jI (A.filter λ x=>decide (x∈B))),some (jI (A.filter λ x=>!decide (x∈B))),some (jI U),?_⟩;rw[aA (aP s3 (Ln _))];show eE _ _ _ (ie P (some (aE A)) (some (aE B)) (some (jI (A.filter λ x=>decide (x∈B)))) d e)=_;rw[nY q];have s4:=lh (tt:=g_Lmeets_c3) (elt:=g_Lmeets_e4) (i:=1) (cap:=[("_law_two",2)]) (τ:=ie P (some (aE A)) (some (aE B)) (some (jI (A.filter λ x=>decide (x∈B)))) d e) (l:=A) (m:=B) rfl (by show [some (aE B).ak]=_;rw[xr]) rfl rfl (by omega);rw[aA (aP s4 (Ln _))];show aC _ _ (ie P (some (aE A)) (some (aE B)) (some (jI (A.filter λ x=>decide (x∈B)))) (some (jI (A.filter λ x=>!decide (x∈B)))) e)=_;have s5:=lh (tt:=g_Lmeets_c1) (elt:=g_Lmeets_e2) (i:=2) (cap:=[("_law_one",1)]) (τ:=ie P (some (aE A)) (some (aE B)) (some (jI (A.filter λ x=>decide (x∈B)))) (some (jI (A.filter λ x=>!decide (x∈B)))) e) (l:=B) (m:=A) rfl (by show [some (aE A).ak]=_;rw[xr]) rfl rfl (by omega);have fl:=Oh (λ x=>!decide (x∈A)) B;have a5:ah cy (aa 1) (aJ (cV (aa 2)) (gN 0) g_Lmeets_c1 g_Lmeets_e2 1 [("_law_one",1)]) (ie P (some (aE A)) (some (aE B)) (some (jI (A.filter λ x=>decide (x∈B)))) (some (jI (A.filter λ x=>!decide (x∈B)))) e)=.ok (.lst .own ((ni (A++B.filter λ x=>!decide (x∈A))).map .int)):=by
   rw[bf (cj (l:=A) rfl) s5];show(if ((ni A).map D.int).length+((ni (B.filter λ x=>!decide (x∈A))).map D.int).length<=16777216 then Res.ok (D.lst .own ((ni A).map D.int++(ni (B.filter λ x=>!decide (x∈A))).map D.int)) else .bad)=_;rw[Nr (by rw[M7,M7,vd,vd];omega),BY,Nx]
  have b5:=GG a5 (by rw[vd,Nn];omega);rw[eU]at b5;rw[aA (aP b5 (Ln U))];show eE _ _ _ (ie P (some (aE A)) (some (aE B)) (some (jI (A.filter λ x=>decide (x∈B)))) (some (jI (A.filter λ x=>!decide (x∈B)))) (some (jI U)))=_;have v0:aa 0 (ie P (some (aE A)) (some (aE B)) (some (jI (A.filter λ x=>decide (x∈B)))) (some (jI (A.filter λ x=>!decide (x∈B)))) (some (jI U)))=.ok (.lst .ak (P.map aE)):=JK rfl;have n3:=vj (a:=aa 3) (v3 (d:=some (jI (A.filter λ x=>!decide (x∈B)))) (e:=some (jI U))) v0 mC;have n4:=vj (a:=aa 4) (eV (xs:=(ni (A.filter λ x=>!decide (x∈B))).map .int) (τ:=ie P (some (aE A)) (some (aE B)) (some (jI (A.filter λ x=>decide (x∈B)))) (some (jI (A.filter λ x=>!decide (x∈B)))) (some (jI U))) (i:=4) rfl (af _)) v0 mR;have n5:=vj (a:=aa 5) (eV (xs:=(ni U).map .int) (τ:=ie P (some (aE A)) (some (aE B)) (some (jI (A.filter λ x=>decide (x∈B)))) (some (jI (A.filter λ x=>!decide (x∈B)))) (some (jI U))) (i:=5) rfl (af _)) v0 mU;rw[k9 ((wR n3 (wR n4 n5)).trans rfl)];rfl
 ·rw[show(decide ((0:Int)<((A.filter λ x=>decide (x∈B)).length:Int))&&(decide (((A.filter λ x=>decide (x∈B)).length:Int)<(A.length:Int))&&decide (((A.filter λ x=>decide (x∈B)).length:Int)<(B.length:Int))))=false from by simpa using z]at q;refine⟨some (jI (A.filter λ x=>decide (x∈B))),d,e,?_⟩;rw[aA (aP s3 (Ln _))];show eE _ _ _ (ie P (some (aE A)) (some (aE B)) (some (jI (A.filter λ x=>decide (x∈B)))) d e)=_;rw[k9 q];rfl
def EF(sy:∀ a b,c a b=c b a)(hn:n<=24)(hP:∀ l,l∈P↔Gs n l/\PG.bc c n l):G_Lmeets [.lst .ak (P.map aE)]=.ok (.bl true):=by
 have fz:∀ a b c d e,b9 [0] (ie P a b c d e)=ie P a b c d e:=λ a b c d e=>by
  show [some (D.lst .ak (aG (P.map aE))),a,b,c,d,e]=_;rw[rY];rfl
 have inner:∀ (A:List Nat),A∈P->∀ b c d e,∃ b' c' d' e',g_Lmeets_b8 (ie P (some (aE A)) b c d e)=.nx (ie P (some (aE A)) b' c' d' e'):=λ A mA b c0 d e=>by
  obtain⟨gA,cA⟩:=(hP A).mp mA;obtain⟨t,h1,b',c',d',e',h2⟩:=gG (tg:=gN 2) (body:=g_Lmeets_b7) (λ _ t=>∃ b c d e,t=ie P (some (aE A)) b c d e) (ds:=P.map aE) 0 (ie P (some (aE A)) b c0 d e) ⟨b,c0,d,e,rfl⟩ (λ k x t hx hp'=>by
   obtain⟨b,c1,d,e,rfl⟩:=hp';obtain⟨hk,rfl⟩:=ED hx;obtain⟨gB,cB⟩:=(hP P[k]).mp (Of hk);obtain⟨c',d',e',q⟩:=GL (P:=P) gA gB hn (λ C gC h=>(hP C).mpr ⟨gC,cA.meet cB h⟩) (λ C gC h z=>by
    obtain⟨z,zB,zA⟩:=z;exact(hP C).mpr ⟨gC,PG.bc.rest sy cA cB gA.lt gB.lt zB zA h⟩) (λ C gC h z=>by
    obtain⟨z,zA,zB⟩:=z;exact(hP C).mpr ⟨gC,cA.both cB zA zB h⟩) c1 d e
   exact⟨_,_,rfl,.inl q,_,_,_,_,rfl⟩)
  refine⟨b',c',d',e',?_⟩;unfold g_Lmeets_b8;rw[EE (fz _ _ _ _ _) rfl,h1,h2]
 obtain⟨t,h1,a,b,c',d,e,h2⟩:=gG (tg:=gN 1) (body:=g_Lmeets_b8) (λ _ t=>∃ a b c d e,t=ie P a b c d e) (ds:=P.map aE) 0 (ie P none none none none none) ⟨none,none,none,none,none,rfl⟩ (λ k x t hx hp'=>by
  obtain⟨a,b,c1,d,e,rfl⟩:=hp';obtain⟨hk,rfl⟩:=ED hx;obtain⟨b',c',d',e',q⟩:=inner P[k] (Of hk) b c1 d e;exact⟨_,_,rfl,.inl q,_,_,_,_,_,rfl⟩)
 refine cJ (τ:=ie P none none none none none) rfl rfl ?_;unfold g_Lmeets;rw[aA ((EE (fz _ _ _ _ _) rfl).trans h1)];rfl
def GN(ne:∀ l∈T,l≠[])(hd:∀ i j (hi:i<T.length) (hj:j<T.length),i≠j->T[i].headD 0≠T[j].headD 0)(hT:T.length<64)(h:τ[3]?=some (some (.lst .own (T.map aE)))) :
  ∃ T':List (List Nat),T'.Perm T/\T'.Pairwise (λ a b=>a.headD 0<b.headD 0)/\gH 3 τ=.rt (.lst .own (T'.map aE)):=by
 have gd:∀ i,i<T.length->(T.map ni).getD i []=ni (T.getD i []):=λ i hi=>by
  rw[Nf,Nf,NG,M9 hi];rfl
 have ge:∀ i (hi:i<T.length),T.getD i []=T[i]:=λ i hi=>by rw[Nf,M9 hi];rfl
 have lt_of:∀ i j (hi:i<T.length) (hj:j<T.length),i≠j->∃ a b,(T.getD i []).headD 0=a/\(T.getD j []).headD 0=b/\a≠b/\(SR.rO (T.map ni) i j=true↔a<b):=λ i j hi hj hij=>by
  obtain⟨a,r,ea⟩:=kh (ne T[i] (Of hi));obtain⟨b,q,eb⟩:=kh (ne T[j] (Of hj));have nab:a≠b:=by
   have:=hd i j hi hj hij;rw[ea,eb]at this;exact this
  refine⟨a,b,by rw[ge i hi,ea];rfl,by rw[ge j hj,eb];rfl,nab,?_⟩;show SR.lexLt ((T.map ni).getD i []) ((T.map ni).getD j [])=true↔_;rw[gd i hi,gd j hj,ge i hi,ge j hj,ea,eb];show SR.lexLt ((a:Int)::ni r) ((b:Int)::ni q)=true↔_;unfold SR.lexLt;rw[Nu (by omega),OL];omega
 have o:SR.Ord (T.map aE).length (SR.rO (T.map ni)):=⟨λ i j k h1 h2=>lex_trans _ _ _ h1 h2,λ i j hi hj hij=>by
  rw[M7]at hi hj;obtain⟨a,b,e1,e2,ne,w⟩:=lt_of i j hi hj hij;obtain⟨b',a',e3,e4,ne',w'⟩:=lt_of j i hj hi (OV hij);have q1:b'=b:=e3.symm.trans e2;have q2:a'=a:=e4.symm.trans e1;rcases OO a b with z|z|z
  ·exact .inl (w.mpr z)
  ·exact absurd z ne
  ·exact .inr (w'.mpr (by omega))⟩
 obtain⟨q,qp,qe,qw⟩:=qt D.bx o;rw[M7]at qp;have qlt:∀ i∈q,i<T.length:=λ i m=>NC.mp (qp.mem_iff.mp m);refine⟨q.map λ i=>T.getD i [],?_,?_,?_⟩
 ·refine(qp.map _).trans ?_;have e3:(List.range T.length).map (λ i=>T.getD i [])=T:=by
   refine OS (by simp) λ i h1 h2=>?_;simp;rw[M9 h2];rfl
  rw[e3]
 ·rw[Pc];have nd:q.Nodup:=qp.nodup_iff.mpr Pq;refine(qw.and nd).imp_of_mem λ {i j} mi mj h=>?_;obtain⟨a,b,e1,e2,_,w⟩:=lt_of i j (qlt i mi) (qlt j mj) h.2;rw[e1,e2];exact w.mp h.1
 ·unfold gH;rw[h];simp only;have e:km (T.map aE)=some (T.map ni):=by
   have:=iy (T.map ni) λ _=>.ak;rw[NK]at this;exact this
  rw[e];simp only;rw[Nr (by rw[M7];exact hT),qe,NK]
  congr 2
  refine NJ λ i m=>?_;show(T.map aE).getD i .bx=aE (T.getD i []);rw[Nf,NG,M9 (qlt i m),ge i (qlt i m)];rfl
def xu (P:List (List Nat))(S:List Nat):List (List Nat):=P.filter λ C=>sb C S
def y9 (W:List (List Nat))(C:List Nat):List (List Nat):=W.filter λ B=>decide (C.length<B.length)&&sb C B
def lj (P:List (List Nat))(S:List Nat)(t:Tg)(W T:List (List Nat))(a b:Option D):SD:=[some (.lst .ak (P.map aE)),some (aE S),some (.lst t (W.map aE)),some (.lst .own (T.map aE)),a,b]
def GO {W:List (List Nat)}{S C:List Nat}(hW:W.length<=1000)(hT:T.length<=1000)(hC:C.length<=1000)(b:Option D):∃ b',g_Lgreatest_b5 (lj P S .ak W T (some (aE C)) b)=.nx (lj P S .ak W (T++if (y9 W C).isEmpty then [C] else []) (some (aE C)) b'):=by
 have cm:aJ (cV (aa 2)) (gN 0) g_Lgreatest_c3 g_Lgreatest_e4 1 [("_law_one",4)] (lj P S .ak W T (some (aE C)) b)=.ok (.lst .own ((y9 W C).map aE)):=
  rz (tt:=g_Lgreatest_c3) (elt:=g_Lgreatest_e4) aE aE aE (λ B=>decide (C.length<B.length)&&sb C B) (rB rfl) (λ B _=>xr B) (λ B _=>by
   have hc:cN (lj P S .ak W T (some (aE C)) b) [("_law_one",4)]=[some (aE C)]:=by
    show [some (aE C).ak]=_;rw[xr]
   rw[hc];unfold g_Lgreatest_c3;have c:=lh (tt:=g_Lgreatest_c1) (elt:=g_Lgreatest_e2) (i:=1) (cap:=[("_law_two",0)]) (τ:=[some (aE B),some (aE C)]) (l:=C) (m:=B) rfl (by show [some (aE B).ak]=_;rw[xr]) rfl rfl hC;have c2:=jX (eW c) (g:=eC (.int 0)) (b:=0) rfl;rw[yY]at c2;have c1:=yF (eW (a:=aa 0) (τ:=[some (aE B),some (aE C)]) (l:=B) (cj rfl)) (eW (a:=aa 1) (τ:=[some (aE B),some (aE C)]) (l:=C) (cj rfl));rw[yZ c1 c2]
   congr 2
   rw[Oj];omega) (λ B _ _=>⟨cj rfl,EM B⟩) hW (by show((aE C).bI||false)=false;rw[MB];rfl)
 refine⟨some (.lst .own ((y9 W C).map aE)),?_⟩;unfold g_Lgreatest_b5;rw[aA (aP cm (by show(false||au _)=false;rw[EA];rfl))];show eE _ _ _ (lj P S .ak W T (some (aE C)) (some (.lst .own ((y9 W C).map aE))))=_;have t:eT (ah F6 (aa 5) (eA dw ao)) (lj P S .ak W T (some (aE C)) (some (.lst .own ((y9 W C).map aE))))=.ok (y9 W C).isEmpty:=by
  refine pq ?_;rw[bf (x:=.lst .bor (bG ((y9 W C).map aE))) (y:=.lst .own []) rfl rfl,yU];show Res.ok (D.bl ((y9 W C).map aE).isEmpty)=_;rw[List.isEmpty_map]
 cases z:(y9 W C).isEmpty with
 | true =>
  rw[z]at t;rw[nY t,qQ (xs:=T.map aE) rfl (cj rfl) (EM C) (by rw[M7];omega),Nr rfl];unfold lj;rw[Nx];rfl
 | false =>
  rw[z]at t;rw[k9 t,Nu Nd,NX];rfl
def AH {P W:List (List Nat)}{S:List Nat}(hW:W.length<=1000):∀ (R T:List (List Nat)) (a b:Option D),(∀ C∈R,C.length<=1000)->T.length+R.length<=1000->∃ a' b',bW (gN 4) g_Lgreatest_b5 (R.map aE) (lj P S .ak W T a b)=.nx (lj P S .ak W (T++R.filter λ C=>(y9 W C).isEmpty) a' b')
 |[],T,a,b,_,_=>⟨a,b,by rw[List.filter_nil,NX];rfl⟩
 | C::R,T,a,b,h,hl=>by
  rw[Ny]at hl;obtain⟨b',e⟩:=GO (P:=P) (W:=W) (T:=T) (S:=S) (C:=C) hW (by omega) (h C Na) b;obtain⟨a2,b2,e2⟩:=AH (P:=P) (S:=S) hW R (T++if (y9 W C).isEmpty then [C] else []) (some (aE C)) b' (λ x hx=>h x (Nb _ hx)) (by
   rw[Nn];split
   ·rw[NW];omega
   ·rw[Ob];omega)
  refine⟨a2,b2,?_⟩;have go:bW (gN 4) g_Lgreatest_b5 ((C::R).map aE) (lj P S .ak W T a b)=bW (gN 4) g_Lgreatest_b5 (R.map aE) (lj P S .ak W (T++if (y9 W C).isEmpty then [C] else []) (some (aE C)) b'):=gx (τ':=lj P S .ak W T (some (aE C)) b) rfl e;rw[go,e2,Qg,NT];cases (y9 W C).isEmpty<;>rfl
def GQ (P:List (List Nat))(S:List Nat):List (List Nat):=(xu P S).filter λ C=>(y9 (xu P S) C).isEmpty
def vm{S:List Nat}(hP:P.length<64)(hPl:∀ C∈P,C.length<=1000)(nP:P.Nodup)(ne:∀ l∈T,l≠[])(hT:T.Pairwise (λ a b=>a.headD 0<b.headD 0))(hm:∀ l,l∈GQ P S↔l∈T):G_Lgreatest [.lst .ak (P.map aE),aE S]=.ok (.lst .own (T.map aE)):=by
 have wl:(xu P S).length<=P.length:=Oh _ _;have ml:(GQ P S).length<=(xu P S).length:=Oh _ _;have cm:aJ (cV (aa 0)) (gN 0) g_Lgreatest_c8 g_Lgreatest_e9 1 [("_law_inside",1)] [some (.lst .ak (P.map aE)),some (aE S),none,none,none,none]=.ok (.lst .own ((xu P S).map aE)):=
  rz (tt:=g_Lgreatest_c8) (elt:=g_Lgreatest_e9) aE aE aE (λ C=>sb C S) (rB rfl) (λ C _=>xr C) (λ C hC=>by
   have hc:cN [some (.lst .ak (P.map aE)),some (aE S),none,none,none,none] [("_law_inside",1)]=[some (aE S)]:=by
    show [some (aE S).ak]=_;rw[xr]
   rw[hc];unfold g_Lgreatest_c8;have c:=lh (tt:=g_Lgreatest_c6) (elt:=g_Lgreatest_e7) (i:=0) (cap:=[("_law_inside",1)]) (τ:=[some (aE C),some (aE S)]) (l:=C) (m:=S) rfl (by show [some (aE S).ak]=_;rw[xr]) rfl rfl (hPl C hC);rw[jX (eW c) (g:=eC (.int 0)) (b:=0) rfl,yY]) (λ C _ _=>⟨cj rfl,EM C⟩) (by omega) (by show((aE S).bI||false)=false;rw[MB];rfl)
 obtain⟨a,b,e⟩:=AH (P:=P) (S:=S) (W:=xu P S) (by omega) (xu P S) [] none none (λ C hC=>hPl C (NF.mp hC).1) (by rw[Ob];omega);rw[List.nil_append]at e;have hTn:T.Nodup:=hT.imp λ h z=>by rw[z]at h;omega
 have nM:(GQ P S).Nodup:=(nP.sublist ON).sublist ON;have pM:(GQ P S).Perm T:=(Pw nM hTn).mpr hm;have hdT:∀ x∈T,∀ y∈T,x≠y->x.headD 0≠y.headD 0:=λ x hx y hy nxy=>by
  obtain⟨i,hi,rfl⟩:=OE.mp hx;obtain⟨j,hj,rfl⟩:=OE.mp hy;rw[OF]at hT;rcases OO i j with w|w|w
  ·have:=hT i j hi hj w;omega
  ·subst w;exact absurd rfl nxy
  ·have:=hT j i hj hi w;omega
 obtain⟨T',pT',wT',er⟩:=GN (T:=GQ P S) (λ l m=>ne l ((hm l).mp m)) (λ i j hi hj hij=>hdT _ ((hm _).mp (Of hi)) _ ((hm _).mp (Of hj)) λ z=>hij ((Rx nM).mp z)) (by omega) (τ:=lj P S .ak (xu P S) (GQ P S) a b) rfl;have eT:T'=T:=List.Perm.eq_of_pairwise (λ x y _ _ h1 h2=>by omega) wT' hT (pT'.trans pM);refine cJ (τ:=[some (.lst .ak (P.map aE)),some (aE S),none,none,none,none]) rfl rfl ?_;unfold g_Lgreatest;rw[aA (aP cm (by show(false||au _)=false;rw[EA];rfl)),aA (aP (d:=.lst .own []) rfl rfl)];show aC _ _ (lj P S .own (xu P S) [] none none)=_;have zf:b6 [2] (cV (aa 2)) (gN 4) g_Lgreatest_b5 (lj P S .own (xu P S) [] none none)=.nx (lj P S .ak (xu P S) (GQ P S) a b):=by
  rw[rA (τ':=lj P S .ak (xu P S) [] none none) (by
   show [some (.lst .ak (P.map aE)),some (aE S),some (D.lst .ak (aG ((xu P S).map aE))),some (.lst .own []),none,none]=_;rw[rY];rfl) (rB rfl),rY,e]
  rfl
 rw[aA zf,er,eT]
def GP{S:List Nat}(hP:∀ l,l∈P↔Gs n l/\PG.bc c n l)(gS:Gs n S)(G:PG.Gw c n S [] T)(l:List Nat):l∈GQ P S↔l∈T:=by
 have inS:∀ m∈T,∀ x∈m,x∈S:=λ m hm x hx=>G.perm.mem_iff.mp (List.mem_flatten.mpr ⟨m,by simpa using hm,hx⟩);have gT:∀ m∈T,Gs n m/\PG.bc c n m:=λ m hm=>⟨⟨G.ne m (by simpa using hm),G.up m (by simpa using hm),λ x hx=>gS.lt x (inS m hm x hx)⟩,G.cl m hm⟩;have wT:∀ m∈T,m∈xu P S:=λ m hm=>NF.mpr ⟨(hP m).mpr (gT m hm),mO.mpr (inS m hm)⟩;have nd:T.flatten.Nodup:=by
  have:=G.perm.nodup_iff.mpr gS.nd;simpa using this
 have dis:∀ a∈T,∀ b∈T,∀ x,x∈a->x∈b->a=b:=λ a ha b hb x xa xb=>by
  obtain⟨i,hi,rfl⟩:=OE.mp ha;obtain⟨j,hj,rfl⟩:=OE.mp hb;have d:=(List.pairwise_flatten.mp nd).2;rw[OF]at d;rcases OO i j with w|w|w
  ·exact absurd rfl (d i j hi hj w x xa x xb)
  ·subst w;rfl
  ·exact absurd rfl (d j i hj hi w x xb x xa)
 have JC:∀ C∈xu P S,∃ m∈T,∀ x∈C,x∈m:=λ C hC=>by
  obtain⟨h1,h2⟩:=NF.mp hC;obtain⟨gC,cC⟩:=(hP C).mp h1;obtain⟨m,hm,q⟩:=G.JC C gC.ne cC (mO.mp h2);exact⟨m,by simpa using hm,q⟩
 unfold GQ;rw[NF];constructor
 ·rintro⟨h1,h2⟩;obtain⟨m,hm,q⟩:=JC l h1;obtain⟨gl,_⟩:=(hP l).mp (NF.mp h1).1;have e:l=m:=Od λ z=>by
   have hlt:l.length<m.length:=Od λ y=>z (PG.Ex gl.up (gT m hm).1.up q (by omega));have:m∈y9 (xu P S) l:=NF.mpr ⟨wT m hm,by rw[NP hlt,mO.mpr q];rfl⟩;rw[List.isEmpty_iff.mp h2]at this;cases this
  rw[e];exact hm
 ·intro hl;refine⟨wT l hl,List.isEmpty_iff.mpr (List.eq_nil_iff_forall_not_mem.mpr λ B hB=>?_)⟩;obtain⟨h1,h2⟩:=NF.mp hB;rw[NQ,OL]at h2;obtain⟨m,hm,q⟩:=JC B h1;obtain⟨x,r,ex⟩:=kh (gT l hl).1.ne;have xl:x∈l:=by rw[ex];exact Na
  have e:=dis l hl m hm x xl (q x (mO.mp h2.2 x xl));subst e;have:=PG.sub_len ((hP B).mp (NF.mp h1).1).1.nd q;omega
def cf (n i:Nat):List (List Nat):=(List.range i).map λ j=>PG.bits n (j+1)
open Classical in
def bT (c:Nat->Nat->Int)(n i:Nat):List (List Nat):=(cf n i).filter λ l=>decide (PG.bc c n l)
def mP (n i:Nat):cf n (i+1)=cf n i++[PG.bits n (i+1)]:=by
 unfold cf;rw[Qp,Nx];rfl
open Classical in
def GU(h:PG.bc c n (PG.bits n (i+1))):bT c n (i+1)=bT c n i++[PG.bits n (i+1)]:=by
 unfold bT;rw[mP,Qq,Qg,NP h];rfl
open Classical in
def GS(h:¬ PG.bc c n (PG.bits n (i+1))):bT c n (i+1)=bT c n i:=by
 unfold bT;rw[mP,Qq,Qg,NN h];show _++[]=_;rw[NX]
def tW (n i:Nat):(cf n i).length=i:=by unfold cf;rw[M7,NO]
def tV (c:Nat->Nat->Int)(n i:Nat):(bT c n i).length<=i:=by
 unfold bT;refine N9 (Oh _ _) ?_;rw[tW];exact Nm _
section
def c8 (ns ps:List Int)(f:Nat->Nat->Int)(t3:Tg)(sets:List (List Nat))(t4:Tg)(rows:List (List Nat))(a b c d:Option D):SD:=[some (S ns),some (.int ps.length),some (nF ps f),some (.lst t3 (sets.map aE)),some (.lst t4 (rows.map aE)),a,b,c,d]
def EG(h:τ[2]?=some (some (nF ps f))):aa 2 τ=.ok (nF ps f):=dI h (aU _ _)
def tX(he:elt=ah cS (ah cS (aa 1) (eC (.int 0))) (aa 0))(h2:τ[2]?=some (some (nF ps f)))(h6:τ[6]?=some (some (aE l)))(hl:∀ x∈l,x<ps.length)(hlen:l.length<=1000):aJ (cV (aa 6)) (gN 0) bP elt 1 [("_law_net_here",2)] τ=.ok (.lst .own ((pp ps l).map .int)):=by
 subst he;have hc:cN τ [("_law_net_here",2)]=[some (nF ps f)]:=by
  unfold cN;show [Option.map D.ak τ[2]?.join]=_;rw[h2];show [some (nF ps f).ak]=_;rw[bL _ (aU _ _)]
 rw[jH (cap:=[("_law_net_here",2)]) (λ i:Nat=>D.int (i:Int)) (λ i=>D.int (aF ps i)) (vg h6) (λ _ _=>rfl) (λ i hi=>⟨by
  rw[hc];exact Jy (dI rfl (aU _ _)) rfl (hl i hi),rfl⟩) hlen,jf]
def GR (hs:ps.Pairwise (· < ·))(hp:ps.length<=6)(ns:List Int)(hj:j+1<2^ps.length)(b c d:Option D) :
  ∃ b' c' d',jD (c8 ns ps f .own (bT (cc f) ps.length j) .own (cf ps.length j) (some (.int ((j+1:Nat):Int))) b c d)=.nx (c8 ns ps f .own (bT (cc f) ps.length (j+1)) .own (cf ps.length (j+1)) (some (.int ((j+1:Nat):Int))) b' c' d'):=by
 obtain⟨l,hl⟩:∃ l,l=PG.bits ps.length (j+1):=⟨_,rfl⟩;have p64:2^ps.length<=64:=N9 (Qc (by decide) hp) (by decide);have g:Gs ps.length l:=by
  obtain⟨h1,h2,h3⟩:=PG.rq.mp (show l∈PG.rX ps.length from by
   rw[hl];exact Ni.mpr ⟨j,NC.mpr (by omega),rfl⟩)
  exact⟨h1,h2,h3⟩
 have gl:=g.len;have s6:aJ (bN (ae (aa 1) ao)) (gN 0) kZ qI 1 [("_law_mask",5)] (c8 ns ps f .own (bT (cc f) ps.length j) .own (cf ps.length j) (some (.int ((j+1:Nat):Int))) b c d)=.ok (jI l):=by
  have hr:bN (ae (aa 1) ao) (c8 ns ps f .own (bT (cc f) ps.length j) .own (cf ps.length j) (some (.int ((j+1:Nat):Int))) b c d)=.ok (false,(List.range ps.length).map λ i:Nat=>D.int (i:Int)):=by
   unfold bN;rw[cO (d:=.int ps.length) rfl,Res.aH,iF (by omega)]
  rw[gh (tt:=kZ) (elt:=qI) (λ i:Nat=>D.int (i:Int)) (λ k=>decide ((j+1)/2^k%2=1)) (λ i:Nat=>D.int (i:Int)) hr (λ _ _=>rfl) (λ k hk=>by
   show kZ [some (.int k),some (.int ((j+1:Nat):Int))]=_;unfold kZ;have sh:ah Iq (aa 1) (aa 0) [some (.int k),some (.int ((j+1:Nat):Int))]=.ok (.int (((j+1:Nat):Int)/2^k)):=by
    rw[bf (x:=.int ((j+1:Nat):Int)) (y:=.int k) rfl rfl];show(if (0:Int)<=(k:Int) then Res.ok (D.int (((j+1:Nat):Int)/2^(k:Int).toNat)) else .bad)=_;rw[Nr (by omega),NS]
   rw[jX (mJ sh (by decide)) (g:=eC (.int 1)) (b:=1) rfl]
   congr 1
   rw[Oj];have e:((j+1:Nat):Int)/2^k%2=(((j+1)/2^k%2:Nat):Int):=by
    rw[Int.natCast_emod,Int.natCast_ediv,Int.natCast_pow];rfl
   rw[e];omega) (λ _ _ _=>⟨rfl,rfl⟩) (by rw[NO];omega)]
  rw[hl];unfold jI PG.bits;rw[rm]
 have rl:=tW ps.length j;have sl:=tV (cc f) ps.length j;have fz:∀ c d:Option D,iD [6] (fY 4 (aa 6)) (c8 ns ps f .own (bT (cc f) ps.length j) .own (cf ps.length j) (some (.int ((j+1:Nat):Int))) (some (jI l)) c d)=.nx (c8 ns ps f .own (bT (cc f) ps.length j) .own (cf ps.length (j+1)) (some (.int ((j+1:Nat):Int))) (some (aE l)) c d):=λ c d=>by
  unfold iD;show fY 4 (aa 6) [some (S ns),some (.int ps.length),some (nF ps f),some (.lst .own ((bT (cc f) ps.length j).map aE)),some (.lst .own ((cf ps.length j).map aE)),some (.int ((j+1:Nat):Int)),some (jI l).ak,c,d]=_;rw[M4,qQ (xs:=(cf ps.length j).map aE) rfl (cj (l:=l) rfl) (EM l) (by rw[M7];omega),mP,<-hl];unfold c8;rw[Nx];rfl
 obtain⟨qs,hq,hqp,e7⟩:∃ qs:List Int,(∀ q,q∈qs↔q∈pp ps l)/\qs.length=l.length/\aC (aS 7 (aJ (cV (aa 6)) (gN 0) bP qK 1 [("_law_net_here",2)])) (eE (eT (ah kK (ah eQ (aw G_Lmix (ae (aa 0) (ae (eC (.int 1)) (ae (aa 5) ao)))) (eC (.int 2))) (eC (.int 1)))) (jw 7) bj) (c8 ns ps f .own (bT (cc f) ps.length j) .own (cf ps.length (j+1)) (some (.int ((j+1:Nat):Int))) (some (aE l)) c d)=.nx (c8 ns ps f .own (bT (cc f) ps.length j) .own (cf ps.length (j+1)) (some (.int ((j+1:Nat):Int))) (some (aE l)) (some (.lst .own (qs.map .int))) d):=by
  have s7:=tX (f:=f) (elt:=qK) rfl (τ:=c8 ns ps f .own (bT (cc f) ps.length j) .own (cf ps.length (j+1)) (some (.int ((j+1:Nat):Int))) (some (aE l)) c d) (l:=l) rfl rfl g.lt (by omega);have mx:aw G_Lmix (ae (aa 0) (ae (eC (.int 1)) (ae (aa 5) ao))) (c8 ns ps f .own (bT (cc f) ps.length j) .own (cf ps.length (j+1)) (some (.int ((j+1:Nat):Int))) (some (aE l)) (some (.lst .own ((pp ps l).map .int))) d)=.ok (.int (M.mix ns 1 ((j+1:Nat):Int))):=
   c6 (ds:=[S ns,.int 1,.int ((j+1:Nat):Int)]) (aQ (cQ rfl (af ns)) (aQ rfl (cO rfl))) (by show G_Lmix [.lst .ak (aG (ns.map D.int)),.int 1,.int ((j+1:Nat):Int)]=_;rw[a7];exact qU ns (by decide) (by omega)) rfl
  have tt:=jX (mJ mx (by decide:(0:Int)<2)) (g:=eC (.int 1)) (b:=1) rfl;by_cases z:M.mix ns 1 ((j+1:Nat):Int)%2=1
  ·rw[NP z]at tt;refine⟨(pp ps l).reverse,λ q=>List.mem_reverse,by rw[List.length_reverse];exact M7 _,?_⟩;rw[aA (aP s7 (cI (af _)))];show eE _ _ _ (c8 ns ps f .own (bT (cc f) ps.length j) .own (cf ps.length (j+1)) (some (.int ((j+1:Nat):Int))) (some (aE l)) (some (.lst .own ((pp ps l).map .int))) d)=_;rw[nY tt,List.map_reverse];rfl
  ·rw[NN z]at tt;refine⟨pp ps l,λ q=>Iff.rfl,M7 _,?_⟩;rw[aA (aP s7 (cI (af _)))];show eE _ _ _ (c8 ns ps f .own (bT (cc f) ps.length j) .own (cf ps.length (j+1)) (some (.int ((j+1:Nat):Int))) (some (aE l)) (some (.lst .own ((pp ps l).map .int))) d)=_;rw[k9 tt];rfl
 have asc:∀ (A B C:SF) (τ t:SD),aC A B τ=.nx t->aC A (aC B C) τ=C t:=λ A B C τ t h=>by
  unfold aC at h ⊢;cases q:A τ with
  | nx u =>
   rw[q]at h;have h:B u=.nx t:=h;show(aC B C) u=_;exact aA h
  |_=>rw[q]at h;cases h
 have fin:∀ bb,fH [nF ps f,.lst .ak (qs.map .int)]=.ok (.bl bb)->G_Llooked [nF ps f,aE l]=.ok (.bl bb)->jD (c8 ns ps f .own (bT (cc f) ps.length j) .own (cf ps.length j) (some (.int ((j+1:Nat):Int))) b c d)=eE (eT (aa 8)) (fY 3 (aa 6)) bj (c8 ns ps f .own (bT (cc f) ps.length j) .own (cf ps.length (j+1)) (some (.int ((j+1:Nat):Int))) (some (aE l)) (some (.lst .own (qs.map .int))) (some (.bl bb))):=λ bb hG hL=>by
  unfold jD;rw[aA (aP s6 (Ln l))];show aC _ _ (c8 ns ps f .own (bT (cc f) ps.length j) .own (cf ps.length j) (some (.int ((j+1:Nat):Int))) (some (jI l)) c d)=_;rw[aA (fz c d),asc _ _ _ _ _ e7];have s8:aw fH (ae (aa 2) (ae (aa 7) ao)) (c8 ns ps f .own (bT (cc f) ps.length j) .own (cf ps.length (j+1)) (some (.int ((j+1:Nat):Int))) (some (aE l)) (some (.lst .own (qs.map .int))) d)=.ok (.bl bb):=by
   refine c6 (ds:=[nF ps f,.lst .bor (qs.map .int)]) (aQ (EG rfl) (cO (eV rfl (af _)))) ?_ rfl;show fH [(nF ps f).ak,.lst .ak (aG (qs.map .int))]=_;rw[bL _ (aU _ _),a7];exact hG
  rw[aA (aP s8 rfl)];show aC _ _ (c8 ns ps f .own (bT (cc f) ps.length j) .own (cf ps.length (j+1)) (some (.int ((j+1:Nat):Int))) (some (aE l)) (some (.lst .own (qs.map .int))) (some (.bl bb)))=_;have lk:aw G_Llooked (ae (aa 2) (ae (aa 6) ao)) (c8 ns ps f .own (bT (cc f) ps.length j) .own (cf ps.length (j+1)) (some (.int ((j+1:Nat):Int))) (some (aE l)) (some (.lst .own (qs.map .int))) (some (.bl bb)))=.ok (.bl bb):=by
   refine c6 (ds:=[nF ps f,aE l]) (aQ (EG rfl) (cO (cj rfl))) ?_ rfl;show G_Llooked [(nF ps f).ak,(aE l).ak]=_;rw[bL _ (aU _ _),xr];exact hL
  have ne:eT (ah oZ (aa 8) (aw G_Llooked (ae (aa 2) (ae (aa 6) ao)))) (c8 ns ps f .own (bT (cc f) ps.length j) .own (cf ps.length (j+1)) (some (.int ((j+1:Nat):Int))) (some (aE l)) (some (.lst .own (qs.map .int))) (some (.bl bb)))=.ok false:=by
   refine pq ?_;rw[bf (x:=.bl bb) rfl lk];cases bb<;>rfl
  have ib:eT (nh (d7 uw) (aa 8)) (c8 ns ps f .own (bT (cc f) ps.length j) .own (cf ps.length (j+1)) (some (.int ((j+1:Nat):Int))) (some (aE l)) (some (.lst .own (qs.map .int))) (some (.bl bb)))=.ok true:=rfl;rw[tF ((wR (yG ib) ne).trans rfl)]
 rcases EB (f:=f) hs (by omega) g hq (by omega) with ⟨cl,e1⟩|⟨cl,e1⟩<;>rcases B9 (f:=f) (by omega:ps.length<=24) g with ⟨cl2,e2⟩|⟨cl2,e2⟩
 ·refine⟨some (aE l),some (.lst .own (qs.map .int)),some (.bl true),?_⟩;rw[fin true e1 e2,nY rfl,qQ (xs:=(bT (cc f) ps.length j).map aE) rfl (cj (l:=l) rfl) (EM l) (by rw[M7];omega),GU (by rw[<-hl];exact cl),<-hl];unfold c8;rw[Nx];rfl
 ·exact absurd cl cl2
 ·exact absurd cl2 cl
 ·refine⟨some (aE l),some (.lst .own (qs.map .int)),some (.bl false),?_⟩;rw[fin false e1 e2,k9 rfl,GS (by rw[<-hl];exact cl)];rfl
end
end KL
namespace KL
open DL XF
variable {τ:SD}
def Lo (Q:List (List Int)):(D.lst .own (LL .own Q)).aM=.lst .own (LL .own Q):=by
 show D.lst .own (bu (LL .own Q))=_;rw[jm,NK]
 congr 1
 exact NJ λ l _=>fQ (af _)
def EH {a b:SD->Res D}{t t' u u':Tg}{Q:List (List Int)}(h1:a τ=.ok (.lst t (LL u Q)))(h2:b τ=.ok (.lst t' (LL u' Q))):eT (ah Dy a b) τ=.ok false:=by
 refine pq ?_;rw[bf h1 h2];have l1:=iy Q λ _=>u;have l2:=iy Q λ _=>u';show(match km (LL u Q),km (LL u' Q) with|some a,some b=>if a=b then Res.ok (D.bl false) else .bad|_,_=>.bad)=_;rw[show km (LL u Q)=_ from l1,show km (LL u' Q)=_ from l2];simp only;rw[Nr trivial]
def MQ (l:List Nat):(aE l).aM=.lst .bor ((ni l).map .int):=by
 show D.lst .bor (bu ((ni l).map .int))=_;rw[dW _ (af _)]
def xq {G:DF}{fs:SD->Res (List D)}{ds:List D}{d:D}(ha:fs τ=.ok ds)(h:G (aG ds)=.ok d):aw G fs τ=.ok d\/aw G fs τ=.ok d.aM:=by
 unfold aw;rw[ha,Res.aH];unfold dS;rw[h];by_cases z:au ds=true
 ·exact .inr (by show(if au ds=true then Res.ok d.aM else Res.ok d)=_;rw[Nr z])
 ·exact .inl (by show(if au ds=true then Res.ok d.aM else Res.ok d)=_;rw[Nu z])
def Lp (t:Tg)(P:List (List Nat)):P.map aE=LL .ak (P.map ni):=by
 unfold LL;rw[NK];rfl
section
variable {ps:List Int}{f:Nat->Nat->Int}
def JL (a b:Nat):cc f a b=cc f b a:=by
 unfold cc;rw[Nat.max_comm,Nat.min_comm]
def za (hs:ps.Pairwise (· < ·))(hp:ps.length<=24){l:List Nat}(g:Gs ps.length l){qs:List Int}(hq:∀ q,q∈qs↔q∈pp ps l)(hql:qs.length<64) :
  ∃ (m:List Nat) (d:D),Gs ps.length m/\PG.bc (cc f) ps.length m/\(∀ x∈l,x∈m)/\(∀ C,PG.bc (cc f) ps.length C->(∀ x∈l,x∈C)->∀ x∈m,x∈C)/\iH [nF ps f,.lst .ak (qs.map .int)]=.ok (.tup [.lst .own ((pp ps m).map .int),d])/\d.aM=d:=by
 obtain⟨fi,rest,rfl⟩:=kh g.ne;obtain⟨h1,h2⟩:=AE g hq;obtain⟨O,Pl,S,e⟩:=BX (f:=f) hs hp g.lt g.nd h1 h2 hql (oQ hs g hq);obtain⟨m,pm,gm,em⟩:=Lj g S;have es:sortI (pp ps (PG.gr (fi::rest) Pl))=pp ps m:=tQ hs gm (by
  unfold pp;exact pm.symm.map _)
 rw[es]at e;refine⟨m,.lst .own (Pl.map (u9 ps fi)),gm,xg (λ x=>pm.mem_iff) S.closed,λ x hx=>pm.mem_iff.mpr (Nt _ hx),λ C hC hsub x hx=>?_,e,fQ (n8 _ _ _)⟩;rcases Nk.mp (pm.mem_iff.mp hx) with y|y
 ·exact hsub x y
 ·obtain⟨z,hz,rfl⟩:=Ni.mp y;exact S.val.least hC (hsub fi Na) hsub z hz
def GV (hs:ps.Pairwise (· < ·))(hp:ps.length<=6)(ns:List Int){P R:List (List Nat)}(hP:∀ l,l∈P↔Gs ps.length l/\PG.bc (cc f) ps.length l)(nP:P.Nodup)(lP:P.length<64){l:List Nat}(g:Gs ps.length l)(a c d:Option D) :
  ∃ c',kX (c8 ns ps f .own P .ak R a (some (aE l)) c d)=.nx (c8 ns ps f .own P .ak R a (some (aE l)) c' d):=by
 have gl:=g.len;have ppl:(pp ps l).length=l.length:=M7 _;have s7:=tX (f:=f) (elt:=wL) rfl (τ:=c8 ns ps f .own P .ak R a (some (aE l)) c d) (l:=l) rfl rfl g.lt (by omega);refine⟨some (.lst .own ((pp ps l).map .int)),?_⟩;unfold kX;rw[aA (aP s7 (cI (af _)))];show aC _ _ (c8 ns ps f .own P .ak R a (some (aE l)) (some (.lst .own ((pp ps l).map .int))) d)=_;obtain⟨τ,hτ⟩:∃ τ,τ=c8 ns ps f .own P .ak R a (some (aE l)) (some (.lst .own ((pp ps l).map .int))) d:=⟨_,rfl⟩;rw[<-hτ];have w2:aa 2 τ=.ok (nF ps f):=by rw[hτ];exact EG rfl
 have w7:aa 7 τ=.ok (.lst .bor ((pp ps l).map .int)):=by rw[hτ];exact eV rfl (af _)
 have w3:aa 3 τ=.ok (.lst .bor (P.map aE)):=by
  rw[hτ];show Res.ok (D.lst .bor (bG (P.map aE)))=_;rw[yU]
 have w6:aa 6 τ=.ok (aE l):=by rw[hτ];exact cj rfl
 obtain⟨m,dp,gm,cm,lm,least,eP,tb⟩:=za (f:=f) hs (by omega) g (qs:=pp ps l) (λ q=>Iff.rfl) (by omega);have c1:aw iH (ae (aa 2) (ae (aa 7) ao)) τ=.ok (.tup [.lst .own ((pp ps m).map .int),dp]):=by
  refine eu (ds:=[nF ps f,.lst .bor ((pp ps l).map .int)]) (aQ w2 (cO w7)) ?_ ?_
  ·show iH [(nF ps f).ak,.lst .ak (aG ((pp ps l).map .int))]=_;rw[bL _ (aU _ _),a7];exact eP
  ·show D.tup [(D.lst .own ((pp ps m).map .int)).aM,dp.aM]=_;rw[fQ (af _),tb]
 have c2:eA dw (ae (ah cS (aw iH (ae (aa 2) (ae (aa 7) ao))) (eC (.int 0))) ao) τ=.ok (.lst .own (LL .own ([m].map (pp ps)))):=by
  rw[ig (cO (iL c1 (y:=.int 0) rfl (i6 (j:=0) rfl rfl)))];rfl
 have gml:=gm.len;have num:∀ {h:SD->Res D}{Z:List (List Nat)},h τ=.ok (.lst .own (LL .own (Z.map (pp ps))))->(∀ l∈Z,l.length<=1000/\∀ x∈l,x<ps.length)->Z.length<=1000->aw G_Lnumbers (ae (aa 2) (ae h ao)) τ=.ok (.lst .own (LL .own (Z.map ni))):=λ {h Z} hh hZ hl=>by
  refine eu (ds:=[nF ps f,.lst .own (LL .own (Z.map (pp ps)))]) (aQ w2 (cO hh)) ?_ (Lo _);show G_Lnumbers [(nF ps f).ak,.lst .ak (aG (LL .own (Z.map (pp ps))))]=_;rw[bL _ (aU _ _),yW];exact yX hs hZ hl
 have n1:=num (Z:=[m]) c2 (λ x hx=>by rw[NY.mp hx];exact⟨by omega,gm.lt⟩) (by show 1<=1000;decide);obtain⟨B,mB,sB,minB,eL⟩:=EC (P:=P) (l:=l) (by omega) (by omega) (C0:=m) ((hP m).mpr ⟨gm,cm⟩) lm;have eB:m=B:=PG.Ex gm.up ((hP B).mp mB).1.up (least B ((hP B).mp mB).2 sB) (minB m ((hP m).mpr ⟨gm,cm⟩) lm);subst eB;have args:ae (aa 3) (ae (aa 6) ao) τ=.ok [.lst .bor (P.map aE),aE l]:=aQ w3 (cO w6);have frA:aG [D.lst .bor (P.map aE),aE l]=[.lst .ak (P.map aE),aE l]:=by
  show [D.lst .ak (aG (P.map aE)),(aE l).ak]=_;rw[rY,xr]
 have l1:∃ u,eA dw (ae (aw G_Lleast (ae (aa 3) (ae (aa 6) ao))) ao) τ=.ok (.lst .own (LL u ([m].map ni))):=by
  rcases xq (G:=G_Lleast) (d:=aE m) args (by rw[frA];exact eL) with q|q
  ·exact⟨.ak,by rw[ig (cO q)];rfl⟩
  ·exact⟨.bor,by rw[ig (cO q),MQ];rfl⟩
 obtain⟨u1,l1⟩:=l1;rw[tF (EH n1 l1)];obtain⟨T,G,pw,eG⟩:=xn (f:=f) hs (by omega) g (qs:=pp ps l) (λ q=>Iff.rfl) (by omega);have c3:aw cX (ae (aa 2) (ae (aa 7) ao)) τ=.ok (.lst .own (LL .own (T.map (pp ps)))):=by
  rw[<-JG];refine eu (ds:=[nF ps f,.lst .bor ((pp ps l).map .int)]) (aQ w2 (cO w7)) ?_ (Eu ps T);show cX [(nF ps f).ak,.lst .ak (aG ((pp ps l).map .int))]=_;rw[bL _ (aU _ _),a7];exact eG
 have tl:=yQ G;simp only[Ob,OW]at tl;have n2:=num (Z:=T) c3 (λ x hx=>by
  have hx':x∈[]++T:=by simpa using hx
  have:=PG.dj ((G.up x hx').imp λ h=>NH h) (AB G g.lt (l:=x) hx');exact⟨by omega,AB G g.lt (l:=x) hx'⟩) (by omega)
 have eLg:=vm (P:=P) (T:=T) (S:=l) lP (λ C hC=>by have:=((hP C).mp hC).1.len;omega) nP (λ x hx=>G.ne x (by simpa using hx)) pw (GP hP g G);have l2:∃ u,aw G_Lgreatest (ae (aa 3) (ae (aa 6) ao)) τ=.ok (.lst .own (LL u (T.map ni))):=by
  rcases xq (G:=G_Lgreatest) (d:=.lst .own (T.map aE)) args (by rw[frA];exact eLg) with q|q
  ·exact⟨.ak,by rw[q,Lp .ak]⟩
  ·refine⟨.bor,?_⟩;rw[q];show Res.ok (D.lst .own (bu (T.map aE)))=_;rw[jm,NK]
   congr 2
   unfold LL;rw[NK];exact NJ λ x _=>MQ x
 obtain⟨u2,l2⟩:=l2;rw[k9 (EH n2 l2),hτ];rfl
def EI {c:Nat->Nat->Int}{n:Nat}{P:List (List Nat)}(hP:∀ l,l∈P↔Gs n l/\PG.bc c n l)(nP:P.Nodup):(P.filter λ l=>decide (l.length=1)).length=n:=by
 have p:(P.filter λ l=>decide (l.length=1)).Perm ((List.range n).map λ i=>[i]):=by
  refine(Pw (nP.sublist ON) ?_).mpr λ l=>?_
  ·exact Rt (λ i:Nat=>[i]) (λ a b (h:a≠b) (z:[a]=[b])=>h (by injection z)) Pq
  ·rw[NF,OL,Ni];constructor
   ·rintro⟨h1,h2⟩;obtain⟨x,rfl⟩:=List.length_eq_one_iff.mp h2;exact⟨x,NC.mpr (((hP _).mp h1).1.lt x Na),rfl⟩
   ·rintro⟨i,hi,rfl⟩;refine⟨(hP _).mpr ⟨⟨by simp,by simp,λ x hx=>by rw[NY.mp hx];exact NC.mp hi⟩,λ k _ _ a ha b hb=>?_⟩,rfl⟩;rw[NY.mp ha,NY.mp hb]
 have:=p.length_eq;rw[M7,NO]at this;exact this
end
def Cb {α:Type}{it:SD->Res (Bool×List D)}{tt:SD->Res Bool}{elt:SD->Res D}{cap:List (PySem.Str×Nat)}{fl:Bool}{l:List α}(h h' f:α->D)(p:α->Bool)(hit:it τ=.ok (fl,l.map h))(hz:∀ a∈l,(h a).ak=h' a)
  (ht:∀ a∈l,tt (some (h' a)::cN τ cap)=.ok (p a)) (he:∀ a∈l,p a=true->elt (some (h' a)::cN τ cap)=.ok (f a)/\(f a).az=false) (hl:l.length<=1000):∃ ys,aJ it (gN 0) tt elt 1 cap τ=.ok (.lst .own ys)/\ys.length=(l.filter p).length:=by
 have hc:fT (gN 0) tt elt (aG (l.map h)) (List.replicate 1 none++cN τ cap)=.ok ((l.filter p).map f):=by
  have ez:l.map (D.ak∘h)=l.map h':=NJ λ a m=>hz a m;rw[iR,NK,ez];exact lO (tt:=tt) (elt:=elt) (caps:=cN τ cap) h' p f (l:=l) none ht he
 have hl2:=Oh p l;unfold aJ;rw[hit,Res.aH];simp only[hc,Nr (show((l.filter p).map f).length<=16777216 by rw[M7];omega)];refine⟨_,rfl,?_⟩;split
 ·rw[jm,M7,M7]
 ·rw[M7]
section
variable {ps:List Int}{f:Nat->Nat->Int}
def GW (ns:List Int)(hs:ps.Pairwise (· < ·))(hp:ps.length<=6)(h1:1<=ps.length){n:Nat}(hn:n=ps.length)(hm:(n:Int)=if M.cell ns 0/5%8=1 then 6 else 1+M.cell ns 0%5)(hnet:G_Lnet [S ns,.int 1,.int n]=.ok (nF ps f)):wF [S ns]=.ok (.bl true):=by
 subst hn;refine cJ (τ:=[some (S ns),none,none,none,none,none,none,none,none]) rfl rfl ?_;unfold DZ;have fS:aG (ns.map D.int)=ns.map D.int:=a7 ns;have bS:au (ns.map D.int)=false:=nu ns;have z0:∀ {τ:SD},τ[0]?=some (some (S ns))->aw G_Lcell (ae (aa 0) (ae (eC (.int 0)) ao)) τ=.ok (.int (M.cell ns 0)):=λ {τ} h0=>
  c6 (ds:=[S ns,.int 0]) (aQ (cQ h0 (af ns)) (cO rfl)) (by show G_Lcell [.lst .ak (aG (ns.map D.int)),.int 0]=_;rw[fS];exact nZ ns (RJ 0)) rfl
 have z1:=qR (f:=eC (.int 1)) (a:=1) rfl (mJ (z0 (τ:=[some (S ns),none,none,none,none,none,none,none,none]) rfl) (by decide:(0:Int)<5));rw[aA (aP z1 rfl)];have st1:eE (eT (ah kK (ah eQ (ah fK (aw G_Lcell (ae (aa 0) (ae (eC (.int 0)) ao))) (eC (.int 5))) (eC (.int 8))) (eC (.int 1)))) (aS 1 (eC (.int 6))) bj [some (S ns),some (.int (1+M.cell ns 0%5)),none,none,none,none,none,none,none]=.nx [some (S ns),some (.int ps.length),none,none,none,none,none,none,none]:=by
  have t:=jX (mJ (uX (z0 (τ:=[some (S ns),some (.int (1+M.cell ns 0%5)),none,none,none,none,none,none,none]) rfl) (b:=5) ⟨by decide,by decide⟩) (by decide:(0:Int)<8)) (g:=eC (.int 1)) (b:=1) rfl;by_cases z:M.cell ns 0/5%8=1
  ·rw[NP z]at t;rw[Nr z]at hm;rw[nY t,aP (d:=.int 6) rfl rfl,hm];rfl
  ·rw[NN z]at t;rw[Nu z]at hm;rw[k9 t,hm];rfl
 show aC _ _ [some (S ns),some (.int (1+M.cell ns 0%5)),none,none,none,none,none,none,none]=_;rw[aA st1];have z2:aw G_Lnet (ae (aa 0) (ae (eC (.int 1)) (ae (aa 1) ao))) [some (S ns),some (.int ps.length),none,none,none,none,none,none,none]=.ok (nF ps f):=
  c6 (ds:=[S ns,.int 1,.int ps.length]) (aQ (cQ rfl (af ns)) (aQ rfl (cO rfl))) (by show G_Lnet [.lst .ak (aG (ns.map D.int)),.int 1,.int ps.length]=_;rw[fS];exact hnet) (aU _ _)
 rw[aA (aP z2 (ck _ (aU _ _))),aA (aP (d:=.lst .own []) rfl rfl),aA (aP (d:=.lst .own []) rfl rfl)];show aC _ _ (c8 ns ps f .own (bT (cc f) ps.length 0) .own (cf ps.length 0) none none none none)=_;have p64:2^ps.length<=64:=N9 (Qc (by decide) hp) (by decide);have ppos:0<2^ps.length:=RK (by decide);obtain⟨t,e1,a,b,c,d,e2⟩:=gG (tg:=gN 5) (body:=jD) (λ i t=>∃ a b c d,t=c8 ns ps f .own (bT (cc f) ps.length i) .own (cf ps.length i) a b c d) (ds:=(List.range (2^ps.length-1)).map λ k:Nat=>D.int (((1:Nat):Int)+k)) 0 (c8 ns ps f .own (bT (cc f) ps.length 0) .own (cf ps.length 0) none none none none) ⟨none,none,none,none,rfl⟩ (λ j x τ hx hp'=>by
  obtain⟨a,b,c,d,rfl⟩:=hp';have hj:j<2^ps.length-1:=by
   have:=(Ng.mp hx).1;simpa using this
  have ex:x=.int ((j+1:Nat):Int):=by
   rw[NG,Oi hj]at hx;injection hx with hx
   refine hx.symm.trans ?_;show D.int (((1:Nat):Int)+(j:Int))=_;rw[show((1:Nat):Int)+(j:Int)=((j+1:Nat):Int) by omega]
  subst ex;rw[OW];obtain⟨b',c',d',q⟩:=GR (f:=f) hs hp ns (j:=j) (by omega) b c d;exact⟨_,_,rfl,.inl q,_,_,_,_,rfl⟩)
 rw[M7,NO,OW]at e2;have zi:dR (ae (eC (.int 1)) (ae (ah CO (eC (.int 1)) (aa 1)) ao)) (c8 ns ps f .own (bT (cc f) ps.length 0) .own (cf ps.length 0) none none none none)=.ok (false,(List.range (2^ps.length-1)).map λ k:Nat=>D.int (((1:Nat):Int)+k)):=by
  have sh:ah CO (eC (.int 1)) (aa 1) (c8 ns ps f .own (bT (cc f) ps.length 0) .own (cf ps.length 0) none none none none)=.ok (.int ((2^ps.length:Nat):Int)):=by
   rw[bf (x:=.int 1) (y:=.int ps.length) rfl rfl];show(if L2.gK 1 (ps.length:Int) then Res.ok (D.int (1*2^(ps.length:Int).toNat)) else .bad)=_;have hc:L2.gK 1 (ps.length:Int):=⟨by omega,by omega,by decide⟩;rw[Nr hc,NS,Int.one_mul,Int.natCast_pow];rfl
  unfold dR;rw[aQ (d:=.int ((1:Nat):Int)) rfl (cO sh),Res.aH,x6 (by decide) (by omega)]
 have zf:b6 [] (dR (ae (eC (.int 1)) (ae (ah CO (eC (.int 1)) (aa 1)) ao))) (gN 5) jD (c8 ns ps f .own (bT (cc f) ps.length 0) .own (cf ps.length 0) none none none none)=.nx t:=by
  rw[jc (τ':=c8 ns ps f .own (bT (cc f) ps.length 0) .own (cf ps.length 0) none none none none) rfl zi (bo λ d m=>by obtain⟨x,_,rfl⟩:=Ni.mp m;rfl)];exact e1
 rw[aA zf,e2];obtain⟨P,hPd⟩:∃ P,P=bT (cc f) ps.length (2^ps.length-1):=⟨_,rfl⟩;obtain⟨R,hRd⟩:∃ R,R=cf ps.length (2^ps.length-1):=⟨_,rfl⟩;rw[<-hPd,<-hRd];have eR:R=PG.rX ps.length:=hRd;have eP:P=PG.GF (cc f) ps.length:=hPd;have hP:∀ l,l∈P↔Gs ps.length l/\PG.bc (cc f) ps.length l:=λ l=>by
  rw[eP,PG.Ez];exact⟨λ h=>⟨⟨h.1.1,h.1.2.1,h.1.2.2⟩,h.2⟩,λ h=>⟨⟨h.1.ne,h.1.up,h.1.lt⟩,h.2⟩⟩
 have nP:P.Nodup:=by rw[eP];exact PG.yS
 have lP:P.length<64:=by
  rw[hPd];have:=tV (cc f) ps.length (2^ps.length-1);omega
 obtain⟨R0,eR0⟩:=PG.B8 h1;have w3:aa 3 (c8 ns ps f .own P .own R a b c d)=.ok (.lst .bor (P.map aE)):=by
  show Res.ok (D.lst .bor (bG (P.map aE)))=_;rw[yU]
 have t1:eT (aw G_Lmeets (ae (aa 3) ao)) (c8 ns ps f .own P .own R a b c d)=.ok true:=by
  refine pq (c6 (ds:=[.lst .bor (P.map aE)]) (cO w3) ?_ rfl);show G_Lmeets [.lst .ak (aG (P.map aE))]=_;rw[rY];exact EF JL (by omega) hP
 have x4:ah cS (aa 4) (nh jr (eC (.int 1))) (c8 ns ps f .own P .own R a b c d)=.ok (aE (List.range ps.length)):=by
  refine iL (x:=.lst .bor (R.map aE)) (y:=.int (-1)) ?_ rfl ?_
  ·show Res.ok (D.lst .bor (bG (R.map aE)))=_;rw[yU]
  ·rw[eR,eR0,Nx];exact JH
 have t2:=vj (C:=List.range ps.length) x4 w3 ((hP _).mpr ⟨⟨λ z=>by
  have:=OQ List.length z;rw[NO,Ob]at this;omega,Qy,λ x hx=>NC.mp hx⟩,λ k hk hn=>absurd (NC.mpr hk) hn⟩)
 have t3:eT (ah oZ (eA df (ae (aJ (cV (aa 3)) (gN 0) nW qN 1 []) ao)) (aa 1)) (c8 ns ps f .own P .own R a b c d)=.ok false:=by
  have hi:∃ fl,cV (aa 3) (c8 ns ps f .own P .own R a b c d)=.ok (fl,P.map aE):=by
   unfold cV;rw[w3,Res.aH];exact⟨_,rfl⟩
  obtain⟨fl,hi⟩:=hi;obtain⟨ys,e,el⟩:=Cb (tt:=nW) (elt:=qN) (cap:=[]) aE aE aE (λ l=>decide (l.length=1)) hi (λ l _=>xr l) (λ l _=>by
   unfold nW;rw[jX (eW (l:=l) (cj rfl)) (g:=eC (.int 1)) (b:=1) rfl]
   congr 1
   rw[Oj];omega) (λ l _ _=>⟨cj rfl,EM l⟩) (by omega)
  rw[EI hP nP]at el;rw[yH (uW e) (g:=aa 1) (b:=(ps.length:Int)) rfl,NP (by rw[el])];rfl
 rw[tF ((wR (yG t1) (wR t2 t3)).trans rfl)];obtain⟨t',e3,a',c',d',e4⟩:=gG (tg:=gN 6) (body:=kX) (λ _ t=>∃ a' c' d',t=c8 ns ps f .own P .ak R a a' c' d') (ds:=R.map aE) 0 (c8 ns ps f .own P .ak R a b c d) ⟨b,c,d,rfl⟩ (λ j x τ hx hp'=>by
  obtain⟨b,c,d,rfl⟩:=hp';obtain⟨hj,rfl⟩:=ED hx;have g:Gs ps.length R[j]:=by
   have m:R[j]∈PG.rX ps.length:=by rw[<-eR];exact Of hj
   obtain⟨h1,h2,h3⟩:=PG.rq.mp m;exact⟨h1,h2,h3⟩
  obtain⟨c',q⟩:=GV (f:=f) hs hp ns (R:=R) hP nP lP g a c d;exact⟨_,_,rfl,.inl q,_,_,_,rfl⟩)
 have zg:b6 [4] (cV (aa 4)) (gN 6) kX (c8 ns ps f .own P .own R a b c d)=.nx t':=by
  rw[rA (τ':=c8 ns ps f .own P .ak R a b c d) (by
   show [some (S ns),some (.int ps.length),some (nF ps f),some (.lst .own (P.map aE)),some (D.lst .ak (aG (R.map aE))),a,b,c,d]=_;rw[rY];rfl) (rB rfl),rY,e3]
 rw[aA zg];rfl
end
def EJ (ns:List Int)(hl:ns.length<=63):wF [.lst .ak (ns.map D.int)]=.ok (.bl true):=by
 obtain⟨n,hn,hb⟩:∃ n:Nat,(n:Int)=(if M.cell ns 0/5%8=1 then 6 else 1+M.cell ns 0%5)/\1<=n/\n<=6:=by
  split
  ·exact⟨6,rfl,by decide,by decide⟩
  ·exact⟨(1+M.cell ns 0%5).toNat,by omega,by omega,by omega⟩
 have hl':=N2.places_len (dN ns) n;have e:=Jq ns (n:=n) (by omega);have er:N2.rows (dN ns) n=tH (dN ns).sh (N2.places (dN ns) n).length:=by
  rw[hl'];rfl
 rw[er]at e;exact GW (ps:=N2.places (dN ns) n) (f:=(dN ns).sh) ns (N2.rV (dN ns) n) (by omega) (by omega) hl'.symm hn e
end KL
namespace KL
open PySem PySem.Spec PyProof.Rows L2 DL
abbrev ZN (K:PySem.W.Frag)(x:Str):Prop:=PySem.W.nsIn K mainGlobals x=some none
abbrev ZV (K:PySem.W.Frag)(x:Str)(v:Value):Prop:=PySem.W.nsIn K mainGlobals x=some (some v)
def JM {l:PySem.W.OpenLaw}{w:World}{K:PySem.W.Frag}{h:Heap}{mg:Str->Option Value}{fa:Addr}(X:K.In h)(G:h.Ns mainGlobals mg)(hfa:mg "law" = some (.ref fa))
 (z0:ZN K "bool") (z1:ZN K "isinstance") (z2:ZN K "len") (z3:ZN K "list") (z4:ZN K "max") (z5:ZN K "min") (z6:ZN K "range") (z7:ZN K "set") (z8:ZN K "sorted") (z9:ZN K "tuple") (z10:ZN K "zip")
 (D_require_place:j9 K mg) (D_checked_set:l8 K mg) (D_pair:DS K mg) (D_colours_of:nT K mg) (D_sights_of:ph K mg) (D_first_apart:l9 K mg) (D_teller_among:kT K mg) (D_pulls_from:nX K mg) (D_shares_by:o8 K mg) (D_teller:wM K mg) (D_is_group:qJ K mg) (D_pulled:wD K mg) (D_greatest_within:iU K mg) (D_Lcell:E_Lcell K mg) (D_Lmix:E_Lmix K mg) (D_Lplaces:E_Lplaces K mg) (D_Lshade:E_Lshade K mg) (D_Lnet:E_Lnet K mg) (D_Llooked:E_Llooked K mg) (D_Lleast:E_Lleast K mg) (D_Lgreatest:E_Lgreatest K mg) (D_Lmeets:E_Lmeets K mg) (D_Lnumbers:E_Lnumbers K mg)
 {f:Addr}{oc:Value}{od an:Option Addr}{osl:Array (Option Value)}{kV doc pm cdv ct:Value} (a:ZV K "law" (.ref f)) (lk:K.lookup f=some ⟨oc,od,.func (PySem.W.fnOf "law" "law" (iP nU) (eN nU) (aB nU) .none kV doc pm an cdv ct),osl⟩) (c:PySem.W.codeIn K cdv "law" = true) (k:PySem.W.keepIn K (.ref f)=true) :
 ∃ fd:FuncData,(∀ (s:Shared) (v:Value),BindsTo s fd ⟨[v],[]⟩ [("_law_script",v)])/\∀ base:Heap,K.In base->base.Ns mainGlobals mg->pW l.prog w K mg base A6 6 fa fd ["_law_script"] (lR K wF):=by
 have T:Txt mg:=⟨Ou X G z0,Ou X G z1,Ou X G z2,Ou X G z3,Ou X G z4,Ou X G z5,Ou X G z6,Ou X G z7,Ou X G z8,Ou X G z9,Ou X G z10⟩;have e:=hfa.symm.trans (PySem.W.mg_of X G a);cases e;refine⟨PySem.W.fnOf "law" "law" (iP nU) (eN nU) (aB nU) .none kV doc pm an cdv ct,λ s v=>.of_eq rfl,λ base _ _=>?_⟩
 let b:Bd:=⟨l.prog,w,K,mg,base⟩
 have C_require_place:=oJ (b:=b) T  D_require_place;have C_checked_set:=qF (b:=b) T C_require_place D_checked_set;have C_pair:=Gb (b:=b) T  D_pair;have C_colours_of:=rS (b:=b) T C_pair D_colours_of;have C_sights_of:=uS (b:=b) T C_colours_of D_sights_of;have C_first_apart:=qM (b:=b) T  D_first_apart;have C_teller_among:=pJ (b:=b) T C_first_apart D_teller_among;have C_pulls_from:=rT (b:=b) T  D_pulls_from;have C_shares_by:=uR (b:=b) T  D_shares_by;have C_teller:=BS (b:=b) T C_checked_set C_sights_of C_teller_among D_teller;have C_is_group:=wK (b:=b) T C_teller D_is_group;have C_pulled:=BR (b:=b) T C_checked_set C_sights_of C_pulls_from D_pulled;have C_greatest_within:=mH (b:=b) T C_checked_set C_sights_of C_teller_among C_shares_by D_greatest_within;have C_Lcell:=ok_Lcell (b:=b) T  D_Lcell;have C_Lmix:=ok_Lmix (b:=b) T C_Lcell D_Lmix;have C_Lplaces:=ok_Lplaces (b:=b) T C_Lcell D_Lplaces;have C_Lshade:=ok_Lshade (b:=b) T C_Lcell C_Lmix D_Lshade;have C_Lnet:=ok_Lnet (b:=b) T C_Lplaces C_Lshade D_Lnet;have C_Llooked:=ok_Llooked (b:=b) T  D_Llooked;have C_Lleast:=ok_Lleast (b:=b) T  D_Lleast;have C_Lgreatest:=ok_Lgreatest (b:=b) T  D_Lgreatest;have C_Lmeets:=ok_Lmeets (b:=b) T  D_Lmeets;have C_Lnumbers:=ok_Lnumbers (b:=b) T  D_Lnumbers;exact Jl (b:=b) T C_is_group C_pulled C_greatest_within C_Lcell C_Lmix C_Lnet C_Llooked C_Lleast C_Lgreatest C_Lmeets C_Lnumbers (xP (st:=nU) lk c k)
end KL
namespace PySem.W.Fast
theorem tw8169730549825976371:True:=⟨⟩
theorem tw4512685695900323942:True:=⟨⟩
theorem tw14494280507034090138:True:=⟨⟩
theorem tw13237072266744110120:True:=⟨⟩
theorem tw9335476553680064599:True:=⟨⟩
theorem tw9140481399436413140:True:=⟨⟩
theorem tw2557348866976278834:True:=⟨⟩
theorem tw11210561638373461230:True:=⟨⟩
theorem tw5487730590436084850:True:=⟨⟩
theorem tw1550785760170338468:True:=⟨⟩
theorem tw5661785535650572656:True:=⟨⟩
theorem tw10718554453342333847:True:=⟨⟩
theorem tw3937393446706565889:True:=⟨⟩
theorem tw17540903641434995480:True:=⟨⟩
theorem tw8220339990451168739:True:=⟨⟩
theorem tw2899807243870316049:True:=⟨⟩
theorem tw10038194398473905925:True:=⟨⟩
theorem tw16310942983970037109:True:=⟨⟩
theorem tw10251466461252320290:True:=⟨⟩
theorem tw1340331600737431557:True:=⟨⟩
theorem tw10663923147137934978:True:=⟨⟩
theorem tw12456098310956634036:True:=⟨⟩
theorem tw10824703497622364253:True:=⟨⟩
theorem tw5231713024621030886:True:=⟨⟩
theorem tw7667349397126807760:True:=⟨⟩
theorem tw8478171255644993249:True:=⟨⟩
theorem tw928766144533473213:True:=⟨⟩
theorem tw13762825596669351948:True:=⟨⟩
theorem tw13143393850502506227:True:=⟨⟩
theorem tw12045948636859525837:True:=⟨⟩
theorem tw9646757926212770525:True:=⟨⟩
theorem tw4557724178535462644:True:=⟨⟩
theorem tw10853420466555857751:True:=⟨⟩
theorem tw5377689245298070749:True:=⟨⟩
theorem tw4197878410963565765:True:=⟨⟩
theorem tw1997528908136509255:True:=⟨⟩
theorem tw2283372863209328840:True:=⟨⟩
theorem tw7114658617554241966:True:=⟨⟩
theorem tw15733369191307653175:True:=⟨⟩
theorem tw4589737222813180092:True:=⟨⟩
theorem tw8605331744870505266:True:=⟨⟩
theorem tw8467529058457807973:True:=⟨⟩
theorem tw8041408740851103643:True:=⟨⟩
theorem tw4941988723098237854:True:=⟨⟩
theorem tw10388777739845684105:True:=⟨⟩
theorem tw11199589059695045536:True:=⟨⟩
theorem tw5056881767424020969:True:=⟨⟩
theorem tw7135179906651147482:True:=⟨⟩
theorem tw10924178653603713201:True:=⟨⟩
theorem tw9559201040940593827:True:=⟨⟩
theorem tw11977719934797953172:True:=⟨⟩
theorem tw1813681815350643784:True:=⟨⟩
theorem tw5307681175959215306:True:=⟨⟩
theorem tw11591692094276218963:True:=⟨⟩
theorem tw7332704836197659779:True:=⟨⟩
theorem tw17631992711308397494:True:=⟨⟩
theorem tw4687685174823715911:True:=⟨⟩
theorem tw8365374243257228375:True:=⟨⟩
theorem tw14394780402263395149:True:=⟨⟩
theorem tw6173851531181687709:True:=⟨⟩
theorem tw17612316270910744051:True:=⟨⟩
theorem tw16773391170561099476:True:=⟨⟩
theorem tw4136423819711339754:True:=⟨⟩
theorem tw10160039654170441803:True:=⟨⟩
theorem tw1306088420760958253:True:=⟨⟩
theorem tw18248679978847195401:True:=⟨⟩
theorem tw15323603168613720223:True:=⟨⟩
theorem tw17361932950124035925:True:=⟨⟩
theorem tw18317913283708039572:True:=⟨⟩
theorem tw2896680719044861281:True:=⟨⟩
theorem tw1339674234370144355:True:=⟨⟩
theorem tw11852321974230879694:True:=⟨⟩
theorem tw7796569455847613592:True:=⟨⟩
theorem tw5131864134244032188:True:=⟨⟩
theorem tw5010174335807183634:True:=⟨⟩
theorem tw2021550019023297434:True:=⟨⟩
theorem tw5126410016572393654:True:=⟨⟩
theorem tw10496669311708469078:True:=⟨⟩
theorem tw17685545264363317243:True:=⟨⟩
theorem tw11778681826575016766:True:=⟨⟩
theorem tw11868804523651274052:True:=⟨⟩
theorem tw6879671081414561028:True:=⟨⟩
theorem tw3373813013309099615:True:=⟨⟩
theorem tw4095881255028212189:True:=⟨⟩
end PySem.W.Fast
open PySem PySem.W PyProof.Rows
set_option maxRecDepth 100000 in
set_option maxHeartbeats 0 in
theorem PySem.Challenge.cw_modulewood_k09_groups_of_small_nets_holds : PySem.Challenge.rw_modulewood_k09_groups_of_small_nets.Holds := by
 w_on;o_law;k_head;(case hw=>w_witness2)
 k_fill
 refine L2.Ft (l:=PySem.Challenge.rw_modulewood_k09_groups_of_small_nets) (n:=63) (k:=6) (x:="_law_script") (CX:=λ _=>L2.A6) (sp:=λ w=>DL.lR _ KL.wF) rfl (by decide) rfl ⟨rfl,by decide,by decide⟩ (λ w h Y=>PySem.W.kIn_of Y) ?F (λ w H a ns hl _ hS=>DL.IG hS (KL.EJ ns hl)) λ _ _ _ _ _ z=>z
 case F=>
  intro w mg fa h KX G hmg
  refine' KL.JM KX G hmg ?_ ?_ ?_ ?_ ?_ ?_ ?_ ?_ ?_ ?_ ?_ ?_ ?_ ?_ ?_ ?_ ?_ ?_ ?_ ?_ ?_ ?_ ?_ ?_ ?_ ?_ ?_ ?_ ?_ ?_ ?_ ?_ ?_ ?_ ?a1 ?l1 ?c1 ?k1
  iterate 11 ((try (dsimp only [KL.ZN,KL.ZV]));k_is)
  iterate 23 (refine' DL.II KX G ?a ?l ?c ?k ?u;(case a=>k_is);(case l=>k_is);(case c=>k_is);(case k=>k_is);(case u=>first|(exact λ _ _ _ _ _ _ us hl=>match us,hl with|[_],_=>rfl)|(exact λ _ _ _ _ _ _ us hl=>match us,hl with|[_,_],_=>rfl)|(exact λ _ _ _ _ _ _ us hl=>match us,hl with|[_,_,_],_=>rfl)|(exact λ _ _ _ _ _ _ us hl=>match us,hl with|[_,_,_,_],_=>rfl)))
  (case a1=>dsimp only[KL.ZV];k_is);(case l1=>k_is);(case c1=>k_is);(case k1=>k_is)
