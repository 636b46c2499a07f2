import PyProof.Rows.All
import Wide.All
import OpenK.AllK
import Wide.FinOn
import PySem.Challenge.RW_modulewood_k06_tellers
import Lean
import PyProof.EqAt
import PyProof.EqKinds
import PyProof.TupleCall
import PyProof.StationsW
import PyProof.RangeIter
import PyProof.FactsTree
import PyProof.ExcClass2
import PyProof.ExcArgsOwn
import KE.KIsAll
import PyProof.SetScanFacts
import PyProof.Rows.SetFrom
import PyProof.FactsAll.set
import PyProof.Comp
import PyProof.Walks
import PyProof.TupleIter
import PyProof.CollectWalk
import PyProof.Rows.SortWalk
import PyProof.Rows.SortShell
import PyProof.NeKinds
import PyProof.WalkInts
import PyProof.Rows.CallKwBuiltin
import KE.KSortTup
import PyProof.IsRules
import PyProof.Walk
import PyProof.WalkLemmas
import PyProof.DictList
import PyProof.MeetsDict
import KE.KDictList
import PyProof.DictIter
import PyProof.DictWalks
import PyProof.DictItems
import PyProof.EnumIter
noncomputable section
set_option Elab.async false
set_option linter.all false
set_option maxRecDepth 100000
set_option maxHeartbeats 0
local macro_rules|`(tactic|walk_at "l")=>`(tactic|first|exact Or.inl rfl|exact Or.inr rfl)
set_option hygiene false
set_option compiler.extract_closed false
local macro_rules|`(#[120])=>`(by decide)|`(#[121])=>`([some (kX ps f),some (.lst .aq #[26]),some (.int (aF ps fi)),none,none,none,none,none])|`(#[122])=>`((ni (l0::lr)).map .int)|`(#[123])=>`(PG.cX (cc f) fi q O)|`(#[124])=>`(some (.lst .own #[27]))|`(#[125])=>`([some #[32],some #[3],some (.lst .own #[26]),some (.lst .own (Pl.map (xh ps fi)))])|`(#[126])=>`(some (.lst t #[27]))|`(#[127])=>`(swapsWith #[16] (some (.Name y py)) spos.line X.env=pure true)|`(#[128])=>`(.Call (.Attribute (.Call (.Attribute #[59] "setdefault" a1) [ke,.List [] p3] [] c1) "append" a2) [.Name y p2] [] c2)|`(#[129])=>`(eC (.int 0))|`(#[130])=>`([some (.int k),some (.int (N/5)),some (.int ps.length)])|`(#[131])=>`(Option Value->Shared->Prop)|`(#[132])=>`(Array Value)|`(#[133])=>`(cP ns ps f #[34] #[67] #[88] #[14] (some (.lst t6 #[27])) (some (wX l0 (some p))) (some .a8) i j w)|`(#[134])=>`([some #[32],some #[3],some (.int N),some (.int a)])|`(#[135])=>`(ae (eA cM (ae (af br (aa 4) (aa 2)) (ae (af br (af bw (aa 4) (eC (.int 31))) (aa 2)) ao))) ao)|`(#[136])=>`(af br (af bw (aa 4) (eC (.int 11))) (eC (.int 9)))|`(#[137])=>`(λ z=>hb (by simp[z]))
local macro_rules|`(#[80])=>`(PE X a (tM X.K Y fa))|`(#[81])=>`(starEach [e] X.env=(false,eval e X.env)::starEach [] X.env)|`(#[82])=>`(eN (ha pos pins s σ H _ I h) λ us s1 hq5=>L2.ex5 hq5 λ vs H1 I1 r1 q1=>?_)|`(#[83])=>`(s.heap.push { cls:=.type "tuple_iterator",data:=.fields #[.ref t,.int 0 0] })|`(#[84])=>`(Program)|`(#[85])=>`(ns.map D.int)|`(#[86])=>`((ju f k).map .int)|`(#[87])=>`(Str->Addr)|`(#[88])=>`(some (.int N))|`(#[89])=>`(iA X scope own cap tg ifs elt (G1 X.K tgd) (kQ X.K xG tt) (tM X.K xG fe))|`(#[90])=>`(eA cM (ae (fZ (cD (leaf ca) (k7 ca "Taken")) (aa 0)) (ae (fZ (cD (leaf ca) (k7 ca "NoColours")) (aa 0)) (ae (fZ (cD (leaf ca) (k7 ca "NoSet")) (aa 0)) (ae (fZ (cD (leaf ca) (k7 ca "NoParting")) (aa 0)) ao)))))|`(#[91])=>`(.builtin "getset_descriptor.__get__")|`(#[92])=>`(List Expr)|`(#[93])=>`(QZ (Qf (name:=Str.ofString "__next__") hT bT (Qg bT hT gO ?_ (iG _))))|`(#[94])=>`(∀ h',zJ B (env::outer) e cls (rawInt L) h'->yX (G3 (env::outer)) s.heap h'->Q () { s with heap:=h' })|`(#[95])=>`(Option D)|`(#[96])=>`(Tc (a:=Value.none) (by first|rfl|(simp only[firstArgMember];rfl)) ?_)|`(#[97])=>`(ae (fZ (cD (leaf ca) (k7 ca "NoNet")) (aa 0)) (ae (fZ (cD (leaf ca) (k7 ca "NoPlace")) (aa 0)) (ae (fZ (cD (leaf ca) (k7 ca "SamePlace")) (aa 0)) (ae (fZ (cD (leaf ca) (k7 ca "Twice")) (aa 0)) ao))))|`(#[98])=>`(sX X.env.scope x)|`(#[99])=>`(((List.range (natOf d)).map λ j=>(dN ns).sh (natOf d) j).map D.int)|`(#[100])=>`(4::24::DL.cut ns (some 2) (some 12))|`(#[101])=>`(o.data=.set es ep t)|`(#[102])=>`(List (Key×V))|`(#[103])=>`(s.heap.push { cls:=.type "dict",data:=.dict #[] })|`(#[104])=>`((items.toList.drop (fX items.size 0 lo)).take (fX items.size items.size hi-fX items.size 0 lo))|`(#[105])=>`((y,NameKind.free))|`(#[106])=>`(Bool×List D)|`(#[107])=>`(PySem.W.fnOf name qual params body scope dV kV doc pm an cdv ct)|`(#[108])=>`(τ[i]?=some (some (.lst .own xs)))|`(#[109])=>`(JO P w K mg base N qual scope f cdv A outer s H)|`(#[110])=>`(SI K H0 B0 B H σ τ P No)|`(#[111])=>`(λ _ _=>rfl)|`(#[112])=>`(if a∈P then none else B' a)|`(#[113])=>`((y == ("__debug__" : Str))=false)|`(#[114])=>`(some (.lst .own [.int a,.int b]))|`(#[115])=>`(λ r s'=>r=.ok (.ret (.bool true))/\OldK s₁.heap s'.heap/\s'.os=s₁.os/\AllBare s'.gens)|`(#[116])=>`(List Str)|`(#[117])=>`(qs.map .int)|`(#[118])=>`(eC (.int 1))|`(#[119])=>`(cP ns ps f #[34] #[67] #[88] #[14] (some (.lst t6 #[27])) (some (wX l0 o)) (some (yU ps l0 o)) (some (.bl o.isNone)) j w)
local macro_rules|`(#[40])=>`(SD->Res (List D))|`(#[41])=>`(.tup [.int (aF ps k),.int (aF ps l0),.int (aF ps j)])|`(#[42])=>`(.ref s.heap.objs.size)|`(#[43])=>`(some (.int (aF ps k)))|`(#[44])=>`(aA (aQ 8 (af bL (eA cM (ae (eC (.str "NoSet")) (ae (eC (.str "NoPlace")) ao))) (af xJ #[136] (eC (.int 7))))) (aQ 9 (aa 8)))|`(#[45])=>`(backTo pos (starEach es X.env))|`(#[46])=>`(PE X e (tM X.K Y fe))|`(#[47])=>`((apos.endLine == cpos.line)=true)|`(#[48])=>`(.Call (.Name x p) (e::es) [] pos)|`(#[49])=>`(au.refl _)|`(#[50])=>`(.ref (ca "NetError")::jL)|`(#[51])=>`((pp ps (l0::lr)).map .int)|`(#[52])=>`(kvs.map λ p=>Sum.inl p.1)|`(#[53])=>`(some (.int (aF ps q)))|`(#[54])=>`((ni l).map .int)|`(#[55])=>`(s.heap.objs.size+1)|`(#[56])=>`(af bL (aa 1) #[129])|`(#[57])=>`(List.range n)|`(#[58])=>`(di _ rfl _ rfl (by kernel_rfl))|`(#[59])=>`(.Name x p1)|`(#[60])=>`(.builtin "object.__class__")|`(#[61])=>`(X.fn y=true\/X.env.scope.names.lookup y=some .local)|`(#[62])=>`(envOfC qual scope s.heap.objs.size f cd)|`(#[63])=>`((pp ps l).map .int)|`(#[64])=>`([some (.exc (ca c)),some (.lst .own [.bl b1,.bl b2,.bl b3,.bl b4,.bl b5,.bl b6,.bl b7,.bl b8,.bl b9]),some (.bl false),some (.lst .own [.str "NoNet",.str "NoPlace",.str "SamePlace",.str "Twice",.str "Taken",.str "NoColours",.str "NoSet",.str "NoParting",.str "NoGroup"]),none])|`(#[65])=>`(∀ b∈ch,(b∈X.ex\/X.s₀.heap.objs.size<=b)/\b≠X.env.locals/\(∀ x c,X.env.cells.lookup x=some c->c≠b)/\∀ p∈X.pn++pins,p.1≠b)|`(#[66])=>`(SD->Res Bool)|`(#[67])=>`(some (.int x))|`(#[68])=>`(af ba #[118] (af br (af bw (aa 2) (eC (.int 3))) (eC (.int 3))))|`(#[69])=>`(X.N[i]?=some x)|`(#[70])=>`(seqObj "list" vs.toArray 0)|`(#[71])=>`(∀ x∈l0::lr,x<ps.length)|`(#[72])=>`(ps.length<=24)|`(#[73])=>`(jT ps f t l (some (.tup [.int k,x,y])))|`(#[74])=>`(ae (aa 1) ao)|`(#[75])=>`(A.deeper (envOfC x (av st) s.heap.objs.size f cdv))|`(#[76])=>`(PySem.Str->PySem.Addr)|`(#[77])=>`((∀ b o,s.heap.get? b=some o->h'.get? b=some o))|`(#[78])=>`(Builtin.SmallTypes.nextOf (.ref it))|`(#[79])=>`(ae (af ba (eA cM (ae (eC (.int 4)) (ae (eC (.int 24)) ao))) (c8 (aa 0) (eP (eC (.int 2))) (eP (eC (.int 12))))) ao)
local macro_rules|`(#[0])=>`(PySem.W.Frag)|`(#[1])=>`(by omega)|`(#[2])=>`((x == ("__debug__" : Str))=false)|`(#[3])=>`(.lst .aq #[117])|`(#[4])=>`(Value->Shared->Prop)|`(#[5])=>`(Inv X pins σ H s)|`(#[6])=>`(List Int)|`(#[7])=>`(eY h #[120] #[120] #[120] #[120] #[120])|`(#[8])=>`(List Addr)|`(#[9])=>`(starEach (e::es) X.env=(false,eval e X.env)::starEach es X.env)|`(#[10])=>`(aA (dD (eT (af gW (aa 3) #[129])) (bA (eA cM (ae (af br (aa 4) (aa 2)) ao))) aR) (aA (dD (eT (af gW (aa 3) #[118])) (bA (bo (bC (ae (aa 2) ao)) (gN 0) g_Linside_c5 g_Linside_e6 1 [("_law_rest",4),("_law_many_here",2)])) aR) (aA (dD (eT (af gW (aa 3) (eC (.int 2)))) (bA (bo (bC (ae (aa 2) ao)) (gN 0) g_Linside_c3 g_Linside_e4 1 [("_law_rest",4),("_law_many_here",2)])) aR) (aA (aQ 5 (eA bJ #[135])) (aA (dD (nP (eT (af gW (aa 3) (eC (.int 3)))) (eT (af gW (af bL (aa 5) #[129]) (af bL (aa 5) #[118])))) (bA (af ba (c8 (aa 5) ly (eP #[118])) (bo (gD (c8 (aa 5) (eP #[118]) ly)) (gN 0) g_Linside_c1 g_Linside_e2 1 [("_law_pair",5)]))) aR) (iY [5] (bA (aE G_Lclosed (ae (aa 0) (ae (aa 5) ao))))))))))|`(#[11])=>`(Str->Option Value)|`(#[12])=>`(model prog w)|`(#[13])=>`(model X.prog X.w)|`(#[14])=>`(some (.lst t #[122]))|`(#[15])=>`(List (Addr×Obj))|`(#[16])=>`(.ListComp elt [⟨tg,iter,ifs,0⟩] scope pos)|`(#[17])=>`(Addr->Prop)|`(#[18])=>`(some (.lst .own ((pp ps #[123]).map .int)))|`(#[19])=>`(((s.heap.update a (Obj.mapSeq λ _=>(#[]:#[132]))).push (seqObj "tuple" vs.toArray 0)).push (seqObj "list" #[] 0))|`(#[20])=>`(Nat->Nat->Int)|`(#[21])=>`(SI K H0 B0 B H σ τ P F)|`(#[22])=>`(List Value)|`(#[23])=>`(aA (dD (nP (gC (eT (aE (G_Llike 2) (ae (aE (G_Lasked ca) (ae (aa 1) (ae (aa 10) ao))) (ae (aa 8) ao))))) (gC (eT (aE (G_Llike 2) (ae (aE (G_Ltruth ca) (ae (aa 1) (ae (aa 10) ao))) (ae (aa 9) ao)))))) (bA (eC (.bl false))) aR) (aA (aQ 11 (eC (.str "good"))) (aA (dD (eT (fZ (cU sY) (aa 9))) (aQ 11 (aa 9)) aR) (aA (dD (nP (eT (af mJ (aE (G_Lleast ca) (ae (aa 1) (ae (aa 10) ao))) (aa 11))) (eT (af mJ (aE (G_Lparts ca) (ae (aa 1) (ae (aa 10) ao))) (aa 11)))) (bA (eC (.bl false))) aR) (dD (eT (af (E4 true) (aa 10) (aa 6))) (bA (eC (.bl false))) aR)))))|`(#[24])=>`(List.range ps.length)|`(#[25])=>`(by simp)|`(#[26])=>`((pp ps (fi::rest)).map .int)|`(#[27])=>`(rs.map .int)|`(#[28])=>`(SD->Res D)|`(#[29])=>`((x == ("__classdict__" : Str))=false)|`(#[30])=>`(by decide +kernel)|`(#[31])=>`(List Nat)|`(#[32])=>`(nF ps f)|`(#[33])=>`(cP ns ps f none none none none none none none none none none)|`(#[34])=>`(some (.int k))|`(#[35])=>`(af bL (aa 0) #[129])|`(#[36])=>`(s.heap.push { cls:=.type "range",data:=.fields #[.int lo t,.int hi u,.int 1 v] })|`(#[37])=>`(X.fn x=true\/X.env.scope.names.lookup x=some .local)|`(#[38])=>`(qz .own ps ps.length λ i=>ent f i (jV ps.length))|`(#[39])=>`(∀ x,foldedSetIterable iter X.env x=pure x)
set_option hygiene true
def Ph:=@PySem.wpAny_bind
def Pj:=@PySem.Heap.get?_push_of_some
def Pk:=@List.length_map
def Pn:=@List.mem_cons_of_mem
def Po:=@PySem.wpAny_pure
def Pp:=@List.mem_cons_self
def Pq:=@Bool.false_ne_true
def Pr:=@List.getElem?_eq_getElem
def Pu:=@PySem.Heap.get?_push_size
def Pw:=@List.getElem?_eq_some_iff
def Px:=@PySem.Heap.lt_size
def Py:=@Nat.le_refl
def Pz:=@List.length_append
def PB:=@List.mem_cons
def PC:=@List.mem_append
def PD:=@List.mem_append_left
def PF:=@List.mem_map
def PH:=@if_pos
def PJ:=@List.nodup_append
def PK:=@List.size_toArray
def PL:=@if_neg
def PM:=@List.mem_append_right
def PN:=@List.nodup_cons
def PQ:=@decide_eq_false
def PR:=@List.map_append
def PU:=@List.length_cons
def PV:=@List.map_cons
def PX:=@Array.getElem?_eq_getElem
def PY:=@Nat.ne_of_lt
def PZ:=@Array.length_toList
def P0:=@List.getElem?_map
def P5:=@List.getD_eq_getElem?_getD
def P6:=@List.sublist_append_right
def P7:=@List.mem_range
def P8:=@decide_eq_true
def P9:=@List.length_singleton
def Qa:=@PySem.wpAny_setField_rec
def Qc:=@Bool.false_eq_true
def Qd:=@List.length_range
def Qe:=@Nat.lt_of_lt_of_le
def Qf:=@PySem.wpAny_callSpecial?_slot
def Qg:=@PySem.wpAny_call_entry
def Qh:=@PySem.wpAny_field
def Qi:=@List.append_nil
def Qj:=@List.sublist_append_left
def Qk:=@PySem.wpAny_newObj_type
def Ql:=@Bool.and_eq_true
def Qm:=@Int.toNat_natCast
def Qn:=@List.append_assoc
def Qo:=@List.map_congr_left
def Qp:=@Array.getElem?_toList
def Qq:=@List.map_map
def Qs:=@PySem.W.mg_none_of
def Qt:=@PySem.Heap.size_push
def Qu:=@PySem.Heap.get?_update_self
def Qv:=@Array.getD_eq_getD_getElem?
def Qw:=@List.mem_singleton
def Qx:=@PySem.sizeLine_eq
def Qy:=@List.getElem?_eq_none
def Qz:=@List.nodup_nil
def QA:=@List.getElem?_set_self
def QB:=@PySem.Heap.get?_update_other
def QC:=@Option.some.inj
def QD:=@PySem.W.kia_one
def QE:=@List.not_mem_nil
def QF:=@PySem.PassesOwn.never
def QG:=@Nat.le_trans
def QH:=@List.getElem?_set_ne
def QI:=@List.Sublist.refl
def QJ:=@Nat.lt_irrefl
def QK:=@Ne.symm
def QL:=@PyProof.Rows.callWith_type1
def QM:=@List.getElem?_range
def QN:=@PySem.F.plainAttrs_list
def QO:=@List.Perm.refl
def QP:=@PySem.wpAny_typeNameOfWhole_itemiter
def QQ:=@List.ext_getElem?
def QR:=@bne_self_eq_false
def QS:=@PySem.wpAny_mono
def QT:=@PySem.wpAny_Call_Name_kw
def QU:=@Int.emod_nonneg
def QV:=@PySem.wpAny_holding
def QW:=@Option.some_ne_none
def QX:=@List.getElem?_append_right
def QY:=@Nat.zero_le
def QZ:=@PySem.wpAny_attempt
def Q0:=@PySem.wpAny_isOneOf_itemiter
def Q2:=@List.length_nil
def Q3:=@congrArg
def Q4:=@List.lookup_cons
def Q5:=@PySem.Around.under_plainId
def Q6:=@beq_iff_eq
def Q7:=@PySem.wpAny_seqItems
def Q8:=@Array.perm_iff_toList_perm
def Q9:=@PySem.Heap.SameBut.update
def Ra:=@List.flatten_append
def Rb:=@Bool.eq_iff_iff
def Rc:=@List.find?_cons
def Rf:=@PySem.codeAny_builtin
def Rg:=@List.pairwise_iff_getElem
def Rh:=@decide_eq_decide
def Ri:=@PySem.Paired.length
def Rj:=@Nat.ne_of_gt
def Rk:=@Option.isSome_iff_exists
def Rl:=@Nat.le_succ
def Rm:=@Bool.or_eq_false_iff
def Rn:=@PySem.F.slot_dict_itemiterator_next
def Ro:=@List.forall_mem_cons
def Rp:=@List.flatten_cons
def Rq:=@List.length_eq_zero_iff
def Rr:=@PySem.wpAny_setState_of
def Rt:=@List.mem_filter
def Ru:=@PySem.F.slot_dict_setdefault
def Rv:=@PySem.W.cellsFrom_some
def Rw:=@Array.getElem?_eq_none
def Rx:=@List.any_cons
def Ry:=@List.length_take
def Rz:=@PySem.wpAny_isInstance
def RA:=@List.ext_getElem
def RB:=@PySem.F.slot_tuple_iterator_next
def RC:=@PySem.wpAny_setField
def RD:=@PySem.Obj.data_mapFields
def RE:=@if_true
def RG:=@Nat.le_of_ble_eq_true
def RH:=@List.length_filter_le
def RI:=@List.drop_eq_getElem_cons
def RJ:=@PySem.wpAny_passesOwn
def RK:=@Nat.not_lt_zero
def RL:=@if_false
def RM:=@Nat.lt_succ_of_lt
def RN:=@decide_eq_true_eq
def RO:=@Nat.lt_trichotomy
def RP:=@PySem.wpAny_rule
def RQ:=@beq_eq_false_iff_ne
def RS:=@PySem.mem_of_lookup
def RT:=@PySem.Heap.SameBut.extBut
def RU:=@PySem.wpAny_setEntries_of
def RV:=@PySem.F.plainAttrs_dict
def RW:=@List.any_eq_true
def RX:=@Sum.inl.inj
def RY:=@Nat.le_of_lt
def RZ:=@PySem.Calls.callWith_builtin
def R0:=@List.sublist_cons_self
def R1:=@List.drop_eq_nil_of_le
def R3:=@Nat.zero_add
def R4:=@Bool.not_true
def R5:=@PySem.Obj.isFreed_of_fields
def R6:=@PySem.F.slot_enumerate_next
def R7:=@PySem.wpAny_truthy_bool
def R8:=@List.any_eq_false
def R9:=@Nat.le_of_succ_le
def Sa:=@List.pairwise_map
def Sb:=@Array.getElem?_eq_some_iff
def Sd:=@PySem.codeAny_mono
def Se:=@List.length_drop
def Sf:=@List.all_eq_true
def Sg:=@List.getElem_mem
def Si:=@List.isEmpty_nil
def Sj:=@PySem.W.hideAll_get
def Sk:=@List.getElem_of_mem
def Sl:=@PySem.AutoSeq1.wpAny_loadPart'
def Sm:=@PySem.F.slot_list_append
def Sn:=@PySem.F.type_list_append
def So:=@PySem.plainId_quiet
def Sq:=@PySem.wpAny_execs_nil
def Ss:=@Option.map_some
def Su:=@PySem.wpAny_ite_split
def Sv:=@PySem.Calls.spliced_cons
def Sw:=@PySem.wpAny_pyIter_tuple
def Sx:=@Array.append_empty
def Sy:=@Int.emod_lt_of_pos
def Sz:=@PySem.wpAny_Call_method0_late
def SA:=@PyProof.Rows.F.plain_set_update_loop
def SE:=@PySem.Calls.spliced_nil
def SG:=@List.reverse_cons
def SH:=@List.take_of_length_le
def SJ:=@PySem.wpAny_pyIter_slot
def SK:=@Option.some.injEq
def SM:=@PyProof.Rows.slot_tuple_getitem
def SN:=@PySem.F.args_dict_itemiterator_next_1
def SO:=@List.getElem?_zipWith
def SQ:=@PySem.builtinLookup_eq_fast
def SS:=@List.eq_nil_or_concat
def SV:=@List.concat_eq_append
def SW:=@PyProof.Rows.callWith_builtin1
def SX:=@Nat.lt_succ_self
def SY:=@PySem.entryFor_of_tree
def S3:=@beq_self_eq_true
def S4:=@List.nodup_range
def S5:=@PySem.F.args_dict_setdefault_3
def S6:=@List.filter_cons
def S7:=@List.Perm.append
def S8:=@PySem.wpAny_handled
def S9:=@List.mem_of_getElem?
def Tc:=@PySem.wpAny_of_eq
def Td:=@Array.toArray_toList
def Te:=@PySem.wpAny_updateSeq_pair
def Tf:=@List.dropLast_concat
def Th:=@PySem.F.entry_dict_setdefault
def Ti:=@List.of_mem_zip
def Tj:=@List.forIn_cons
def Tn:=@PySem.pushCells_keeps
def To:=@Nat.min_eq_left
def Tp:=@PySem.F.slot_zip_next
def Tq:=@PySem.wpAny_updateSeq
def Tt:=@PySem.F.type_dict_setdefault
def Tu:=@List.filterMap_cons
def Tv:=@PySem.evalArgs_none
def Tw:=@List.Sublist.append
def Tz:=@List.length_pos_iff
def TF:=@PySem.wpAny_typeOf
def TH:=@PySem.W.of_hideAll
def TJ:=@List.mem_filterMap
def TL:=@Int.fdiv_eq_ediv_of_nonneg
def TM:=@PySem.wpAny_call
def TN:=@PySem.W.callWith_K
def TQ:=@PySem.call_meets
def TR:=@List.forIn_nil
def TU:=@PySem.wpAny_newTuple
def TV:=@PySem.isSubtype_stop
def TY:=@Option.ne_none_iff_exists'
def TZ:=@List.length_mapIdx
def T4:=@List.pairwise_cons
def T5:=@List.contains_cons
def T6:=@Nat.add_sub_cancel
def T7:=@PySem.isSubtype_type
def T8:=@List.length_eraseIdx_of_lt
def T9:=@PySem.wpAny_fieldsOf
def Ua:=@List.getElem?_append_left
def Ub:=@List.findIdx?_eq_none_iff
def Uc:=@Classical.byContradiction
def Ud:=@PySem.Value.isInt_shape
def Ue:=@PySem.W.kitx_list
def Ug:=@PySem.wpAny_throw
def Uh:=@PySem.wpAny_letGo
def Ui:=@PySem.wpAny_pyIter_enum
def Uj:=@PySem.wpAny_pyIter_list
def Uk:=@PySem.fits_of_scanBound
def Ul:=@List.all_cons
def Um:=@Bool.false_or
def Uo:=@PySem.wpAny_onRaise
def Uq:=@Option.getD_none
def Ur:=@Nat.min_eq_right
def Us:=@Nat.le_add_right
def Ut:=@List.mem_flatMap
def Uu:=@List.flatten_nil
def Uv:=@Nat.lt_trans
def Uw:=@Bool.or_true
def Ux:=@List.foldl_cons
def Uy:=@Nat.max_eq_left
def Uz:=@List.range_succ
def UA:=@Bool.and_false
namespace L2
variable {C a b dx f:Addr}{A:Around}{op:CmpOp}{c e tg:Expr}{fd:FuncData}{h h':Heap}{pins:#[15]}{ch fp:#[8]}{es:#[92]}{body:List Stmt}{N ps:#[116]}{us:#[22]}{M:Model}{i t':Nat}{p pos:Pos}{P:#[84]}{s s':Shared}{x:Str}{mA:#[11]}{u:Value}{E Q:#[4]}{w:World}
def ex5 {α β:Sort _}{p q r:α->β->Prop}{C:Prop}(h:∃ a b,p a b/\q a b/\r a b)(k:∀ a b,p a b->q a b->r a b->C):C:=h.elim λ a h=>h.elim λ b h=>k a b h.1 h.2.1 h.2.2
open PySem PySem.Spec PyProof.Rows
def xj (h:Heap)(a:Addr)(items:#[132]):Prop:=∃ n,h.get? a=some { cls:=.type "tuple",data:=.seq items n }
def xj.is{items:#[132]}(x:xj h a items):IsTup h a items:=let ⟨n,e⟩:=x;⟨_,e,rfl,n,rfl⟩
def xj.new (h:Heap)(items:#[132]):xj (h.push { cls:=.type "tuple",data:=.seq items }) h.objs.size items:=⟨_,Pu _ rfl⟩
abbrev Key:=Sum Int Str
def qP:Key->Value->Bool
 |.inl k,v=>Value.isInt k v
 |.inr x,v=>Value.isStrOf x v
def N5 (w:World):Key->Int
 |.inl k=>hashInt k
 |.inr x=>hashStr w x
def cY:∀ {k:Key}{v:Value},qP k v=true->(∃ i t,k=Sum.inl i/\v=Value.int i t)\/(∃ x t,k=Sum.inr x/\v=Value.str x t)
 | .inl i,v,h=>by
  obtain⟨t,e⟩:=Ud (k:=i) (v:=v) h;exact .inl ⟨i,t,rfl,e⟩
 | .inr x,v,h=>by
  obtain⟨t,e⟩:=Value.isStrOf_shape (x:=x) (v:=v) h;exact .inr ⟨x,t,rfl,e⟩
def Cy (i:Int)(t:Tok):qP (.inl i) (.int i t)=true:=by simp[qP,Value.isInt]
def CA (x:Str)(t:Tok):qP (.inr x) (.str x t)=true:=by simp[qP,Value.isStrOf]
def Kr (a b:Int):decide ((Sum.inl a:Key)=Sum.inl b)=(a == b):=by
 by_cases e:a=b
 ·subst e;simp
 ·have h:¬ (Sum.inl a:Key)=Sum.inl b:=λ q=>e (RX q);rw[PQ h];exact(RQ.mpr e).symm
def Ka (a b:Str):decide ((Sum.inr a:Key)=Sum.inr b)=decide (a=b):=by
 by_cases e:a=b
 ·subst e;simp
 ·have h:¬ (Sum.inr a:Key)=Sum.inr b:=λ q=>e (Sum.inr.inj q);rw[PQ h,PQ e]
def Kc (a:Int)(b:Str):decide ((Sum.inl a:Key)=Sum.inr b)=false:=PQ (λ q=>nomatch q)
def Kp (a:Str)(b:Int):decide ((Sum.inr a:Key)=Sum.inl b)=false:=PQ (λ q=>nomatch q)
def cE (prog:#[84])(w:World):PySem.KeyKind prog w Key where
 is:=qP
 hash:=N5 w
 inj:=λ v a b ha hb=>by
  rcases cY ha with ⟨i,t,rfl,rfl⟩|⟨x,t,rfl,rfl⟩
  ·rcases cY hb with ⟨j,u,rfl,e⟩|⟨y,u,rfl,e⟩
   ·injection e with e1 _;rw[e1]
   ·exact nomatch e
  ·rcases cY hb with ⟨j,u,rfl,e⟩|⟨y,u,rfl,e⟩
   ·exact nomatch e
   ·injection e with e1 _;rw[e1]
 byValue:=λ k v h=>by
  rcases cY h with ⟨i,t,rfl,rfl⟩|⟨x,t,rfl,rfl⟩<;>rfl
 pyHash:=λ hv h=>by
  rcases cY hv with ⟨i,t,rfl,rfl⟩|⟨x,t,rfl,rfl⟩
  ·exact wpAny_pyHash_int h
  ·exact wpAny_pyHash_str h
 eqBool:=λ hu hv h=>by
  rcases cY hu with ⟨i,t,rfl,rfl⟩|⟨x,t,rfl,rfl⟩
  ·rcases cY hv with ⟨j,u,rfl,rfl⟩|⟨y,u,rfl,rfl⟩
   ·rw[Kr]at h;exact wpAny_eqBool_int h
   ·rw[Kc]at h;exact SeqAt.EqAt.int_str i t y u _ _ _ _ h
  ·rcases cY hv with ⟨j,u,rfl,rfl⟩|⟨y,u,rfl,rfl⟩
   ·rw[Kp]at h;exact SeqAt.EqAt.str_int x t j u _ _ _ _ h
   ·rw[Ka]at h;exact wpAny_eqBool_str h
 «strs» :=λ k x t v h=>by
  rcases cY h with ⟨i,u,rfl,e⟩|⟨y,u,rfl,e⟩
  ·exact nomatch e
  ·injection e with e1 _
   subst e1;cases v<;>rfl
def xq (prog:#[84])(w:World)(i:Int)(t:Tok):(cE prog w).is (.inl i) (.int i t)=true:=Cy i t
def xm (prog:#[84])(w:World)(x:Str)(t:Tok):(cE prog w).is (.inr x) (.str x t)=true:=CA x t
inductive V where
 |a8|bl (b:Bool)|int (i:Int)|str (x:Str)|Cr (b:Array UInt8)|L6 (b:UInt64)|ref (a:Addr)|ty (n:String)
 deriving DecidableEq
variable {xs:List V}{v:V}
def RelV:V->Value->Prop
 |.a8,u=>u=Value.none
 |.bl b,u=>u=Value.bool b
 |.int i,u=>∃ t,u=Value.int i t
 |.str x,u=>∃ t,u=Value.str x t
 |.Cr b,u=>∃ t,u=Value.bytes b t
 |.L6 b,u=>∃ t,u=Value.float b t
 |.ref a,u=>u=Value.ref a
 |.ty n,u=>u=Value.type n
abbrev Vals:List V->List Value->Prop:=Paired RelV
def Vals.length(r:Vals xs us):xs.length=us.length:=Ri r
def Vals.get:∀ {xs:List V}{us:#[22]}{i:Nat}{x:V},Vals xs us->xs[i]?=some x->∃ u,us[i]?=some u/\RelV x u
 |_,_,_,_,.nil,e=>by simp at e
 |_,_,0,_,.cons r _,e=>by simp at e;subst e;exact⟨_,rfl,r⟩
 | _,_,i+1,x,.cons _ t,e=>by
  obtain⟨u,h1,h2⟩:=Vals.get (i:=i) (x:=x) t (by simpa using e);exact⟨u,by simpa using h1,h2⟩
def Vals.append:∀ {xs ys:List V}{us ws:#[22]},Vals xs us->Vals ys ws->Vals (xs++ys) (us++ws)
 |_,_,_,_,.nil,s=>s
 |_,_,_,_,.cons r t,s=>.cons r (Vals.append t s)
def Vals.take:∀ {xs:List V}{us:#[22]} (n:Nat),Vals xs us->Vals (xs.take n) (us.take n)
 |_,_,0,_=>.nil
 |_,_,_+1,.nil=>.nil
 |_,_,n+1,.cons r t=>.cons r (Vals.take n t)
def Vals.drop:∀ {xs:List V}{us:#[22]} (n:Nat),Vals xs us->Vals (xs.drop n) (us.drop n)
 |_,_,0,r=>r
 |_,_,_+1,.nil=>.nil
 |_,_,n+1,.cons _ t=>Vals.drop n t
def qm:Option V->Option Value->Prop
 |some v,some u=>RelV v u
 |none,none=>True
 |_,_=>False
def KV {κ:Type}:List (κ×V)->List (κ×Value)->Prop:=Paired λ (p:κ×V) (q:κ×Value)=>p.1=q.1/\RelV p.2 q.2
def kV:Key->V
 |.inl i=>.int i
 |.inr x=>.str x
inductive HO where
 |lst (xs:List V)
 |tup (xs:List V)
 |dK (kvs:#[102]) (ep:Nat)|dT (kvs:List (List Key×V)) (ep:Nat)
 |set (S:Int->Bool) (n:Nat)
 |ins (C dx:Addr) (fs:List (Str×V))
 |own (x:Addr)
 |xd (fs:List (Str×V))
 |met (f x:Addr)
 |Nz (lo hi:Int)
 |aq (o:Obj) (u:HO)
 |Jr (ps:#[132])
 |ext (φ:Heap->Prop)
variable {o:HO}
abbrev Hp:=Addr->Option HO
variable {H H':Hp}
def upd (H:Hp)(a:Addr)(o:HO):Hp:=λ b=>if b=a then some o else H b
def aN:upd H a o a=some o:=by unfold upd;rw[PH rfl]
def aH(h:b≠a):upd H a o b=H b:=by unfold upd;rw[PL h]
def Mv{u:HO}(h:H a=some o)(h':H b=some u)(d:o≠u):a≠b:=by
 intro e;subst e;rw[h]at h';exact d (QC h')
def bF(h:H a=some o)(h':H b=none):a≠b:=by
 intro e;subst e;rw[h]at h';cases h'
section
variable (P:#[84])(w:World)
def ck (H:Hp)(h:Heap)(a:Addr):HO->Prop
 |.lst xs=>xs.length<=sizeLine/\∃ (its:#[22]) (n:Nat),Vals xs its/\h.get? a=some { cls:=.type "list",data:=.seq its.toArray n }
 |.tup xs=>xs.length<=sizeLine/\∃ its:List Value,Vals xs its/\xj h a its.toArray
 |.dK kvs ep=>kvs.length<=sizeLine/\(a == sysModules)=false/\∃ vs,KV kvs vs/\h.DictAt (cE P w) a vs ep
 | .dT kvs ep=>kvs.length<=sizeLine/\(a == sysModules)=false/\∃ xs:List (List Key×Addr×Value),
   Paired (λ (p:List Key×V) (q:List Key×Addr×Value)=>p.1=q.1/\H q.2.1=some (.tup (p.1.map kV))/\RelV p.2 q.2.2) kvs xs /\
   ∃ o es,h.get? a=some o/\o.ExactDict/\o.data=.dict es ep/\es.toList=xs.map (entryOfKey (tupleKind (cE P w)))/\(xs.map (·.1)).Nodup
 |.set S n=>h.SetOf (intKind P w) a S n
 | .ins C dx fs=>H dx=some (.own a)/\fs.length<=1000/\dx≠a/\h.get? a=some (PySem.W.instObj C dx) /\
   ∃ mA,h.Ns1 dx mA/\(∀ f,qm (fs.lookup f) (mA f))/\PySem.Within mA (fs.map (·.1))
 |.own _=>∃ o,h.get? a=some o
 |.xd fs=>∃ mA,h.Ns1 a mA/\∀ f,qm (fs.lookup f) (mA f)
 |.Nz lo hi=>∃ t u v,h.get? a=some { cls:=.type "range",data:=.fields #[.int lo t,.int hi u,.int 1 v] }
 |.aq o u=>h.get? a=some o/\ck H h a u
 |.Jr ps=>h.get? a=some { cls:=.none,data:=.fields ps }
 |.met f x=>h.get? a=some (PySem.W.methodObj (.ref f) (.ref x))
 |.ext φ=>φ h/\(∃ o,h.get? a=some o)/\∀ h1 h2:Heap,φ h1->(∀ o,h1.get? a=some o->h2.get? a=some o)->φ h2
def jj (H:Hp)(h:Heap):Prop:=∀ a o,H a=some o->ck P w H h a o
end
section
def ck.lt (x:ck P w H h a o):a<h.objs.size:=by
 cases o with
 |lst xs=>obtain⟨_,_,_,_,e⟩:=x;exact Px e|tup xs=>obtain⟨_,_,_,p⟩:=x;exact p.is.lt|dK kvs ep=>obtain⟨_,_,_,_,o,_,e,_⟩:=x;exact Px e|dT kvs ep=>obtain⟨_,_,_,_,o,_,e,_⟩:=x;exact Px e|set S n=>obtain⟨o,_,_,_,e,_⟩:=x;exact Px e|ins C dx fs=>obtain⟨_,_,_,e,_⟩:=x;exact Px e|own y=>obtain⟨_,e⟩:=x;exact Px e|xd fs=>obtain⟨_,⟨_,_,_,e,_⟩,_⟩:=x;exact Px e|Nz lo hi=>obtain⟨_,_,_,e⟩:=x;exact Px e|aq ob u=>obtain⟨e,_⟩:=x;exact Px e|Jr ps=>exact Px (show h.get? a=some _ from x)|met f y=>exact Px (show h.get? a=some _ from x)|ext φ=>obtain⟨_,⟨_,e⟩,_⟩:=x;exact Px e
def Paired.J4 {α β:Type}{F G:α->β->Prop}:∀ {l₁:List α}{l₂:List β},Paired F l₁ l₂->(∀ a b,F a b->G a b)->Paired G l₁ l₂
 |_,_,.nil,_=>.nil
 |_,_,.cons r t,f=>.cons (f _ _ r) (Paired.J4 t f)
def ck.stay (x:ck P w H h a o)(k:∀ b u,(b=a\/H b=some (.own a))->h.get? b=some u->h'.get? b=some u)
  (ho:∀ b,H b=some (.own a)->H' b=some (.own a)) (ht:∀ b xs,H b=some (.tup xs)->H' b=some (.tup xs)):ck P w H' h' a o:=by
 induction o with
 |lst xs=>obtain⟨z,its,n,r,e⟩:=x;exact⟨z,its,n,r,k _ _ (.inl rfl) e⟩| tup xs=>obtain⟨z,its,r,n,e⟩:=x;exact⟨z,its,r,n,k _ _ (.inl rfl) e⟩| dK kvs ep=>obtain⟨z,y,vs,r,ob,es,e,c⟩:=x;exact⟨z,y,vs,r,ob,es,k _ _ (.inl rfl) e,c⟩
 | dT kvs ep =>
  obtain⟨z,y,xs,r,ob,es,e,c⟩:=x;exact⟨z,y,xs,Paired.J4 r λ p q z=>⟨z.1,ht _ _ z.2.1,z.2.2⟩,ob,es,k _ _ (.inl rfl) e,c⟩
 |set S n=>obtain⟨ob,es,ep,t,e,c⟩:=x;exact⟨ob,es,ep,t,k _ _ (.inl rfl) e,c⟩
 | ins C dx fs =>
  obtain⟨d,z,ne,e,mA,⟨od,es,ep,e2,c⟩,r⟩:=x;exact⟨ho _ d,z,ne,k _ _ (.inl rfl) e,mA,⟨od,es,ep,k _ _ (.inr d) e2,c⟩,r⟩
 |own y=>obtain⟨ob,e⟩:=x;exact⟨ob,k _ _ (.inl rfl) e⟩| xd fs=>obtain⟨mA,⟨od,es,ep,e,c⟩,r⟩:=x;exact⟨mA,⟨od,es,ep,k _ _ (.inl rfl) e,c⟩,r⟩| Nz lo hi=>obtain⟨t,u,v,e⟩:=x;exact⟨t,u,v,k _ _ (.inl rfl) e⟩| aq ob u ih=>obtain⟨e,q⟩:=x;exact⟨k _ _ (.inl rfl) e,ih q⟩
 | Jr ps =>
  have e:h.get? a=some { cls:=.none,data:=.fields ps }:=x;show h'.get? a=some { cls:=.none,data:=.fields ps };exact k a _ (.inl rfl) e
 | met f y =>
  have e:h.get? a=some (PySem.W.methodObj (.ref f) (.ref y)):=x;show h'.get? a=some (PySem.W.methodObj (.ref f) (.ref y));exact k a _ (.inl rfl) e
 |ext φ=>obtain⟨p,⟨o,e⟩,st⟩:=x;exact⟨st _ _ p λ o q=>k _ _ (.inl rfl) q,⟨o,k _ _ (.inl rfl) e⟩,st⟩
def jj.lt (x:jj P w H h)(e:H a=some o):a<h.objs.size:=(x a o e).lt
def jj.fresh (x:jj P w H h)(e:h.objs.size<=a):H a=none:=by
 cases q:H a with
 |none=>rfl|some u=>exact absurd (Qe (x.lt q) e) (QJ _)
def jj.kept (x:jj P w H h)(k:∀ b u,h.get? b=some u->h'.get? b=some u):jj P w H h':=λ a o e=>
 (x a o e).stay (λ b u _ q=>k b u q) (λ _ q=>q) λ _ _ q=>q
def jj.laid (x:jj P w H h)(k:∀ b u,h.get? b=some u->h'.get? b=some u)(hp:h.objs.size<=a)(new:ck P w (upd H a o) h' a o):jj P w (upd H a o) h':=λ b u e=>by
 have hn:=x.fresh hp;by_cases hb:b=a
 ·subst hb;rw[aN]at e;cases e;exact new
 ·rw[aH hb]at e;exact(x b u e).stay (λ c v _ q=>k c v q) (λ c q=>by rw[aH (bF q hn)];exact q) λ c xs q=>by rw[aH (bF q hn)];exact q
end
def Rd (H:Hp)(a:Addr)(u:HO):Prop:=H a=some u\/∃ o,H a=some (.aq o u)
def Rd.ok{u:HO}(r:Rd H a u)(x:jj P w H h):ck P w H h a u:=by
 rcases r with r|⟨o,r⟩
 ·exact x a u r
 ·obtain⟨_,q⟩:=x a _ r;exact q
def Ms:Option HO->Prop
 |some (.lst _)=>True
 |some (.dK _ _)=>True
 |some (.dT _ _)=>True
 |some (.set _ _)=>True
 |some (.ins _ _ _)=>True
 |some (.ext _)=>True
 |_=>False
section
variable{x e:Addr}{o':HO}
def jj.write (ok:jj P w H h)(mu:Ms (H x))(he:e=x\/H e=some (.own x))(k:∀ b u,b≠e->h.get? b=some u->h'.get? b=some u)(heo:∃ u,h'.get? e=some u)
  (new:ck P w (upd H x o') h' x o'):jj P w (upd H x o') h':=λ b u q=>by
 have nown:∀ c y,H c=some (.own y)->c≠x:=λ c y r z=>by subst z;rw[r]at mu;exact mu
 have ntup:∀ c xs,H c=some (.tup xs)->c≠x:=λ c xs r z=>by subst z;rw[r]at mu;exact mu
 by_cases hb:b=x
 ·subst hb;rw[aN]at q;cases q;exact new
 ·rw[aH hb]at q;by_cases hbe:b=e
  ·have q':H b=some (.own x):=by
    rcases he with z|z
    ·exact absurd (hbe.trans z) hb
    ·rw[hbe];exact z
   rw[q]at q';cases q';obtain⟨v,hv⟩:=heo;exact⟨v,by rw[hbe];exact hv⟩
  ·refine(ok b u q).stay (λ c v hc r=>k c v ?_ r) (λ c r=>by rw[aH (nown c b r)];exact r) λ c xs r=>by rw[aH (ntup c xs r)];exact r
   rcases hc with rfl|hc
   ·exact hbe
   ·rintro rfl;rcases he with z|z
    ·exact nown c b hc z
    ·rw[hc]at z;cases z;exact hb rfl
end
structure Un (fs ex:List Addr)(H H':Hp)(h h':Heap):Prop where
 keep:∀ b o,h.get? b=some o->H b=none->b∉fs->b∉ex->h'.get? b=some o
 slot:∀ b o,h.get? b=some o->H b=none->b∈fs->b∉ex->∃ sl,h'.get? b=some { o with slots:=sl }
 free:∀ b o,h.get? b=some o->H b=none->b∉ex->H' b=none
 there:∀ b o,h.get? b=some o->b∉ex->∃ o',h'.get? b=some o'
 tups:∀ b xs,H b=some (.tup xs)->H' b=some (.tup xs)
 mq:∀ b o u,H b=some (.aq o u)->H' b=some (.aq o u)
 o4:∀ b ps,H b=some (.Jr ps)->∃ more,H' b=some (.Jr (ps++more))
section
variable {fs fs' ex ex':#[8]}{H1 H2:Hp}{h1 h2:Heap}{x e:Addr}
def Un.any (u:Un fs ex H H1 h h1){ob:Obj}(q:h.get? b=some ob)(n:H b=none)(hx:b∉ex):∃ sl,h1.get? b=some { ob with slots:=sl }:=by
 by_cases hb:b∈fs
 ·exact u.slot b ob q n hb hx
 ·exact⟨ob.slots,u.keep b ob q n hb hx⟩
def Un.kept (k:∀ b u,h.get? b=some u->h'.get? b=some u):Un fs ex H H h h':=
 ⟨λ b ob q _ _ _=>k b ob q,λ b ob q _ _ _=>⟨ob.slots,k b ob q⟩,λ _ _ _ n _=>n,λ b ob q _=>⟨ob,k b ob q⟩,λ _ _ q=>q,λ _ _ _ q=>q,λ _ ps q=>⟨#[],by rw[q];simp⟩⟩
def Un.refl:Un fs ex H H h h:=Un.kept λ _ _ q=>q
def Un.laid (k:∀ b u,h.get? b=some u->h'.get? b=some u)(hp:h.objs.size<=a)(hn:H a=none):Un fs ex H (upd H a o) h h' where
 keep:=λ b u q _ _ _=>k b u q
 slot:=λ b u q _ _ _=>⟨u.slots,k b u q⟩
 free:=λ b u q n _=>by rw[aH (PY (Qe (Px q) hp))];exact n
 there:=λ b u q _=>⟨u,k b u q⟩
 tups:=λ b xs q=>by rw[aH (bF q hn)];exact q
 mq:=λ b u xs q=>by rw[aH (bF q hn)];exact q
 o4:=λ b ps q=>⟨#[],by rw[aH (bF q hn),q];simp⟩
def Un.write (mu:Ms (H x))(he:e=x\/H e=some (.own x))(k:∀ b u,b≠e->h.get? b=some u->h'.get? b=some u)(heo:∃ u,h'.get? e=some u):Un fs ex H (upd H x o) h h':=by
 have hx:∀ b,H b=none->b≠x:=λ b n z=>by subst z;rw[n]at mu;exact mu
 have hb:∀ b,H b=none->b≠e:=λ b n z=>by
  subst z;rcases he with r|r
  ·exact hx b n r
  ·rw[n]at r;cases r
 have hm:∀ b u,H b=some u->¬ Ms (some u)->b≠x:=λ b u q nm z=>by subst z;rw[q]at mu;exact nm mu
 refine⟨λ b u q n _ _=>k b u (hb b n) q,λ b u q n _ _=>⟨u.slots,k b u (hb b n) q⟩,λ b u q n _=>by rw[aH (hx b n)];exact n,λ b u q _=>?_,
  λ b xs q=>by rw[aH (hm b _ q λ z=>z)];exact q,λ b u xs q=>by rw[aH (hm b _ q λ z=>z)];exact q,λ b ps q=>⟨#[],by rw[aH (hm b _ q λ z=>z),q];simp⟩⟩
 by_cases hbe:b=e
 ·subst hbe;exact heo
 ·exact⟨u,k b u hbe q⟩
end
def Ny (h:Heap)(H:Hp):List Addr:=(List.range h.objs.size).filter λ a=>(H a).isSome
def vm (h:Heap)(H:Hp):Heap:=PySem.W.hideAll h (Ny h H)
def Cp (h:Heap)(H:Hp):(vm h H).objs.size=h.objs.size:=PySem.W.hideAll_size _ _
def D6{o:Obj}(e:h.get? b=some o)(n:H b=none):(vm h H).get? b=some o:=
 Sj _ e λ hm=>by
  have q:(H b).isSome=true:=(Rt.mp hm).2;rw[n]at q;simp at q
def Hg{o:Obj}(e:(vm h H).get? b=some o):h.get? b=some o/\H b=none:=by
 have e':h.get? b=some o:=TH (Ny h H) e;refine⟨e',?_⟩;cases q:H b with
 |none=>rfl
 | some x =>
  have hm:b∈Ny h H:=Rt.mpr ⟨P7.mpr (Px e'),by simp[q]⟩;have z:(vm h H).get? b=none:=PySem.W.hideAll_none (Ny h H) hm;rw[z]at e;cases e
structure Mod (K:PySem.W.Frag)(mg:Str->Option Value)(base:Heap):Prop where
 J7:K.In base
 glob:base.Ns mainGlobals mg
 blt:∃ mb,base.Ns builtinsNs mb/\∀ x:Str,x ≠ "__name__" -> mb x=bootBuiltins x
 nolimit:base.NoLimit
structure Cx where
 prog:Program
 w:World
 K:PySem.W.Frag
 mg:Str->Option Value
 base:Heap
 A:Around
 N:List Str
 s₀:Shared
 H₀:Hp
 env:Env
 outer:List Env
 stack:List Env
 ex:List Addr
 fn:Str->Bool
 calm:Bool
 pn:List (Addr×Obj)
 xe:Value->Shared->Prop
variable {X:Cx}
def frs (l:List Env):List Addr:=l.filterMap (·.frame)
abbrev Cx.fs (X:Cx):List Addr:=frs X.outer
def sX (sc:Scope)(x:Str):Prop:=sc.names.lookup x=some .local\/sc.names.lookup x=some .cell\/sc.names.lookup x=some .free
def Loc (sc:Scope)(x:Str):Prop:=sc.names.lookup x=some .local\/sc.names.lookup x=some .cell
def Look (env:Env)(h:Heap)(m:#[11])(x:Str)(u:Value):Prop:=
 (env.kindOf x=some .local/\m x=some u)\/((env.kindOf x=some .cell\/env.kindOf x=some .free)/\∃ c,env.cells.lookup x=some c/\h.IsCell c (some u))
structure Cx.Ok (X:Cx):Prop where
 mod:Mod X.K X.mg X.base
 kind:X.env.scope.kind=.function
 glob:X.env.globals=mainGlobals
 blt:X.env.builtins=builtinsNs
 above:X.s₀.heap.objs.size<=X.env.locals
 inj:∀ x y c,X.env.cells.lookup x=some c->X.env.cells.lookup y=some c->x=y
 has:∀ x,(X.env.kindOf x=some .cell\/X.env.kindOf x=some .free)->∃ c,X.env.cells.lookup x=some c
 GX:∀ x c,X.fn x=true->X.env.cells.lookup x=some c->X.s₀.heap.objs.size<=c
 hd:X.calm=true->X.A.handled=none
 frames:X.A.frames=some X.stack
 G5:X.stack=X.outer\/(X.stack=X.env::X.outer/\X.env.frame=some X.env.locals)
 Jv:∀ b∈X.ex,b≠X.env.locals/\∀ x c,X.env.cells.lookup x=some c->c≠b
 bs:∀ b o,X.base.get? b=some o->X.s₀.heap.get? b=some o/\X.H₀ b=none
 AV:X.base.objs.size<=X.s₀.heap.objs.size
 tm:∀ b o,X.base.get? b=some o->b∉X.ex
 tq:∀ b∈X.ex,b∉X.fs
 jX:X.s₀.heap.FunFrames X.base X.outer
 DS:∀ b∈X.fs,X.H₀ b=none
structure Inv (X:Cx)(pins:List (Addr×Obj))(σ:List (Option V))(H:Hp)(s:Shared):Prop where
 ok:X.Ok
 os:s.os=X.s₀.os
 bare:AllBare s.gens
 base:Un X.fs X.ex X.H₀ H X.s₀.heap s.heap
 loc:∃ m,s.heap.Ns X.env.locals m/\∀ (i:Nat) (x:Str) (v:V),X.N[i]?=some x->σ[i]?=some (some v)->sX X.env.scope x->∃ u,RelV v u/\Look X.env s.heap m x u
 cell:∀ x c,X.env.cells.lookup x=some c->∃ v,s.heap.IsCell c v
 free:H X.env.locals=none
 gn:∀ x c,X.env.cells.lookup x=some c->H c=none
 pin:∀ p∈X.pn++pins,s.heap.get? p.1=some p.2/\H p.1=none/\p.1≠X.env.locals/\p.1∉X.fs/\∀ v,p.2.data ≠ .cell v
 hok:jj X.prog X.w H s.heap
 len:σ.length=X.N.length
section
variable{σ:List (Option V)}
def Cx.Ok.NV (ok:X.Ok){o:Obj}(e:X.base.get? b=some o):b∉X.fs:=λ hb=>by
 have:=(ok.jX.mem hb).1;rw[e]at this;cases this
def Inv.bs (I:#[5]):∀ b o,X.base.get? b=some o->s.heap.get? b=some o/\H b=none:=λ b o e=>
 ⟨I.base.keep b o (I.ok.bs b o e).1 (I.ok.bs b o e).2 (I.ok.NV e) (I.ok.tm b o e),I.base.free b o (I.ok.bs b o e).1 (I.ok.bs b o e).2 (I.ok.tm b o e)⟩
def Inv.bk (I:#[5]):∀ b o,X.base.get? b=some o->s.heap.get? b=some o:=λ b o e=>(I.bs b o e).1
def Inv.mod (I:#[5]):Mod X.K X.mg X.base:=I.ok.mod
def Inv.oV (I:#[5]):X.K.In s.heap:=I.ok.mod.J7.keeps I.bk
def Inv.lt (I:#[5]):X.env.locals<s.heap.objs.size:=let ⟨_,hn,_⟩:=I.loc;hn.lt
def Inv.sz (I:#[5]):X.s₀.heap.objs.size<=s.heap.objs.size:=QG I.ok.above (RY I.lt)
def Inv.N1 (I:#[5])(h:s.heap.objs.size<=a):a∉X.fs:=λ hb=>by
 obtain⟨_,o,ho,_⟩:=I.ok.jX.mem hb;exact absurd (Qe (Px ho) (QG I.sz h)) (QJ _)
def Inv.Js (I:#[5]):∀ x c,X.env.cells.lookup x=some c->c≠X.env.locals:=λ x c e z=>by
 obtain⟨v,o,ho,hd⟩:=I.cell x c e;obtain⟨m,⟨o',es,ep,ho',hd',_⟩,_⟩:=I.loc;rw[z,ho']at ho;cases ho;rw[hd']at hd;cases hd
def Inv.jX (I:#[5]):s.heap.FunFrames X.base X.outer:=by
 have all:∀ (l:List Env),(∀ b∈frs l,b∈X.fs)->X.s₀.heap.FunFrames X.base l->s.heap.FunFrames X.base l:=by
  intro l
  induction l with
  |nil=>intro _ _;trivial
  | cons env r ih =>
   intro hs hl;obtain⟨hk,⟨L,o,hf,hn,ho,hd⟩,hr⟩:=hl;have hL:L∈X.fs:=hs L (by unfold frs;rw[Tu,hf];exact Pp);obtain⟨sl,e⟩:=I.base.slot L o ho (I.ok.DS L hL) hL λ z=>I.ok.tq L z hL;exact⟨hk,⟨L,_,hf,hn,e,hd⟩,ih (λ b hb=>hs b (by unfold frs;rw[Tu,hf];exact Pn _ hb)) hr⟩
 exact all X.outer (λ _ hb=>hb) I.ok.jX
def Inv.stack (I:#[5]):s.heap.FunFrames X.base X.stack:=by
 rcases I.ok.G5 with e|⟨e,hf⟩
 ·rw[e];exact I.jX
 ·rw[e];obtain⟨m,hn,_⟩:=I.loc;refine .cons (by rw[I.ok.kind];decide) hf hn ?_ I.jX;exact Heap.get?_none_of_le (QG I.ok.AV I.ok.above)
def Inv.oZ (I:#[5]):∀ b∈frs X.stack,b∈X.env.locals::X.fs:=λ b hb=>by
 rcases I.ok.G5 with e|⟨e,hf⟩
 ·rw[e]at hb;exact Pn _ hb
 ·rw[e]at hb;unfold frs at hb;rw[Tu,hf]at hb;exact hb
def Inv.vj (I:#[5]):∀ b∈frs X.stack,H b=none:=λ b hb=>by
 rcases PB.mp (I.oZ b hb) with e|hb
 ·rw[e];exact I.free
 ·obtain⟨_,o,ho,_⟩:=I.ok.jX.mem hb;exact I.base.free b o ho (I.ok.DS b hb) λ z=>I.ok.tq b z hb
def Inv.step {g':Array GenState}{d':Drawn}(I:#[5])
  (hch:#[65])
  (keep:∀ b o,b≠X.env.locals->b∉X.fs->b∉ch->s.heap.get? b=some o->H b=none->h'.get? b=some o)
  (slot:∀ b o,b≠X.env.locals->b∈X.fs->b∉ch->s.heap.get? b=some o->H b=none->∃ sl,h'.get? b=some { o with slots:=sl }) (free:∀ b o,b∉ch->s.heap.get? b=some o->H b=none->H' b=none)
  (there:∀ b o,b∉ch->s.heap.get? b=some o->∃ o',h'.get? b=some o')
  (tups:∀ b xs,H b=some (.tup xs)->H' b=some (.tup xs)) (mq:∀ b o u,H b=some (.aq o u)->H' b=some (.aq o u)) (o4:∀ b ps,H b=some (.Jr ps)->∃ more,H' b=some (.Jr (ps++more)))
  (ns:∀ m,s.heap.Ns X.env.locals m->h'.Ns X.env.locals m) (hok:jj X.prog X.w H' h') (hg:AllBare g') :
  Inv X pins σ H' { s with heap:=h',gens:=g',drawn:=d',toks:=t' }:=by
 have neL:∀ b o,X.s₀.heap.get? b=some o->b≠X.env.locals:=λ b o e=>PY (Qe (Px e) I.ok.above);have neC:∀ b o,X.s₀.heap.get? b=some o->b∉X.ex->b∉ch:=λ b o e hx hb=>by
  rcases (hch b hb).1 with z|z
  ·exact hx z
  ·exact absurd (Qe (Px e) z) (QJ _)
 have cellK:∀ x c,X.env.cells.lookup x=some c->∀ v,s.heap.IsCell c v->h'.IsCell c v:=λ x c e v ⟨o,ho,hd⟩=>by
  have nch:c∉ch:=λ z=>(hch c z).2.2.1 x c e rfl;by_cases hc:c∈X.fs
  ·obtain⟨sl,q⟩:=slot c o (I.Js x c e) hc nch ho (I.gn x c e);exact⟨_,q,hd⟩
  ·exact⟨o,keep c o (I.Js x c e) hc nch ho (I.gn x c e),hd⟩
 refine⟨I.ok,I.os,hg,⟨λ b o e n hb hx=>?_,λ b o e n hb hx=>?_,λ b o e n hx=>?_,λ b o e hx=>?_,λ b xs e=>tups b xs (I.base.tups b xs e),λ b o xs e=>mq b o xs (I.base.mq b o xs e),λ b ps e=>?_⟩,?_,λ x c e=>?_,?_,λ x c e=>?_,λ p hp=>?_,hok,I.len⟩
 ·exact keep b o (neL b o e) hb (neC b o e hx) (I.base.keep b o e n hb hx) (I.base.free b o e n hx)
 ·obtain⟨sl,e1⟩:=I.base.slot b o e n hb hx;obtain⟨sl',e2⟩:=slot b _ (neL b o e) hb (neC b o e hx) e1 (I.base.free b o e n hx);exact⟨sl',e2⟩
 ·obtain⟨o',e1⟩:=I.base.there b o e hx;exact free b o' (neC b o e hx) e1 (I.base.free b o e n hx)
 ·obtain⟨o',e1⟩:=I.base.there b o e hx;exact there b o' (neC b o e hx) e1
 ·obtain⟨m1,e1⟩:=I.base.o4 b ps e;obtain⟨m2,e2⟩:=o4 b _ e1;exact⟨m1++m2,by rw[e2,Array.append_assoc]⟩
 ·obtain⟨m,hn,hl⟩:=I.loc;refine⟨m,ns m hn,λ i x v e1 e2 e3=>?_⟩;obtain⟨u,r,l⟩:=hl i x v e1 e2 e3;refine⟨u,r,?_⟩;rcases l with l|⟨k,c,e,z⟩
  ·exact .inl l
  ·exact .inr ⟨k,c,e,cellK x c e _ z⟩
 ·obtain⟨v,z⟩:=I.cell x c e;exact⟨v,cellK x c e v z⟩
 ·obtain⟨m,⟨o,_,_,ho,_⟩,_⟩:=I.loc;exact free _ o (λ z=>(hch _ z).2.1 rfl) ho I.free
 ·obtain⟨v,o,ho,hd⟩:=I.cell x c e;exact free c o (λ z=>(hch c z).2.2.1 x c e rfl) ho (I.gn x c e)
 ·obtain⟨e,n,ne,nf,d⟩:=I.pin p hp;have nch:p.1∉ch:=λ z=>(hch p.1 z).2.2.2 p hp rfl;exact⟨keep p.1 p.2 ne nf nch e n,free p.1 p.2 nch e n,ne,nf,d⟩
def Inv.un(I:#[5])(u:Un X.fs [] H H' s.heap h')(hok:jj X.prog X.w H' h'):Inv X pins σ H' { s with heap:=h',toks:=t' }:=by
 obtain⟨m,⟨o,es,ep,ho,r⟩,_⟩:=id I.loc;obtain⟨sl,hL⟩:=u.any ho I.free #[25];exact I.step (g':=s.gens) (d':=s.drawn) (ch:=[]) (λ _ z=>nomatch z) (λ b o _ hb _ e n=>u.keep b o e n hb #[25]) (λ b o _ hb _ e n=>u.slot b o e n hb #[25]) (λ b o _ e n=>u.free b o e n #[25]) (λ b o _ e=>u.there b o e #[25]) u.tups u.mq u.o4 (λ m' hm=>by
  obtain⟨o',es',ep',ho',r'⟩:=hm;rw[ho]at ho';cases ho';exact⟨_,es',ep',hL,r'⟩) hok I.bare
def Inv.call {g':Array GenState}{d':Drawn}(I:#[5])(u:Un (frs X.stack) ch H H' s.heap h')(hok:jj X.prog X.w H' h')(hg:AllBare g')
  (hch:#[65]) :
  Inv X pins σ H' { s with heap:=h',gens:=g',drawn:=d',toks:=t' }:=by
 obtain⟨m,⟨o,es,ep,ho,r⟩,_⟩:=id I.loc;obtain⟨sl,hL⟩:=u.any ho I.free λ z=>(hch _ z).2.1 rfl;exact I.step (ch:=ch) hch (λ b o hL hb hc e n=>u.keep b o e n (λ z=>(PB.mp (I.oZ b z)).elim hL hb) hc) (λ b o _ _ hc e n=>u.any e n hc) (λ b o hc e n=>u.free b o e n hc) (λ b o hc e=>u.there b o e hc) u.tups u.mq u.o4 (λ m' hm=>by
  obtain⟨o',es',ep',ho',r'⟩:=hm;rw[ho]at ho';cases ho';exact⟨_,es',ep',hL,r'⟩) hok hg
def Inv.turned{it:Addr}(I:#[5])(k:∀ b o,b≠it->s.heap.get? b=some o->h'.get? b=some o)(hn:H it=none)(hL:it≠X.env.locals)
  (h1:it∈X.ex\/X.s₀.heap.objs.size<=it) (h2:∀ x c,X.env.cells.lookup x=some c->c≠it) (h3:∀ p∈X.pn++pins,p.1≠it):Inv X pins σ H { s with heap:=h',toks:=t' }:=by
 have nit:∀ b u,H b=some u->b≠it:=λ b u e z=>by rw[z,hn]at e;cases e
 refine I.step (g':=s.gens) (d':=s.drawn) (ch:=[it]) (λ b hb=>?_) (λ b o _ _ hc e _=>k b o (λ z=>hc (by simp[z])) e) (λ b o _ _ hc e _=>⟨o.slots,k b o (λ z=>hc (by simp[z])) e⟩) (λ _ _ _ _ n=>n)
  (λ b o hc e=>⟨o,k b o (λ z=>hc (by simp[z])) e⟩) (λ _ _ e=>e) (λ _ _ _ e=>e) (λ b ps e=>⟨#[],by rw[e];simp⟩) (λ m hm=>?_) (λ b u e=>?_) I.bare
 ·have e:b=it:=by simpa using hb
  subst e;exact⟨h1,hL,h2,h3⟩
 ·obtain⟨o,es,ep,ho,r⟩:=hm;exact⟨o,es,ep,k _ o (QK hL) ho,r⟩
 ·refine(I.hok b u e).stay (λ c v hc q=>k c v ?_ q) (λ _ q=>q) λ _ _ q=>q;rcases hc with z|z
  ·rw[z];exact nit b u e
  ·exact nit c _ z
def Inv.tok (I:#[5])(t:Nat):Inv X pins σ H { s with toks:=t }:=I.un (h':=s.heap) (t':=t) Un.refl I.hok
def Inv.kept(I:#[5])(k:∀ b u,s.heap.get? b=some u->h'.get? b=some u):Inv X pins σ H { s with heap:=h',toks:=t' }:=I.un (Un.kept k) (I.hok.kept k)
def Inv.laid(I:#[5])(k:∀ b u,s.heap.get? b=some u->h'.get? b=some u)(hp:s.heap.objs.size<=a)(new:ck X.prog X.w (upd H a o) h' a o) :
  Inv X pins σ (upd H a o) { s with heap:=h',toks:=t' }:=I.un (Un.laid k hp (I.hok.fresh hp)) (I.hok.laid k hp new)
def Inv.write {x e:Addr}(I:#[5])(mu:Ms (H x))(he:e=x\/H e=some (.own x))(k:∀ b u,b≠e->s.heap.get? b=some u->h'.get? b=some u)(heo:∃ u,h'.get? e=some u)
  (new:ck X.prog X.w (upd H x o) h' x o):Inv X pins σ (upd H x o) { s with heap:=h',toks:=t' }:=I.un (Un.write mu he k heo) (I.hok.write mu he k heo new)
def Inv.AQ {pins':#[15]}(I:#[5])(h:∀ p∈pins',s.heap.get? p.1=some p.2/\H p.1=none/\p.1≠X.env.locals/\p.1∉X.fs/\∀ v,p.2.data ≠ .cell v):Inv X pins' σ H s:=
 ⟨I.ok,I.os,I.bare,I.base,I.loc,I.cell,I.free,I.gn,λ p hp=>(PC.mp hp).elim (λ z=>I.pin p (PD _ z)) (h p),I.hok,I.len⟩
def xr(hN:N.Nodup){j:Nat}(a:N[i]?=some x)(b:N[j]?=some x):i=j:=by
 obtain⟨h1,e1⟩:=Pw.mp a;obtain⟨h2,e2⟩:=Pw.mp b;exact(List.getElem_inj hN).mp (e1.trans e2.symm)
def uc{Q:Unit->Shared->Prop}(I:#[5])(hN:X.N.Nodup)(hi:#[69])(hx:Loc X.env.scope x)(r:RelV v u)
  (h:∀ s',Inv X pins (σ.set i (some v)) H s'->(∃ a,Heap.SameBut a s.heap s'.heap/\(a=X.env.locals\/X.env.cells.lookup x=some a))->Q () s') (hf:#[37]:=by first|exact .inl rfl|exact .inr rfl|assumption):wpAny M A (storeName X.env x u) Q E s:=by
 obtain⟨m,hn,hl⟩:=id I.loc;have hcls:(X.env.scope.kind == .class||(X.env.scope.kind == .module&&X.env.locals != X.env.globals))=false:=by rw[I.ok.kind];rfl
 have hiσ:i<σ.length:=by rw[I.len];exact(Pw.mp hi).1
 have Js:=I.Js;have tracked:∀ {a:Addr}{h':Heap},(∃ o,s.heap.get? a=some o/\H a=none)->Heap.SameBut a s.heap h'->jj X.prog X.w H h':=λ {a h'} ha hs b ob e=>by
  obtain⟨_,_,hfree⟩:=ha;refine(I.hok b ob e).stay (λ c w' hc q=>(hs.2 c ?_).trans q) (λ _ q=>q) λ _ _ q=>q;rintro rfl;rcases hc with rfl|hc
  ·rw[hfree]at e;cases e
  ·rw[hfree]at hc;cases hc
 rcases hx with hk|hk
 ·refine wpAny_storeName_local hk hn (λ h' hn' hs=>?_) hcls;obtain⟨oL,_,_,hoL,_⟩:=id hn;refine h _ ⟨I.ok,I.os,I.bare,⟨λ b o e n hb hx=>?_,λ b o e n hb hx=>?_,I.base.free,λ b o e hx=>?_,I.base.tups,I.base.mq,I.base.o4⟩,⟨_,hn',λ j y v' e1 e2 e3=>?_⟩,λ y c e=>?_,I.free,I.gn,λ p hp=>?_,tracked ⟨oL,hoL,I.free⟩ hs,by simpa using I.len⟩ ⟨_,hs,.inl rfl⟩
  ·exact(hs.2 b (PY (Qe (Px e) I.ok.above))).trans (I.base.keep b o e n hb hx)
  ·obtain⟨sl,e1⟩:=I.base.slot b o e n hb hx;exact⟨sl,(hs.2 b (PY (Qe (Px e) I.ok.above))).trans e1⟩
  ·obtain⟨o',e1⟩:=I.base.there b o e hx;exact⟨o',(hs.2 b (PY (Qe (Px e) I.ok.above))).trans e1⟩
  ·by_cases hj:j=i
   ·subst hj;rw[hi]at e1;cases e1;rw[QA hiσ]at e2;cases e2;exact⟨u,r,.inl ⟨hk,by simp⟩⟩
   ·rw[QH (QK hj)]at e2;obtain⟨u',r',q⟩:=hl j y v' e1 e2 e3;refine⟨u',r',?_⟩;rcases q with ⟨k,e⟩|⟨k,c,e,z⟩
    ·refine .inl ⟨k,?_⟩;have:y≠x:=λ e=>hj (xr hN e1 (e▸hi));simp[this,e]
    ·exact .inr ⟨k,c,e,z.sameBut hs (Js y c e)⟩
  ·obtain⟨w',z⟩:=I.cell y c e;exact⟨w',z.sameBut hs (Js y c e)⟩
  ·obtain⟨e,n,ne,nf,d⟩:=I.pin p hp;exact⟨(hs.2 p.1 ne).trans e,n,ne,nf,d⟩
 ·have hfn:X.fn x=true:=by
   rcases hf with z|z
   ·exact z
   ·rw[z]at hk;cases hk
  obtain⟨c,hc⟩:=I.ok.has x (.inl hk);obtain⟨w',z⟩:=I.cell x c hc;refine wpAny_storeName_cell I.ok.kind hk hc z (λ h' hc' hs=>?_);obtain⟨oc,hoc,hocd⟩:=id z;refine h { s with heap:=h' } ⟨I.ok,I.os,I.bare,⟨λ b o e n hb hx=>?_,λ b o e n hb hx=>?_,I.base.free,λ b o e hx=>?_,I.base.tups,I.base.mq,I.base.o4⟩,⟨m,hn.sameBut hs (QK (Js x c hc)),λ j y v' e1 e2 e3=>?_⟩,λ y c' e=>?_,I.free,I.gn,λ p hp=>?_,tracked ⟨oc,hoc,I.gn x c hc⟩ hs,by simpa using I.len⟩ ⟨c,hs,.inr hc⟩
  ·exact(hs.2 b (PY (Qe (Px e) (I.ok.GX x c hfn hc)))).trans (I.base.keep b o e n hb hx)
  ·obtain⟨sl,e1⟩:=I.base.slot b o e n hb hx;exact⟨sl,(hs.2 b (PY (Qe (Px e) (I.ok.GX x c hfn hc)))).trans e1⟩
  ·obtain⟨o',e1⟩:=I.base.there b o e hx;exact⟨o',(hs.2 b (PY (Qe (Px e) (I.ok.GX x c hfn hc)))).trans e1⟩
  ·by_cases hj:j=i
   ·subst hj;rw[hi]at e1;cases e1;rw[QA hiσ]at e2;cases e2;exact⟨u,r,.inr ⟨.inl hk,c,hc,hc'⟩⟩
   ·rw[QH (QK hj)]at e2;obtain⟨u',r',q⟩:=hl j y v' e1 e2 e3;refine⟨u',r',?_⟩;rcases q with q|⟨k,c',e,z'⟩
    ·exact .inl q
    ·refine .inr ⟨k,c',e,z'.sameBut hs ?_⟩;rintro rfl;exact hj (xr hN e1 (I.ok.inj _ _ _ e hc▸hi))
  ·by_cases hcc:c'=c
   ·subst hcc;exact⟨_,hc'⟩
   ·obtain⟨w2,z2⟩:=I.cell y c' e;exact⟨w2,z2.sameBut hs hcc⟩
  ·obtain⟨e,n,ne,nf,d⟩:=I.pin p hp;refine⟨(hs.2 p.1 ?_).trans e,n,ne,nf,d⟩;intro q;rw[q,hoc]at e;have q':oc=p.2:=QC e;exact d w' (by rw[<-q'];exact hocd)
def qO{Q:Unit->Shared->Prop}(I:#[5])(hN:X.N.Nodup)(hi:#[69])(hx:Loc X.env.scope x)(r:RelV v u)
  (h:∀ s',Inv X pins (σ.set i (some v)) H s'->Q () s') (hf:#[37]:=by first|exact .inl rfl|exact .inr rfl|assumption):wpAny M A (storeName X.env x u) Q E s:=
 uc I hN hi hx r (λ s' I' _=>h s' I') hf
def Inv.Jx(I:#[5])(ho:s'.os=s.os)(u:Un (frs X.stack) ch H H' s.heap s'.heap)(hok:jj X.prog X.w H' s'.heap)(hg:AllBare s'.gens)
  (hch:#[65]):Inv X pins σ H' s':=by
 obtain⟨h',g',d',t',o'⟩:=s';have e:o'=s.os:=ho;subst e;exact I.call (g':=g') (t':=t') (d':=d') u hok hg hch
end
abbrev XK:=Value->Option Addr->Hp->Prop
abbrev St:=List (Option V)
variable {σ:St}
abbrev VK:=V->Hp->Prop
abbrev TE:=St->Hp->VK->Prop
variable {ta tb te:TE}
abbrev TT:=St->Hp->(Bool->Hp->Prop)->Prop
abbrev TA:=St->Hp->(List V->Hp->Prop)->Prop
structure Ends where
 nx:St->Hp->Prop
 rt:VK
 bk:St->Hp->Prop:=λ _ _=>False
 ct:St->Hp->Prop:=λ _ _=>False
abbrev TS:=Ends->St->Hp->Prop
def EP (X:Cx)(pins:#[15])(σ:St)(Q:VK)(u:Value)(s':Shared):Prop:=∃ v H',Inv X pins σ H' s'/\RelV v u/\Q v H'
def TP (X:Cx)(pins:#[15])(σ:St)(Q:Bool->Hp->Prop)(b:Bool)(s':Shared):Prop:=∃ H',Inv X pins σ H' s'/\Q b H'
def AP (X:Cx)(pins:#[15])(σ:St)(Q:List V->Hp->Prop)(us:#[22])(s':Shared):Prop:=∃ vs H',Inv X pins σ H' s'/\Vals vs us/\Q vs H'
def SP (X:Cx)(pins:#[15])(D:Ends)(f:Flow)(s':Shared):Prop:=
 match f with
 |.next=>∃ σ' H',Inv X pins σ' H' s'/\D.nx σ' H'
 |.brk=>∃ σ' H',Inv X pins σ' H' s'/\D.bk σ' H'
 |.cont=>∃ σ' H',Inv X pins σ' H' s'/\D.ct σ' H'
 |.ret u=>∃ v σ' H',Inv X pins σ' H' s'/\RelV v u/\D.rt v H'
def PE (X:Cx)(e:Expr)(t:TE):Prop:=
 ∀ (pins:#[15]) (s:Shared) (σ:St) (H:Hp) (Q:VK),Inv X pins σ H s->t σ H Q->wpAny #[13] X.A (eval e X.env) (EP X pins σ Q) X.xe s
def PT (X:Cx)(e:Expr)(t:TT):Prop:=
 ∀ (pins:#[15]) (s:Shared) (σ:St) (H:Hp) (Q:Bool->Hp->Prop),Inv X pins σ H s->t σ H Q->wpAny #[13] X.A (isTrue e X.env (eval e X.env)) (TP X pins σ Q) X.xe s
def PW (X:Cx)(e:Expr)(t:TT):Prop:=
 ∀ (whole:Sem Value) (pins:#[15]) (s:Shared) (σ:St) (H:Hp) (Q:Bool->Hp->Prop),Inv X pins σ H s->t σ H Q->wpAny #[13] X.A (isTrue e X.env whole) (TP X pins σ Q) X.xe s
def PW.pt{t:TT}(h:PW X e t):PT X e t:=h _
def PA (X:Cx)(es:#[92])(t:TA):Prop:=
 ∀ (pos:Pos) (pins:#[15]) (s:Shared) (σ:St) (H:Hp) (Q:List V->Hp->Prop),Inv X pins σ H s->t σ H Q->wpAny #[13] X.A (spliced #[45]) (AP X pins σ Q) X.xe s
def PS (X:Cx)(st:Stmt)(t:TS):Prop:=
 ∀ (pins:#[15]) (s:Shared) (σ:St) (H:Hp) (D:Ends),Inv X pins σ H s->t D σ H->wpAny #[13] X.A (exec st X.env) (SP X pins D) X.xe s
def lR (X:Cx)(st:List Stmt)(t:TS):Prop:=
 ∀ (pins:#[15]) (s:Shared) (σ:St) (H:Hp) (D:Ends),Inv X pins σ H s->t D σ H->wpAny #[13] X.A (execs st X.env) (SP X pins D) X.xe s
def eN {α:Type}{t:Sem α}{Q Q':α->Shared->Prop}(h:wpAny M A t Q E s)(hQ:∀ a s,Q a s->Q' a s):wpAny M A t Q' E s:=QS h hQ λ _ _ x=>x
section
def Hf (i:Nat):TE:=λ σ H Q=>∃ v,σ[i]?=some (some v)/\Q v H
def tC (v:V):TE:=λ _ H Q=>Q v H
def dH(hN:#[69])(hv:#[98])(hd:#[2]:=by decide)(hcd:#[29]:=by decide):PE X (.Name x pos) (Hf i):=by
 intro pins s σ H Q I h;obtain⟨v,e,h⟩:=h;obtain⟨m,hn,hl⟩:=I.loc;obtain⟨u,r,l⟩:=hl i x v hN e hv;have fin:EP X pins σ Q u s:=⟨v,H,I,r,h⟩;rcases l with ⟨hk,hm⟩|⟨hk,c,hc,hcell⟩
 ·exact wpAny_Name (wpAny_loadName_local I.ok.kind hk hn hm fin) hd
 ·rcases hk with hk|hk
  ·exact wpAny_Name (wpAny_loadName_cell I.ok.kind hk hc hcell fin) hd
  ·exact wpAny_Name (wpAny_loadName_free I.ok.kind hk hc hcell fin hcd) hd
def Kq {i j pos}:PE X (.Constant (.int i) j pos) (tC (.int i)):=λ _ _ _ H _ I h=>wpAny_Constant_int ⟨.int i,H,I.tok _,⟨_,rfl⟩,h⟩
def Mw {b j pos}:PE X (.Constant (.bool b) j pos) (tC (.bl b)):=λ _ _ _ H _ I h=>Constant_bool ⟨.bl b,H,I,rfl,h⟩
def KC {j pos}:PE X (.Constant .none j pos) (tC .a8):=λ _ _ _ H _ I h=>Constant_none ⟨.a8,H,I,rfl,h⟩
def Ks {x j pos}:PE X (.Constant (.str x) j pos) (tC (.str x)):=λ _ _ _ H _ I h=>Calls.Constant_str ⟨.str x,H,I.tok _,⟨_,rfl⟩,h⟩
def Gl (X:Cx)(x:Str):Prop:=X.env.kindOf x=some .globalImplicit
def lQ(I:#[5])(hg:Gl X x)(hm:X.mg x=some u)(h:Q u s)
  (hd:#[2]:=by decide):wpAny #[13] X.A (eval (.Name x pos) X.env) Q E s:=
 Calls.Name_function_global I.ok.kind hg (Calls.loadGlobal_global (by rw[I.ok.glob];exact I.mod.glob.keeps I.bk) hm h) hd
def jk(I:#[5])(hg:Gl X x)(hm:X.mg x=none)(hv:bootBuiltins x=some u)(h:Q u s)
  (hn:x ≠ "__name__" :=by decide) (hd:#[2]:=by decide):wpAny #[13] X.A (eval (.Name x pos) X.env) Q E s:=by
 obtain⟨mb,h1,h2⟩:=I.mod.blt;exact Calls.Name_function_global I.ok.kind hg (Calls.loadGlobal_builtin (by rw[I.ok.glob];exact I.mod.glob.keeps I.bk) hm (by rw[I.ok.blt];exact h1.keeps I.bk) ((h2 x hn).trans hv) h) hd
def AS(hg:Gl X x)(hm:X.mg x=some u)(r:RelV v u)(hd:#[2]:=by decide):PE X (.Name x pos) (tC v):=
 λ _ _ _ H _ I h=>lQ I hg hm ⟨v,H,I,r,h⟩ hd
def AR(hg:Gl X x)(hm:X.mg x=none)(hv:bootBuiltins x=some u)(r:RelV v u)(hn:x ≠ "__name__" :=by decide)(hd:#[2]:=by decide):PE X (.Name x pos) (tC v):=
 λ _ _ _ H _ I h=>jk I hg hm hv ⟨v,H,I,r,h⟩ hn hd
variable {a b:Expr}
def tB (t:TE):TT:=λ σ H Q=>t σ H λ x H1=>∃ c,x=.bl c/\Q c H1
def J2{t:TE}(h:PE X e t)(he:∀ whole,isTrue e X.env whole=(do let v <-whole;standAt e.pos;holding [v] (truthy v)):=by intro _;rfl):PT X e (tB t):=by
 intro pins s σ H Q I hw;refine isTrue_plain (eN (h pins s σ H _ I hw) λ v s1 hq5=>L2.ex5 hq5 λ x H1 I1 r1 q1=>?_) (he _);obtain⟨d,rfl,q⟩:=q1;cases r1;exact R7 ⟨H1,I1,q⟩
variable {tA tB':TT}{rest:#[92]}
def N7 (t u:TT):TT:=λ σ H Q=>t σ H λ c H1=>if c=true then u σ H1 Q else Q false H1
def O1 (t u:TT):TT:=λ σ H Q=>t σ H λ c H1=>if c=true then Q true H1 else u σ H1 Q
def N9 (t:TT):TT:=λ σ H Q=>t σ H λ c H1=>Q (!c) H1
def G7 (ha:PT X a tA):PW X (.BoolOp .And [a] pos) tA:=by
 intro wh pins s σ H Q I h;refine isTrue_and (eN (ha pins s σ H Q I h) λ c s1 e=>?_);cases c with
 |true=>exact isTrue_and_nil e|false=>exact e
def Kh (ha:PT X a tA):PW X (.BoolOp .Or [a] pos) tA:=by
 intro wh pins s σ H Q I h;refine isTrue_or (eN (ha pins s σ H Q I h) λ c s1 e=>?_);cases c with
 |false=>exact isTrue_or_nil e|true=>exact e
def Ko (ha:PT X a tA)(hb:PW X (.BoolOp .And (b::rest) pos) tB'):PW X (.BoolOp .And (a::b::rest) pos) (N7 tA tB'):=by
 intro wh pins s σ H Q I h;refine isTrue_and (eN (ha pins s σ H _ I h) λ c s1 ⟨H1,I1,q1⟩=>?_);cases c with
 |true=>exact hb wh pins s1 σ H1 Q I1 q1|false=>exact⟨H1,I1,q1⟩
def MA (ha:PT X a tA)(hb:PW X (.BoolOp .Or (b::rest) pos) tB'):PW X (.BoolOp .Or (a::b::rest) pos) (O1 tA tB'):=by
 intro wh pins s σ H Q I h;refine isTrue_or (eN (ha pins s σ H _ I h) λ c s1 ⟨H1,I1,q1⟩=>?_);cases c with
 |true=>exact⟨H1,I1,q1⟩| false=>exact hb wh pins s1 σ H1 Q I1 q1
def Ky (ha:PT X a tA):PT X (.UnaryOp .Not a pos) (N9 tA):=by
 intro pins s σ H Q I h;exact isTrue_not (ha pins s σ H (λ c H1=>Q (!c) H1) I h)
def Mx (ta tb:TE):TE:=λ σ H Q=>ta σ H λ x H1=>∃ c,x=.bl c/\if c=true then tb σ H1 Q else Q (.bl false) H1
def My (ta:TE):TE:=λ σ H Q=>ta σ H λ x H1=>∃ c,x=.bl c/\Q (.bl (!c)) H1
def Kl {op}{t:TE}(h:PE X a t):PE X (.BoolOp op [a] pos) t:=λ pins s σ H Q I hw=>BoolOp_one (h pins s σ H Q I hw)
def J5 (ha:PE X a ta)(hb:PE X (.BoolOp .And (b::rest) pos) tb):PE X (.BoolOp .And (a::b::rest) pos) (Mx ta tb):=by
 intro pins s σ H Q I h;refine BoolOp_and (eN (ha pins s σ H _ I h) λ v s1 hq5=>L2.ex5 hq5 λ x H1 I1 r1 q1=>?_);obtain⟨c,rfl,q1⟩:=q1;cases r1;refine R7 ?_;cases c with
 |true=>exact hb pins s1 σ H1 Q I1 q1|false=>exact⟨.bl false,H1,I1,rfl,q1⟩
def Kz (ha:PE X a ta):PE X (.UnaryOp .Not a pos) (My ta):=by
 intro pins s σ H Q I h;refine UnaryOp_ (eN (ha pins s σ H _ I h) λ v s1 hq5=>L2.ex5 hq5 λ x H1 I1 r1 q1=>?_);obtain⟨c,rfl,q1⟩:=q1;cases r1;exact not_of (R7 ⟨.bl (!c),H1,I1,rfl,q1⟩)
def O0 (t:TT)(ta tb:TE):TE:=λ σ H Q=>t σ H λ c H1=>if c=true then ta σ H1 Q else tb σ H1 Q
def DX(hc:PT X c tA)(ha:PE X a ta)(hb:PE X b tb):PE X (.IfExp c a b pos) (O0 tA ta tb):=by
 intro pins s σ H Q I h;refine wpAny_IfExp (eN (hc pins s σ H _ I h) λ d s1 ⟨H1,I1,q1⟩=>?_);cases d with
 |true=>exact ha pins s1 σ H1 Q I1 q1|false=>exact hb pins s1 σ H1 Q I1 q1
end
def eQ (K:#[0])(H:Hp)(a:Addr)(xs:List V):Prop:=
 Rd H a (.lst xs) ∨
  ∃ (o:Obj) (its:#[132]) (n:Nat),K.lookup a=some o/\o.cls=.type "list" /\ o.dict=none/\o.data=.seq its n/\its.size<=sizeLine/\Vals xs its.toList
def jW (K:#[0])(H:Hp)(a:Addr)(xs:List V):Prop:=
 Rd H a (.tup xs) ∨
  ∃ (o:Obj) (its:#[132]) (n:Nat),K.lookup a=some o/\o.cls=.type "tuple" /\ o.data=.seq its n/\its.size<=sizeLine/\Vals xs its.toList
def N3:Value->Option V
 |.none=>some .a8
 |.bool b=>some (.bl b)
 |.int i _=>some (.int i)
 |.str x _=>some (.str x)
 |.bytes b _=>some (.Cr b)
 |.float b _=>some (.L6 b)
 |.ref a=>some (.ref a)
 |.type n=>some (.ty n)
 |_=>none
def RelV.abs {x:V}(r:RelV x u):N3 u=some x:=by
 cases x with
 |a8=>cases r;rfl|bl _=>cases r;rfl|int _=>obtain⟨t,rfl⟩:=r;rfl|str _=>obtain⟨t,rfl⟩:=r;rfl|Cr _=>obtain⟨t,rfl⟩:=r;rfl|L6 _=>obtain⟨t,rfl⟩:=r;rfl|ref _=>cases r;rfl|ty _=>cases r;rfl
def RelV.inj {x y:V}(r:RelV x u)(q:RelV y u):x=y:=QC (r.abs.symm.trans q.abs)
def Vals.inj:∀ {xs ys:List V}{us:#[22]},Vals xs us->Vals ys us->xs=ys
 |_,_,_,.nil,.nil=>rfl|_,_,_,.cons r t,.cons r' t'=>by rw[r.inj r',Vals.inj t t']
section
variable{ys:List V}
def eQ.of {K:#[0]}(h:H a=some (.lst xs)):eQ K H a xs:=.inl (.inl h)
def jW.of {K:#[0]}(h:H a=some (.tup xs)):jW K H a xs:=.inl (.inl h)
def Inv.list (I:#[5])(h:eQ X.K H a xs):∃ its:List Value,Vals xs its/\PlainL s.heap a its.toArray/\xs.length<=sizeLine:=by
 rcases h with h|⟨o,its,n,hk,hc,hd,hs,hz,r⟩
 ·obtain⟨z,its,n,r,e⟩:=h.ok I.hok;exact⟨its,r,⟨_,n,e,rfl,rfl,rfl⟩,z⟩
 ·refine⟨its.toList,r,⟨o,n,I.oV a o hk,hc,hd,by simpa using hs⟩,?_⟩;have e:=r.length;simp only[PZ]at e;omega
def Inv.tuple (I:#[5])(h:jW X.K H a xs):∃ its:List Value,Vals xs its/\IsTup s.heap a its.toArray/\xs.length<=sizeLine:=by
 rcases h with h|⟨o,its,n,hk,hc,hs,hz,r⟩
 ·obtain⟨z,its,r,p⟩:=h.ok I.hok;exact⟨its,r,p.is,z⟩
 ·refine⟨its.toList,r,⟨o,I.oV a o hk,hc,n,by simpa using hs⟩,?_⟩;have e:=r.length;simp only[PZ]at e;omega
def Inv.qM (I:#[5])(h:eQ X.K H a xs)(h':eQ X.K H a ys):xs=ys:=by
 obtain⟨its,r,⟨o,n,e,_,_,d⟩,_⟩:=I.list h;obtain⟨its',r',⟨o',n',e',_,_,d'⟩,_⟩:=I.list h';rw[e]at e';cases e';rw[d]at d';injection d' with d1 _
 have:its=its':=by simpa using Q3 Array.toList d1
 subst this;exact r.inj r'
def Inv.oX (I:#[5])(h:jW X.K H a xs)(h':jW X.K H a ys):xs=ys:=by
 obtain⟨its,r,⟨o,e,_,n,d⟩,_⟩:=I.tuple h;obtain⟨its',r',⟨o',e',_,n',d'⟩,_⟩:=I.tuple h';rw[e]at e';cases e';rw[d]at d';injection d' with d1 _
 have:its=its':=by simpa using Q3 Array.toList d1
 subst this;exact r.inj r'
end
abbrev Cx.sZ (X:Cx)(E:#[4]):Cx:={ X with xe:=E }
abbrev Cx.Ju (X:Cx):Cx:=X.sZ λ _ _=>False
def Cx.Ok.sZ(ok:X.Ok)(E:#[4]):(X.sZ E).Ok:=
 ⟨ok.mod,ok.kind,ok.glob,ok.blt,ok.above,ok.inj,ok.has,ok.GX,ok.hd,ok.frames,ok.G5,ok.Jv,ok.bs,ok.AV,ok.tm,ok.tq,ok.jX,ok.DS⟩
def Cx.Ok.k8(ok:(X.sZ E).Ok):X.Ok:=
 ⟨ok.mod,ok.kind,ok.glob,ok.blt,ok.above,ok.inj,ok.has,ok.GX,ok.hd,ok.frames,ok.G5,ok.Jv,ok.bs,ok.AV,ok.tm,ok.tq,ok.jX,ok.DS⟩
section
def Inv.sZ (I:#[5])(E:#[4]):Inv (X.sZ E) pins σ H s:=⟨I.ok.sZ E,I.os,I.bare,I.base,I.loc,I.cell,I.free,I.gn,I.pin,I.hok,I.len⟩
def Inv.k8 (I:Inv (X.sZ E) pins σ H s):Inv X pins σ H s:=⟨I.ok.k8,I.os,I.bare,I.base,I.loc,I.cell,I.free,I.gn,I.pin,I.hok,I.len⟩
def SP.k8 {D:Ends}{f:Flow}(h:SP (X.sZ E) pins D f s'):SP X pins D f s':=by
 cases f with
 |next=>obtain⟨σ',H',I,q⟩:=h;exact⟨σ',H',I.k8,q⟩| brk=>obtain⟨σ',H',I,q⟩:=h;exact⟨σ',H',I.k8,q⟩| cont=>obtain⟨σ',H',I,q⟩:=h;exact⟨σ',H',I.k8,q⟩| ret u=>obtain⟨v,σ',H',I,r,q⟩:=h;exact⟨v,σ',H',I.k8,r,q⟩
def lR.Ju {st:List Stmt}{t:TS}(h:lR X.Ju st t):lR X st t:=λ pins s σ H D I hw=>
 QS (h pins s σ H D (I.sZ _) hw) (λ _ _ q=>q.k8) λ _ _ z=>False.elim z
end
section
variable{st:Stmt}{rest:List Stmt}{t u:TS}
def Mp:TS:=λ D σ H=>D.nx σ H
def NS (t u:TS):TS:=λ D σ H=>t { D with nx:=u D } σ H
def Hd:lR X [] Mp:=λ _ _ σ H _ I h=>Sq ⟨σ,H,I,h⟩
def DW (h1:PS X st t)(h2:lR X rest u):lR X (st::rest) (NS t u):=by
 intro pins s σ H D I h;refine wpAny_execs_cons (eN (h1 pins s σ H { D with nx:=u D } I h) λ f s1 q=>?_);cases f with
 | next =>
  obtain⟨σ',H',I',q⟩:=q;exact h2 pins s1 σ' H' D I' q
 |ret v=>exact q|brk=>exact q|cont=>exact q
def AO (h1:PS X st t):lR X [st] t:=by
 intro pins s σ H D I h;refine wpAny_execs_cons (eN (h1 pins s σ H D I h) λ f s1 q=>?_);cases f with
 |next=>exact Sq q|ret v=>exact q|brk=>exact q|cont=>exact q
def Inv.quiet(I:#[5]):interactive X.env=false:=by simp[interactive,I.ok.kind]
def Mt (te:TE):TS:=λ D σ H=>te σ H λ _ H1=>D.nx σ H1
def j0 (he:PE X e te)(hs:swapsWith e none pos.line X.env=pure false:=by rfl):PS X (.Expr e pos) (Mt te):=by
 intro pins s σ H D I h;exact wpAny_Expr_any (eN (he pins s σ H _ I h) λ v s1 hq5=>L2.ex5 hq5 λ x H1 I1 r1 q1=>⟨σ,H1,I1,q1⟩) I.quiet hs
def N6 (te:TE):TS:=λ D σ H=>te σ H D.rt
def oW (he:PE X e te):PS X (.Return (some e) pos) (N6 te):=by
 intro pins s σ H D I h;exact wpAny_Return_some (eN (he pins s σ H _ I h) λ v s1 hq5=>L2.ex5 hq5 λ x H1 I1 r1 q1=>⟨x,σ,H1,I1,r1,q1⟩)
def NZ (c:TT)(t u:TS):TS:=λ D σ H=>c σ H λ b H1=>if b=true then t D σ H1 else u D σ H1
def Mi{a b:List Stmt}{tc:TT}(hc:PT X c tc)(ha:lR X a t)(hb:lR X b u):PS X (.If c a b pos) (NZ tc t u):=by
 intro pins s σ H D I h;refine wpAny_If (eN (hc pins s σ H _ I h) λ d s1 ⟨H1,I1,q1⟩=>?_);cases d with
 |true=>exact ha pins s1 σ H1 D I1 q1|false=>exact hb pins s1 σ H1 D I1 q1
end
abbrev TG:=V->St->Hp->(St->Hp->Prop)->Prop
abbrev G6:=List V->St->Hp->(St->Hp->Prop)->Prop
def PG (X:Cx)(target:Expr)(t:TG):Prop:=
 ∀ (pins:#[15]) (s:Shared) (σ:St) (H:Hp) (v:V) (u:Value) (Q:St->Hp->Prop),Inv X pins σ H s->RelV v u->t v σ H Q ->
  wpAny #[13] X.A (assign target X.env u) (λ _ s'=>∃ σ' H',Inv X pins σ' H' s'/\Q σ' H') X.xe s
def CB (X:Cx)(ts:#[92])(t:G6):Prop:=
 ∀ (pins:#[15]) (s:Shared) (σ:St) (H:Hp) (vs:List V) (us:#[22]) (Q:St->Hp->Prop),Inv X pins σ H s->Vals vs us->t vs σ H Q ->
  wpAny #[13] X.A (assignInOrder ((assignEach ts X.env).map (·.2)) us) (λ _ s'=>∃ σ' H',Inv X pins σ' H' s'/\Q σ' H') X.xe s
section
def qN (i:Nat):TG:=λ v σ H Q=>Q (σ.set i (some v)) H
def AU(hN:X.N.Nodup)(hi:#[69])(hx:Loc X.env.scope x)(hf:#[37]:=by first|exact .inl rfl|exact .inr rfl|assumption):PG X (.Name x pos) (qN i):=by
 intro pins s σ H v u Q I r h;exact wpAny_assign_Name (qO I hN hi hx r (λ s' I'=>⟨_,H,I',h⟩) hf)
def Oa:G6:=λ vs σ H Q=>vs=[]/\Q σ H
def Mr (t:TG)(u:G6):G6:=λ vs σ H Q=>∃ v r,vs=v::r/\t v σ H λ σ' H'=>u r σ' H' Q
def G8:CB X [] Oa:=by
 intro pins s σ H vs us Q I r h;obtain⟨e,h⟩:=h;subst e;cases r;exact assignInOrder_nil ⟨σ,H,I,h⟩
def DY{t:TG}{u:G6}(h1:PG X e t)(h2:CB X es u)
  (hs:(assignEach (e::es) X.env).map (·.2)=assign e X.env::(assignEach es X.env).map (·.2):=by rfl):CB X (e::es) (Mr t u):=by
 intro pins s σ H vs us Q I r h;obtain⟨v,vr,e1,h⟩:=h;subst e1;cases r with
 | cons r rr =>
  rw[hs];refine assignInOrder_cons (eN (h1 pins s σ H _ _ _ I r h) λ _ s1 ⟨σ1,H1,I1,q1⟩=>?_);exact h2 pins s1 σ1 H1 _ _ Q I1 rr q1
def NT (K:#[0])(n:Nat)(t:G6):TG:=λ v σ H Q=>∃ a xs,v=.ref a/\jW K H a xs/\xs.length=n/\t xs σ H Q
def J6{k:Nat}{t:G6}{n:Nat}(hc:X.calm=true)(h:CB X es t)
  (hn:(assignEach es X.env).length=n:=by rfl) (hst:(assignEach es X.env).findIdx? (·.1)=none:=by rfl):PG X (.Tuple es k pos) (NT X.K n t):=by
 intro pins s σ H v u Q I r hw;obtain⟨a,xs,e1,hq,hl,hw⟩:=hw;subst e1;cases r;obtain⟨its,rv,ht,hz⟩:=I.tuple hq;refine assign_Tuple_tuple (I.ok.hd hc) ht (by simp[hn,<-hl,rv.length]) hst λ h' hx=>?_;have I1:Inv X pins σ H { s with heap:=h' }:=I.kept (t':=s.toks) λ b o e=>hx b o (PY (Px e)) e;exact h pins _ σ H xs _ Q I1 (by simpa using rv) hw
def Kd (te:TE)(g:TG):TS:=λ D σ H=>te σ H λ x H1=>g x σ H1 D.nx
def zm{pos':Pos}(hN:X.N.Nodup)(hi:#[69])(hx:Loc X.env.scope x)(he:PE X e te)(hs:swapsWith e (some (.Name x pos')) pos.line X.env=pure false:=by rfl)(hf:#[37]:=by first|exact .inl rfl|exact .inr rfl|assumption) :
  PS X (.Assign [.Name x pos'] e pos) (Kd te (qN i)):=by
 intro pins s σ H D I h;refine wpAny_Assign_Name (eN (he pins s σ H _ I h) λ v s1 hq5=>L2.ex5 hq5 λ y H1 I1 r1 q1=>?_) hs;exact qO I1 hN hi hx r1 (λ s2 I2=>⟨_,H1,I2,q1⟩) hf
end
section
def KD (c:TT)(tb:TS):TS:=λ D σ H=>∃ W:Nat->St->Hp->Prop,(∃ m,W m σ H)/\∀ m σ H,W m σ H ->
 c σ H λ b H1=>if b=true then ∃ N:St->Hp->Prop,(∀ σ' H',N σ' H'->∃ m',m' < m/\W m' σ' H')/\tb { D with nx:=N,ct:=N,bk:=D.nx } σ H1 else D.nx σ H1
def DZ{tc:TT}{tb:TS}(hp:PassesOwn #[13] X.A X.env X.xe)(hc:PT X c tc)(hb:lR X body tb):PS X (.While c body [] pos) (KD tc tb):=by
 intro pins s σ H D I h;obtain⟨W,⟨m0,w0⟩,turn⟩:=h;refine wpAny_While (codeAny_whileLoop (λ n s'=>∃ σ' H',Inv X pins σ' H' s'/\W n σ' H') ?_ m0 ⟨σ,H,I,w0⟩);rintro n s1 ⟨σ1,H1,I1,w1⟩;refine RJ hp (eN (hc pins s1 σ1 H1 _ I1 (turn n σ1 H1 w1)) λ b s2 ⟨H2,I2,q2⟩=>?_);cases b with
 | true =>
  obtain⟨N,hN,q2⟩:=q2;rw[PH rfl];refine RJ hp (eN (hb pins s2 σ1 H2 _ I2 q2) λ f s3 q3=>?_);cases f with
  | next =>
   obtain⟨σ3,H3,I3,n3⟩:=q3;obtain⟨m',hm,w3⟩:=hN σ3 H3 n3;exact⟨m',hm,σ3,H3,I3,w3⟩
  | cont =>
   obtain⟨σ3,H3,I3,n3⟩:=q3;obtain⟨m',hm,w3⟩:=hN σ3 H3 n3;exact⟨m',hm,σ3,H3,I3,w3⟩
  |brk=>exact q3|ret v=>exact q3
 | false =>
  rw[PL Pq];exact Sq ⟨σ1,H2,I2,q2⟩
end
structure It where
 go:Nat->Hp->Prop
 zb:Nat->Hp->V->Hp->Prop
 stop:Nat->Hp->Prop
def ql (X:Cx)(pins:#[15])(H:Hp)(b:Addr):Prop:=
 H b=none/\b≠X.env.locals/\b∉X.fs/\(b∈X.ex\/X.s₀.heap.objs.size<=b)/\(∀ x c,X.env.cells.lookup x=some c->c≠b)/\∀ p∈X.pn++pins,p.1≠b
def Inv.qL(I:#[5])(hb:s.heap.objs.size<=b)(hn:H' b=none):ql X pins H' b:=by
 refine⟨hn,Rj (Qe I.lt hb),I.N1 hb,.inr (QG I.sz hb),λ x c e z=>?_,λ p hp z=>?_⟩
 ·obtain⟨v,q⟩:=I.cell x c e;exact absurd (Qe q.lt (by rw[z];exact hb)) (QJ _)
 ·exact absurd (Qe (Px (I.pin p hp).1) (by rw[z];exact hb)) (QJ _)
structure AM (cm:Cx->Prop)(P:Program)(w:World)(K:PySem.W.Frag)(tg:Expr)(J:It)(fp:List Addr)(it:Addr)(tn:Nat->Heap->Prop):Prop where
 mem:it∈fp
 obj:∀ i h,tn i h->∀ b∈fp,∃ o,h.get? b=some o/\∀ v,o.data ≠ .cell v
 keep:∀ i h h',tn i h->(∀ b∈fp,∀ o,h.get? b=some o->h'.get? b=some o)->tn i h'
 item:∀ (X:Cx),X.prog=P->X.w=w->X.K=K->cm X->∀ (i:Nat) (pins:#[15]) (s:Shared) (σ:St) (H:Hp) (E:#[4]),Inv X pins σ H s->(∀ b∈fp,ql X pins H b)->tn i s.heap->J.go i H ->
  wpAny (model P w) X.A (pyNext (.ref it)) (λ r s1=>∃ u,r=some u /\
   wpAny (model P w) X.A (letOwnedTupleGo tg (.ref it) u) (λ _ s2=>∃ x H',Inv X pins σ H' s2/\RelV x u/\J.zb i H x H'/\tn (i+1) s2.heap/\∀ b∈fp,H' b=none) E s1) E s
 done:∀ (X:Cx),X.prog=P->X.w=w->X.K=K->cm X->∀ (i:Nat) (pins:#[15]) (s:Shared) (σ:St) (H:Hp) (E:#[4]),Inv X pins σ H s->(∀ b∈fp,ql X pins H b)->tn i s.heap->J.stop i H ->
  wpAny (model P w) X.A (pyNext (.ref it)) (λ r s1=>r=none/\Inv X pins σ H s1) E s
 self:∀ (A:Around) (i:Nat) (s:Shared) (Q:#[4]) (E:#[4]),tn i s.heap->Q (.ref it) s->wpAny (model P w) A (pyIter (.ref it)) Q E s
abbrev Turn:=AM λ X=>X.calm=true
abbrev TI:=St->Hp->(It->Hp->Prop)->Prop
def OO (X:Cx)(pins:#[15])(σ:St)(tg:Expr)(R:It->Hp->Prop)(itv:Value)(s2:Shared):Prop:=
 ∃ (it:Addr) (fp:#[8]) (tn:Nat->Heap->Prop) (J:It) (H':Hp),itv=.ref it/\Inv X pins σ H' s2/\Turn X.prog X.w X.K tg J fp it tn/\tn 0 s2.heap/\(∀ b∈fp,ql X pins H' b)/\R J H'
def PI (X:Cx)(tg iter:Expr)(wi:TI):Prop:=
 ∀ (pins:#[15]) (s:Shared) (σ:St) (H:Hp) (R:It->Hp->Prop),Inv X pins σ H s->wi σ H R ->
  wpAny #[13] X.A (eval iter X.env) (λ v s1=>wpAny #[13] X.A (pyIter v) (OO X pins σ tg R) X.xe s1) X.xe s
def xo{it:Addr}{o:Obj}{n:String}{vs:#[132]}{Q:Unit->Shared->Prop}(ho:s.heap.get? it=some o)(hc:o.cls = .type n)(hd:o.data = .fields vs)
    (hn:["enumerate", "zip", "dict_itemiterator", "dict_reverseitemiterator", "odict_iterator", "itertools.zip_longest", "itertools.pairwise"].contains n=false) (hQ:Q () s):wpAny M A (letOwnedTupleGo tg (.ref it) u) Q E s:=by
  unfold letOwnedTupleGo;cases tg<;>first
    |exact Po hQ
    |(cases u<;>first
        |exact Po hQ
        | (refine Ph (wpAny_load ho ?_)
           rw[hc, hd];show wpAny M A (if (["enumerate", "zip", "dict_itemiterator", "dict_reverseitemiterator", "odict_iterator", "itertools.zip_longest", "itertools.pairwise"].contains n&&vs[0]? == some (rawInt _))=true then _ else _) Q E s;rw[PL (by intro h;rw[hn, Bool.false_and]at h;cases h)];exact Po hQ))
def NX (K:#[0])(a:Addr):It:=
 ⟨λ i H=>∃ xs x,eQ K H a xs/\xs[i]?=some x,λ i H x H'=>H'=H/\∀ xs,eQ K H a xs->xs[i]?=some x,λ i H=>∃ xs,eQ K H a xs/\xs.length<=i⟩
def NY (K:#[0])(a:Addr):It:=
 ⟨λ i H=>∃ xs x,jW K H a xs/\xs[i]?=some x,λ i H x H'=>H'=H/\∀ xs,jW K H a xs->xs[i]?=some x,λ i H=>∃ xs,jW K H a xs/\xs.length<=i⟩
def L7 (lo:Int)(n:Nat):It:=⟨λ i _=>i<n,λ i H x H'=>H'=H/\x=.int (lo+i),λ i _=>n<=i⟩
def Cz{K:#[0]}(a it:Addr):Turn P w K tg (NX K a) [it] it (λ i h=>h.IsListIter it a i) where
 mem:=by simp
 obj:=λ i h st b hb=>by
  have e:b=it:=by simpa using hb
  subst e;obtain⟨o,e,c,d⟩:=st;exact⟨o,e,λ v z=>by rw[d]at z;cases z⟩
 keep:=λ i h h' st k=>st.at λ o e=>k it #[25] o e
 item:=by
  intro X hP hw hK hc i pins s σ H E I hf st hg;subst hP hw hK;obtain⟨xs,x,hq,hx⟩:=hg;obtain⟨its,rv,p,hz⟩:=I.list hq;obtain⟨u,hu,ru⟩:=rv.get hx;obtain⟨f0,f1,f2,f3,f4,f5⟩:=hf it #[25];refine wpAny_pyNext_list_item st p.isList (x:=u) (by simpa using hu) λ h' st' sb=>?_;have I1:Inv X pins σ H { s with heap:=h' }:=I.turned (t':=s.toks) (λ b o hb e=>(sb.2 b hb).trans e) f0 f1 f3 f4 f5;obtain⟨o,e,c,d⟩:=id st';exact⟨u,rfl,xo (s:={ s with heap:=h' }) e c d #[120] ⟨x,H,I1,ru,⟨rfl,λ ys hy=>by rw[I.qM hy hq];exact hx⟩,st',λ b hb=>(hf b hb).1⟩⟩
 done:=by
  intro X hP hw hK hc i pins s σ H E I hf st hg;subst hP hw hK;obtain⟨xs,hq,hx⟩:=hg;obtain⟨its,rv,p,hz⟩:=I.list hq;obtain⟨f0,f1,f2,f3,f4,f5⟩:=hf it #[25];have hl:=rv.length;exact wpAny_pyNext_list_end (I.ok.hd hc) st p.isList (by simp;omega) λ h' eb=>⟨rfl,I.turned (t':=s.toks) (λ b o hb e=>eb b o hb e) f0 f1 f3 f4 f5⟩
 self:=λ _ _ _ _ _ st h=>wpAny_pyIter_listiter st h
def zd{K:#[0]}(a it:Addr):Turn P w K tg (NY K a) [it] it (λ i h=>h.IsTupleIter it a i) where
 mem:=by simp
 obj:=λ i h st b hb=>by
  have e:b=it:=by simpa using hb
  subst e;obtain⟨o,e,c,d⟩:=st;exact⟨o,e,λ v z=>by rw[d]at z;cases z⟩
 keep:=λ i h h' st k=>st.at λ o e=>k it #[25] o e
 item:=by
  intro X hP hw hK hc i pins s σ H E I hf st hg;subst hP hw hK;obtain⟨xs,x,hq,hx⟩:=hg;obtain⟨its,rv,p,hz⟩:=I.tuple hq;obtain⟨u,hu,ru⟩:=rv.get hx;obtain⟨f0,f1,f2,f3,f4,f5⟩:=hf it #[25];refine wpAny_pyNext_tuple_item st (show s.heap.IsTuple a its.toArray from p) (x:=u) (by simpa using hu) λ h' st' sb=>?_;have I1:Inv X pins σ H { s with heap:=h' }:=I.turned (t':=s.toks) (λ b o hb e=>(sb.2 b hb).trans e) f0 f1 f3 f4 f5;obtain⟨o,e,c,d⟩:=id st';exact⟨u,rfl,xo (s:={ s with heap:=h' }) e c d #[120] ⟨x,H,I1,ru,⟨rfl,λ ys hy=>by rw[I.oX hy hq];exact hx⟩,st',λ b hb=>(hf b hb).1⟩⟩
 done:=by
  intro X hP hw hK hc i pins s σ H E I hf st hg;subst hP hw hK;obtain⟨xs,hq,hx⟩:=hg;obtain⟨its,rv,p,hz⟩:=I.tuple hq;obtain⟨f0,f1,f2,f3,f4,f5⟩:=hf it #[25];have hl:=rv.length;exact wpAny_pyNext_tuple_end (I.ok.hd hc) st (show s.heap.IsTuple a its.toArray from p) (by simp;omega) λ h' eb=>⟨rfl,I.turned (t':=s.toks) (λ b o hb e=>eb b o hb e) f0 f1 f3 f4 f5⟩
 self:=λ _ _ _ _ _ st h=>wpAny_pyIter_tupleiter st h
def jY{K:#[0]}(it:Addr)(lo:Int)(n:Nat):Turn P w K tg (L7 lo n) [it] it (λ i h=>IsRangeIter h it (lo+(i:Nat)*1) ((n:Int)-(i:Nat)) 1) where
 mem:=by simp
 obj:=λ i h st b hb=>by
  have e:b=it:=by simpa using hb
  subst e;exact⟨_,st,λ v z=>by
   have z':Data.fields _=Data.cell v:=z;cases z'⟩
 keep:=λ i h h' st k=>k it #[25] _ st
 item:=by
  intro X hP hw hK hc i pins s σ H E I hf st hg;subst hP hw hK;obtain⟨f0,f1,f2,f3,f4,f5⟩:=hf it #[25];have W:=Walks.range (prog:=X.prog) (w:=X.w) (I.ok.hd hc) it lo 1 n;refine W.item i s _ _ hg st λ v h' tk hv st' kk=>?_;obtain⟨t,rfl⟩:=hv;have I1:Inv X pins σ H { s with heap:=h',toks:=tk }:=I.turned (λ b o hb e=>kk b o (by simpa using hb) e) f0 f1 f3 f4 f5;refine⟨_,rfl,xo (s:={ s with heap:=h',toks:=tk }) (n:="range_iterator") st' rfl rfl #[120] ⟨.int (lo+i),H,I1,⟨t,?_⟩,⟨rfl,rfl⟩,st',λ b hb=>(hf b hb).1⟩⟩;rw[Int.mul_one]
 done:=by
  intro X hP hw hK hc i pins s σ H E I hf st hg;subst hP hw hK;obtain⟨f0,f1,f2,f3,f4,f5⟩:=hf it #[25];exact wpAny_pyNext_range_end (I.ok.hd hc) st (by have:n<=i:=hg;omega) λ h' eb=>⟨rfl,I.turned (t':=s.toks) (λ b o hb e=>eb b o hb e) f0 f1 f3 f4 f5⟩
 self:=λ _ _ _ _ _ st h=>wpAny_pyIter_rangeiter st h
section
def D5{R:It->Hp->Prop}{lo hi:Int}{t u v:Tok}{tk:Nat}(I:#[5])(h1 : -(2^62)<=lo)(h2:lo<2^62)(h3 : -(2^62)<=hi)(h4:hi<2^62)
  (q:R (L7 lo (hi-lo).toNat) H):wpAny #[13] X.A (pyIter #[42]) (OO X pins σ tg R) E { s with heap:=s.heap.push { cls:=.type "range",data:=.fields #[.int lo t,.int hi u,.int 1 v] },toks:=tk }:=by
 refine wpAny_pyIter_range (IsRange.new ..) (small_one h1 h2 h3 h4) ?_;have I1:Inv X pins σ H { s with heap:=s.heap.push { cls:=.type "range",data:=.fields #[.int lo t,.int hi u,.int 1 v] },toks:=tk }:=I.kept λ b o e=>Pj _ e;refine⟨#[36].objs.size,[#[36].objs.size],_,_,H,rfl,
  I1.kept (t':=tk) λ b o e=>Pj _ e,jY _ lo (hi-lo).toNat,?_,λ b hb=>?_,q⟩
 ·have e1:lo+((0:Nat):Int)*1=lo:=by simp
  have e2:(((hi-lo).toNat:Nat):Int)-((0:Nat):Int)=Builtin.Range.rangeSize lo hi 1:=by rw[rangeSize_one];split<;>omega
  show IsRangeIter _ _ (lo+((0:Nat):Int)*1) ((((hi-lo).toNat:Nat):Int)-((0:Nat):Int)) 1;rw[e1,e2];exact Pu _ rfl
 ·have e:b=#[36].objs.size:=by simpa using hb
  subst e;exact I1.qL (Py _) (I1.hok.fresh (Py _))
def DU (ta:TA):TI:=λ σ H R=>ta σ H λ vs H1=>∃ j:Int,vs=[.int j] /\ -(2^62)<=j/\j<2^62/\R (L7 0 j.toNat) H1
def Cu {a:Expr}{ta:TA}(hg:Gl X "range")(hm:X.mg "range" = none)(ha:PA X [a] ta)(hs:starEach [a] X.env=[(false,eval a X.env)]:=by rfl):PI X tg (.Call (.Name "range" p) [a] [] pos) (DU ta):=by
 intro pins s σ H R I h;refine Call_ (jk I hg hm boot_range (QL #[82] hs rfl));obtain⟨j,e,q1,q2,q⟩:=q1;subst e;cases r1 with
 | cons r rr =>
  cases rr;obtain⟨t,rfl⟩:=r;exact call_range_1 (D5 I1 #[1] #[1] q1 q2 (by simpa using q))
def NU (wi:TI)(g:TG)(tb:TS):TS:=λ D σ H=>wi σ H λ J H1=>∃ W:Nat->Nat->St->Hp->Prop,(∃ m,W 0 m σ H1)/\∀ i m σ H,W i m σ H ->
 (J.stop i H/\D.nx σ H)\/(J.go i H/\∃ N:St->Hp->Prop,(∀ σ' H',N σ' H'->∃ m',m' < m/\W (i+1) m' σ' H')/\∀ x H',J.zb i H x H'->g x σ H' λ σ2 H2=>tb { D with nx:=N,ct:=N,bk:=D.nx } σ2 H2)
def qQ (fp:#[8])(h:Heap):List (Addr×Obj):=fp.filterMap λ b=>(h.get? b).map λ o=>(b,o)
def jZ{o:Obj}(hb:b∈fp)(e:h.get? b=some o):(b,o)∈qQ fp h:=TJ.mpr ⟨b,hb,by rw[e];rfl⟩
def Cs{p:Addr×Obj}(hp:p∈qQ fp h):p.1∈fp/\h.get? p.1=some p.2:=by
 obtain⟨b,hb,e⟩:=TJ.mp hp;cases q:h.get? b with
 |none=>rw[q]at e;cases e
 | some o =>
  rw[q]at e;have e':(b,o)=p:=QC e;subst e';exact⟨hb,q⟩
def Inv.pinned(I:#[5])(hf:∀ b∈fp,ql X pins H b)(ho:∀ b∈fp,∃ o,s.heap.get? b=some o/\∀ v,o.data ≠ .cell v):Inv X (pins++qQ fp s.heap) σ H s:=
 I.AQ λ p hp=>(PC.mp hp).elim (λ z=>I.pin p (PM _ z)) λ z=>by
  obtain⟨hb,e⟩:=Cs z;obtain⟨f0,f1,f2,_⟩:=hf p.1 hb;obtain⟨o,e',d⟩:=ho p.1 hb;rw[e]at e';cases e';exact⟨e,f0,f1,f2,d⟩
def Inv.nG {pl:#[15]}(I:Inv X (pins++pl) σ H s):Inv X pins σ H s:=I.AQ λ p hp=>I.pin p (PM _ (PD _ hp))
def Kf {iter:Expr}{wi:TI}{g:TG}{tb:TS}(hp:PassesOwn #[13] X.A X.env X.xe)(hc:X.calm=true)(hi:PI X tg iter wi)(hg:PG X tg g)(hb:lR X body tb)
  (hs:#[39]:=by intro _;rfl):PS X (.For tg iter body [] pos) (NU wi g tb):=by
 intro pins s σ H D I h;refine wpAny_For (eN (hi pins s σ H _ I h) λ v s1 h1=>eN h1 λ itv s2 h2=>?_) hs;obtain⟨it,fp,tn,J,H2,e,I2,T,st2,f2,W,⟨m0,w0⟩,turn⟩:=h2;subst e;have stat:∀ {H':Hp},(∀ b∈fp,H' b=none)->∀ b∈fp,ql X pins H' b:=λ hn b hb=>⟨hn b hb,(f2 b hb).2⟩;refine codeAny_forLoop_any (λ n s'=>∃ i σ' H',Inv X pins σ' H' s'/\tn i s'.heap/\(∀ b∈fp,H' b=none)/\W i n σ' H') ?_ m0 ⟨0,σ,H2,I2,st2,λ b hb=>(f2 b hb).1,w0⟩;rintro n s3 ⟨i,σ3,H3,I3,st3,fr3,w3⟩;rcases turn i n σ3 H3 w3 with ⟨stop,qn⟩|⟨go,N,hN,step⟩
 ·refine RJ hp (eN (T.done X rfl rfl rfl hc i pins s3 σ3 H3 X.xe I3 (stat fr3) st3 stop) λ r s4 ⟨hr,I4⟩=>?_);subst hr;exact Sq ⟨σ3,H3,I4,qn⟩
 ·refine RJ hp (eN (T.item X rfl rfl rfl hc i pins s3 σ3 H3 X.xe I3 (stat fr3) st3 go) λ r s4 ⟨u,hr,h4⟩=>?_);subst hr;refine RJ hp (eN h4 λ _ s5 ⟨x,H5,I5,r5,y5,st5,fr5⟩=>?_);have I5':=I5.pinned (stat fr5) (T.obj _ _ st5);refine RJ hp (eN (hg _ s5 σ3 H5 x u _ I5' r5 (step x H5 y5)) λ _ s6 ⟨σ6,H6,I6,q6⟩=>?_);refine RJ hp (eN (hb _ s6 σ6 H6 _ I6 q6) λ f s7 q7=>?_);have again:∀ {σ7:St}{H7:Hp},Inv X (pins++qQ fp s5.heap) σ7 H7 s7->N σ7 H7->∃ m,m<n/\∃ i σ' H',Inv X pins σ' H' s7/\tn i s7.heap/\(∀ b∈fp,H' b=none)/\W i m σ' H':=λ {σ7 H7} I7 n7=>by
   obtain⟨m',hm,w7⟩:=hN σ7 H7 n7;refine⟨m',hm,i+1,σ7,H7,I7.nG,T.keep _ _ _ st5 λ b hb o e=>(I7.pin (b,o) (PM _ (PM _ (jZ hb e)))).1,λ b hb=>?_,w7⟩;obtain⟨o,e,d⟩:=T.obj _ _ st5 b hb;exact(I7.pin (b,o) (PM _ (PM _ (jZ hb e)))).2.1
  cases f with
  |next=>obtain⟨σ7,H7,I7,n7⟩:=q7;exact again I7 n7|cont=>obtain⟨σ7,H7,I7,n7⟩:=q7;exact again I7 n7|brk=>obtain⟨σ7,H7,I7,q7⟩:=q7;exact⟨σ7,H7,I7.nG,q7⟩| ret v=>obtain⟨x7,σ7,H7,I7,r7,q7⟩:=q7;exact⟨x7,σ7,H7,I7.nG,r7,q7⟩
end
abbrev R2:=V->V->Hp->VK->Prop
variable {r:R2}
def kO (X:Cx)(f:Value->Value->Sem Value)(r:R2):Prop:=
 ∀ (pins:#[15]) (s:Shared) (σ:St) (H:Hp) (x y:V) (v u:Value) (Q:VK),Inv X pins σ H s->RelV x v->RelV y u->r x y H Q ->
  wpAny #[13] X.A (f v u) (EP X pins σ Q) X.xe s
def NW (X:Cx)(f:Value->Sem Value)(r:V->Hp->VK->Prop):Prop:=
 ∀ (pins:#[15]) (s:Shared) (σ:St) (H:Hp) (x:V) (v:Value) (Q:VK),Inv X pins σ H s->RelV x v->r x H Q ->
  wpAny #[13] X.A (f v) (EP X pins σ Q) X.xe s
def eO (X:Cx)(f:Value)(r:List V->Hp->VK->Prop):Prop:=
 ∀ (pins:#[15]) (s:Shared) (σ:St) (H:Hp) (xs:List V) (us:#[22]) (Q:VK),Inv X pins σ H s->Vals xs us->r xs H Q ->
  wpAny #[13] X.A (call f us) (EP X pins σ Q) X.xe s
def N8 (X:Cx)(r:V->Hp->(Bool->Hp->Prop)->Prop):Prop:=
 ∀ (pins:#[15]) (s:Shared) (σ:St) (H:Hp) (x:V) (v:Value) (Q:Bool->Hp->Prop),Inv X pins σ H s->RelV x v->r x H Q ->
  wpAny #[13] X.A (truthy v) (TP X pins σ Q) X.xe s
def NB (r:R2)(ta tb:TE):TE:=λ σ H Q=>ta σ H λ x H1=>tb σ H1 λ y H2=>r x y H2 Q
def O3 (r:V->Hp->VK->Prop)(ta:TE):TE:=λ σ H Q=>ta σ H λ x H1=>r x H1 Q
def rI (C:Int->Int->Prop)(g:Int->Int->V):R2:=λ x y H Q=>∃ i j,x=.int i/\y=.int j/\C i j/\Q (g i j) H
def DV (g:Int->Int->V):R2:=λ x y H Q=>∃ i j,x=.int i/\y=.int j/\Q (g i j) H
def rU (g:Int->V):V->Hp->VK->Prop:=λ x H Q=>∃ i,x=.int i/\Q (g i) H
section
variable{a b:Expr}{tc:TE}
def Km (ha:PE X a ta)(hb:PE X b tb){R:V->V->Hp->Prop}(I:#[5])
  (h:ta σ H λ x H1=>tb σ H1 λ y H2=>R x y H2){f:Value->Value->Sem Value}
  (hf:∀ v u s2 x y H2,Inv X pins σ H2 s2->RelV x v->RelV y u->R x y H2->wpAny #[13] X.A (f v u) Q X.xe s2) :
  wpAny #[13] X.A (eval a X.env) (λ v s₁=>wpAny #[13] X.A (eval b X.env) (λ u s₂=>wpAny #[13] X.A (f v u) Q X.xe s₂) X.xe s₁) X.xe s:=by
 refine eN (ha pins s σ H _ I h) λ v s1 hq5=>L2.ex5 hq5 λ x H1 I1 r1 q1=>?_;refine eN (hb pins s1 σ H1 _ I1 q1) λ u s2 hq5=>L2.ex5 hq5 λ y H2 I2 r2 q2=>?_;exact hf v u s2 x y H2 I2 r1 r2 q2
def Ml {op:Operator}(ho:kO X (binaryOp op) r)(ha:PE X a ta)(hb:PE X b tb):PE X (.BinOp a op b pos) (NB r ta tb):=by
 intro pins s σ H Q I h;exact wpAny_BinOp (Km ha hb I h λ v u s2 x y H2 I2 rx ry q=>ho pins s2 σ H2 x y v u Q I2 rx ry q)
def Mj {op:UnaryOp}{r:V->Hp->VK->Prop}(ho:NW X (unaryOp op) r)(ha:PE X a ta):PE X (.UnaryOp op a pos) (O3 r ta):=by
 intro pins s σ H Q I h;exact UnaryOp_ (eN (ha pins s σ H _ I h) λ v s1 hq5=>L2.ex5 hq5 λ x H1 I1 r1 q1=>ho pins s1 σ H1 x v Q I1 r1 q1)
def Mm {f:Value->Value->Sem Value}{C:Int->Int->Prop}{g:Int->Int->Int}
  (rule:∀ (i j:Int) (t u:Tok) (s:Shared) (Q:#[4]) (E:#[4]),C i j->Q (.int (g i j) s.toks) { s with toks:=s.toks+1 }->wpAny #[13] X.A (f (.int i t) (.int j u)) Q E s) :
  kO X f (rI C λ i j=>.int (g i j)):=by
 intro pins s σ H x y v u Q I rx ry h;obtain⟨i,j,rfl,rfl,hc,q⟩:=h;obtain⟨t,rfl⟩:=rx;obtain⟨t',rfl⟩:=ry;exact rule i j t t' s _ _ hc ⟨.int (g i j),H,I.tok _,⟨_,rfl⟩,q⟩
def Mk {f:Value->Value->Sem Value}{g:Int->Int->Int}
  (rule:∀ (i j:Int) (t u:Tok) (s:Shared) (Q:#[4]) (E:#[4]),Q (.int (g i j) s.toks) { s with toks:=s.toks+1 }->wpAny #[13] X.A (f (.int i t) (.int j u)) Q E s) :
  kO X f (DV λ i j=>.int (g i j)):=by
 intro pins s σ H x y v u Q I rx ry h;obtain⟨i,j,rfl,rfl,q⟩:=h;obtain⟨t,rfl⟩:=rx;obtain⟨t',rfl⟩:=ry;exact rule i j t t' s _ _ ⟨.int (g i j),H,I.tok _,⟨_,rfl⟩,q⟩
def Mz {f:Value->Value->Sem Value}{g:Int->Int->Bool}
  (rule:∀ (i j:Int) (t u:Tok) (s:Shared) (Q:#[4]) (E:#[4]),Q (.bool (g i j)) s->wpAny #[13] X.A (f (.int i t) (.int j u)) Q E s) :
  kO X f (DV λ i j=>.bl (g i j)):=by
 intro pins s σ H x y v u Q I rx ry h;obtain⟨i,j,rfl,rfl,q⟩:=h;obtain⟨t,rfl⟩:=rx;obtain⟨t',rfl⟩:=ry;exact rule i j t t' s _ _ ⟨.bl (g i j),H,I,rfl,q⟩
def jl (i j:Int):Prop:=0<j/\j<1073741824
def jA (i j:Int):Prop:=0<=j/\j<=1000000/\i.natAbs<2^64
def D0 (i j:Int):Prop:=(-(2^64)<i/\i<2^64)\/(-(2^64)<j/\j<2^64)
def D0.ok {i j:Int}(h:D0 i j):IntMulOk i j:=by
 rcases h with ⟨h1,h2⟩|⟨h1,h2⟩
 ·exact .of_left (intBits_le_64 h1 h2)
 ·exact .of_right (intBits_le_64 h1 h2)
def zg (k:Nat):(0:Int)<=2^k:=by
 rw[two_pow_cast];exact Int.natCast_nonneg _
def Kv:kO X (binaryOp .Add) (DV λ i j=>.int (i+j)):=Mk λ _ _ _ _ _ _ _ q=>add_int q
def vf:kO X (binaryOp .Sub) (DV λ i j=>.int (i-j)):=Mk λ _ _ _ _ _ _ _ q=>sub_int q
def bO:kO X (binaryOp .FloorDiv) (rI jl λ i j=>.int (i/j)):=Mm λ i j _ _ _ _ _ hc q=>by
 have h1:(0:Int)<j:=hc.1;have h2:j<1073741824:=hc.2;exact floordiv_int #[1] (by rw[TL i #[1]];exact q) (.inl (PyProof.noPylong_small #[1]))
def a9:kO X (binaryOp .Mod) (rI (λ _ j=>0<j) λ i j=>.int (i%j)):=Mm λ i j _ _ _ _ _ hc q=>by
 have h1:(0:Int)<j:=hc;exact mod_int' #[1] (by rw[Int.fmod_eq_emod_of_nonneg i #[1]];exact q)
def vh:kO X (binaryOp .Pow) (rI jA λ i j=>.int (i^j.toNat)):=Mm λ _ _ _ _ _ _ _ hc q=>pow_int_small hc.1 hc.2.1 hc.2.2 q
def Kw:kO X (binaryOp .RShift) (rI (λ _ j=>0<=j) λ i j=>.int (i/2^j.toNat)):=Mm λ i j _ _ _ _ _ hc q=>
 rshift_int hc (by rw[TL i (zg _)];exact q)
def O2 {f:Value->Sem Value}{g:Int->Int}
  (rule:∀ (i:Int) (t:Tok) (s:Shared) (Q:#[4]) (E:#[4]),Q (.int (g i) s.toks) { s with toks:=s.toks+1 }->wpAny #[13] X.A (f (.int i t)) Q E s) :
  NW X f (rU λ i=>.int (g i)):=by
 intro pins s σ H x v Q I rx h;obtain⟨i,rfl,q⟩:=h;obtain⟨t,rfl⟩:=rx;exact rule i t s _ _ ⟨.int (g i),H,I.tok _,⟨_,rfl⟩,q⟩
def J9:NW X (unaryOp .USub) (rU λ i=>.int (-i)):=O2 λ _ _ _ _ _ q=>neg_int q
end
def KA:V->V->Bool
 |.a8,.a8=>true|.a8,.int _=>true|.int _,.a8=>true|.a8,.bl _=>true|.bl _,.a8=>true|.a8,.str _=>true|.str _,.a8=>true
 |.int _,.int _=>true|.bl _,.bl _=>true|.str _,.str _=>true|.Cr _,.Cr _=>true
 |.int _,.str _=>true|.str _,.int _=>true|.bl _,.str _=>true|.str _,.bl _=>true
 |_,_=>false
def OP:R2:=λ x y H Q=>KA x y=true/\Q (.bl (decide (x=y))) H
def ON:R2:=λ x y H Q=>KA x y=true/\Q (.bl (!decide (x=y))) H
def AL {i j:Int}:decide (V.int i=V.int j)=(i == j):=by
 rw[Rb];simp
def D4 {i j:Bool}:decide (V.bl i=V.bl j)=(i == j):=by
 rw[Rb];simp
def AN {i j:Str}:decide (V.str i=V.str j)=(i == j):=by
 rw[Rb];simp
def AW {i j:Array UInt8}:decide (V.Cr i=V.Cr j)=(i.toList == j.toList):=by
 rw[Rb];cases i;cases j;simp
section
variable{a b:Expr}{tc:TE}
def bP{Q:VK}{k k':Bool}(I:#[5])(q:Q (.bl k) H)(e:k=k'):EP X pins σ Q (.bool k') s:=by
 subst e;exact⟨.bl k,H,I,rfl,q⟩
def fu:kO X (compareOp .Eq) OP:=by
 intro pins s σ H x y v u Q I rx ry h;obtain⟨hs,q⟩:=h;cases x with
 | a8 =>
  cases rx;cases y with
  |a8=>cases ry;exact PySem.EqNone.eq_none_none (bP I q #[25])|bl j=>cases ry;exact PySem.EqNone.eq_none_bool (bP I q #[25])|int j=>obtain⟨t',rfl⟩:=ry;exact PySem.EqNone.eq_none_int (bP I q #[25])|str j=>obtain⟨t',rfl⟩:=ry;exact PySem.EqNone.eq_none_str (bP I q #[25])|_=>exact absurd (show false=true from hs) Pq
 | bl i =>
  cases rx;cases y with
  |a8=>cases ry;exact PySem.EqNone.eq_bool_none (bP I q #[25])|bl j=>cases ry;exact eq_bool (bP I q D4)|str j=>obtain⟨t',rfl⟩:=ry;exact PySem.EqMixed.eq_bool_str (bP I q #[25])|_=>exact absurd (show false=true from hs) Pq
 | int i =>
  obtain⟨t,rfl⟩:=rx;cases y with
  |a8=>cases ry;exact PySem.EqNone.eq_int_none (bP I q #[25])|int j=>obtain⟨t',rfl⟩:=ry;exact eq_int (bP I q AL)|str j=>obtain⟨t',rfl⟩:=ry;exact PySem.EqMixed.eq_int_str (bP I q #[25])|_=>exact absurd (show false=true from hs) Pq
 | str i =>
  obtain⟨t,rfl⟩:=rx;cases y with
  |a8=>cases ry;exact PySem.EqNone.eq_str_none (bP I q #[25])|bl j=>cases ry;exact PySem.EqMixed.eq_str_bool (bP I q #[25])|int j=>obtain⟨t',rfl⟩:=ry;exact PySem.EqMixed.eq_str_int (bP I q #[25])|str j=>obtain⟨t',rfl⟩:=ry;exact eq_str (bP I q AN)|_=>exact absurd (show false=true from hs) Pq
 | Cr i =>
  obtain⟨t,rfl⟩:=rx;cases y with
  |Cr j=>obtain⟨t',rfl⟩:=ry;exact PySem.W.eq_bytes (bP I q AW)|_=>exact absurd (show false=true from hs) Pq
 |_=>cases y<;>exact absurd (show false=true from hs) Pq
def mD:kO X (compareOp .NotEq) ON:=by
 intro pins s σ H x y v u Q I rx ry h;obtain⟨hs,q⟩:=h;cases x with
 | a8 =>
  cases rx;cases y with
  |a8=>cases ry;exact PySem.EqNone.ne_none_none (bP I q #[25])|bl j=>cases ry;exact PySem.EqNone.ne_none_bool (bP I q #[25])|int j=>obtain⟨t',rfl⟩:=ry;exact PySem.EqNone.ne_none_int (bP I q #[25])|str j=>obtain⟨t',rfl⟩:=ry;exact PySem.EqNone.ne_none_str (bP I q #[25])|_=>exact absurd (show false=true from hs) Pq
 | bl i =>
  cases rx;cases y with
  |a8=>cases ry;exact PySem.EqNone.ne_bool_none (bP I q #[25])|bl j=>cases ry;exact ne_bool (bP I q (Q3 not D4))|str j=>obtain⟨t',rfl⟩:=ry;exact PySem.EqMixed.ne_bool_str (bP I q #[25])|_=>exact absurd (show false=true from hs) Pq
 | int i =>
  obtain⟨t,rfl⟩:=rx;cases y with
  |a8=>cases ry;exact PySem.EqNone.ne_int_none (bP I q #[25])|int j=>obtain⟨t',rfl⟩:=ry;exact ne_int (bP I q (Q3 not AL))|str j=>obtain⟨t',rfl⟩:=ry;exact PySem.EqMixed.ne_int_str (bP I q #[25])|_=>exact absurd (show false=true from hs) Pq
 | str i =>
  obtain⟨t,rfl⟩:=rx;cases y with
  |a8=>cases ry;exact PySem.EqNone.ne_str_none (bP I q #[25])|bl j=>cases ry;exact PySem.EqMixed.ne_str_bool (bP I q #[25])|int j=>obtain⟨t',rfl⟩:=ry;exact PySem.EqMixed.ne_str_int (bP I q #[25])|str j=>obtain⟨t',rfl⟩:=ry;exact ne_str (bP I q (Q3 not AN))|_=>exact absurd (show false=true from hs) Pq
 | Cr i =>
  obtain⟨t,rfl⟩:=rx;cases y with
  |Cr j=>obtain⟨t',rfl⟩:=ry;exact PySem.W.ne_bytes (bP I q (Q3 not AW))|_=>exact absurd (show false=true from hs) Pq
 |_=>cases y<;>exact absurd (show false=true from hs) Pq
def Jq:kO X (compareOp .Lt) (DV λ i j=>.bl (decide (i<j))):=Mz λ _ _ _ _ _ _ _ q=>lt_int q
def Jt:kO X (compareOp .Gt) (DV λ i j=>.bl (decide (j<i))):=Mz λ _ _ _ _ _ _ _ q=>gt_int q
def qR:kO X (compareOp .Is) (λ x y H Q=>y=.a8/\Q (.bl (decide (x=.a8))) H):=by
 intro pins s σ H x y v u Q I rx ry h;obtain⟨rfl,q⟩:=h;cases ry;refine is_none_gen (bP I q ?_);cases x<;>first
  |(cases rx;rfl)
  |(obtain⟨t,rfl⟩:=rx;rfl)
def vg:kO X (compareOp .IsNot) (λ x y H Q=>y=.a8/\Q (.bl (!decide (x=.a8))) H):=by
 intro pins s σ H x y v u Q I rx ry h;obtain⟨rfl,q⟩:=h;cases ry;refine isnot_none_gen (bP I q ?_);cases x<;>first
  |(cases rx;rfl)
  |(obtain⟨t,rfl⟩:=rx;rfl)
def zk (b:Expr)(h:op ≠ .In:=by decide)(h2:op ≠ .NotIn:=by decide):behindInMarks op b=false:=by
 have e1:(op == CmpOp.In)=false:=by cases op<;>first|rfl|exact absurd rfl h
 have e2:(op == CmpOp.NotIn)=false:=by cases op<;>first|rfl|exact absurd rfl h2
 cases b<;>simp[behindInMarks,e1,e2]
def Hc(ho:kO X (compareOp op) r)(ha:PE X a ta)(hb:PE X b tb)(hm:behindInMarks op b=false):PE X (.Compare a [op] [b] pos) (NB r ta tb):=by
 intro pins s σ H Q I h;exact wpAny_Compare1 (Km ha hb I h λ v u s2 x y H2 I2 rx ry q=>ho pins s2 σ H2 x y v u Q I2 rx ry q) hm
def Mq (t:TE):TT:=λ σ H Q=>t σ H λ x H'=>∃ k,x=.bl k/\Q k H'
def Ha(ho:kO X (compareOp op) r)(ha:PE X a ta)(hb:PE X b tb)(hm:behindInMarks op b=false):PT X (.Compare a [op] [b] pos) (Mq (NB r ta tb)):=by
 intro pins s σ H Q I h;refine wpAny_isTrue_Compare1 (eN (ha pins s σ H _ I h) λ v s1 hq5=>L2.ex5 hq5 λ x H1 I1 r1 q1=>eN (hb pins s1 σ H1 _ I1 q1) λ u s2 hq5=>L2.ex5 hq5 λ y H2 I2 r2 q2=>
  eN (ho pins s2 σ H2 x y v u _ I2 r1 r2 q2) λ c s3 ⟨z,H3,I3,r3,k,e,q3⟩=>?_) hm
 subst e;cases r3;exact R7 ⟨H3,I3,q3⟩
def Mu (K:#[0])(x:V)(H:Hp)(k:Bool):Prop:=
 match x with
 |.a8=>k=false
 |.bl b=>k=b
 |.int i=>k=(i != 0)
 |.str y=>y.length<=sizeLine/\k=((y.length:Int) != 0)
 |.Cr y=>y.size<=sizeLine/\k=((y.size:Int) != 0)
 |.ref p=>(∃ xs,eQ K H p xs/\k = !xs.isEmpty)\/(∃ xs,jW K H p xs/\k = !xs.isEmpty)\/∃ kvs ep,H p=some (.dK kvs ep)/\k = !kvs.isEmpty
 |_=>False
def yZ {κ:Type}{kvs:List (κ×V)}{vs:List (κ×Value)}(r:KV kvs vs):(!vs.isEmpty) = !kvs.isEmpty:=by
 cases r<;>rfl
def qJ{its:#[22]}(r:Vals xs its):(!its.toArray.isEmpty) = !xs.isEmpty:=by
 cases r<;>simp
def o6:(sizeLine:Nat)<2^63:=by rw[Qx];decide
def Kn:N8 X (λ x H Q=>∃ k,Mu X.K x H k/\Q k H):=by
 intro pins s σ H x v Q I rx h;obtain⟨k,e,q⟩:=h;have hl:=o6;have hs:sizeLine=16777216:=Qx;cases x with
 | a8 =>
  cases rx;have e':k=false:=e;subst e';exact truthy_none ⟨H,I,q⟩
 | bl b =>
  cases rx;have e':k=b:=e;subst e';exact R7 ⟨H,I,q⟩
 | int i =>
  obtain⟨t,rfl⟩:=rx;have e':k=(i != 0):=e;subst e';exact PySem.P.truthy_int ⟨H,I,q⟩
 | str y =>
  obtain⟨t,rfl⟩:=rx;obtain⟨hy,e'⟩:y.length<=sizeLine/\k=((y.length:Int) != 0):=e;subst e';exact PySem.P.truthy_str #[1] ⟨H,I.tok _,q⟩
 | Cr y =>
  obtain⟨t,rfl⟩:=rx;obtain⟨hy,e'⟩:y.size<=sizeLine/\k=((y.size:Int) != 0):=e;subst e';exact PySem.W.truthy_bytes #[1] ⟨H,I.tok _,q⟩
 | ref p =>
  cases rx;have e':(∃ xs,eQ X.K H p xs/\k = !xs.isEmpty)\/(∃ xs,jW X.K H p xs/\k = !xs.isEmpty)\/∃ kvs ep,H p=some (.dK kvs ep)/\k = !kvs.isEmpty:=e;rcases e' with ⟨xs,hx,e'⟩|⟨xs,hx,e'⟩|⟨kvs,ep,hx,e'⟩
  ·subst e';obtain⟨its,r,pl,hz⟩:=I.list hx;have hlen:=r.length;exact wpAny_truthy_list pl.isList (by simp only[PK];omega) ⟨H,I.tok _,by rw[qJ r];exact q⟩
  ·subst e';obtain⟨its,r,pl,hz⟩:=I.tuple hx;have hlen:=r.length;exact truthy_tuple pl (by simp only[PK];omega) ⟨H,I.tok _,by rw[qJ r];exact q⟩
  ·subst e';obtain⟨hz,hS,vs,r,m⟩:kvs.length<=sizeLine/\(p == sysModules)=false/\∃ vs,KV kvs vs/\s.heap.DictAt (cE X.prog X.w) p vs ep:=I.hok p _ hx;have hlen:kvs.length=vs.length:=Ri r;exact wpAny_truthy_dict hS m.dictOf #[1] ⟨H,I.tok _,by rw[yZ r];exact q⟩
 |_=>exact(show False from e).elim
def D3 (ha:PE X a ta)(he:∀ whole,isTrue a X.env whole=(do let v <-whole;standAt a.pos;holding [v] (truthy v))) :
  PT X a (λ σ H Q=>ta σ H λ x H'=>∃ k,Mu X.K x H' k/\Q k H'):=by
 intro pins s σ H Q I h;exact isTrue_plain (eN (ha pins s σ H _ I h) λ v s1 hq5=>L2.ex5 hq5 λ x H1 I1 r1 q1=>Kn pins s1 σ H1 x v Q I1 r1 q1) (he _)
def y9:kO X (binaryOp .Add) (λ x y H Q=>∃ i j,x=.str i/\y=.str j/\i.length+j.length<=sizeLine/\Q (.str (i++j)) H):=by
 intro pins s σ H x y v u Q I rx ry h;obtain⟨i,j,rfl,rfl,hz,q⟩:=h;obtain⟨t,rfl⟩:=rx;obtain⟨t',rfl⟩:=ry;exact add_str (λ t' tk=>⟨.str (i++j),H,I.tok _,⟨_,rfl⟩,q⟩) hz
def vals1 {x:V}(r:Vals [x] us):∃ u,us=[u]/\RelV x u:=by
 cases r with
 |cons r1 r2=>cases r2;exact⟨_,rfl,r1⟩
def vals2 {x y:V}(r:Vals [x,y] us):∃ u w',us=[u,w']/\RelV x u/\RelV y w':=by
 cases r with
 | cons r1 r2 =>
  cases r2 with
  |cons r3 r4=>cases r4;exact⟨_,_,rfl,r1,r3⟩
def o5 (hc:X.calm=true):eO X (.builtin "max") (λ xs H Q=>∃ i j,xs=[.int i,.int j]/\Q (.int (if j>i then j else i)) H):=by
 intro pins s σ H xs us Q I r h;obtain⟨i,j,rfl,q⟩:=h;obtain⟨u,w',rfl,⟨t,rfl⟩,⟨t',rfl⟩⟩:=vals2 r;refine max_two_ints (I.ok.hd hc) λ h' tk k=>⟨_,H,I.kept k,?_,q⟩;by_cases hj:j>i
 ·rw[PH hj,PH hj];exact⟨_,rfl⟩
 ·rw[PL hj,PL hj];exact⟨_,rfl⟩
def ud (hc:X.calm=true):eO X (.builtin "min") (λ xs H Q=>∃ i j,xs=[.int i,.int j]/\Q (.int (if j<i then j else i)) H):=by
 intro pins s σ H xs us Q I r h;obtain⟨i,j,rfl,q⟩:=h;obtain⟨u,w',rfl,⟨t,rfl⟩,⟨t',rfl⟩⟩:=vals2 r;refine min_two_ints (I.ok.hd hc) λ h' tk k=>⟨_,H,I.kept k,?_,q⟩;by_cases hj:j<i
 ·rw[PH hj,PH hj];exact⟨_,rfl⟩
 ·rw[PL hj,PL hj];exact⟨_,rfl⟩
end
structure J3 (h:Heap)(x dx C:Addr)(mA:Str->Option Value):Prop where
 obj:h.get? x=some (PySem.W.instObj C dx)
 ns:h.Ns1 dx mA
 ne:dx≠x
def Ct(n:h.Ns1 dx mA):∃ od,h.get? dx=some od/\∀ name,PySem.W.lookIn name od=some (mA name):=by
 obtain⟨o,es,ep,ho,hd,hk,_,hm⟩:=n;refine⟨o,ho,λ name=>?_⟩;have e:=hm name;unfold nsFind findBy at e;rw[<-Array.find?_toList]at e;unfold PySem.W.lookIn;rw[hd];dsimp only;split
 ·rename_i y q;rw[q]at e;exact Q3 some e
 ·rename_i q;rw[q]at e;have a:es.toList.any (·.refKey)=false:=by
   rw[R8];intro y hy;obtain⟨z,t,hkey⟩:=hk y (Array.mem_toList_iff.mp hy);simp[DictEntry.refKey,hkey]
  have a':¬ es.toList.any (·.refKey)=true:=by rw[a];exact Pq
  rw[PL a'];exact Q3 some e
def J3.look{x:Addr}(I:J3 h x dx C mA):∃ od,PySem.W.InstAt h x (PySem.W.instObj C dx) C (some od)/\∀ name,PySem.W.lookIn name od=some (mA name):=
 let ⟨od,ho,hl⟩:=Ct I.ns
 ⟨od,⟨I.obj,rfl,rfl,ho⟩,hl⟩
section
variable {prog:#[84]}{K:#[0]}{x:Addr}{name:Str}{v:Value}
end
def qm.some_of{o:Option Value}(r:qm (some v) o):∃ u,o=some u/\RelV v u:=by
 cases o with
 |none=>exact(show False from r).elim|some u=>exact⟨u,rfl,r⟩
section
variable{fs fs':List (Str×V)}
def G9 (hok:jj P w H h)(e:H a=some (.ins C dx fs)):∃ mA,J3 h a dx C mA/\(∀ f,qm (fs.lookup f) (mA f))/\PySem.Within mA (fs.map (·.1))/\fs.length<=1000/\H dx=some (.own a):=by
 obtain⟨d,z,ne,ob,mA,n,r,q⟩:=(show ck P w H h a (.ins C dx fs) from hok a _ e);exact⟨mA,⟨ob,n,ne⟩,r,q,z,d⟩
end
structure NR (K:PySem.W.Frag)(C:Addr):Prop where
 pg:PySem.W.plainGet K C Str.empty=true
 hd:PySem.W.hasDictIn K C=true
 po:PySem.W.plainOver K C=true
 sa:PySem.W.findIn K (.ref C) "__setattr__" = some (some (.builtin "object.__setattr__"))
def NR.get {K:#[0]}(c:NR K C)(f:Str):PySem.W.plainGet K C f=true:=c.pg
section
variable{fs:List (Str×V)}{f:Str}
end
section
variable{o value:Expr}{f:Str}{pos' tpos:Pos}{tv:TE}
end
section
variable{c:Value}{b:Bool}
inductive nE (K:PySem.W.Frag)(H:Hp):V->Value->Prop where
 |a8:nE K H .a8 (.type "NoneType")
 |bl (x:Bool):nE K H (.bl x) (.type "bool")
 |int (i:Int):nE K H (.int i) (.type "int")
 |str (x:Str):nE K H (.str x) (.type "str")
 |L6 (x:UInt64):nE K H (.L6 x) (.type "float")
 |lst {a:Addr}{xs:List V} (e:H a=some (.lst xs)):nE K H (.ref a) (.type "list")
 |aq {a:Addr}{o:Obj}{xs:List V} (e:H a=some (.aq o (.lst xs))):nE K H (.ref a) (.type "list")
 |tup {a:Addr}{xs:List V} (e:H a=some (.tup xs)):nE K H (.ref a) (.type "tuple")
 |dK {a:Addr}{kvs:#[102]}{ep:Nat} (e:H a=some (.dK kvs ep)):nE K H (.ref a) (.type "dict")
 |dT {a:Addr}{kvs:List (List Key×V)}{ep:Nat} (e:H a=some (.dT kvs ep)):nE K H (.ref a) (.type "dict")
 | ins {a C dx:Addr}{fs:List (Str×V)} (e:H a=some (.ins C dx fs)) (cl:NR K C) (ha:PySem.W.findIn K (.ref C) "__class__" = some (some #[60]))
   (hn:PySem.W.specialIn K #[60] "__get__" = some (some #[91])) (htk:PySem.W.takesIn K #[60]=some true)
   (hm:PySem.W.mroIn K C (.type "object")=some true):nE K H (.ref a) (.ref C)
def Cv {x:V}{t:Value}(I:#[5])(rx:RelV x u)(ty:nE X.K H x t)(e:PySem.W.kitOne X.K t c=some b)(h:∀ tk,Q (.bool b) { s with toks:=tk }) :
  wpAny #[13] A (call (.builtin "isinstance") [u,c]) Q E s:=by
 cases ty with
 |a8=>cases (show u=Value.none from rx);exact QD PySem.W.kitx_none I.oV True.intro e (λ z=>nomatch z) h|bl y=>cases (show u=Value.bool y from rx);exact QD PySem.W.kitx_bool I.oV True.intro e (λ z=>nomatch z) h|int i=>obtain⟨t,q⟩:=(show ∃ t,u=Value.int i t from rx);cases q;exact QD PySem.W.kitx_int I.oV True.intro e (λ z=>nomatch z) h|str y=>obtain⟨t,q⟩:=(show ∃ t,u=Value.str y t from rx);cases q;exact QD PySem.W.kitx_str I.oV True.intro e (λ z=>nomatch z) h|L6 y=>obtain⟨t,q⟩:=(show ∃ t,u=Value.float y t from rx);cases q;exact QD PySem.W.kitx_float I.oV True.intro e (λ z=>nomatch z) h
 | @lst a xs ea =>
  cases (show u=Value.ref a from rx);obtain⟨_,_,n,_,h1⟩:=(show ck X.prog X.w H s.heap a (.lst xs) from I.hok a _ ea);exact QD Ue I.oV ⟨_,h1,rfl⟩ e (λ z=>nomatch z) h
 | @aq a ob xs ea =>
  cases (show u=Value.ref a from rx);obtain⟨_,_,_,n,_,h1⟩:=(show ck X.prog X.w H s.heap a (.aq ob (.lst xs)) from I.hok a _ ea);exact QD Ue I.oV ⟨_,h1,rfl⟩ e (λ z=>nomatch z) h
 | @tup a xs ea =>
  cases (show u=Value.ref a from rx);obtain⟨_,_,_,p⟩:=(show ck X.prog X.w H s.heap a (.tup xs) from I.hok a _ ea);obtain⟨o,h1,h2,_⟩:=p.is;exact QD PySem.W.kitx_tuple I.oV ⟨o,h1,h2⟩ e (λ z=>nomatch z) h
 | @dK a kvs ep ea =>
  cases (show u=Value.ref a from rx);obtain⟨_,_,vs,_,p⟩:=(show ck X.prog X.w H s.heap a (.dK kvs ep) from I.hok a _ ea);obtain⟨o,es,h1,h2,_⟩:=p;exact QD PySem.W.kitx_dict I.oV ⟨o,h1,h2.1⟩ e (λ z=>nomatch z) h
 | @dT a kvs ep ea =>
  cases (show u=Value.ref a from rx);obtain⟨_,_,xs,_,o,es,h1,h2,_⟩:=(show ck X.prog X.w H s.heap a (.dT kvs ep) from I.hok a _ ea);exact QD PySem.W.kitx_dict I.oV ⟨o,h1,h2.1⟩ e (λ z=>nomatch z) h
 | @ins a C dx fs ea cl ha hn htk hm =>
  cases (show u=Value.ref a from rx);obtain⟨mA,O,_⟩:=G9 I.hok ea;obtain⟨od,J,_⟩:=O.look;exact QD (PySem.W.kitx_own (cl.get _) cl.hd ha hn htk hm) I.oV J e (λ z=>nomatch z) h
end
structure fG (k:Nat)(A:Around):Prop where
 hd:A.handled=none
 dp:A.depth+3*k+5<recursionLimit
 un:A.units+16*k+200<cLine
def fG.mono {j k:Nat}(r:fG k A)(h:j<=k):fG j A:=⟨r.hd,by have:=r.dp;omega,by have:=r.un;omega⟩
def fG.deeper {k:Nat}(r:fG (k+1) A)(env:Env):fG k (A.deeper env):=
 ⟨r.hd,by have:=r.dp;show A.depth+1+3*k+5<_;omega,by have:=r.un;show A.units+3+16*k+200<_;omega⟩
def fG.depth {k:Nat}(r:fG k A):A.depth<recursionLimit:=by have:=r.dp;omega
def fG.units {k:Nat}(r:fG k A):A.units+64<cLine:=by have:=r.un;omega
def ze:TA:=λ _ H Q=>Q [] H
def qK (ta:TE)(tr:TA):TA:=λ σ H Q=>ta σ H λ x H1=>tr σ H1 λ xs H2=>Q (x::xs) H2
section
variable{t:TA}
def dQ:PA X [] ze:=λ _ _ _ _ H Q I h=>SE ⟨[],H,I,.nil,h⟩
def bY (ha:PE X e te)(hr:PA X es t)(hs:#[9]:=by rfl):PA X (e::es) (qK te t):=by
 intro pos pins s σ H Q I h;rw[hs];show wpAny _ _ (spliced ((false,eval e X.env)::backTo pos (starEach es X.env))) _ _ s;refine Sv (eN (ha pins s σ H _ I h) λ u s1 hq5=>L2.ex5 hq5 λ x H1 I1 r1 q1=>?_);exact eN (hr pos pins s1 σ H1 _ I1 q1) λ us s2 hq5=>L2.ex5 hq5 λ xs H2 I2 r2 q2=>⟨x::xs,H2,I2,.cons r1 r2,q2⟩
def N4 (t:TA):TE:=λ σ H Q=>t σ H λ xs H1=>xs.length<=sizeLine/\∀ p,H1 p=none->Q (.ref p) (upd H1 p (.tup xs))
def Ke (t:TA):TE:=λ σ H Q=>t σ H λ xs H1=>xs.length<=sizeLine/\∀ p,H1 p=none->Q (.ref p) (upd H1 p (.lst xs))
def zh {x1}(h:PA X es t):PE X (.Tuple es x1 pos) (N4 t):=by
 intro pins s σ H Q I hq;refine wpAny_Tuple_spliced (eN (h pos pins s σ H _ I hq) λ us s1 ⟨xs,H1,I1,r,z,q⟩=>⟨by rw[<-r.length];exact z,?_⟩);have hf:H1 s1.heap.objs.size=none:=I1.hok.fresh (Py _);refine⟨.ref s1.heap.objs.size,upd H1 s1.heap.objs.size (.tup xs),I1.laid (t':=s1.toks) (λ b u e=>Pj _ e) (Py _) ?_,rfl,q _ hf⟩;exact⟨z,us,r,⟨_,Pu _ rfl⟩⟩
def zo (h:PA X es t):PE X (.List es pos) (Ke t):=by
 intro pins s σ H Q I hq;refine wpAny_List_spliced (eN (h pos pins s σ H _ I hq) λ us s1 ⟨xs,H1,I1,r,z,q⟩=>⟨by rw[<-r.length];exact z,?_⟩);have hf:H1 s1.heap.objs.size=none:=I1.hok.fresh (Py _);refine⟨.ref s1.heap.objs.size,upd H1 s1.heap.objs.size (.lst xs),I1.laid (t':=s1.toks) (λ b u e=>Pj _ e) (Py _) ?_,rfl,q _ hf⟩;exact⟨z,us,0,r,Pu _ rfl⟩
end
abbrev Sp:=List V->Hp->VK->XK->Prop
variable {sp:Sp}
abbrev DT:=List Env->Hp->Shared->XK->Value->Shared->Prop
variable {CX:DT}
structure yY (P:Program)(w:World)(K:PySem.W.Frag)(mg:Str->Option Value)(base:Heap)(A:Around)(outer:List Env)(s:Shared)(H:Hp):Prop where
 frames:A.frames=some outer
 mod:Mod K mg base
 bs:∀ b o,base.get? b=some o->s.heap.get? b=some o/\H b=none
 AV:base.objs.size<=s.heap.objs.size
 jX:s.heap.FunFrames base outer
 DS:∀ b∈frs outer,H b=none
 hok:jj P w H s.heap
 bare:AllBare s.gens
def CE (outer:List Env)(P:#[84])(w:World)(H:Hp)(s:Shared)(Q:VK)(u:Value)(s':Shared):Prop:=
 ∃ v H',s'.os=s.os/\AllBare s'.gens/\Un (frs outer) [] H H' s.heap s'.heap/\jj P w H' s'.heap/\RelV v u/\Q v H'
def CR (CX:DT)(outer:List Env)(P:#[84])(w:World)(H:Hp)(s:Shared)(Q:VK)(E:XK)(r:Result)(s':Shared):Prop:=
 match r with
 |.ok (.ret u)=>CE outer P w H s Q u s'
 |.ok _=>False
 |.error e=>CX outer H s E e s'
structure oY (P:Program)(w:World)(K:PySem.W.Frag)(mg:Str->Option Value)(base:Heap)(CX:DT)(k:Nat)(f:Addr)(fd:FuncData)(ps:List Str)(sp:Sp):Prop where
 len:∀ vs H Q E,sp vs H Q E->vs.length=ps.length
 run:∀ (A:Around) (outer:List Env) (s:Shared) (H:Hp) (args:Args) (us:#[22]) (vs:List V) (Q:VK) (E:XK),fG k A->yY P w K mg base A outer s H->BindsTo s fd args (ps.zip us)->Vals vs us->sp vs H Q E ->
  codeAny (model P w) A (.call (.ref f) args) (CR CX outer P w H s Q E) s
section
def Inv.Ku (I:#[5]):yY X.prog X.w X.K X.mg X.base X.A X.stack s H:=
 ⟨I.ok.frames,I.ok.mod,I.bs,QG I.ok.AV I.sz,I.stack,I.vj,I.hok,I.bare⟩
def Inv.after {Q:VK}(I:#[5])(h:CE X.stack X.prog X.w H s Q u s'):EP X pins σ Q u s':=by
 obtain⟨v,H',os,bare,un,hok,r,q⟩:=h;obtain⟨hh,g,d,t,os'⟩:=s';obtain rfl:os'=s.os:=os;exact⟨v,H',I.call (h':=hh) (g':=g) (d':=d) (t':=t) (ch:=[]) un hok bare (λ b z=>absurd z #[25]),r,q⟩
end
def Jw (sp:Sp)(dvs:List V)(E:XK)(t:TA):TE:=λ σ H Q=>t σ H λ vs H1=>sp (vs++dvs) H1 Q E
def Binds (K:#[0])(fd:FuncData)(ps:#[116])(ds:#[22]):Prop:=
 ∀ (s:Shared) (us:#[22]),K.In s.heap->(us++ds).length=ps.length->BindsTo s fd ⟨us,[]⟩ (ps.zip (us++ds))
def Binds.all {K:#[0]}(h:∀ us:List Value,us.length=ps.length->bindArgs fd ⟨us,[]⟩=pure (ps.zip us)):Binds K fd ps []:=λ s us _ hl=>by
 rw[Qi]at hl ⊢;exact .of_eq (h us hl)
def Passes (CX:DT)(X:Cx)(E:XK):Prop:=∀ (pins:#[15]) (σ:St) (H:Hp) (s:Shared) (e:Value) (s':Shared),Inv X pins σ H s->CX X.stack H s E e s'->X.xe e s'
section
variable{k:Nat}{dvs:List V}{ds:#[22]}{E:XK}{m:Str}{apos:Pos}{o:Expr}{t:TA}
def Kg{Q:VK}{vs:List V}(F:oY X.prog X.w X.K X.mg X.base CX k f fd ps sp)(hr:fG k X.A)(hb:Binds X.K fd ps ds)(hd:Vals dvs ds)(hx:Passes CX X E)
  (I:#[5]) (r:Vals vs us) (h:sp (vs++dvs) H Q E):wpAny #[13] X.A (call (.ref f) us) (EP X pins σ Q) X.xe s:=by
 have r2:Vals (vs++dvs) (us++ds):=r.append hd;have hl:(us++ds).length=ps.length:=by rw[<-r2.length];exact F.len _ _ _ _ h
 refine TM (Sd (F.run X.A X.stack s H ⟨us,[]⟩ (us++ds) (vs++dvs) Q E hr I.Ku (hb s us I.oV hl) r2 h) λ r s' hq=>?_);cases r with
 |error e=>exact hx pins σ H s e s' I hq
 | ok fl =>
  cases fl with
  |ret u=>exact I.after hq|next=>exact False.elim hq|brk=>exact False.elim hq|cont=>exact False.elim hq
def Hb (F:oY X.prog X.w X.K X.mg X.base CX k f fd ps sp)(hr:fG k X.A)(hg:Gl X x)(hm:X.mg x=some (.ref f))(hk:PySem.W.keepIn X.K (.ref f)=true)(hb:Binds X.K fd ps ds)(hd:Vals dvs ds)(hx:Passes CX X E)
  (ha:PA X (e::es) t) (hdb:#[2]:=by decide) (he:#[9]:=by rfl) (hpl:#[45].any (·.1)=false:=by rfl) :
  PE X #[48] (Jw sp dvs E t):=by
 intro pins s σ H Q I h;refine QT (lQ I hg hm ?_ hdb);refine TN (h₀:=X.base) I.ok.mod.J7 hk (eN (ha pos pins s σ H _ I h) λ us s1 hq5=>L2.ex5 hq5 λ vs H1 I1 r q=>⟨I1.oV,?_⟩) he hpl;exact Kg F hr hb hd hx I1 r q
end
section
variable{k:Nat}{ks:#[116]}{E:XK}{m:Str}{apos kpos:Pos}{o:Expr}{kws:List Keyword}{t tk:TA}{nm:Option Str}
variable {g:List Value->List Value->List Value}{gV:List V->List V->List V}
end
structure aP (N P:List Str)(sc:Scope):Prop where
 kind:sc.kind=.function
 co:sc.isCoroutine=false
 gen:sc.isGenerator=false
 nd:N.Nodup
 pre:N.take P.length=P
 par:∀ x∈P,sc.names.lookup x=some .local\/sc.names.lookup x=some .cell
 J8:∀ y∈sc.names,y.2 ≠ .free
def tX {kindOf:Str->Option NameKind}{x:Str}:∀ {binds:List (Str×Value)}{m:#[11]},(∀ v,(x,v)∉binds)->bindL kindOf binds m x=m x
 |[],_,_=>rfl
 | (n,v)::r,m,h=>by
  unfold bindL;rw[tX λ w hw=>h w (Pn _ hw)];split
  ·have:x≠n:=by rintro rfl;exact h v Pp
   simp[this]
  ·rfl
def ua {kindOf:Str->Option NameKind}{x:Str}:∀ {binds:List (Str×Value)}{m:#[11]},(∀ v,(x,v)∉binds)->bindC kindOf binds m x=m x
 |[],_,_=>rfl
 | (n,v)::r,m,h=>by
  unfold bindC;rw[ua λ w hw=>h w (Pn _ hw)];split
  ·rfl
  ·have:x≠n:=by rintro rfl;exact h v Pp
   simp[this]
def t9 {kindOf:Str->Option NameKind}{x:Str}{v:Value}:∀ {P:#[116]}{vs:#[22]}{i:Nat}{m:#[11]},P.Nodup->P[i]?=some x->vs[i]?=some v->kindOf x=some .local ->
  bindL kindOf (P.zip vs) m x=some v
 |[],_,_,_,_,h,_,_=>by simp at h
 |_::_,[],_,_,_,_,h,_=>by simp at h
 | p::P,w::vs,0,m,nd,h1,h2,hk=>by
  simp at h1 h2;subst h1;subst h2;show bindL kindOf ((p,w)::P.zip vs) m p=_;unfold bindL;rw[tX λ v hv=>(PN.mp nd).1 (Ti hv).1,PH hk];simp
 | p::P,w::vs,i+1,m,nd,h1,h2,hk=>by
  show bindL kindOf ((p,w)::P.zip vs) m x=_;unfold bindL;exact t9 (i:=i) (PN.mp nd).2 (by simpa using h1) (by simpa using h2) hk
def tZ {kindOf:Str->Option NameKind}{x:Str}{v:Value}:∀ {P:#[116]}{vs:#[22]}{i:Nat}{m:#[11]},P.Nodup->P[i]?=some x->vs[i]?=some v->kindOf x≠some .local ->
  bindC kindOf (P.zip vs) m x=some v
 |[],_,_,_,_,h,_,_=>by simp at h
 |_::_,[],_,_,_,_,h,_=>by simp at h
 | p::P,w::vs,0,m,nd,h1,h2,hk=>by
  simp at h1 h2;subst h1;subst h2;show bindC kindOf ((p,w)::P.zip vs) m p=_;unfold bindC;rw[ua λ v hv=>(PN.mp nd).1 (Ti hv).1,PL hk];simp
 | p::P,w::vs,i+1,m,nd,h1,h2,hk=>by
  show bindC kindOf ((p,w)::P.zip vs) m x=_;unfold bindC;exact tZ (i:=i) (PN.mp nd).2 (by simpa using h1) (by simpa using h2) hk
def start (N:#[116])(vs:List V):St:=vs.map some++List.replicate (N.length-vs.length) none
def mw (CX:DT)(P:#[84])(w:World)(K:#[0])(mg:#[11])(base:Heap)(N:#[116])(qual:Str)(scope:Scope)(f:Addr)(cd:Value)(A:Around)(outer:List Env)(s:Shared)(H:Hp)(E:XK):Cx where
 prog:=P
 w:=w
 K:=K
 mg:=mg
 base:=base
 A:=A.deeper #[62]
 N:=N
 s₀:=s
 H₀:=H
 env:=envOfC qual scope s.heap.objs.size f cd
 outer:=outer
 stack:=envOfC qual scope s.heap.objs.size f cd::outer
 ex:=[]
 calm:=true
 fn:=λ _=>true
 pn:=[]
 xe:=λ e s'=>wpAny (model P w) (A.deeper #[62]) (leaving #[62] e) (λ _ s''=>CX outer H s E e s'') (λ e' s''=>CX outer H s E e' s'') s'
def xn {sc:Scope}{n:Nat}(h:sc.names.lookup x=some .cell):∃ c,(cellsFrom n sc.names []).lookup x=some c:=by
 have q:=Rv sc.names n [] (.inl h);exact Rk.mp q
def tY{K:#[0]}{mg:#[11]}{base:Heap}{qual:Str}{scope:Scope}{cd:Value}{outer:List Env}{s1:Shared}{E:XK}{vs:List V}
  (S:aP N ps scope) (hd:A.handled=none) (e0:yY P w K mg base A outer s H) (hl:vs.length=ps.length) (r:Vals vs us)
  (x:InCallC s s.heap.objs.size (bindL #[62].kindOf (ps.zip us) λ _=>none) (cellsFrom #[55] scope.names []) (bindC #[62].kindOf (ps.zip us) λ _=>none) s1) :
  Inv (mw CX P w K mg base N qual scope f cd A outer s H E) [] (start N vs) H s1:=by
 have hpl:ps.length<=N.length:=by have:=Q3 List.length S.pre;rw[Ry]at this;omega
 obtain⟨h1,tk,rfl,hk⟩:=x.done;have noA:∀ b:Addr,b∉(mw CX P w K mg base N qual scope f cd A outer s H E).ex:=λ b z=>absurd (show b∈([]:#[8]) from z) #[25];refine⟨⟨e0.mod,S.kind,rfl,rfl,Py _,λ y z c h1 h2=>?_,λ y hy=>?_,λ y c _ h=>?_,λ _=>hd,Around.frames_deeper e0.frames,.inr ⟨rfl,rfl⟩,λ b z=>absurd z (noA b),e0.bs,e0.AV,λ b _ _=>noA b,λ b z=>absurd z (noA b),e0.jX,e0.DS⟩,
  rfl,e0.bare,Un.kept hk,⟨_,x.toInCall.ns,λ i y v h1 h2 h3=>?_⟩,λ y c h=>⟨_,x.cell y c h⟩,e0.hok.fresh (Py _),λ y c h=>?_,λ p hp=>absurd (show p∈([]:#[15]) from hp) #[25],e0.hok.kept hk,?_⟩
 ·exact name_of_addr x.apart (RS h1) (RS h2)
 ·have hy:scope.names.lookup y=some .cell\/scope.names.lookup y=some .free:=hy;rcases hy with hy|hy
  ·exact xn hy
  ·exact absurd rfl (S.J8 _ (RS hy))
 ·exact RY (x.above y c (RS h))
 ·have hi:i<vs.length:=by
   unfold start at h2;by_cases hi:i<vs.length
   ·exact hi
   ·rw[QX (by simpa using hi)]at h2;rw[List.getElem?_replicate]at h2;split at h2<;>cases h2
  have ha:vs[i]?=some v:=by
   unfold start at h2;rw[Ua (by simpa using hi),P0]at h2;cases e:vs[i]? with
   |none=>rw[e]at h2;cases h2|some a=>rw[e]at h2;cases h2;rfl
  obtain⟨u,hu,rv⟩:=r.get ha;have hp:ps[i]?=some y:=by
   rw[<-S.pre,List.getElem?_take_of_lt #[1]];exact h1
  have ndP:ps.Nodup:=by rw[<-S.pre];exact S.nd.sublist (List.take_sublist _ _)
  refine⟨u,rv,?_⟩;rcases S.par y (S9 hp) with k|k
  ·exact .inl ⟨k,t9 ndP hp hu k⟩
  ·obtain⟨c,e⟩:=xn (n:=s.heap.objs.size+1) k;refine .inr ⟨.inl k,c,e,?_⟩;have q:=x.cell y c e;rw[tZ ndP hp hu (by show scope.names.lookup y≠_;rw[k];decide)]at q;exact q
 ·exact e0.hok.fresh (RY (x.above y c (RS h)))
 ·unfold start;show _=N.length;rw[Pz,Pk,List.length_replicate];omega
def Jp{K:#[0]}{mg:#[11]}{base:Heap}{k:Nat}{name qual:Str}{params:Arguments}{scope:Scope}{dV kV doc pm cdv ct oc:Value}{an od:Option Addr}
  {osl:Array (Option Value)} (lk:K.lookup f=some ⟨oc,od,.func #[107],osl⟩) (hcd:PySem.W.codeIn K cdv qual=true) (S:aP N ps scope)
  (len:∀ vs H Q E,sp vs H Q E->vs.length=ps.length)
  (hbody:∀ (A:Around) (outer:List Env) (s:Shared) (H:Hp) (vs:List V) (Q:VK) (E:XK),fG k (A.deeper (envOfC qual scope s.heap.objs.size f cdv))->sp vs H Q E ->
   ∃ t,lR (mw CX P w K mg base N qual scope f cdv A outer s H E) body t/\t { nx:=λ _ H'=>Q .a8 H',rt:=Q } (start N vs) H) :
  oY P w K mg base CX (k+1) f #[107] ps sp:=by
 refine⟨len,λ A outer s H args us vs Q E hr e0 hb r hsp=>?_⟩;have hl:=len _ _ _ _ hsp;have KX:K.In s.heap:=e0.mod.J7.keeps λ b o e=>(e0.bs b o e).1;have lim:s.heap.NoLimit:=e0.mod.nolimit.keeps λ b o e=>(e0.bs b o e).1;have hkind:∀ y∈ps.zip us,scope.names.lookup y.1=some .local\/(scope.names.lookup y.1=some .cell/\((cellsFrom #[55] scope.names []).lookup y.1).isSome=true):=λ ⟨n,v⟩ hy=>by
  rcases S.par n (Ti hy).1 with q|q
  ·exact .inl q
  ·exact .inr ⟨q,Rv _ _ _ (.inl q)⟩
 refine codeAny_call_function hr.depth (KX _ _ lk) rfl S.co S.gen rfl (PySem.W.codeRec_of KX hcd) (hb _ _ _ _ ?_);refine wpAny_newFunctionEnv_cells S.kind hkind λ env he s1 x=>?_;subst he;refine⟨lim.keeps x.toInCall.keep,codeAny_func ?_⟩;obtain⟨t,ht,hq⟩:=hbody A outer s H vs Q E (hr.deeper _) hsp;have I:Inv (mw CX P w K mg base N qual scope f cdv A outer s H E) [] (start N vs) H s1:=tY S hr.hd e0 hl r x;refine QS (ht [] s1 (start N vs) H _ I hq) (λ fl s' hs=>?_) λ e s' hs=>hs;have fin:∀ {σ':St}{H':Hp}{v:V}{u:Value},Inv (mw CX P w K mg base N qual scope f cdv A outer s H E) [] σ' H' s'->RelV v u->Q v H'->CE outer P w H s Q u s':=
  λ {σ' H' v u} J rv q=>⟨v,H',J.os,J.bare,J.base,J.hok,rv,q⟩
 cases fl with
 | ret u =>
  obtain⟨v,σ',H',J,rv,q⟩:=hs;exact fin J rv q
 | next =>
  obtain⟨σ',H',J,q⟩:=hs;exact fin (v:=V.a8) (u:=Value.none) J rfl q
 | brk =>
  obtain⟨_,_,_,q⟩:=hs;exact False.elim q
 | cont =>
  obtain⟨_,_,_,q⟩:=hs;exact False.elim q
section
variable{t:TA}{id T:String}{r:List V->Hp->VK->Prop}
def OM (r:List V->Hp->VK->Prop)(t:TA):TE:=λ σ H Q=>t σ H λ vs H1=>r vs H1 Q
def jz (hc:eO X (.builtin id) r)(hg:Gl X x)(hm:X.mg x=none)(hv:bootBuiltins x=some (.builtin id))(ha:PA X (e::es) t)(hn:x ≠ "__name__" :=by decide)(hdb:#[2]:=by decide)
  (he:#[9]:=by rfl) (hpl:#[45].any (·.1)=false:=by rfl):PE X #[48] (OM r t):=by
 intro pins s σ H Q I h;refine QT (jk I hg hm hv ?_ hn hdb);exact SW (eN (ha pos pins s σ H _ I h) λ us s1 hq5=>L2.ex5 hq5 λ vs H1 I1 r1 q1=>hc pins s1 σ H1 vs us Q I1 r1 q1) he hpl
def Cq (hc:eO X (.type T) r)(hg:Gl X x)(hm:X.mg x=none)(hv:bootBuiltins x=some (.type T))(ha:PA X (e::es) t)(hn:x ≠ "__name__" :=by decide)(hdb:#[2]:=by decide)
  (he:#[9]:=by rfl) (hpl:#[45].any (·.1)=false:=by rfl):PE X #[48] (OM r t):=by
 intro pins s σ H Q I h;refine QT (jk I hg hm hv ?_ hn hdb);exact QL (eN (ha pos pins s σ H _ I h) λ us s1 hq5=>L2.ex5 hq5 λ vs H1 I1 r1 q1=>hc pins s1 σ H1 vs us Q I1 r1 q1) he hpl
end
end L2
namespace HT
open PySem PyProof.Rows
section
open PySem.SeqAt
open PySem.AutoSeq1 (wpAny_loadPart')
open PySem.MeetsSeq PySem.MeetsSeq2 PySem.MeetsSeq3
end
section
variable {prog:#[84]}{w:World}{A:Around}{E:#[4]}{s:Shared}
def Hj {t b:Addr}{vs ws:#[22]}{Q:#[4]}(ht:IsTup s.heap t vs.toArray)(hb:IsTup s.heap b ws.toArray)(hv:vs≠[])
  (h1:ws=[]->Q (.ref t) s) (h2:ws≠[]->Q #[42] { s with heap:=s.heap.push { cls:=.type "tuple",data:=.seq (vs++ws).toArray } })
  (hsz:vs.length+ws.length<=sizeLine):wpAny #[12] A (binaryOp .Add (.ref t) (.ref b)) Q E s:=by
 obtain⟨⟨cls,dd,data,sl⟩,ho,hc,n,hd⟩:=id ht;obtain⟨⟨cls2,dd2,data2,sl2⟩,ho2,hc2,n2,hd2⟩:=id hb;simp only at hc hd hc2 hd2;subst hc hd hc2 hd2;have e:vs.toArray++ws.toArray=(vs++ws).toArray:=by simp
 by_cases hw:ws=[]
 ·exact concat_meets ⟨_,ho,rfl⟩ ⟨_,ho2,rfl⟩ noFill_tuple_add seq_tuple_add PySem.F.slot_tuple_add PySem.F.entry_tuple_add (PySem.F.args_tuple_add_2 _ _)
   (tuple_addW1 t b vs.toArray ws.toArray n n2 dd dd2 sl sl2 (by simpa using hv) (by simp[hw])) ⟨ho,ho2,h1 hw⟩
 ·refine concat_meets ⟨_,ho,rfl⟩ ⟨_,ho2,rfl⟩ noFill_tuple_add seq_tuple_add PySem.F.slot_tuple_add PySem.F.entry_tuple_add (PySem.F.args_tuple_add_2 _ _)
   (tuple_addW2 t b vs.toArray ws.toArray n n2 dd dd2 sl sl2 (by simpa using hv) (by simpa using hw) (by rw[PK,PK];exact hsz)) ⟨ho,ho2,?_⟩
  rw[e];exact h2 hw
def fX (n d:Nat):Option Int->Nat
 |none=>d
 |some v=>if v<0 then (v+(n:Int)).toNat else min v.toNat n
def KG (n d:Nat)(hd:d<=n)(o:Option Int):fX n d o<=n:=by
 cases o with
 |none=>exact hd
 | some v =>
  show(if v<0 then (v+(n:Int)).toNat else min v.toNat n)<=n;by_cases hv:v<0
  ·rw[PH hv];omega
  ·rw[PL hv];exact Nat.min_le_right _ _
def AX (v:Int)(n d:Nat):(if v<0 then max (v+(n:Int)) 0 else min v (n:Int))=((fX n d (some v):Nat):Int):=by
 show(if v<0 then max (v+(n:Int)) 0 else min v (n:Int))=(((if v<0 then (v+(n:Int)).toNat else min v.toNat n):Nat):Int);by_cases hv:v<0
 ·simp only[PH hv];omega
 ·simp only[PL hv];omega
def zr (lo hi:Option Int)(n:Nat):Builtin.Slice.sliceAdjust lo hi 1 (n:Int)=(((fX n 0 lo:Nat):Int),((fX n n hi:Nat):Int)):=by
 have h1:¬ ((1:Int)<0):=by omega
 unfold Builtin.Slice.sliceAdjust;simp only[h1,RL];refine Prod.ext ?_ ?_
 ·cases lo with
  |none=>rfl|some v=>exact AX v n 0
 ·cases hi with
  |none=>rfl|some v=>exact AX v n n
def zt (i j:Nat):Builtin.Slice.slicePlaces (i:Int) (j:Int) 1=j-i:=by
 unfold Builtin.Slice.slicePlaces;have h1:(1:Int)>0:=by omega
 simp only[h1,RE,Int.ediv_one];split<;>omega
def qT {v:Value}{o:Option Int}{Q:Option Int->Shared->Prop}(p:IsPart v o)(h:Q o s):wpAny #[12] A (Builtin.Slice.slicePartIndex v) Q E s:=by
 cases p with
 |none=>exact slicePart_none h|int i t=>exact slicePart_int h
def o7 {sl:Addr}{vl vu:Value}{lo hi:Option Int}{n:Nat}{Q:Int×Int×Nat->Shared->Prop}(hs:s.heap.IsSliceOf sl vl vu .none)(pl:IsPart vl lo)(pu:IsPart vu hi)
  (h:Q (((fX n 0 lo:Nat):Int),1,fX n n hi-fX n 0 lo) s):wpAny #[12] A (Builtin.Slice.sliceApplied (.ref sl) (pure (n:Int))) Q E s:=by
 obtain⟨os,hos,hcs,hds⟩:=id hs;unfold Builtin.Slice.sliceApplied Builtin.Slice.sliceFields;refine Ph (Ph (Qh hos hds (x:=vl) rfl (Ph (Qh hos hds (x:=vu) rfl (Ph (Qh hos hds (x:=.none) rfl (Po ?_)))))));refine Ph (slicePart_none ?_);show wpAny _ _ (if ((1:Int) == 0)=true then _ else _) _ _ s;rw[PL #[120]];refine Ph (qT pl (Ph (qT pu (Ph (Po ?_)))));show wpAny _ _ (match Builtin.Slice.sliceAdjust lo hi 1 (n:Int) with|(lo,hi)=>pure (lo,(1:Int),Builtin.Slice.slicePlaces lo hi 1)) _ _ s;rw[zr lo hi n];show wpAny _ _ (pure (((fX n 0 lo:Nat):Int),(1:Int),Builtin.Slice.slicePlaces ((fX n 0 lo:Nat):Int) ((fX n n hi:Nat):Int) 1)) _ _ s;rw[zt];exact Po h
def Ec (xs:#[132])(i k:Nat):((List.range k).filterMap λ (m:Nat)=>xs[((i:Int)+(m:Int)*1).toNat]?).toArray=((xs.toList.drop i).take k).toArray:=by
 have e:(λ (m:Nat)=>xs[((i:Int)+(m:Int)*1).toNat]?)=λ m=>xs[i+m]?:=by
  funext m;have:((i:Int)+(m:Int)*1).toNat=i+m:=by omega
  rw[this]
 rw[e];have:=pick_run xs i k;rw[List.filterMap_map]at this;have e2:((λ x=>xs[x]?)∘λ x=>i+x)=λ m=>xs[i+m]?:=rfl;rw[e2]at this;rw[this]
def nH {t sl:Addr}{items:#[132]}{vl vu:Value}{lo hi:Option Int}{Q:#[4]}(ht:IsTup s.heap t items)(hs:s.heap.IsSliceOf sl vl vu .none)(pl:IsPart vl lo)(pu:IsPart vu hi)
  (hw:¬ (fX items.size 0 lo=0/\fX items.size items.size hi=items.size))
  (h:Q #[42] { s with heap:=s.heap.push { cls:=.type "tuple",data:=.seq #[104].toArray } })
  (hsz:items.size<=sizeLine):wpAny #[12] A (getItem (.ref t) (.ref sl)) Q E s:=by
 have htake:sizeOk (.seq #[104].toArray):=by
  show#[104].toArray.size<=sizeLine;rw[PK,Ry,Se,PZ];omega
 have hj:fX items.size items.size hi<=items.size:=KG _ _ (Py _) hi;obtain⟨os,hos,hcs,hds⟩:=id hs;have hTs:s.TypeIs (.ref sl) "slice" :=⟨os,hos,hcs⟩;unfold getItem
 try with_reducible refine QV ?_
 first|refine Ph (Po ?_)|skip
 refine Ph (wpAny_sequenceKey ht.typeIs #[120] ?_);refine Ph (Qf (name:=Str.ofString "__getitem__") ht.typeIs SM
  (Qg SM ht.typeIs entry_tuple_getitem ?_ (args_tuple_getitem _ _)))
 show wpAny _ _ (Builtin.Tuple.tupleItemsOf (.ref t) >>= _) _ _ s;refine Ph (tupleItemsOf_ ht ?_);refine Ph (TF hTs ?_);rw[PH #[120]];refine Ph (o7 hs pl pu ?_);have hno:¬ ((((fX items.size 0 lo:Nat):Int) == 0&&(1:Int) == 1&&(fX items.size items.size hi-fX items.size 0 lo) == items.size)=true):=by
  intro q;rw[Ql,Ql]at q;have q1:((fX items.size 0 lo:Nat):Int)=0:=eq_of_beq q.1.1;have q2:fX items.size items.size hi-fX items.size 0 lo=items.size:=eq_of_beq q.2;exact hw ⟨by omega,by omega⟩
 show wpAny _ _ (if (((fX items.size 0 lo:Nat):Int) == 0&&(1:Int) == 1&&(fX items.size items.size hi-fX items.size 0 lo) == items.size)=true then _ else _) _ _ s;rw[PL hno,Ec]
 first
  |exact Ph (m:=Builtin.Tuple.tupleExact _) (Qk (Po ⟨_,rfl,Po h⟩) htake)
  |exact Ph (m:=Builtin.Tuple.tupleExact _) (Qk (Ph (Po (Po ⟨_,rfl,Po h⟩))) htake)
  |exact Ph (Ph (m:=Builtin.Tuple.tupleExact _) (Qk (Po (Po ⟨_,rfl,Po h⟩)) htake))
  |exact Ph (Ph (m:=Builtin.Tuple.tupleExact _) (Qk (Po ⟨_,rfl,Po h⟩) htake))
end
end HT
namespace L2
open PySem PySem.Spec PyProof.Rows
variable {a b:Addr}{A:Around}{X:Cx}{e:Expr}{H:Hp}{pins:#[15]}{xs:List (List Key×Addr×Value)}{kvs:List (List Key×V)}{us:#[22]}{n t':Nat}{o:Option V}{pos:Pos}{P:#[84]}{s:Shared}{σ:St}{T:String}{α:Type}{x y:V}{u:Value}{E:#[4]}{w:World}
abbrev TO:=St->Hp->(Option Int->Hp->Prop)->Prop
def PO (X:Cx)(e:Option Expr)(t:TO):Prop:=
 ∀ (pins:#[15]) (s:Shared) (σ:St) (H:Hp) (Q:Option Int->Hp->Prop),Inv X pins σ H s->t σ H Q ->
  wpAny #[13] X.A (evalPart e X.env) (λ u s'=>∃ o H',Inv X pins σ H' s'/\IsPart u o/\Q o H') X.xe s
def Hh:TO:=λ _ H Q=>Q none H
def ME (t:TE):TO:=λ σ H Q=>t σ H λ x H1=>∃ i,x=.int i/\Q (some i) H1
def intsAre_of {ns:#[6]}:∀ {us:#[22]},Vals (ns.map V.int) us->IntsAre us ns:=by
 induction ns with
 |nil=>intro us r;rw[List.map_nil]at r;cases r;exact .nil
 | cons n ns ih =>
  intro us r;rw[PV]at r;cases r with
  | cons r1 r2 =>
   obtain⟨t,e⟩:=r1;subst e;exact .cons n t (ih r2)
section
variable{te:TE}{lo hi:Option Expr}{tl th:TO}{p2:Pos}
def Hm:PO X none Hh:=by
 intro pins s σ H Q I h;rw[evalPart_none];exact Po ⟨none,H,I,.none,h⟩
def Hs (h:PE X e te):PO X (some e) (ME te):=by
 intro pins s σ H Q I hw;rw[evalPart_some];refine eN (h pins s σ H _ I hw) λ u s1 hq5=>L2.ex5 hq5 λ x H1 I1 r1 q1=>?_;obtain⟨i,rfl,q⟩:=q1;obtain⟨t,rfl⟩:=r1;exact⟨some i,H1,I1,.int i t,q⟩
def Jy (X:Cx)(r:V->Option Int->Option Int->Hp->VK->Prop):Prop:=
 ∀ (pins:#[15]) (s:Shared) (σ:St) (H:Hp) (x:V) (v vl vu:Value) (lo hi:Option Int) (sl:Addr) (Q:VK),Inv X pins σ H s->RelV x v->s.heap.IsSliceOf sl vl vu .none->IsPart vl lo->IsPart vu hi->r x lo hi H Q ->
  ∃ T id,typeLookup (.type T) "__getitem__" = pure (some (.builtin id))/\s.TypeIs v T/\wpAny #[13] X.A (getItem v (.ref sl)) (EP X pins σ Q) X.xe s
def Jy.or {r r':V->Option Int->Option Int->Hp->VK->Prop}(h:Jy X r)(h':Jy X r'):Jy X (λ x lo hi H Q=>r x lo hi H Q\/r' x lo hi H Q):=by
 intro pins s σ H x v vl vu lo hi sl Q I rx hs pl pu q;rcases q with q|q
 ·exact h pins s σ H x v vl vu lo hi sl Q I rx hs pl pu q
 ·exact h' pins s σ H x v vl vu lo hi sl Q I rx hs pl pu q
def O4 (r:V->Option Int->Option Int->Hp->VK->Prop)(te:TE)(tl th:TO):TE:=λ σ H Q=>te σ H λ x H1=>tl σ H1 λ l H2=>th σ H2 λ u H3=>r x l u H3 Q
def Eb {r:V->Option Int->Option Int->Hp->VK->Prop}(hr:Jy X r)(he:PE X e te)(hl:PO X lo tl)(hu:PO X hi th):PE X (.Subscript e (.Slice lo hi none p2) pos) (O4 r te tl th):=by
 intro pins s σ H Q I h;refine Subscript_ (eN (he pins s σ H _ I h) λ v s1 hq5=>L2.ex5 hq5 λ x H1 I1 r1 q1=>?_);refine wpAny_Slice (eN (hl pins s1 σ H1 _ I1 q1) λ vl s2 hq5=>L2.ex5 hq5 λ l H2 I2 pl q2=>eN (hu pins s2 σ H2 _ I2 q2) λ vu s3 hq5=>L2.ex5 hq5 λ u H3 I3 pu q3=>?_);rw[evalPart_none];refine Po ?_;have I4:Inv X pins σ H3 { s3 with heap:=s3.heap.push { cls:=.type "slice",data:=.fields #[vl,vu,.none] } }:=I3.kept (t':=s3.toks) λ b ob q=>Pj _ q;obtain⟨T,id,hT,ht,hg⟩:=hr pins { s3 with heap:=s3.heap.push { cls:=.type "slice",data:=.fields #[vl,vu,.none] } } σ H3 x v vl vu l u s3.heap.objs.size Q I4 r1 (Heap.IsSliceOf.new ..) pl pu q3;show wpAny #[13] X.A (subscriptTail e (.Slice lo hi none p2) v (.ref s3.heap.objs.size)) (EP X pins σ Q) X.xe { s3 with heap:=s3.heap.push { cls:=.type "slice",data:=.fields #[vl,vu,.none] } };exact tail_any (ops:=[.ref s3.heap.objs.size,v]) ht hT hg (by with_unfolding_all rfl)
def xu (xs:List V)(lo hi:Option Int):List V:=(xs.drop (HT.fX xs.length 0 lo)).take (HT.fX xs.length xs.length hi-HT.fX xs.length 0 lo)
def pV (xs:List V)(lo hi:Option Int):(xu xs lo hi).length<=xs.length:=by
 unfold xu;rw[Ry,Se];omega
def Oc (K:#[0]):V->Option Int->Option Int->Hp->VK->Prop:=λ x lo hi H Q=>∃ a xs,x=.ref a/\jW K H a xs /\
 ¬ (HT.fX xs.length 0 lo=0/\HT.fX xs.length xs.length hi=xs.length)/\∀ p,H p=none->Q (.ref p) (upd H p (.tup (xu xs lo hi)))
def KJ:Jy X (Oc X.K):=by
 intro pins s σ H x v vl vu lo hi sl Q I rx hs pl pu h;obtain⟨a,xs,rfl,hx,hw,q⟩:=h;cases rx;obtain⟨its,r,ht,hz⟩:=I.tuple hx;have hlen:its.toArray.size=xs.length:=by rw[PK];exact r.length.symm
 refine⟨"tuple",_,PyProof.Rows.slot_tuple_getitem.lookup,ht.typeIs,?_⟩;refine HT.nH ht hs pl pu (by rw[hlen];exact hw) ?_ (by rw[hlen];exact hz);rw[hlen];refine⟨.ref s.heap.objs.size,_,I.laid (t':=s.toks) (o:=.tup (xu xs lo hi)) (λ b ob q=>Pj _ q) (Py _) ?_,rfl,q _ (I.hok.fresh (Py _))⟩;exact⟨QG (pV xs lo hi) hz,_,(r.drop (HT.fX xs.length 0 lo)).take (HT.fX xs.length xs.length hi-HT.fX xs.length 0 lo),xj.new _ _⟩
def Jz (K:#[0]):R2:=λ x y H Q=>∃ a b xs ys,x=.ref a/\y=.ref b/\jW K H a xs/\jW K H b ys/\xs≠[]/\xs.length+ys.length<=sizeLine /\
 (ys=[]->Q (.ref a) H)/\(ys≠[]->∀ p,H p=none->Q (.ref p) (upd H p (.tup (xs++ys))))
def Vals.lT {xs:List V}(r:Vals xs us):us=[]↔xs=[]:=by
 cases r with
 |nil=>simp|cons _ _=>simp
def Hr:kO X (binaryOp .Add) (Jz X.K):=by
 intro pins s σ H x y v u Q I rx ry h;obtain⟨a,b,xs,ys,rfl,rfl,ha,hb,hx,hz,q1,q2⟩:=h;cases rx;cases ry;obtain⟨its,r1,p1,_⟩:=I.tuple ha;obtain⟨its2,r2,p2,_⟩:=I.tuple hb;refine HT.Hj p1 p2 (λ z=>hx (r1.lT.mp z)) (λ z=>⟨.ref a,H,I,rfl,q1 (r2.lT.mp z)⟩) (λ z=>?_) (by rw[<-r1.length,<-r2.length];exact hz);refine⟨.ref s.heap.objs.size,_,I.laid (t':=s.toks) (o:=.tup (xs++ys)) (λ b ob q=>Pj _ q) (Py _) ?_,rfl,q2 (λ w=>z (r2.lT.mpr w)) _ (I.hok.fresh (Py _))⟩;exact⟨by rw[Pz];exact hz,_,r1.append r2,xj.new _ _⟩
end
def Hq (n:Nat)(i:Int):Option Nat:=if 0<=i then (if i<n then some i.toNat else none) else if -(n:Int)<=i then some (i+n).toNat else none
def tw(xs:List α)(i:Int):Option α:=(Hq xs.length i).bind λ j=>xs[j]?
def Hn{i:Int}{j:Nat}(h:Hq n i=some j):seqIndex? i n=some j/\j<n /\ -(n:Int)<=i/\i<n:=by
 unfold Hq at h;by_cases h0:0<=i
 ·rw[PH h0]at h;by_cases h1:i<n
  ·rw[PH h1]at h;have e:i.toNat=j:=QC h;exact⟨by rw[seqIndex_of h0 h1,e],by omega,by omega,h1⟩
  ·rw[PL h1]at h;cases h
 ·rw[PL h0]at h;by_cases h1 : -(n:Int)<=i
  ·rw[PH h1]at h;have e:(i+n).toNat=j:=QC h;exact⟨by rw[seqIndex_neg #[1] h1,e],by omega,h1,by omega⟩
  ·rw[PL h1]at h;cases h
def vq{xs:List α}{i:Int}{v:α}(h:tw xs i=some v):∃ j,seqIndex? i xs.length=some j/\xs[j]?=some v/\j<xs.length /\ -(xs.length:Int)<=i/\i<xs.length:=by
 unfold tw at h;cases e:Hq xs.length i with
 |none=>rw[e]at h;cases h
 | some j =>
  rw[e]at h;obtain⟨h1,h2,h3,h4⟩:=Hn e;exact⟨j,h1,h,h2,h3,h4⟩
def Hl{xs:List α}{j:Nat}{v:α}(h:xs[j]?=some v):tw xs (j:Int)=some v:=by
 have hj:j<xs.length:=(Pw.mp h).1;have e:Hq xs.length (j:Int)=some j:=by
  unfold Hq;rw[PH #[1],PH #[1]];simp
 unfold tw;rw[e];exact h
def vy (b:Expr):Prop:=∀ o i,subscripted b false o i=operate [o,i] (getItem o i)
def GY (X:Cx)(r:R2):Prop:=
 ∀ (value slice:Expr) (pins:#[15]) (s:Shared) (σ:St) (H:Hp) (x y:V) (v u:Value) (Q:VK),Inv X pins σ H s->RelV x v->RelV y u->r x y H Q ->
  subscripted slice false v u=operate [v,u] (getItem v u)->wpAny #[13] X.A (subscriptTail value slice v u) (EP X pins σ Q) X.xe s
def OR (X:Cx)(id:String)(r:V->List V->Hp->VK->Prop):Prop:=
 ∀ (pins:#[15]) (s:Shared) (σ:St) (H:Hp) (x:V) (xs:List V) (v:Value) (us:#[22]) (Q:VK),Inv X pins σ H s->RelV x v->Vals xs us->r x xs H Q ->
  wpAny #[13] X.A (call (.builtin id) (v::us)) (EP X pins σ Q) X.xe s
section
variable{a b:Expr}{ta tb:TE}
def GY.or {r r':R2}(h:GY X r)(h':GY X r'):GY X (λ x y H Q=>r x y H Q\/r' x y H Q):=by
 intro value slice pins s σ H x y v u Q I rx ry q hs;rcases q with q|q
 ·exact h value slice pins s σ H x y v u Q I rx ry q hs
 ·exact h' value slice pins s σ H x y v u Q I rx ry q hs
def MB {r:R2}(hr:GY X r)(ha:PE X a ta)(hb:PE X b tb)(hs:vy b):PE X (.Subscript a b pos) (NB r ta tb):=by
 intro pins s σ H Q I h;exact Subscript_ (Km ha hb I h λ v u s2 x y H2 I2 rx ry q=>hr a b pins s2 σ H2 x y v u Q I2 rx ry q (hs _ _))
def MG (K:#[0]):R2:=λ x y H Q=>∃ p xs i v,x=.ref p/\y=.int i/\eQ K H p xs/\tw xs i=some v/\Q v H
def MF (K:#[0]):R2:=λ x y H Q=>∃ p xs i v,x=.ref p/\y=.int i/\jW K H p xs/\tw xs i=some v/\Q v H
def MC:R2:=λ x y H Q=>∃ z i c,x=.str z/\y=.int i/\z.length<=sizeLine/\tw z.cps.toList i=some c/\Q (.str ⟨#[c]⟩) H
def Hi:GY X (MG X.K):=by
 intro value slice pins s σ H x y v u Q I rx ry h hs;obtain⟨p,xs,i,z,rfl,rfl,hq,he,q⟩:=h;cases rx;obtain⟨t,rfl⟩:=ry;obtain⟨its,r,pl,hz⟩:=I.list hq;obtain⟨j,h1,h2,h3,h4,h5⟩:=vq he;obtain⟨w,ew,rw'⟩:=r.get h2;have hl:=r.length;have hn:=o6;have fin:EP X pins σ Q w s:=⟨z,H,I,rw',q⟩;by_cases h0:0<=i
 ·have hj:i.toNat=j:=by
   rw[seqIndex_of h0 h5]at h1;exact QC h1
  exact item_listR pl.isList h0 #[1] (by rw[hj];simpa using ew) fin hs
 ·have hj:(i+(its.toArray.size:Int)).toNat=j:=by
   rw[seqIndex_neg #[1] h4]at h1;rw[PK,<-hl];exact QC h1
  exact subscriptTail_builtinR (x:=w) pl.isList.typeIs slot_list_getitem.lookup
   (wpAny_getItem_list_neg (Q:=λ r s'=>r=w/\EP X pins σ Q r s') pl.isList #[1] (by rw[PK]<;>omega) #[1] (by rw[hj];simpa using ew) ⟨rfl,fin⟩) hs
def fY:GY X (MF X.K):=by
 intro value slice pins s σ H x y v u Q I rx ry h hs;obtain⟨p,xs,i,z,rfl,rfl,hq,he,q⟩:=h;cases rx;obtain⟨t,rfl⟩:=ry;obtain⟨its,r,pl,hz⟩:=I.tuple hq;obtain⟨j,h1,h2,h3,h4,h5⟩:=vq he;obtain⟨w,ew,rw'⟩:=r.get h2;have hl:=r.length;have hn:=o6;have fin:EP X pins σ Q w s:=⟨z,H,I,rw',q⟩;exact subscriptTail_builtinR (x:=w) pl.typeIs slot_tuple_getitem.lookup
  (getItem_tuple (j:=j) (Q:=λ r s'=>r=w/\EP X pins σ Q r s') pl #[1] #[1] (by rw[PK,<-hl];exact h1) (by simpa using ew) ⟨rfl,fin⟩) hs
def KI:GY X MC:=by
 intro value slice pins s σ H x y v u Q I rx ry h hs;obtain⟨z,i,c,rfl,rfl,hz,he,q⟩:=h;obtain⟨t,rfl⟩:=rx;obtain⟨t',rfl⟩:=ry;obtain⟨j,h1,h2,h3,h4,h5⟩:=vq he;have hl:z.cps.toList.length=z.length:=by simp[Str.length]
 rw[hl]at h1 h4 h5;have hn:=o6;exact tail_any (typeIs_str s z t) slot_str_getitem.lookup (getItem_str (c:=c) (by
  have e1:decide (i < -(2^63:Int))=false:=PQ #[1];have e2:decide (i≥2^63)=false:=PQ #[1];rw[e1,e2,Bool.or_false]) (by rw[h1];simpa using h2) ⟨.str ⟨#[c]⟩,H,I.tok _,⟨_,rfl⟩,q⟩) hs
def OQ (K:#[0]):R2:=λ x y H Q=>MG K x y H Q\/MF K x y H Q\/MC x y H Q
def KN:GY X (OQ X.K):=Hi.or (fY.or KI)
def vn (lo hi:Option Int)(n:Nat):(sliceBounds lo hi none n).1=((HT.fX n 0 lo:Nat):Int)/\(sliceBounds lo hi none n).2.1=((HT.fX n n hi:Nat):Int)/\(sliceBounds lo hi none n).2.2=1:=by
 refine⟨?_,?_,rfl⟩
 ·cases lo with
  |none=>simp[sliceBounds,HT.fX]
  | some i =>
   simp only[sliceBounds,HT.fX,Uq,show(1:Int)>0 by decide,RE];by_cases h:i<0
   ·simp only[h,RE]<;>omega
   ·simp only[h,RL]<;>omega
 ·cases hi with
  |none=>simp[sliceBounds,HT.fX]
  | some i =>
   simp only[sliceBounds,HT.fX,Uq,show(1:Int)>0 by decide,RE];by_cases h:i<0
   ·simp only[h,RE]<;>omega
   ·simp only[h,RL]<;>omega
def tu (its:#[22])(lo hi:Option Int):slicePick its.toArray lo hi none=((its.drop (HT.fX its.length 0 lo)).take (HT.fX its.length its.length hi-HT.fX its.length 0 lo)).toArray:=by
 obtain⟨h1,h2,h3⟩:=vn lo hi its.toArray.size;unfold slicePick;rw[h1,h2,h3];simp only[sliceRange_one,pick_run,PK]<;>rfl
def Oe (K:#[0]):V->Option Int->Option Int->Hp->VK->Prop:=λ x lo hi H Q=>∃ a xs,x=.ref a/\eQ K H a xs/\∀ p,H p=none->Q (.ref p) (upd H p (.lst (xu xs lo hi)))
def Hk:Jy X (Oe X.K):=by
 intro pins s σ H x v vl vu lo hi sl Q I rx hs pl pu h;obtain⟨a,xs,rfl,hx,q⟩:=h;cases rx;obtain⟨its,r,ht,hz⟩:=I.list hx;have hlen:=r.length;refine⟨"list",_,slot_list_getitem.lookup,ht.isList.typeIs,?_⟩;refine wpAny_getItem_list_slice ht.isList hs pl pu .none #[25] ?_ (by rw[PK]<;>omega);rw[tu,<-hlen];refine⟨.ref s.heap.objs.size,_,I.laid (t':=s.toks) (o:=.lst (xu xs lo hi)) (λ b ob q=>Pj _ q) (Py _) ?_,rfl,q _ (I.hok.fresh (Py _))⟩;exact⟨QG (pV xs lo hi) hz,_,0,(r.drop (HT.fX xs.length 0 lo)).take (HT.fX xs.length xs.length hi-HT.fX xs.length 0 lo),Pu _ rfl⟩
def mE:V->Bool
 |.a8=>true
 |.bl _=>true
 |.int _=>true
 |.str _=>true
 |_=>false
def GZ:V->V->Bool
 |.a8,.a8=>true
 |.bl a,.bl b=>a == b
 |.bl a,.int b=>(if a then 1 else 0) == b
 |.int a,.bl b=>a == (if b then 1 else 0)
 |.int a,.int b=>a == b
 |.str a,.str b=>a == b
 |_,_=>false
def KH{v:Value}(ry:RelV y u)(rx:RelV x v)(fy:mE y=true)(fx:mE x=true):SeqAt.EqAt A s u v (GZ y x):=by
 cases y with
 | a8 =>
  cases ry;cases x with
  |a8=>cases rx;exact SeqAt.EqAt.same _|bl b=>cases rx;exact SeqAt.EqAt.none_bool b|int b=>obtain⟨t,rfl⟩:=rx;exact SeqAt.EqAt.none_int b t|str b=>obtain⟨t,rfl⟩:=rx;exact SeqAt.EqAt.none_str b t|_=>exact absurd (show false=true from fx) Pq
 | bl a =>
  cases ry;cases x with
  |a8=>cases rx;exact SeqAt.EqAt.bool_none a|bl b=>cases rx;exact SeqAt.EqAt.bool_bool a b|int b=>obtain⟨t,rfl⟩:=rx;exact SeqAt.EqAt.bool_int a b t|str b=>obtain⟨t,rfl⟩:=rx;exact SeqAt.EqAt.bool_str a b t|_=>exact absurd (show false=true from fx) Pq
 | int a =>
  obtain⟨t',rfl⟩:=ry;cases x with
  |a8=>cases rx;exact SeqAt.EqAt.int_none a t'| bl b=>cases rx;exact SeqAt.EqAt.int_bool a t' b|int b=>obtain⟨t,rfl⟩:=rx;exact SeqAt.EqAt.int_int a t' b t|str b=>obtain⟨t,rfl⟩:=rx;exact SeqAt.EqAt.int_str a t' b t|_=>exact absurd (show false=true from fx) Pq
 | str a =>
  obtain⟨t',rfl⟩:=ry;cases x with
  |a8=>cases rx;exact SeqAt.EqAt.str_none a t'| bl b=>cases rx;exact SeqAt.EqAt.str_bool a t' b|int b=>obtain⟨t,rfl⟩:=rx;exact SeqAt.EqAt.str_int a t' b t|str b=>obtain⟨t,rfl⟩:=rx;exact SeqAt.EqAt.str_str a t' b t|_=>exact absurd (show false=true from fx) Pq
 |_=>exact absurd (show false=true from fy) Pq
def Ho (x:V)(u:Value):Bool:=match u with
 |.none=>GZ .a8 x
 |.bool b=>GZ (.bl b) x
 |.int i _=>GZ (.int i) x
 |.str z _=>GZ (.str z) x
 |_=>false
def Ea(r:RelV y u)(f:mE y=true):Ho x u=GZ y x:=by
 cases y with
 |a8=>cases r;rfl|bl b=>cases r;rfl|int i=>obtain⟨t,rfl⟩:=r;rfl|str z=>obtain⟨t,rfl⟩:=r;rfl|_=>exact absurd (show false=true from f) Pq
def vz {x:V}:∀ {xs:List V}{us:#[22]},Vals xs us->xs.all mE=true->us.any (Ho x)=xs.any λ y=>GZ y x
 |_,_,.nil,_=>rfl
 | y::xs,u::us,.cons r t,f=>by
  rw[Ul,Ql]at f;rw[Rx,Rx,Ea r f.1,vz t f.2]
def qU {A:Around}{s:Shared}{x:V}{v:Value}(rx:RelV x v)(fx:mE x=true):∀ {xs:List V}{us:#[22]},Vals xs us->xs.all mE=true->∀ u∈us,SeqAt.EqAt A s u v (Ho x u)
 |_,_,.nil,_=>λ u hu=>by cases hu
 | y::xs,u::us,.cons r t,f=>λ u' hu=>by
  rw[Ul,Ql]at f;rcases PB.mp hu with rfl|hu
  ·rw[Ea r f.1];exact KH r rx f.1 fx
  ·exact qU rx fx t f.2 u' hu
def NF (x:V)(xs:List V):Bool:=xs.any λ y=>GZ y x
def OS (K:#[0])(neg:Bool):R2:=λ x y H Q=>∃ p xs,y=.ref p/\(eQ K H p xs\/jW K H p xs)/\mE x=true/\xs.all mE=true/\Q (.bl (if neg then !NF x xs else NF x xs)) H
def gq:kO X (compareOp .NotIn) (OS X.K true):=by
 intro pins s σ H x y v u Q I rx ry h;obtain⟨p,xs,rfl,hq,fx,fs,q⟩:=h;cases ry;rcases hq with hq|hq
 ·obtain⟨its,r,pl,hz⟩:=I.list hq;refine SeqAt.notIn_listAt (Ho x) pl.isList (λ w hw=>qU rx fx r fs w (by simpa using hw)) ⟨.bl _,H,I,rfl,?_⟩;rw[show its.toArray.any (Ho x)=its.any (Ho x) by simp,vz r fs];exact q
 ·obtain⟨its,r,pl,hz⟩:=I.tuple hq;refine SeqAt.notIn_tupleAt (Ho x) pl (λ w hw=>qU rx fx r fs w (by simpa using hw)) ⟨.bl _,H,I,rfl,?_⟩;rw[show its.toArray.any (Ho x)=its.any (Ho x) by simp,vz r fs];exact q
def vo:eO X (.builtin "len") (λ xs H Q=>∃ p ys,xs=[.ref p]/\(eQ X.K H p ys\/jW X.K H p ys)/\Q (.int ys.length) H):=by
 intro pins s σ H xs us Q I r h;obtain⟨p,ys,rfl,hq,q⟩:=h;obtain⟨u,rfl,rx⟩:=vals1 r;cases rx;have hn:=o6;rcases hq with hq|hq
 ·obtain⟨its,r',pl,hz⟩:=I.list hq;have hlen:=r'.length;exact Calls.call_len_list pl.isList (by simp only[PK]<;>omega) ⟨.int ys.length,H,I.tok _,⟨s.toks+1,by rw[PK,hlen]⟩,q⟩
 ·obtain⟨its,r',pl,hz⟩:=I.tuple hq;have hlen:=r'.length;exact len_tuple pl (by simp only[PK]<;>omega) ⟨.int ys.length,H,I.tok _,⟨s.toks+1,by rw[PK,hlen]⟩,q⟩
def vp:eO X (.builtin "len") (λ xs H Q=>∃ z,xs=[.str z]/\z.length<=sizeLine/\Q (.int z.length) H):=by
 intro pins s σ H xs us Q I r h;obtain⟨z,rfl,hz,q⟩:=h;obtain⟨u,rfl,t,rfl⟩:=vals1 r;have hn:=o6;exact len_str #[1] ⟨.int z.length,H,I.tok _,⟨_,rfl⟩,q⟩
def eO.or {f:Value}{r r':List V->Hp->VK->Prop}(h:eO X f r)(h':eO X f r'):eO X f (λ xs H Q=>r xs H Q\/r' xs H Q):=by
 intro pins s σ H xs us Q I rs q;rcases q with q|q
 ·exact h pins s σ H xs us Q I rs q
 ·exact h' pins s σ H xs us Q I rs q
def vv:eO X (.type "list") (λ xs H Q=>∃ p ys,xs=[.ref p]/\(eQ X.K H p ys\/jW X.K H p ys)/\∀ l,H l=none->Q (.ref l) (upd H l (.lst ys))):=by
 intro pins s σ H xs us Q I r h;obtain⟨p,ys,rfl,hq,q⟩:=h;obtain⟨u,rfl,rx⟩:=vals1 r;cases rx;have fin:∀ (its:#[22]),Vals ys its->ys.length<=sizeLine->∀ (h':Heap) (c':Nat),(∀ b o',s.heap.get? b=some o'->h'.get? b=some o') ->
   h'.get? s.heap.objs.size=some { cls:=.type "list",dict:=none,data:=.seq its.toArray c',slots:=#[] }->EP X pins σ Q #[42] { s with heap:=h' }:=λ its r' hz h' c' kp e=>
  ⟨.ref s.heap.objs.size,_,I.laid (t':=s.toks) kp (Py _) (show ck X.prog X.w _ h' _ (.lst ys) from ⟨hz,its,c',r',e⟩),rfl,q _ (I.hok.fresh (Py _))⟩
 rcases hq with hq|hq
 ·obtain⟨its,r',pl,hz⟩:=I.list hq;have hlen:=r'.length;obtain⟨o,ho,hc,n,hd⟩:=pl.isList;exact call_list_seq p (.inl rfl) ho hc hd (λ h' c' kp e=>fin its r' hz h' c' kp e) (by simp only[PK]<;>omega)
 ·obtain⟨its,r',pl,hz⟩:=I.tuple hq;have hlen:=r'.length;obtain⟨o,ho,hc,n,hd⟩:=pl;exact call_list_seq p (.inr rfl) ho hc hd (λ h' c' kp e=>fin its r' hz h' c' kp e) (by simp only[PK]<;>omega)
def jm:eO X (.type "tuple") (λ xs H Q=>∃ p ys,xs=[.ref p]/\((eQ X.K H p ys/\∀ l,H l=none->Q (.ref l) (upd H l (.tup ys)))\/(jW X.K H p ys/\Q (.ref p) H))):=by
 intro pins s σ H xs us Q I r h;obtain⟨p,ys,rfl,h⟩:=h;obtain⟨u,rfl,rx⟩:=vals1 r;cases rx;rcases h with ⟨hq,q⟩|⟨hq,q⟩
 ·obtain⟨its,r',pl,hz⟩:=I.list hq;have hlen:=r'.length;refine call_tuple_list pl.isList (λ h' kp=>?_) (by simp only[PK]<;>omega);have I1:Inv X pins σ H { s with heap:=h' }:=I.kept (t':=s.toks) kp;have I2:Inv X pins σ (upd H h'.objs.size (.tup ys)) { s with heap:=h'.push { cls:=.type "tuple",data:=.seq its.toArray } }:=
   I1.laid (t':=s.toks) (λ b o e=>Pj _ e) (Py _) (show ck X.prog X.w _ _ _ (.tup ys) from ⟨hz,its,r',xj.new _ _⟩)
  exact⟨.ref h'.objs.size,_,I2,rfl,q _ (I1.hok.fresh (Py _))⟩
 ·obtain⟨its,r',pl,hz⟩:=I.tuple hq;exact call_tuple_same pl ⟨.ref p,H,I,rfl,q⟩
def ND (K:#[0])(T:String)(x:V)(H:Hp):Prop:=match x with
 |.str _=>T = "str"
 |.int _=>T = "int"
 | .ref p=>(T = "list" /\ ∃ xs,eQ K H p xs)\/(T = "tuple" /\ ∃ o,K.lookup p=some o/\o.cls=.type "tuple" /\ o.dict=none) ∨
   (T = "dict" /\ ((∃ kvs ep,H p=some (.dK kvs ep))\/∃ kvs ep,H p=some (.dT kvs ep)))\/(T = "set" /\ ∃ S n,H p=some (.set S n))
 |_=>False
def vt{v:Value}(I:#[5])(r:RelV x v)(ty:ND X.K T x H) :
  s.TypeIs v T/\∀ a,v=.ref a->∃ ob,s.heap.get? a=some ob/\ob.dict=none:=by
 cases x with
 | str z =>
  obtain⟨t,rfl⟩:=r;cases (show T = "str" from ty);exact⟨typeIs_str s z t,λ _ e=>nomatch e⟩
 | int i =>
  obtain⟨t,rfl⟩:=r;cases (show T = "int" from ty);exact⟨typeIs_int s i t,λ _ e=>nomatch e⟩
 | ref p =>
  cases r;rcases ty with ⟨rfl,xs,hq⟩|⟨rfl,o,hk,hc,hd⟩|⟨rfl,hk⟩|⟨rfl,S,n,hk⟩
  ·obtain⟨its,_,pl,_⟩:=I.list hq;refine⟨pl.isList.typeIs,λ a e=>?_⟩;cases e;obtain⟨o,n,e,c,hd,_⟩:=pl;exact⟨o,e,hd⟩
  ·refine⟨⟨o,I.oV p o hk,hc⟩,λ a e=>?_⟩;cases e;exact⟨o,I.oV _ o hk,hd⟩
  ·have z:∃ o,s.heap.get? p=some o/\o.ExactDict:=by
    rcases hk with ⟨kvs,ep,hk⟩|⟨kvs,ep,hk⟩
    ·obtain⟨_,_,_,_,o,_,e,ex,_⟩:=I.hok p _ hk;exact⟨o,e,ex⟩
    ·obtain⟨_,_,_,_,o,_,e,ex,_⟩:=I.hok p _ hk;exact⟨o,e,ex⟩
   obtain⟨o,e,ex⟩:=z;refine⟨⟨o,e,ex.1⟩,λ a e2=>?_⟩;cases e2;exact⟨o,e,ex.2.1⟩
  ·obtain⟨o,_,_,_,e,ex,_⟩:=I.hok p _ hk;refine⟨⟨o,e,ex.1⟩,λ a e2=>?_⟩;cases e2;exact⟨o,e,ex.2.1⟩
 |_=>exact False.elim ty
def Od (K:#[0])(T:String)(r:V->List V->Hp->VK->Prop)(to:TE):TE:=λ σ H Q=>to σ H λ x H1=>ND K T x H1/\r x [] H1 Q
def NC (K:#[0])(T:String)(r:V->List V->Hp->VK->Prop)(to:TE)(t:TA):TE:=λ σ H Q=>to σ H λ x H1=>ND K T x H1/\t σ H1 λ xs H2=>r x xs H2 Q
variable {o:Expr}{es:#[92]}{to:TE}{t:TA}{name:Str}{apos cpos:Pos}{id:String}{r:V->List V->Hp->VK->Prop}
def zp (pa:PlainAttrs T)(slot:Slot T name id)(hty:typeOf (.builtin id)=pure (.type "method_descriptor"))(hm:OR X id r)(ho:PE X o to)
  (hbase:attributeBase o name X.env (eval o X.env)=eval o X.env:=by rfl) (hline:#[47]:=by rfl):PE X (.Call (.Attribute o name apos) [] [] cpos) (Od X.K T r to):=by
 intro pins s σ H Q I h;refine Sz hbase hline (eN (ho pins s σ H _ I h) λ v s1 ⟨x,H1,I1,r1,ty,q1⟩=>?_);obtain⟨h1,h2⟩:=vt I1 r1 ty;exact⟨T,id,pa,slot,hty,h1,h2,RZ rfl (Tv (hm pins s1 σ H1 x [] v [] Q I1 r1 .nil q1))⟩
def qS (pa:PlainAttrs T)(slot:Slot T name id)(hty:typeOf (.builtin id)=pure (.type "method_descriptor"))(hm:OR X id r)(ho:PE X o to)(ha:PA X (e::es) t)
  (hbase:attributeBase o name X.env (eval o X.env)=eval o X.env:=by rfl)
  (hfew:((backTo cpos (starEach (e::es) X.env)).all (λ x=>!x.1)&&(backToKw cpos (keywordEach [] X.env)).all (λ x=>x.1.isSome)
   && decide ((e::es).length+([]:List Keyword).length+(if ([]:List Keyword).isEmpty then 0 else 1)<30))=true:=by rfl)
  (hline:#[47]:=by rfl) (hs:#[9]:=by rfl) (hplain:(backTo cpos (starEach es X.env)).any (·.1)=false:=by rfl) :
  PE X (.Call (.Attribute o name apos) (e::es) [] cpos) (NC X.K T r to t):=by
 intro pins s σ H Q I h;refine wpAny_Call_method_late hbase hfew hline rfl (eN (ho pins s σ H _ I h) λ v s1 ⟨x,H1,I1,r1,ty,q1⟩=>?_);obtain⟨h1,h2⟩:=vt I1 r1 ty;refine⟨T,id,pa,slot,hty,h1,h2,?_⟩;have hA:=ha cpos pins s1 σ H1 _ I1 q1;rw[hs]at hA ⊢;refine RZ (by show(false||(backTo cpos (starEach es X.env)).any (·.1))=false;rw[hplain]<;>rfl) (Calls.evalArgs_plain ?_);exact eN hA λ us s2 hq5=>L2.ex5 hq5 λ vs H2 I2 r2 q2=>hm pins s2 σ H2 x vs v us Q I2 r1 r2 q2
end
def L8 (X:Cx)(id:String)(r:V->List V->Hp->VK->Prop):Prop:=
 ∀ (pins:#[15]) (s:Shared) (σ:St) (H:Hp) (x:V) (xs:List V) (v:Value) (us:#[22]) (Q:VK),Inv X pins σ H s->RelV x v->Vals xs us->r x xs H Q ->
  wpAny #[13] X.A (call (.builtin id) (v::us)) (EP X pins σ Q) X.xe s
def Vals.one(h:Vals [x] us):∃ u,us=[u]/\RelV x u:=by
 cases h with
 |cons r h=>cases h;exact⟨_,rfl,r⟩
def Vals.two(h:Vals [x,y] us):∃ u v,us=[u,v]/\RelV x u/\RelV y v:=by
 cases h with
 | cons r h =>
  cases h with
  |cons q h=>cases h;exact⟨_,_,rfl,r,q⟩
def Vals.zero:∀ {us:#[22]},Vals [] us->us=[]
 |_,.nil=>rfl
def Vals.dropLast {xs:List V}(h:Vals xs us):Vals xs.dropLast us.dropLast:=by
 induction h with
 |nil=>exact .nil
 | cons r t ih =>
  cases t with
  |nil=>exact .nil|cons q t'=>exact .cons r ih
def Vals.reverse {xs:List V}(h:Vals xs us):Vals xs.reverse us.reverse:=by
 induction h with
 |nil=>exact .nil|cons r t ih=>rw[SG,SG];exact Vals.append ih (.cons r .nil)
def zq(l:List α):l.eraseIdx (l.length-1)=l.dropLast:=by
 induction l with
 |nil=>rfl
 | cons a r ih =>
  cases r with
  |nil=>rfl
  | cons b r =>
   have e:(a::b::r).length-1=((b::r).length-1)+1:=by
    have h1:(a::b::r).length=r.length+2:=rfl;have h2:(b::r).length=r.length+1:=rfl;omega
   rw[e,List.eraseIdx_cons_succ,ih]
   all_goals rfl
section
variable{l:Addr}{xs ys zs:List V}
def Inv.D8 {its its':#[22]}{f:Array Value->Array Value}(I:#[5])(hH:H l=some (.lst xs))
  (e:s.heap.get? l=some { cls:=.type "list",data:=.seq its.toArray n }) (hf:f its.toArray=its'.toArray) (hv:Vals ys its') (hz:ys.length<=sizeLine) :
  Inv X pins σ (upd H l (.lst ys)) { s with heap:=s.heap.update l (Obj.mapSeq f),toks:=t' }:=by
 have q:=PySem.IsL.update e f;rw[hf]at q;refine I.write (x:=l) (e:=l) (by rw[hH];exact trivial) (.inl rfl) (λ b' u hb hu=>(QB s.heap (Obj.mapSeq f) (QK hb)).trans hu) ⟨_,q⟩ ?_;exact⟨hz,its',_,hv,q⟩
def Inv.MD {its:#[22]}(I:#[5])(hv:Vals ys its)(hz:ys.length<=sizeLine) :
  Inv X pins σ (upd H s.heap.objs.size (.lst ys)) { s with heap:=s.heap.push { cls:=.type "list",data:=.seq its.toArray },toks:=t' }:=
 I.laid (λ _ _ q=>Pj _ q) (Py _) ⟨hz,its,0,hv,Pu _ rfl⟩
def Inv.fresh (I:#[5]):H s.heap.objs.size=none:=I.hok.fresh (Py _)
def Inv.CC (I:#[5])(hH:H l=some (.lst xs)):xs.length<=sizeLine/\∃ (its:#[22]) (n:Nat),Vals xs its/\xs.length=its.length/\s.heap.get? l=some { cls:=.type "list",data:=.seq its.toArray n }:=by
 obtain⟨z,its,n,r,e⟩:=I.hok l _ hH;exact⟨z,its,n,r,r.length,e⟩
def xw(h:n<=sizeLine):Builtin.List.listTooLong n=false:=by
 unfold Builtin.List.listTooLong;exact PQ #[1]
end
section
def AZ:V->List V->Hp->VK->Prop:=λ x vs H Q=>∃ l xs y,x=.ref l/\vs=[y]/\H l=some (.lst xs)/\xs.length<sizeLine/\Q .a8 (upd H l (.lst (xs++[y])))
def lU:L8 X "list.append" AZ:=by
 intro pins s σ H x vs v us Q I rx rv h;obtain⟨l,xs,y,rfl,rfl,hH,hz,q⟩:=h;cases rx;obtain⟨u,rfl,ru⟩:=rv.one;obtain⟨z,its,n,r,hl,e⟩:=I.CC hH;refine TQ F.slot_list_append ⟨_,e,rfl⟩ F.entry_list_append (F.args_list_append_2 _ _) (PySem.list_append l its.toArray n u (by rw[PK];omega)) ⟨e,?_⟩;refine⟨.a8,_,I.D8 (its':=its++[u]) hH e #[25] (r.append (.cons ru .nil)) ?_,rfl,q⟩;rw[Pz,P9];omega
def Ht:V->List V->Hp->VK->Prop:=λ x vs H Q=>∃ l b xs zs,x=.ref l/\vs=[.ref b]/\H l=some (.lst xs)/\H b=some (.lst zs)/\xs.length+zs.length<=sizeLine/\Q .a8 (upd H l (.lst (xs++zs)))
def ue:L8 X "list.extend" Ht:=by
 intro pins s σ H x vs v us Q I rx rv h;obtain⟨l,b,xs,zs,rfl,rfl,hH,hB,hz,q⟩:=h;cases rx;obtain⟨u,rfl,ru⟩:=rv.one;cases ru;obtain⟨z,its,n,r,hl,e⟩:=I.CC hH;obtain⟨z2,its2,n2,r2,hl2,e2⟩:=I.CC hB;have hsz:its.toArray.size+its2.toArray.size<=sizeLine:=by rw[PK,PK];omega
 have hlong:¬ (!its.toArray.isEmpty&&Builtin.List.listTooLong (its.toArray.size+its2.toArray.size))=true:=by
  rw[xw hsz,UA];exact Pq
 refine TQ F.slot_list_extend ⟨_,e,rfl⟩ F.entry_list_extend (F.args_list_extend_2 _ _)
  (AutoSeq1.list_extend_list_list_0 l its.toArray n b its2.toArray n2 hlong (by rw[PK];omega) #[1]) ⟨e,e2,?_⟩
 refine⟨.a8,_,I.D8 (its':=its++its2) hH e #[25] (r.append r2) ?_,rfl,q⟩;rw[Pz];omega
def Ob:V->List V->Hp->VK->Prop:=λ x vs H Q=>∃ l xs y,x=.ref l/\vs=[]/\H l=some (.lst xs)/\xs[xs.length-1]?=some y/\Q y (upd H l (.lst xs.dropLast))
def D9:L8 X "list.pop" Ob:=by
 intro pins s σ H x vs v us Q I rx rv h;obtain⟨l,xs,y,rfl,rfl,hH,hy,q⟩:=h;cases rx;have hus:=rv.zero;subst hus;obtain⟨z,its,n,r,hl,e⟩:=I.CC hH;obtain⟨u,hu,ru⟩:=r.get hy;have hy':its.toArray[its.toArray.size-1]?=some u:=by
  show its.toArray[its.length-1]?=some u;rw[<-Qp,<-hl];exact hu
 refine TQ F.slot_list_pop ⟨_,e,rfl⟩ F.entry_list_pop (F.args_list_pop_1 _) (MeetsSeq.list_pop_last l its.toArray n u hy' (by rw[PK];omega)) ⟨e,?_⟩;refine⟨y,_,I.D8 (its':=its.dropLast) hH e ?_ r.dropLast ?_,ru,q⟩
 ·show its.toArray.eraseIdxIfInBounds (its.toArray.size-1)=its.dropLast.toArray;rw[PK,List.eraseIdxIfInBounds_toArray,zq]
 ·rw[List.length_dropLast];omega
def D7:V->List V->Hp->VK->Prop:=λ x vs H Q=>∃ l xs,x=.ref l/\vs=[]/\H l=some (.lst xs)/\Q .a8 (upd H l (.lst xs.reverse))
def zu:L8 X "list.reverse" D7:=by
 intro pins s σ H x vs v us Q I rx rv h;obtain⟨l,xs,rfl,rfl,hH,q⟩:=h;cases rx;have hus:=rv.zero;subst hus;obtain⟨z,its,n,r,hl,e⟩:=I.CC hH;refine TQ F.slot_list_reverse ⟨_,e,rfl⟩ F.entry_list_reverse (F.args_list_reverse_1 _) (AutoSeq1.list_reverse_list_0 l its.toArray n (by rw[PK];omega)) ⟨e,?_⟩;refine⟨.a8,_,I.D8 (its':=its.reverse) hH e #[25] r.reverse ?_,rfl,q⟩;rw[List.length_reverse];omega
end
section
variable {prog:#[84]}
end
section
end
section
variable {κ:Type}[DecidableEq κ]
def jB (kvs:List (κ×V))(k:κ):Option V:=(kvs.find? λ kv=>decide (kv.1=k)).map (·.2)
def putK (kvs:List (κ×V))(k:κ)(v:V):List (κ×V):=
 if (kvs.any λ kv=>decide (kv.1=k))=true then kvs.map (λ kv=>if kv.1=k then (kv.1,v) else kv) else kvs++[(k,v)]
def k9 {p:κ×V}{r:List (κ×V)}{k:κ}(e:p.1=k):jB (p::r) k=some p.2:=by simp[jB,Rc,e]
def jC {p:κ×V}{r:List (κ×V)}{k:κ}(e:¬ p.1=k):jB (p::r) k=jB r k:=by simp[jB,Rc,e]
def xA (k:κ):∀ kvs:List (κ×V),(kvs.any λ kv=>decide (kv.1=k))=(jB kvs k).isSome
 |[]=>rfl
 | p::r=>by
  rw[Rx];by_cases e:p.1=k
  ·simp only[k9 e,P8 e,Bool.true_or,Option.isSome_some]
  ·rw[jC e,PQ e,Um];exact xA k r
def pW (kvs:List (κ×V))(k:κ)(v:V):(putK kvs k v).length<=kvs.length+1:=by
 unfold putK;split
 ·rw[Pk];omega
 ·rw[Pz,PU,Q2];omega
def qm.CF{u:Option Value}(r:qm o u):o.isSome=u.isSome:=by
 cases o with
 | none=>cases u with
  |none=>rfl|some _=>exact(show False from r).elim
 | some _=>cases u with
  |none=>exact(show False from r).elim|some _=>rfl
def KV.val {kvs:List (κ×V)}{vs:List (κ×Value)}(r:KV kvs vs)(k:κ):qm (jB kvs k) (valueAt vs k):=by
 unfold KV at r
 induction r with
 |nil=>exact True.intro
 | @cons p q ps qs h t ih =>
  obtain⟨h1,h2⟩:=h;by_cases e:p.1=k
  ·have e':q.1=k:=h1.symm.trans e;have b:valueAt (q::qs) k=some q.2:=by simp[valueAt,Rc,e']
   rw[k9 e,b];exact h2
  ·have e':¬ q.1=k:=λ z=>e (h1.trans z);have b:valueAt (q::qs) k=valueAt qs k:=by simp[valueAt,Rc,e']
   rw[jC e,b];exact ih
def KV.any {kvs:List (κ×V)}{vs:List (κ×Value)}(r:KV kvs vs)(k:κ):(kvs.any λ kv=>decide (kv.1=k))=vs.any λ kv=>decide (kv.1=k):=by
 unfold KV at r
 induction r with
 |nil=>rfl|cons h t ih=>rw[Rx,Rx,ih,h.1]
def KV.repl {kvs:List (κ×V)}{vs:List (κ×Value)}(r:KV kvs vs)(k:κ)(ry:RelV y u) :
  KV (kvs.map λ kv=>if kv.1=k then (kv.1,y) else kv) (vs.map λ kv=>if kv.1=k then (kv.1,u) else kv):=by
 unfold KV at r ⊢
 induction r with
 |nil=>exact .nil
 | @cons p q ps qs h t ih =>
  rw[PV,PV];refine .cons ?_ ih;obtain⟨h1,h2⟩:=h;by_cases e:p.1=k
  ·rw[PH e,PH (h1.symm.trans e)];exact⟨h1,ry⟩
  ·rw[PL e,PL (λ z=>e (h1.trans z))];exact⟨h1,h2⟩
def KV.put {kvs:List (κ×V)}{vs:List (κ×Value)}(r:KV kvs vs)(k:κ)(ry:RelV y u):KV (putK kvs k y) (stored vs k u):=by
 unfold putK stored;rw[r.any k];by_cases e:(vs.any λ kv=>decide (kv.1=k))=true
 ·rw[PH e,PH e];exact r.repl k ry
 ·rw[PL e,PL e];exact Paired.snoc r ⟨rfl,ry⟩
def KV.length {kvs:List (κ×V)}{vs:List (κ×Value)}(r:KV kvs vs):kvs.length=vs.length:=Ri r
end
def xx{k:Key}(r:RelV (kV k) u):(cE P w).is k u=true:=by
 cases k with
 |inl i=>obtain⟨t,e⟩:=(show ∃ t,u=Value.int i t from r);subst e;exact xq P w i t|inr x=>obtain⟨t,e⟩:=(show ∃ t,u=Value.str x t from r);subst e;exact xm P w x t
def uf {P:#[84]}{w:World}:∀ {ks:List Key}{us:#[22]},Vals (ks.map kV) us->ItemsAre (cE P w) ks us
 |[],_,r=>by rw[List.map_nil]at r;cases r;exact .nil
 | k::ks,_,r=>by
  rw[PV]at r;cases r with
  |cons h t=>exact .cons (xx h) (uf t)
abbrev KT (H:Hp):List (List Key×V)->List (List Key×Addr×Value)->Prop:=Paired λ p q=>p.1=q.1/\H q.2.1=some (.tup (p.1.map kV))/\RelV p.2 q.2.2
def KT.val(r:KT H kvs xs)(k:List Key):qm (jB kvs k) ((atKey xs k).map (·.2)):=by
 induction r with
 |nil=>exact True.intro
 | @cons p q ps qs h t ih =>
  obtain⟨h1,_,h2⟩:=h;by_cases e:p.1=k
  ·have e':q.1=k:=h1.symm.trans e;have b:atKey (q::qs) k=some q.2:=by simp[atKey,Rc,e']
   rw[k9 e,b];exact h2
  ·have e':¬ q.1=k:=λ z=>e (h1.trans z);have b:atKey (q::qs) k=atKey qs k:=by simp[atKey,Rc,e']
   rw[jC e,b];exact ih
def KT.repl(r:KT H kvs xs)(k:List Key)(ry:RelV y u) :
  KT H (kvs.map λ kv=>if kv.1=k then (kv.1,y) else kv) (xs.map (putAt k u)):=by
 induction r with
 |nil=>exact .nil
 | @cons p q ps qs h t ih =>
  rw[PV,PV];refine .cons ?_ ih;obtain⟨h1,h2,h3⟩:=h;unfold putAt;by_cases e:p.1=k
  ·rw[PH e,PH (h1.symm.trans e)];exact⟨h1,h2,ry⟩
  ·rw[PL e,PL (λ z=>e (h1.trans z))];exact⟨h1,h2,h3⟩
def KT.put(r:KT H kvs xs)(k:List Key)(hb:H b=some (.tup (k.map kV)))(ry:RelV y u) :
  KT H (putK kvs k y) (storedH xs k b u):=by
 have e:(kvs.any λ kv=>decide (kv.1=k))=(atKey xs k).isSome:=by
  rw[xA,(r.val k).CF,Option.isSome_map]
 unfold putK storedH;rw[e];by_cases q:(atKey xs k).isSome=true
 ·rw[PH q,PH q];exact r.repl k ry
 ·rw[PL q,PL q];exact Paired.snoc r ⟨rfl,hb,ry⟩
def KT.keeps {H':Hp}(r:KT H kvs xs)(ht:∀ b ys,H b=some (.tup ys)->H' b=some (.tup ys)):KT H' kvs xs:=
 Paired.J4 r λ _ _ z=>⟨z.1,ht _ _ z.2.1,z.2.2⟩
section
variable{h:Heap}
def JB {u:HO}(ok:jj P w H h)(e:Rd H a u):ck P w H h a u:=e.ok ok
def Og (H:Hp)(a:Addr)(kvs:#[102]):Prop:=∃ ep,Rd H a (.dK kvs ep)
def Of (H:Hp)(a:Addr)(kvs:List (List Key×V)):Prop:=∃ ep,Rd H a (.dT kvs ep)
def HK (H:Hp)(a:Addr)(kvs:#[102]):Prop:=∃ ep,H a=some (.dK kvs ep)
def HT (H:Hp)(a:Addr)(kvs:List (List Key×V)):Prop:=∃ ep,H a=some (.dT kvs ep)
def HK.rd{kvs:#[102]}(e:HK H a kvs):Og H a kvs:=let ⟨ep,e⟩:=e;⟨ep,.inl e⟩
def HT.rd(e:HT H a kvs):Of H a kvs:=let ⟨ep,e⟩:=e;⟨ep,.inl e⟩
def Ek {kvs:#[102]}(ok:jj P w H h)(e:Og H a kvs):kvs.length<=sizeLine/\(a == sysModules)=false/\∃ vs,KV kvs vs/\h.DictOf (cE P w) a vs:=
 by
 obtain⟨ep,e⟩:=e;obtain⟨z,y,vs,r,d⟩:=(show ck P w H h a (.dK kvs ep) from JB ok e);exact⟨z,y,vs,r,d.dictOf⟩
def JC {kvs:#[102]}(ok:jj P w H h)(e:HK H a kvs):kvs.length<=sizeLine/\(a == sysModules)=false/\∃ vs,KV kvs vs/\h.DictOf (cE P w) a vs:=Ek ok e.rd
def zv {ks:List Key}(ok:jj P w H h)(e:H a=some (.tup (ks.map kV))):(tupleKind (cE P w)).is h ks a:=by
 obtain⟨_,its,r,tn⟩:=(show ck P w H h a (.tup (ks.map kV)) from ok a _ e);obtain⟨o,h1,h2,n,h3⟩:=tn.is;exact⟨o,its.toArray,n,h1,h2,h3,by simpa using uf r⟩
def Eh(ok:jj P w H h)(e:Of H a kvs):kvs.length<=sizeLine/\(a == sysModules)=false /\
  ∃ xs,KT H kvs xs/\h.DictOfH (tupleKind (cE P w)) a xs:=by
 obtain⟨ep,e⟩:=e;obtain⟨z,y,xs,r,o,es,h1,h2,h3,h4,h5⟩:=(show ck P w H h a (.dT kvs ep) from JB ok e);refine⟨z,y,xs,r,o,es,ep,h1,h2,h3,h4,λ x hx=>?_,h5⟩;have all:∀ {l:List (List Key×V)}{m:List (List Key×Addr×Value)},KT H l m->∀ x∈m,(tupleKind (cE P w)).is h x.1 x.2.1:=by
  intro l m q
  induction q with
  |nil=>intro x hx;exact nomatch hx
  | @cons p q ps qs hq t ih =>
   intro x hx;rcases PB.mp hx with e|hx
   ·subst e;exact zv ok (by rw[<-hq.1];exact hq.2.1)
   ·exact ih x hx
 exact all r x hx
def MJ(ok:jj P w H h)(e:HT H a kvs):kvs.length<=sizeLine/\(a == sysModules)=false /\
  ∃ xs,KT H kvs xs/\h.DictOfH (tupleKind (cE P w)) a xs:=Eh ok e.rd
end
def nI (H:Hp)(a:Addr)(y:V)(r:Option V):Prop:=
 (∃ kvs k,Og H a kvs/\y=kV k/\r=jB kvs k)\/∃ kvs k b,Of H a kvs/\y=.ref b/\H b=some (.tup (k.map kV))/\r=jB kvs k
def MH (H:Hp)(a:Addr)(y v:V)(K:Hp->Prop):Prop:=
 (∃ kvs k,HK H a kvs/\y=kV k/\kvs.length<sizeLine/\∀ ep,K (upd H a (.dK (putK kvs k v) ep))) ∨
 ∃ kvs k b,HT H a kvs/\y=.ref b/\H b=some (.tup (k.map kV))/\kvs.length<sizeLine/\∀ ep,K (upd H a (.dT (putK kvs k v) ep))
def nI.k{kvs:#[102]}{k:Key}(e:HK H a kvs):nI H a (kV k) (jB kvs k):=.inl ⟨kvs,k,e.rd,rfl,rfl⟩
def nI.t{k:List Key}(e:HT H a kvs)(eb:H b=some (.tup (k.map kV))):nI H a (.ref b) (jB kvs k):=.inr ⟨kvs,k,b,e.rd,rfl,eb,rfl⟩
section
variable{v:V}{r:Value}
def Inv.big (I:#[5]):sysModules<s.heap.objs.size:=by
 have h:mainGlobals<s.heap.objs.size:=(I.mod.glob.keeps I.bk).lt;exact Uv #[120] h
def CG {Q:#[4]}(hu:A.units+1<cLine)(I:#[5])(g:nI H a y (some v))(ry:RelV y u)(h:∀ w' s',Inv X pins σ H s'->RelV v w'->Q w' s') :
  wpAny #[13] A (getItem (.ref a) u) Q E s:=by
 rcases g with ⟨kvs,k,e,ey,l⟩|⟨kvs,k,b,e,ey,eb,l⟩
 ·subst ey;obtain⟨z,hd,vs,rel,dd⟩:=Ek I.hok e;obtain⟨w',hw,rw'⟩:=qm.some_of (v:=v) (o:=valueAt vs k) (by rw[l];exact rel.val k);exact wpAny_getItem_of (xx ry) dd.mapOf hw (h w' _ (I.tok _) rw')
 ·subst ey;cases (show u=Value.ref b from ry);obtain⟨z,hd,xs,rel,dd⟩:=Eh I.hok e;obtain⟨w',hw,rw'⟩:=qm.some_of (v:=v) (o:=(atKey xs k).map (·.2)) (by rw[l];exact rel.val k);obtain⟨p,hp,hp2⟩:=Option.map_eq_some_iff.mp hw;refine wpAny_getItem_heap (tupleKind_room_in1 hu) (zv I.hok eb) dd hp ?_;rw[hp2];exact h w' _ (I.tok _) rw'
def vA {h':Heap}{ob:HO}(I:#[5])(mu:Ms (H a))(hs:Heap.SameBut a s.heap h')(he:∃ q,h'.get? a=some q)(new:ck X.prog X.w (upd H a ob) h' a ob) :
  Inv X pins σ (upd H a ob) { s with heap:=h',toks:=t' }:=
 I.write (x:=a) (e:=a) mu (.inl rfl) (λ b q hb z=>(hs.2 b hb).trans z) he new
def Ej{H':Hp}{h':Heap}{kvs:#[102]}{vs:List (Key×Value)}{ep:Nat}(z:kvs.length<=sizeLine)(hd:(a == sysModules)=false)(rel:KV kvs vs)(dd:h'.DictAt (cE P w) a vs ep) :
  ck P w H' h' a (.dK kvs ep):=⟨z,hd,vs,rel,dd⟩
def CD {K:Hp->Prop}{Q:Unit->Shared->Prop}(hu:A.units+1<cLine)(I:#[5])(g:MH H a y v K)(ry:RelV y u)(rv:RelV v r)(h:∀ H' s',K H'->Inv X pins σ H' s'->Q () s') :
  wpAny #[13] A (setItem (.ref a) u r) Q E s:=by
 rcases g with ⟨kvs,k,e,ey,l,eH⟩|⟨kvs,k,b,e,ey,eb,l,eH⟩
 ·subst ey;obtain⟨ep0,e0⟩:=id e;obtain⟨z,hd,vs,rel,dd⟩:=JC I.hok e;have hz:vs.length<=sizeLine:=by rw[<-rel.length];exact z
  have hl:(putK kvs k v).length<=sizeLine:=by have:=pW kvs k v;omega
  refine wpAny_setItem_pairs (hsz:=hz) (xx ry) dd λ h' dd' hs=>?_;obtain⟨ep',dd'⟩:=dd'.dictAt;refine h _ _ (eH ep') ?_;have he:∃ q,h'.get? a=some q:=let ⟨q,_,hq,_⟩:=dd';⟨q,hq⟩
  exact vA I (by rw[e0];exact True.intro) hs he (Ej hl hd (rel.put k rv) dd')
 ·subst ey;obtain⟨ep0,e0⟩:=id e;cases (show u=Value.ref b from ry);obtain⟨z,hd,xs,rel,dd⟩:=MJ I.hok e;have hz:xs.length<=sizeLine:=by rw[<-Ri rel];exact z
  have hl:(putK kvs k v).length<=sizeLine:=by have:=pW kvs k v;omega
  refine wpAny_setItem_heap (hsz:=hz) (tupleKind_room_in1 hu) (zv I.hok eb) dd λ h' dd' hs=>?_;obtain⟨q,es,ep,hq,h2,h3,h4,_,h5⟩:=dd';refine h _ _ (eH ep) ?_;refine vA I (by rw[e0];exact True.intro) hs ⟨q,hq⟩ ⟨hl,hd,_,(rel.put k eb rv).keeps λ c ys ec=>?_,q,es,hq,h2,h3,h4,h5⟩;rw[aH (Mv ec e0 (λ z=>nomatch z))];exact ec
end
section
variable{kvs:#[102]}{k:Key}
end
def Hv (i:Expr):Prop:=∀ ov iv,subscripted i false ov iv=operate [ov,iv] (getItem ov iv)
def Hu {prog:#[84]}{env:Env}{value slice:Expr}{id:String}{Q:#[4]}
  (hl:typeLookup (.type T) "__getitem__" = pure (some (.builtin id))) (hs:Hv slice)
  (h:wpAny #[12] A (eval value env) (λ o s₁=>wpAny #[12] A (eval slice env) (λ i s₂=>s₂.TypeIs o T/\wpAny #[12] A (getItem o i) Q E s₂) E s₁) E s) :
  wpAny #[12] A (eval (.Subscript value slice pos) env) Q E s:=by
 refine Subscript_ (QS h (λ o s₁ h₁=>QS h₁ (λ i s₂ h₂=>?_) λ _ _ x=>x) λ _ _ x=>x);obtain⟨hT,h₂⟩:=h₂;unfold subscriptTail;refine Ph ?_;rw[getitemInPython_of_ne hT.not_modules];refine Ph (wpAny_specialOf hT hl ?_);have fin:wpAny #[12] A (subscripted slice false o i) (λ r s₃=>wpAny #[12] A (letTemporaryGo value o r >>= λ _=>pure r) Q E s₃) E s₂:=by
  rw[hs o i];exact wpAny_operating (QS h₂ (λ r s₃ h₃=>Ph (wpAny_letTemporaryGo (Po h₃))) λ _ _ x=>x)
 first
  |exact Po (Ph fin)
  |exact Ph (Po (Ph fin))
  |exact Ph fin
def xy(I:#[5])(g:nI H a y o):s.TypeIs (.ref a) "dict" :=by
 rcases g with ⟨kvs,k,e,_,_⟩|⟨kvs,k,b,e,_,_,_⟩
 ·obtain⟨_,_,vs,_,dd⟩:=Ek I.hok e;exact dd.typeIs
 ·obtain⟨_,_,xs,_,dd⟩:=Eh I.hok e;exact dd.typeIs
def MI (td ty:TE):TE:=λ σ H Q=>td σ H λ x H1=>ty σ H1 λ y H2=>∃ a v,x=.ref a/\nI H2 a y (some v)/\Q v H2
def MK (td ty tv:TE):TS:=λ D σ H=>tv σ H λ v H1=>td σ H1 λ x H2=>ty σ H2 λ y H3=>∃ a,x=.ref a/\MH H3 a y v (D.nx σ)
section
variable{o i value:Expr}{pos' tpos:Pos}{td ty tv:TE}
def A2 (hu:X.A.units+1<cLine)(ho:PE X o td)(hi:PE X i ty)(hs:Hv i):PE X (.Subscript o i pos) (MI td ty):=by
 intro pins s σ H Q I h;refine Hu PySem.F.slot_dict_getitem.lookup hs (eN (ho pins s σ H _ I h) λ u s1 hq5=>L2.ex5 hq5 λ x H1 I1 rx q1=>eN (hi pins s1 σ H1 _ I1 q1) λ iv s2 ⟨y,H2,I2,ry,a,v,ex,g,q2⟩=>?_);subst ex;obtain rfl:u=Value.ref a:=rx;exact⟨xy I2 g,CG hu I2 g ry λ w' s3 I3 rw'=>⟨v,H2,I3,rw',q2⟩⟩
def A1 (hu:X.A.units+1<cLine)(ho:PE X o td)(hi:PE X i ty)(hv:PE X value tv)(hs:swapsWith value (some (.Subscript o i pos')) pos.line X.env=pure false) :
  PS X (.Assign [.Subscript o i pos'] value pos) (MK td ty tv):=by
 intro pins s σ H D I h;refine wpAny_Assign_Subscript (eN (hv pins s σ H _ I h) λ r s1 hq5=>L2.ex5 hq5 λ v H1 I1 rv q1=>eN (ho pins s1 σ H1 _ I1 q1) λ u s2 hq5=>L2.ex5 hq5 λ x H2 I2 rx q2=>eN (hi pins s2 σ H2 _ I2 q2) λ iv s3 ⟨y,H3,I3,ry,a,ex,g⟩=>?_) hs;subst ex;obtain rfl:u=Value.ref a:=rx;exact CD hu I3 g ry rv λ H4 s4 q3 I4=>⟨σ,H4,I4,q3⟩
end
def El(h:Heap)(hb:sysModules<h.objs.size):ck P w H (h.push { cls:=.type "dict",data:=.dict #[] }) h.objs.size (.dK [] 0):=
 ⟨QY _,RQ.mpr (QK (PY hb)),[],.nil,_,#[],Pu _ rfl,⟨rfl,rfl,rfl⟩,rfl,λ _ he=>by simp at he,Pairs.nil,Qz⟩
def Ed(h:Heap)(hb:sysModules<h.objs.size):ck P w H (h.push { cls:=.type "dict",data:=.dict #[] }) h.objs.size (.dT [] 0):=
 ⟨QY _,RQ.mpr (QK (PY hb)),[],.nil,_,#[],Pu _ rfl,⟨rfl,rfl,rfl⟩,rfl,rfl,Qz⟩
def KP:TE:=λ _ H Q=>∀ p,H p=none->Q (.ref p) (upd H p (.dK [] 0))
def KO:TE:=λ _ H Q=>∀ p,H p=none->Q (.ref p) (upd H p (.dT [] 0))
section
def Ei:PE X (.Dict [] [] pos) KP:=λ pins s σ H Q I h=>
 wpAny_Dict_empty ⟨.ref s.heap.objs.size,_,I.laid (a:=s.heap.objs.size) (o:=.dK [] 0) (t':=s.toks) (λ _ _ q=>Pj _ q) (Py _) (El s.heap I.big),rfl,h _ (I.hok.fresh (Py _))⟩
def Ef:PE X (.Dict [] [] pos) KO:=λ pins s σ H Q I h=>
 wpAny_Dict_empty ⟨.ref s.heap.objs.size,_,I.laid (a:=s.heap.objs.size) (o:=.dT [] 0) (t':=s.toks) (λ _ _ q=>Pj _ q) (Py _) (Ed s.heap I.big),rfl,h _ (I.hok.fresh (Py _))⟩
end
section
variable{d:V}{r:Value}
end
section
variable{o f:Expr}{apos cpos:Pos}{td ty tx:TE}
end
section
variable{kvs:#[102]}
end
section
end
end L2
namespace OT
open PySem PySem.W PySem.Calls PyProof.Rows
def qo {P:Params}{h:Heap}:∀ (ns:#[6]) (vs:#[22]),WellAll P h vs (ns.map WData.int)->IntsAre vs ns:=by
 intro ns
 induction ns with
 | nil =>
  intro vs w;rw[List.map_nil]at w;cases w;exact .nil
 | cons n ns ih =>
  intro vs w;rw[PV]at w;cases w with
  | cons a b =>
   cases a;exact .cons _ _ (ih _ b)
def CI {l:OpenLaw}{n:Nat}(hn:l.most=some n){P:Params}{h:Heap}{args:List WData}{vals:#[22]}
  (hpre:l.row.toRowW.claim.pre args=true) (hwl:WellAll P h vals args) :
  ∃ a vs ns,vals=[Value.ref a]/\args=[WData.list (ns.map WData.int)]/\h.get? a=some { cls:=.type "list",data:=.seq vs.toArray }/\IntsAre vs ns/\ns.length<=n:=by
 have hsh:WShape.hasAll [] args [.list .int]=true:=(pre_splitW hpre).1;have hc:l.pre.holds [] { args:=args }=true:=(pre_splitW hpre).2;obtain⟨d,r,rfl,h1,h2⟩:=hasAllW_cons hsh;obtain rfl:=hasAllW_nil h2;obtain⟨xs,rfl,h3⟩:=hasW_list h1;obtain⟨ns,rfl⟩:=items_int h3;have hlen:ns.length<=n:=by
  unfold OpenLaw.pre at hc;have h4:(WTm.not (.lt (.lit (.int (n:Int))) (.len (.arg 0)))).holds [] { args:=[.list (ns.map .int)] }=true:=by
   have h4:=(holds_andW hc).1;rw[hn]at h4;exact h4
  have h5:=condW_of h4 (w_not (w_lt w_lit (w_len_list (w_arg rfl))));rw[Pk]at h5;refine Nat.le_of_not_lt λ q=>?_;have q':(n:Int)<((ns.length:Nat):Int):=by omega
  first
   |(rw[P8 q']at h5;exact absurd h5 #[120])
   |(simp at h5;omega)
 cases hwl with
 | cons w1 w2 =>
  cases w2;cases w1 with
  |list ho hall=>exact⟨_,_,ns,rfl,rfl,ho,qo ns _ hall,hlen⟩
def CH (l:OpenLaw)(args:List WData):l.row.toRowW.claim.post args (.bool true) args=true:=
 postW_of (r:=l.row.toRowW) (X:=(true == true))
  (show WShape.has [] (.bool true) .bool=true by first|rfl|decide|simp[WShape.has,WShape.arms,WShape.armsAll])
  (show(WTm.eq .res (.lit (.bool true))).value [] { args:=args,res:=some (.bool true),after:=args }=some (.bool (true == true)) from w_eq_bool (w_res rfl) w_lit) rfl
def xB {l:OpenLaw}{n:Nat}{q:#[84]}{loose:#[116]}{XP:#[11]->Heap->Prop}{YP:World->Heap->Prop}{d:DefRec}
  (hn:l.most=some n) (hdf:d.params.defaults=[])
  (call:∀ (w:World) (s₀ s₁:Shared) (mg mb:#[11]) (fa:Addr) (o:Obj) (pm cd doc:Value) (a:Addr) (vs:#[22]) (ns:#[6]),
   Ground q loose [] XP w s₀ mg mb s₁.heap->YP w s₁.heap ->
   s₁.heap.get? fa=some o->o.data=.func (docDef d.name d.params d.body d.scope pm cd doc)->s₁.heap.CodeRec cd d.name->mg d.name=some (.ref fa) ->
   s₁.heap.get? a=some { cls:=.type "list",data:=.seq vs.toArray }->IntsAre vs ns->ns.length<=n->s₁.gens = #[] ->
   codeAny (model l.prog w) callerA (.call (.ref fa) ⟨[.ref a],[]⟩) #[115] s₁) :
  WalkO q loose XP YP l.row.toRowW d [] (λ f vs=>PySem.call f vs):=by
 intro w s₀ s₁ mg mb G Y fa o pm cd doc dV kV ho hd hcd hD hmg hg args vals as hpre hlay hrd hwl hlo;obtain rfl:dV=.none:=Dflts.none hD hdf;obtain rfl:kV=.none:=Dflts.noKw hD;obtain⟨a,vs,ns,rfl,rfl,hobj,hints,hlen⟩:=CI hn hpre hwl;refine enter_call (Sd (call w s₀ s₁ mg mb fa o pm cd doc a vs ns G Y ho (fd_plain hd) hcd hmg hobj hints hlen hg) λ r s' hq=>?_);obtain⟨rfl,h2,h3,h4⟩:=hq;exact⟨.inl ⟨.bool true,.bool true,[],rfl,λ _=>rfl,.bool true,CH l _,λ _=>⟨List.Pairwise.nil,λ _ hm=>(nomatch hm)⟩⟩,h2,h3,h4⟩
section
variable {prog:#[84]}{w:World}{A:Around}{E:#[4]}{s:Shared}{K:Frag}
end
end OT
namespace L2
open PySem PySem.Spec PyProof.Rows
variable {a e f it:Addr}{A:Around}{items:#[132]}{X:Cx}{cm:Cx->Prop}{env:Env}{fd:FuncData}{H H':Hp}{pins:#[15]}{cl:List (Str×Addr)}{cap:List (Str×Nat)}{fp:#[8]}{ps:#[116]}{i:Nat}{pos:Pos}{P:#[84]}{scope:Scope}{s:Shared}{sp:Sp}{σ:St}{st:Stmt}{qual x y:Str}{E Q:#[4]}{w:World}
def lV:∀ {vs:#[22]}{ns:#[6]},IntsAre vs ns->Vals (ns.map V.int) vs
 |_,_,.nil=>.nil
 |_,_,.cons n t h=>.cons ⟨t,rfl⟩ (lV h)
def KQ (H:Hp):Prop:=∀ b,H b=none\/∃ o xs,H b=some (.aq o (.lst xs))
def Em{K:#[0]}{mg mb:#[11]}{CX:DT}{k:Nat}{fa:Addr}{s₁:Shared}{vs:#[22]}{ns:#[6]}
  (KX:K.In s₁.heap) (hns:s₁.heap.Ns mainGlobals mg) (hb:s₁.heap.Ns builtinsNs mb) (hbb:∀ x:Str,x ≠ "__name__" -> mb x=bootBuiltins x) (hlim:s₁.heap.NoLimit) (hg:s₁.gens = #[])
  (ha:s₁.heap.get? a=some { cls:=.type "list",data:=.seq vs.toArray }) (hi:IntsAre vs ns) (hl:ns.length<=sizeLine) (hr:fG k callerA)
  (F:∀ base:Heap,K.In base->base.Ns mainGlobals mg->oY P w K mg base CX k fa fd [x] sp) (hbind:∀ (s:Shared) (u:Value),BindsTo s fd ⟨[u],[]⟩ [(x,u)])
  (hsp:∀ H:Hp,KQ H->eQ K H a (ns.map V.int)->sp [.ref a] H (λ v _=>v=.bl true) λ _ _ _=>False)
  (hCX:∀ H e s',CX [] H s₁ (λ _ _ _=>False) e s'->False) :
  codeAny (model P w) callerA (.call (.ref fa) ⟨[.ref a],[]⟩) #[115] s₁:=by
 have rv:=lV hi;have lenV:=hi.length;have core:∀ H:Hp,KQ H->eQ K H a (ns.map V.int)->jj P w H s₁.heap->(∀ b,H b≠none->b=a)->(H a≠none->K.lookup a=none) ->
   codeAny (model P w) callerA (.call (.ref fa) ⟨[.ref a],[]⟩) #[115] s₁:=by
  intro H hO hS hok hA hK;have base_of:∀ {b:Addr}{o:Obj},s₁.heap.get? b=some o->H b=none->(vm s₁.heap H).get? b=some o:=λ e n=>D6 e n;have noA:∀ {b:Addr}{o:Obj}{es:Array DictEntry}{ep:Nat},s₁.heap.get? b=some o->o.data=.dict es ep->H b=none:=λ {b o es ep} e d=>by
   cases q:H b with
   |none=>rfl
   | some u =>
    have e':b=a:=hA b (by rw[q];simp);subst e';rw[ha]at e;cases e;have d':Data.seq vs.toArray _=Data.dict es ep:=d;cases d'
  have nsK:∀ {b:Addr}{m:#[11]},s₁.heap.Ns b m->(vm s₁.heap H).Ns b m:=λ {b m} ⟨o,es,ep,e,d,r⟩=>⟨o,es,ep,base_of e (noA e d),d,r⟩;have hKb:K.In (vm s₁.heap H):=λ b o e=>base_of (KX b o e) (by
   cases q:H b with
   |none=>rfl
   | some u =>
    have e':b=a:=hA b (by rw[q];simp);subst e';rw[hK (by rw[q];simp)]at e;cases e)
  have hM:Mod K mg (vm s₁.heap H):=⟨hKb,nsK hns,⟨mb,nsK hb,hbb⟩,let ⟨mc,h1,h2⟩:=hlim;⟨mc,nsK h1,h2⟩⟩;have e0:yY P w K mg (vm s₁.heap H) callerA [] s₁ H:=⟨rfl,hM,λ b o e=>Hg e,Nat.le_of_eq (Cp _ _),trivial,λ b hb=>absurd (show b∈([]:#[8]) from hb) #[25],hok,.of_eq hg⟩;refine Sd ((F _ hKb (nsK hns)).run callerA [] s₁ H ⟨[.ref a],[]⟩ [.ref a] [.ref a] _ _ hr e0 (hbind s₁ (.ref a)) (.cons rfl .nil) (hsp H hO hS)) λ r s' h=>?_;cases r with
  |error e=>exact(hCX H e s' h).elim
  | ok fl =>
   cases fl with
   |next=>exact False.elim h|brk=>exact False.elim h|cont=>exact False.elim h
   | ret u =>
    obtain⟨v,H',os,bare,un,hok',r',q⟩:=h;have q':v=.bl true:=q;subst q';obtain rfl:u=Value.bool true:=r';refine⟨rfl,OldK.of_keep λ b o e=>?_,os,bare⟩;cases q:H b with
    |none=>exact un.keep b o e q (by intro z;exact absurd (show b∈([]:#[8]) from z) #[25]) #[25]
    | some u =>
     rcases hO b with z|⟨ob,xs,z⟩
     ·rw[q]at z;cases z
     ·have z2:=un.mq b ob _ z;obtain⟨e1,_⟩:=hok b _ z;obtain⟨e2,_⟩:=hok' b _ z2;rw[e]at e1;cases e1;exact e2
 cases hk:K.lookup a with
 | some o =>
  have e:=KX a o hk;rw[ha]at e;cases e;refine core (λ _=>none) (λ _=>.inl rfl) (.inr ⟨_,vs.toArray,_,hk,rfl,rfl,rfl,by rw[PK,lenV];exact hl,by simpa using rv⟩) (λ b u z=>by have z':(none:Option HO)=some u:=z;cases z') (λ b z=>absurd rfl z) λ z=>absurd rfl z
 | none =>
  refine core (λ b=>if b=a then some (.aq { cls:=.type "list",data:=.seq vs.toArray } (.lst (ns.map V.int))) else none) (λ b=>?_) (.inl (.inr ⟨{ cls:=.type "list",data:=.seq vs.toArray },PH rfl⟩)) (λ b u z=>?_) (λ b z=>?_) λ _=>hk
  ·by_cases hb:b=a
   ·exact .inr ⟨_,_,PH hb⟩
   ·exact .inl (PL hb)
  ·by_cases hb:b=a
   ·have z':=(PH hb).symm.trans z;cases z';subst hb;exact⟨ha,by rw[Pk];exact hl,vs,_,rv,ha⟩
   ·have z':=(PL hb).symm.trans z;cases z'
  ·by_cases hb:b=a
   ·exact hb
   ·exact absurd (PL hb) z
def Hx {l:PySem.W.OpenLaw}{n k:Nat}{q:#[84]}{loose:#[116]}{XP:#[11]->Heap->Prop}{YP:World->Heap->Prop}{d:DefRec}{K:Params->PySem.W.Frag}{CX:World->DT}{sp:World->Sp}
  (hn:l.most=some n) (hn2:n<=sizeLine) (hdf:d.params.defaults=[]) (hr:fG k callerA)
  (hY:∀ (w:World) (h:Heap),YP w h->(K w.params).In h)
  (F:∀ (w:World) (mg:#[11]) (fa:Addr) (h:Heap),(K w.params).In h->h.Ns mainGlobals mg->mg d.name=some (.ref fa) ->
   ∃ fd:FuncData,(∀ (s:Shared) (u:Value),BindsTo s fd ⟨[u],[]⟩ [(x,u)]) /\
    ∀ base:Heap,(K w.params).In base->base.Ns mainGlobals mg->oY l.prog w (K w.params) mg base (CX w) k fa fd [x] (sp w))
  (hsp:∀ (w:World) (H:Hp) (a:Addr) (ns:#[6]),ns.length<=n->KQ H->eQ (K w.params) H a (ns.map V.int)->sp w [.ref a] H (λ v _=>v=.bl true) λ _ _ _=>False)
  (hCX:∀ (w:World) (H:Hp) (s:Shared) (e:Value) (s':Shared),CX w [] H s (λ _ _ _=>False) e s'->False) :
  PySem.W.WalkO q loose XP YP l.row.toRowW d [] (λ f vs=>PySem.call f vs):=by
 refine OT.xB hn hdf λ w s₀ s₁ mg mb fa o pm cd doc a vs ns G Y ho hd hcd hmg hobj hints hlen hg=>?_;have KX:=hY w _ Y;obtain⟨fd,hb,hF⟩:=F w mg fa _ KX G.T.g hmg;exact Em KX G.T.g G.T.b G.T.builtins G.T.nolimit hg hobj hints (QG hlen hn2) hr hF hb (λ H hO hS=>hsp w H a ns hlen hO hS) λ H e s'=>hCX w H s₁ e s'
def i7 (s:Stmt):Arguments:=match s with
 |.FunctionDef _ a _ _ _ _ _ _ _ _=>a
 |_=>{ posonlyargs:=[],args:=[],vararg:=none,kwonlyargs:=[],kw_defaults:=[],kwarg:=none,defaults:=[] }
def dR (s:Stmt):List Stmt:=match s with
 |.FunctionDef _ _ b _ _ _ _ _ _ _=>b
 |_=>[]
def av (s:Stmt):Scope:=match s with
 |.FunctionDef _ _ _ _ _ _ sc _ _ _=>sc
 |_=>{ kind:=.function,names:=[],isGenerator:=false,isCoroutine:=false }
abbrev yW:DT:=λ _ _ _ _ _ _=>False
abbrev E0:XK:=λ _ _ _=>False
def ML:Passes yW X E0:=λ _ _ _ _ _ _ _ h=>h.elim
structure Hw (K:PySem.W.Frag)(x qual:Str)(st:Stmt)(f:Addr)(fd:FuncData):Prop where
 ex:∃ (oc:Value) (od:Option Addr) (kV doc pm:Value) (an:Option Addr) (cdv ct:Value) (osl:Array (Option Value)),
  fd=PySem.W.fnOf x qual (i7 st) (dR st) (av st) .none kV doc pm an cdv ct/\K.lookup f=some ⟨oc,od,.func fd,osl⟩/\PySem.W.codeIn K cdv qual=true
 kp:PySem.W.keepIn K (.ref f)=true
section
variable{K:#[0]}{mg:#[11]}{base:Heap}
def Hw.ok{N:#[116]}{k:Nat}(F:Hw K x qual st f fd)(S:aP N ps (av st))(len:∀ vs H Q E,sp vs H Q E->vs.length=ps.length)
  (hbody:∀ (cdv:Value) (A:Around) (outer:List Env) (s:Shared) (H:Hp) (vs:List V) (Q:VK) (E:XK),fG k (A.deeper (envOfC qual (av st) s.heap.objs.size f cdv))->sp vs H Q E ->
   ∃ t,lR (mw yW P w K mg base N qual (av st) f cdv A outer s H E).Ju (dR st) t/\t { nx:=λ _ H'=>Q .a8 H',rt:=Q } (start N vs) H):oY P w K mg base yW (k+1) f fd ps sp:=by
 obtain⟨oc,od,kV,doc,pm,an,cdv,ct,osl,rfl,lk,hcd⟩:=F.ex;refine Jp lk hcd S len λ A outer s H vs Q E hr hsp=>?_;obtain⟨t,h,q⟩:=hbody cdv A outer s H vs Q E hr hsp;exact⟨t,h.Ju,q⟩
def Hw.binds(F:Hw K x qual st f fd)
  (h:∀ (kV doc pm:Value) (an:Option Addr) (cdv ct:Value) (us:#[22]),us.length=ps.length->bindArgs (PySem.W.fnOf x qual (i7 st) (dR st) (av st) .none kV doc pm an cdv ct) ⟨us,[]⟩=pure (ps.zip us)):Binds K fd ps []:=by
 obtain⟨oc,od,kV,doc,pm,an,cdv,ct,osl,rfl,lk,hcd⟩:=F.ex;exact .all (h kV doc pm an cdv ct)
def zw{oc:Value}{od an:Option Addr}{osl:Array (Option Value)}{kV doc pm cdv ct:Value}(l:K.lookup f=some ⟨oc,od,.func (PySem.W.fnOf x qual (i7 st) (dR st) (av st) .none kV doc pm an cdv ct),osl⟩)
  (c:PySem.W.codeIn K cdv qual=true) (k:PySem.W.keepIn K (.ref f)=true):Hw K x qual st f (PySem.W.fnOf x qual (i7 st) (dR st) (av st) .none kV doc pm an cdv ct):=⟨⟨oc,od,kV,doc,pm,an,cdv,ct,osl,rfl,l,c⟩,k⟩
end
def cZ{k:Nat}(hr:fG k A):A.units+1<cLine:=Nat.lt_of_le_of_lt (Nat.add_le_add_left (by decide:1<=64) _) hr.units
section
end
def au (H H':Hp):Prop:=∀ b o,H b=some o->H' b=some o
def au.refl (H:Hp):au H H:=λ _ _ h=>h
def au.trans {H1 H2:Hp}(a:au H H1)(b:au H1 H2):au H H2:=λ c o h=>b c o (a c o h)
def au.free(e:au H H'){l:Addr}(h:H' l=Option.none):H l=Option.none:=by
 cases q:H l with
 |none=>rfl
 | some o =>
  rw[e l o q]at h;cases h
def au.seq {K:#[0]}{xs:List V}(e:au H H')(h:eQ K H a xs):eQ K H' a xs:=by
 rcases h with (h|⟨o,h⟩)|h
 ·exact .inl (.inl (e _ _ h))
 ·exact .inl (.inr ⟨o,e _ _ h⟩)
 ·exact .inr h
section
end
section
variable {κ:Type}[DecidableEq κ]
end
section
variable{s':Shared}
end
def lookup_mem {α:Type}{y:Str}{v:α}:∀ {l:List (Str×α)},l.lookup y=some v->(y,v)∈l
 |[],h=>by cases h
 | (n,k)::r,h=>by
  rw[Q4]at h;cases hb:y == n with
  | true =>
   rw[hb]at h;cases h;rw[Q6.mp hb];exact Pp
  | false =>
   rw[hb]at h;exact Pn _ (lookup_mem h)
def iz {α:Type}{y:Str}{v:α}:∀ {l:List (Str×α)},(l.map (·.1)).Nodup->(y,v)∈l->l.lookup y=some v
 |[],_,h=>by cases h
 | (n,k)::r,hn,h=>by
  have hn':(n::r.map (·.1)).Nodup:=hn;obtain⟨h1,h2⟩:=PN.mp hn';rw[Q4];rcases PB.mp h with e|e
  ·cases e;simp
  ·have hne:(y == n)=false:=by
    refine RQ.mpr λ z=>h1 ?_;rw[<-z];exact PF.mpr ⟨(y,v),e,rfl⟩
   rw[hne];exact iz h2 e
def CJ (env:Env)(y:Str)(k:NameKind):NameKind:=if (k == NameKind.free&&env.scope.kind == .function&&env.kindOf y == some .cell)=true then .cell else k
def lg (scope:Scope)(env:Env)(y:Str):(relabel scope env).names.lookup y=(scope.names.lookup y).map (CJ env y):=by
 show(scope.names.map λ (n,k)=>if (k == NameKind.free&&env.scope.kind == .function&&env.kindOf n == some .cell)=true then (n,NameKind.cell) else (n,k)).lookup y=_
 induction scope.names with
 |nil=>rfl
 | cons p r ih =>
  obtain⟨n,k⟩:=p;rw[PV];by_cases hc:(k == NameKind.free&&env.scope.kind == .function&&env.kindOf n == some .cell)=true
  ·simp only[PH hc,Q4];cases hb:y == n with
   | true =>
    have e:y=n:=Q6.mp hb;subst e;simp only[Ss,CJ,PH hc]
   |false=>exact ih
  ·simp only[PL hc,Q4];cases hb:y == n with
   | true =>
    have e:y=n:=Q6.mp hb;subst e;simp only[Ss,CJ,PL hc]
   |false=>exact ih
def mX {env:Env}(f:Str×NameKind->List (Str×Addr)->Sem (ForInStep (List (Str×Addr))))
  (hf:∀ name kind cs,f (name,kind) cs=if (kind == .free)=true then (do let a <-cellOf env name;pure (.yield ((name,a)::cs))) else pure (.yield cs)) :
  ∀ (names:List (Str×NameKind)) (acc:List (Str×Addr)),(∀ y∈names,y.2=.free->∃ c,env.cells.lookup y.1=some c) ->
   ∃ cl,(forIn names acc f:Sem (List (Str×Addr)))=pure cl/\(∀ y c,cl.lookup y=some c->acc.lookup y=some c\/(env.cells.lookup y=some c/\#[105]∈names)) /\
    (∀ y,#[105]∈names\/(acc.lookup y).isSome=true->∃ c,cl.lookup y=some c)
 | [],acc,_=>⟨acc,by rw [TR],λ y c e=>.inl e,λ y h=>by
   rcases h with h|h
   ·cases h
   ·exact Rk.mp h⟩
 | (name,kind)::r,acc,h=>by
  have hr:∀ y∈r,y.2=.free->∃ c,env.cells.lookup y.1=some c:=λ y hy=>h y (Pn _ hy);by_cases hk:(kind == NameKind.free)=true
  ·have e:kind=.free:=Q6.mp hk;subst e;obtain⟨c0,hc0⟩:=h (name,.free) Pp rfl;have hc0:env.cells.lookup name=some c0:=hc0;obtain⟨cl,h1,h2,h3⟩:=mX f hf r ((name,c0)::acc) hr;refine⟨cl,?_,λ y c e=>?_,λ y hy=>?_⟩
   ·rw[Tj,hf,PH hk];unfold cellOf;rw[hc0];exact h1
   ·rcases h2 y c e with q|⟨q1,q2⟩
    ·rw[Q4]at q;cases hb:y == name with
     | true =>
      rw[hb]at q;cases q;have e:y=name:=Q6.mp hb;subst e;exact .inr ⟨hc0,Pp⟩
     | false =>
      rw[hb]at q;exact .inl q
    ·exact .inr ⟨q1,Pn _ q2⟩
   ·refine h3 y ?_;rw[Q4];cases hb:y == name with
    |true=>exact .inr rfl
    | false =>
     rcases hy with hy|hy
     ·rcases PB.mp hy with z|z
      ·cases z;simp at hb
      ·exact .inl z
     ·exact .inr hy
  ·obtain⟨cl,h1,h2,h3⟩:=mX f hf r acc hr;refine⟨cl,?_,λ y c e=>(h2 y c e).imp id λ q=>⟨q.1,Pn _ q.2⟩,λ y hy=>h3 y (hy.imp (λ hy=>?_) id)⟩
   ·rw[Tj,hf,PL hk];exact h1
   ·rcases PB.mp hy with z|z
    ·cases z;exact absurd rfl hk
    ·exact z
def zy(h:∀ y∈scope.names,y.2=.free->∃ c,env.cells.lookup y.1=some c) :
  ∃ cl,closureFor scope env=pure cl/\(∀ y c,cl.lookup y=some c->env.cells.lookup y=some c/\#[105]∈scope.names)/\(∀ y,#[105]∈scope.names->∃ c,cl.lookup y=some c):=by
 have key:∀ f:Str×NameKind->List (Str×Addr)->Sem (ForInStep (List (Str×Addr))),
   (∀ name kind cs,f (name,kind) cs=if (kind == .free)=true then (do let a <-cellOf env name;pure (.yield ((name,a)::cs))) else pure (.yield cs)) ->
   closureFor scope env=(forIn scope.names [] f >>= λ r=>pure r) ->
   ∃ cl,closureFor scope env=pure cl/\(∀ y c,cl.lookup y=some c->env.cells.lookup y=some c/\#[105]∈scope.names)/\(∀ y,#[105]∈scope.names->∃ c,cl.lookup y=some c):=by
  intro f hf e;obtain⟨cl,h1,h2,h3⟩:=mX f hf scope.names [] h;refine⟨cl,?_,λ y c q=>(h2 y c q).resolve_left (λ z=>by cases z),λ y hy=>h3 y (.inl hy)⟩;rw[e,h1];rfl
 refine key _ (λ name kind cs=>?_) rfl;by_cases hk:(kind == NameKind.free)=true
 ·simp only[hk,RE]
 ·simp only[hk,RL]
def lh:∀ (names:List (Str×NameKind)) (h:Heap) (acc:List (Str×Addr)) (y:Str) (c:Addr),(cellsFrom h.objs.size names acc).lookup y=some c ->
  acc.lookup y=some c\/(h.objs.size<=c/\(y,NameKind.cell)∈names/\(pushCells h names).IsCell c none)
 |[],_,_,_,_,e=>.inl e
 | (name,kind)::r,h,acc,y,c,e=>by
  unfold cellsFrom at e;unfold pushCells;by_cases hk:(kind == NameKind.cell)=true
  ·rw[PH hk]at e ⊢;have ek:kind=.cell:=Q6.mp hk;subst ek;have sz:(h.push { cls:=.type "cell",data:=.cell none }).objs.size=h.objs.size+1:=Qt ..;rw[<-sz]at e;rcases lh r _ _ y c e with q|⟨q1,q2,q3⟩
   ·rw[Q4]at q;cases hb:y == name with
    | true =>
     rw[hb]at q;cases q;have e:y=name:=Q6.mp hb;subst e;exact .inr ⟨Py _,Pp,⟨_,Tn _ _ _ _ (Pu _ rfl),rfl⟩⟩
    | false =>
     rw[hb]at q;exact .inl q
   ·rw[sz]at q1;exact .inr ⟨R9 q1,Pn _ q2,q3⟩
  ·rw[PL hk]at e ⊢;rcases lh r _ _ y c e with q|⟨q1,q2,q3⟩
   ·exact .inl q
   ·exact .inr ⟨q1,Pn _ q2,q3⟩
def o8:∀ (names:List (Str×NameKind)) (n:Nat) (acc:List (Str×Addr)),(∀ y z c,acc.lookup y=some c->acc.lookup z=some c->y=z)->(∀ y c,acc.lookup y=some c->c<n) ->
  ∀ y z c,(cellsFrom n names acc).lookup y=some c->(cellsFrom n names acc).lookup z=some c->y=z
 |[],_,_,h,_,y,z,c,e1,e2=>h y z c e1 e2
 | (name,kind)::r,n,acc,h,hl,y,z,c,e1,e2=>by
  unfold cellsFrom at e1 e2;by_cases hk:(kind == NameKind.cell)=true
  ·rw[PH hk]at e1 e2;refine o8 r (n+1) _ (λ y z c q1 q2=>?_) (λ y c q=>?_) y z c e1 e2
   ·rw[Q4]at q1 q2;cases b1:y == name with
    | true =>
     rw[b1]at q1;cases q1;cases b2:z == name with
     |true=>rw[Q6.mp b1,Q6.mp b2]
     | false =>
      rw[b2]at q2;exact absurd (hl z _ q2) (QJ _)
    | false =>
     rw[b1]at q1;cases b2:z == name with
     | true =>
      rw[b2]at q2;cases q2;exact absurd (hl y _ q1) (QJ _)
     | false =>
      rw[b2]at q2;exact h y z c q1 q2
   ·rw[Q4]at q;cases b:y == name with
    | true =>
     rw[b]at q;cases q;exact SX _
    | false =>
     rw[b]at q;exact RM (hl y c q)
  ·rw[PL hk]at e1 e2;exact o8 r n acc h hl y z c e1 e2
def zx {M:Model}{Q:Env->Shared->Prop}
  (hQ:Q { scope:=scope,locals:=s.heap.objs.size,globals:=env.globals,cells:=cellsFrom #[55] scope.names cl,qual:=env.qual,func:=none,code:=env.code,frame:=env.frame,builtins:=env.builtins }
   { s with heap:=pushCells #[103] scope.names }) :
  wpAny M A (newFunctionEnv scope env.globals cl [] env.qual none .none (some env)) Q E s:=by
 simp only[newFunctionEnv,Option.isSome_some,RE];refine Ph (wpAny_alloc ?_);refine Ph (wpAny_layCells _ (λ name kind cells=>by cases hkc:kind == NameKind.cell<;>simp[hkc]) _ _ _ _ ?_);rw[show({ s with heap:=s.heap.push { cls:=.type "dict",data:=.dict #[] } }:Shared).heap.objs.size=s.heap.objs.size+1 from Qt ..];refine Ph ?_;rw[TR];exact Po (Po hQ)
section
variable {prog:#[84]}{R:Result->Shared->Prop}
def CK {elt target iter:Expr}{ifs:#[92]}{it acc:Value}(I:Nat->Shared->Prop)
  (turn:∀ n s,I n s->wpAny #[12] A (pyNext it) (λ r s₁=>match r with
   |none=>R (.ok .next) s₁
   | some v=>wpAny #[12] A (letOwnedTupleGo target it v) (λ _ s₁'=>wpAny #[12] A (assign target env v) (λ _ s₂ =>
     wpAny #[12] A (forIn ifs true λ c r=>if r=true then do let ok <-isTrue c env (eval c env);pure (ForInStep.yield ok) else pure (ForInStep.yield r)) (λ ok s₂'=>
      if ok=true then wpAny #[12] A (eval elt env) (λ x s₃=>
       wpAny #[12] A (call (.builtin "list.append") [acc,x]) (λ _ s₄=>∃ m,m<n/\I m s₄) (λ _ _=>False) s₃) (λ _ _=>False) s₂'
      else ∃ m,m<n/\I m s₂') (λ _ _=>False) s₂) (λ _ _=>False) s₁') (λ _ _=>False) s₁) (λ _ _=>False) s)
  (n:Nat) (h:I n s):codeAny #[12] A (.compLoop (.ListComp elt [⟨target,iter,ifs,0⟩] scope pos) 0 it acc env) R s:=by
 refine codeAny_loop rfl I (λ n s hI=>?_) n h;show wpAny _ _ ((compTurn (.ListComp elt [⟨target,iter,ifs,0⟩] scope pos) 0 it acc env).onRaise (λ x=>do noteFrame x env;theTreesLotGoes x)) _ _ s;refine wpAny_noted ?_;rw[compTurn_list];refine Ph (wpAny_standAt (Ph (QS (turn n s hI) (λ r s₁ h₁=>?_) λ _ _ h'=>h'.elim)));cases r with
 |none=>exact Po h₁
 | some v =>
  refine Ph (QS h₁ (λ _ s₁' h₁'=>?_) λ _ _ h'=>h'.elim);refine Ph (QS h₁' (λ _ s₂ h₂=>Ph (QS h₂ (λ ok s₃ h₃=>?_) λ _ _ h'=>h'.elim)) λ _ _ h'=>h'.elim);cases ok with
  |false=>exact Po ⟨rfl,h₃⟩
  | true =>
   exact Ph (Ph (QS h₃ (λ x s₄ h₄=>Ph (QS h₄ (λ _ s₅ h₅=>Po (Po ⟨rfl,h₅⟩)) λ _ _ h'=>h'.elim)) λ _ _ h'=>h'.elim))
def MM (X:Cx)(ifs:#[92])(t:TT):Prop:=∀ (pins:#[15]) (s:Shared) (σ:St) (H:Hp) (Q:Bool->Hp->Prop),Inv X pins σ H s->t σ H Q ->
 wpAny #[13] X.A (forIn ifs true λ c r=>if r=true then do let ok <-isTrue c X.env (eval c X.env);pure (ForInStep.yield ok) else pure (ForInStep.yield r)) (TP X pins σ Q) X.xe s
def Oh:TT:=λ _ H Q=>Q true H
def Hz:MM X [] Oh:=λ pins s σ H Q I h=>wpAny_tests_nil ⟨H,I,h⟩
def Hy{c:Expr}{t:TT}(h:PT X c t):MM X [c] t:=λ pins s σ H Q I hw=>wpAny_tests_one (h pins s σ H Q I hw)
end
structure gE (X:Cx)(scope:Scope)(own:List Str)(cap:List (Str×Nat)):Prop where
 kind:scope.kind=.function
 nd:(scope.names.map (·.1)).Nodup
 free:∀ y∈scope.names,y.2=.free->X.env.kindOf y.1=some .cell\/X.env.kindOf y.1=some .free
 Oi:∀ p∈cap,X.N[p.2]?=some p.1/\(p.1,NameKind.free)∈scope.names
def qV (σ:St)(cap:List (Str×Nat)):St:=cap.map λ p=>(σ[p.2]?).join
def iK (X:Cx)(scope:Scope)(cs:List (Str×Addr))(C:Addr)(N:#[116])(s0:Shared)(H0:Hp)(fp:#[8]):Cx where
 prog:=X.prog
 w:=X.w
 K:=X.K
 mg:=X.mg
 base:=X.base
 A:=X.A
 N:=N
 s₀:=s0
 H₀:=H0
 env:=compEnvC scope cs C X.env
 outer:=X.stack
 stack:=X.stack
 ex:=fp
 fn:=λ y=>decide (scope.names.lookup y=some .cell)
 calm:=X.calm
 pn:=X.pn
 xe:=λ _ _=>False
section
def xD(h:env.kindOf y=some .cell\/env.kindOf y=some .free):sX env.scope y:=.inr h
def En{own:#[116]}(I:#[5])(ok:gE X scope own cap)
  (hcl:∀ y c,cl.lookup y=some c->X.env.cells.lookup y=some c/\#[105]∈scope.names) (hcl2:∀ y,#[105]∈scope.names->∃ c,cl.lookup y=some c)
  (f2:∀ b∈fp,ql X pins H b) (fo:∀ b∈fp,b<s.heap.objs.size) :
  Inv (iK X scope (cellsFrom #[55] scope.names cl) s.heap.objs.size (own++cap.map (·.1)) s H fp) pins (List.replicate own.length none++qV σ cap) H
   { s with heap:=pushCells #[103] scope.names }:=by
 have szC:#[103].objs.size=s.heap.objs.size+1:=Qt ..;have kp:∀ b o,s.heap.get? b=some o->(pushCells #[103] scope.names).get? b=some o:=λ b o e=>Tn _ _ b o (Pj _ e);have sp:∀ y c,(cellsFrom #[55] scope.names cl).lookup y=some c->(X.env.cells.lookup y=some c/\#[105]∈scope.names) ∨
   (s.heap.objs.size+1<=c/\(y,NameKind.cell)∈scope.names/\(pushCells #[103] scope.names).IsCell c none):=λ y c e=>by
  rw[<-szC]at e;rcases lh _ _ _ y c e with q|q
  ·exact .inl (hcl y c q)
  ·rw[szC]at q;exact .inr q
 have clt:∀ y c,X.env.cells.lookup y=some c->c<s.heap.objs.size:=λ y c e=>by
  obtain⟨v,o,ho,_⟩:=I.cell y c e;exact Px ho
 have kfree:∀ y,#[105]∈scope.names->scope.names.lookup y=some .free:=λ y h=>iz ok.nd h;have kcell:∀ y,(y,NameKind.cell)∈scope.names->scope.names.lookup y=some .cell:=λ y h=>iz ok.nd h;have okY:(iK X scope (cellsFrom #[55] scope.names cl) s.heap.objs.size (own++cap.map (·.1)) s H fp).Ok:={
  mod:=I.ok.mod
  kind:=ok.kind
  glob:=I.ok.glob
  blt:=I.ok.blt
  above:=Py _
  inj:=λ x y c e1 e2=>o8 scope.names #[55] cl (λ y z c q1 q2=>I.ok.inj y z c (hcl y c q1).1 (hcl z c q2).1) (λ y c q=>RM (clt y c (hcl y c q).1)) x y c e1 e2
  has:=λ y hy=>by
   have hy':(relabel scope X.env).names.lookup y=some .cell\/(relabel scope X.env).names.lookup y=some .free:=hy;rw[lg]at hy';refine Rk.mp (Rv scope.names _ _ ?_);cases q:scope.names.lookup y with
   | none =>
    rw[q]at hy';rcases hy' with z|z<;>cases z
   | some k =>
    by_cases hk:k=.cell
    ·subst hk;exact .inl rfl
    ·by_cases hf:k=.free
     ·subst hf;obtain⟨c,hc⟩:=hcl2 y (lookup_mem q);exact .inr (by rw[hc];rfl)
     ·rw[q]at hy';exfalso;have hb:(k == NameKind.free)=false:=by simpa using hf
      rcases hy' with z|z
      ·simp[CJ,hb]at z;exact hk z
      ·simp[CJ,hb]at z;exact hf z
  GX:=λ y c hf e=>by
   have hf':scope.names.lookup y=some .cell:=of_decide_eq_true hf;rcases sp y c e with ⟨_,q⟩|⟨q,_⟩
   ·rw[kfree y q]at hf';cases hf'
   ·exact R9 q
  hd:=I.ok.hd
  frames:=I.ok.frames
  G5:=.inl rfl
  Jv:=λ b hb=>⟨PY (fo b hb),λ x c e z=>by
   subst z;rcases sp x c e with ⟨q,_⟩|⟨q,_⟩
   ·exact(f2 c hb).2.2.2.2.1 x c q rfl
   ·exact absurd (Qe (fo c hb) (R9 q)) (QJ _)⟩
  bs:=I.bs
  AV:=QG I.ok.AV I.sz
  tm:=λ b o e hb=>by
   rcases (f2 b hb).2.2.2.1 with q|q
   ·exact I.ok.tm b o e q
   ·exact absurd (Qe (Px e) (QG I.ok.AV q)) (QJ _)
  tq:=λ b hb z=>by
   rcases PB.mp (I.oZ b z) with q|q
   ·exact(f2 b hb).2.1 q
   ·exact(f2 b hb).2.2.1 q
  jX:=I.stack
  DS:=I.vj }
 obtain⟨m,hns,hl⟩:=id I.loc;refine⟨okY,rfl,I.bare,Un.kept kp,⟨λ _=>none,(Heap.Ns.new s.heap (.type "dict")).keeps (Tn _ _),λ i x v e1 e2 e3=>?_⟩,λ y c e=>?_,I.fresh,λ y c e=>?_,λ p hp=>?_,I.hok.kept kp,?_⟩
 ·
  have e1:(own++cap.map (·.1))[i]?=some x:=e1;by_cases hi:i<own.length
  ·rw[Ua (by simpa using hi)]at e2;simp[hi]at e2
  ·have hi':own.length<=i:=Nat.not_lt.mp hi;rw[QX (by simpa using hi')]at e2;rw[QX hi']at e1;rw[List.length_replicate]at e2;unfold qV at e2;rw[P0]at e1 e2;cases q:cap[i-own.length]? with
   | none =>
    rw[q]at e1;cases e1
   | some p =>
    rw[q]at e1 e2;obtain⟨p1,p2⟩:=p;have e1:p1=x:=QC e1;subst e1;have e2:(σ[p2]?).join=some v:=QC e2;have e2:σ[p2]?=some (some v):=by
     cases z:σ[p2]? with
     |none=>rw[z]at e2;cases e2|some z'=>rw[z]at e2;exact Q3 some e2
    obtain⟨hN,hfr⟩:=ok.Oi (p1,p2) (S9 q);have hk:=ok.free (p1,.free) hfr rfl;obtain⟨u,r,L⟩:=hl p2 p1 v hN e2 (xD hk);refine⟨u,r,?_⟩;rcases L with ⟨k,_⟩|⟨_,c,hc,hcell⟩
    ·have hk:X.env.kindOf p1=some .cell\/X.env.kindOf p1=some .free:=hk;rw[k]at hk;rcases hk with z|z<;>cases z
    ·refine .inr ⟨?_,c,?_,hcell.keeps kp⟩
     ·show(relabel scope X.env).names.lookup p1=some .cell\/(relabel scope X.env).names.lookup p1=some .free;rw[lg,kfree _ hfr,Ss];unfold CJ;split
      ·exact .inl rfl
      ·exact .inr rfl
     ·obtain⟨c',hc'⟩:=hcl2 p1 hfr;obtain⟨c2,hc2⟩:=Rk.mp (Rv scope.names #[55] cl (.inr (by rw[hc'];rfl):scope.names.lookup p1=some .cell\/(cl.lookup p1).isSome=true));have hc2':(cellsFrom #[55] scope.names cl).lookup p1=some c2:=hc2;rcases sp p1 c2 hc2' with ⟨q1,_⟩|⟨_,q2,_⟩
      ·rw[hc]at q1;cases q1;exact hc2'
      ·have:=kcell p1 q2;rw[kfree p1 hfr]at this;cases this
 ·rcases sp y c e with ⟨q,_⟩|⟨_,_,q⟩
  ·obtain⟨v,hv⟩:=I.cell y c q;exact⟨v,hv.keeps kp⟩
  ·exact⟨none,q⟩
 ·rcases sp y c e with ⟨q,_⟩|⟨q,_⟩
  ·exact I.gn y c q
  ·exact I.hok.fresh (R9 q)
 ·obtain⟨a1,a2,a3,a4,a5⟩:=I.pin p hp;refine⟨kp _ _ a1,a2,PY (Px a1),λ z=>?_,a5⟩;rcases PB.mp (I.oZ p.1 z) with q|q
  ·exact a3 q
  ·exact a4 q
 ·show(List.replicate own.length none++qV σ cap).length=(own++cap.map (·.1)).length;simp[qV]
def xC{cs:List (Str×Addr)}{C:Addr}{N:#[116]}{τ:St}{s':Shared}{h':Heap}(I:#[5])(f2:∀ b∈fp,ql X pins H b)
  (hC:s.heap.objs.size<=C) (J:Inv (iK X scope cs C N s H fp) pins τ H' s') (hs:Heap.SameBut C s'.heap h'):Inv X pins σ H' { s' with heap:=h' }:=by
 have u:Un (frs X.stack) fp H H' s.heap s'.heap:=J.base;have ne:∀ b o,s.heap.get? b=some o->b≠C:=λ b o e=>PY (Qe (Px e) hC);refine I.Jx (s':={ s' with heap:=h' }) (ch:=fp) J.os ⟨λ b o e n hf hx=>?_,λ b o e n hf hx=>?_,u.free,λ b o e hx=>?_,u.tups,u.mq,u.o4⟩ (λ a o e=>?_) J.bare λ b hb=>⟨(f2 b hb).2.2.2.1,(f2 b hb).2.1,(f2 b hb).2.2.2.2.1,(f2 b hb).2.2.2.2.2⟩
 ·exact(hs.2 b (ne b o e)).trans (u.keep b o e n hf hx)
 ·obtain⟨sl,q⟩:=u.slot b o e n hf hx;exact⟨sl,(hs.2 b (ne b o e)).trans q⟩
 ·obtain⟨o',q⟩:=u.there b o e hx;exact⟨o',(hs.2 b (ne b o e)).trans q⟩
 ·refine(J.hok a o e).stay (λ b v hb q=>(hs.2 b ?_).trans q) (λ _ q=>q) λ _ _ q=>q;rintro rfl;have fr:H' b=none:=J.free;rcases hb with rfl|hb
  ·rw[fr]at e;cases e
  ·rw[fr]at hb;cases hb
end
def ug (wi:TI)(g:TG)(tt:TT)(te:TE)(k:Nat)(cap:List (Str×Nat)):TE:=λ σ H Q=>wi σ H λ J H1=>∀ acc,H1 acc=none->∃ W:Nat->Nat->St->List V->Hp->Prop,
 (∃ m,W 0 m (List.replicate k none++qV σ cap) [] (upd H1 acc (.lst []))) /\
 ∀ i m τ ys H,W i m τ ys H->(J.stop i H/\Q (.ref acc) H)\/(J.go i H/\∀ x H',J.zb i H x H'->g x τ H' λ τ2 H2=>tt τ2 H2 λ b H2'=>if b=true then te τ2 H2' λ v H3=>
  H3 acc=some (.lst ys)/\ys.length<sizeLine/\∃ m',m' < m/\W (i+1) m' τ2 (ys++[v]) (upd H3 acc (.lst (ys++[v]))) else ∃ m',m' < m/\W (i+1) m' τ2 ys H2')
structure iA (X:Cx)(scope:Scope)(own:List Str)(cap:List (Str×Nat))(tg:Expr)(ifs:List Expr)(elt:Expr)(g:TG)(tt:TT)(te:TE):Prop where
 O5:∀ cs C s0 H0 fp,PG (iK X scope cs C (own++cap.map (·.1)) s0 H0 fp) tg g
 O7:∀ cs C s0 H0 fp,MM (iK X scope cs C (own++cap.map (·.1)) s0 H0 fp) ifs tt
 O6:∀ cs C s0 H0 fp,PE (iK X scope cs C (own++cap.map (·.1)) s0 H0 fp) elt te
section
variable{tg elt iter:Expr}{ifs:#[92]}{tt:TT}{own:#[116]}{wi:TI}{g:TG}{te:TE}
def qW{H2:Hp}{s2:Shared}{Q:VK}{tn:Nat->Heap->Prop}{J:It}{RR:Value->Addr->Result->Shared->Prop} (ok:gE X scope own cap) (hc:∀ cs C N s0 H0 fp,Inv X pins σ H0 s0->cm (iK X scope cs C N s0 H0 fp)) (B:iA X scope own cap tg ifs elt g tt te)
  (hcl:∀ y c,cl.lookup y=some c->X.env.cells.lookup y=some c/\#[105]∈scope.names) (hcl2:∀ y,#[105]∈scope.names->∃ c,cl.lookup y=some c)
  (I2:Inv X pins σ H2 s2) (T:AM cm X.prog X.w X.K tg J fp it tn) (st2:tn 0 s2.heap) (f2:∀ b∈fp,ql X pins H2 b)
  (h:∀ acc,H2 acc=none->∃ W:Nat->Nat->St->List V->Hp->Prop,(∃ m,W 0 m (List.replicate own.length none++qV σ cap) [] (upd H2 acc (.lst []))) /\
   ∀ i m τ ys H,W i m τ ys H->(J.stop i H/\Q (.ref acc) H)\/(J.go i H/\∀ x H',J.zb i H x H'->g x τ H' λ τ2 H2=>tt τ2 H2 λ b H2'=>if b=true then te τ2 H2' λ v H3=>
    H3 acc=some (.lst ys)/\ys.length<sizeLine/\∃ m',m' < m/\W (i+1) m' τ2 (ys++[v]) (upd H3 acc (.lst (ys++[v]))) else ∃ m',m' < m/\W (i+1) m' τ2 ys H2'))
  (hR:∀ D C H' s',(∀ h',Heap.SameBut C s'.heap h'->Inv X pins σ H' { s' with heap:=h' })->(∃ m,s'.heap.Ns C m)->H' C=none->X.s₀.heap.objs.size<=C->C≠X.env.locals->(∀ x c,X.env.cells.lookup x=some c->c≠C)->(∀ p∈X.pn++pins,p.1≠C) ->
   Q (.ref D) H'->RR (.ref D) C (.ok .next) s') :
  wpAny #[13] X.A (newList []) (λ acc s₃=>wpAny #[13] X.A (newFunctionEnv scope X.env.globals cl [] X.env.qual none .none (some X.env)) (λ cenv s₄=>
   codeAny #[13] X.A (.compStart #[16] 0 (.ref it) acc { cenv with scope:=relabel scope X.env }) (RR acc cenv.locals) s₄) E s₃) E s2:=by
 refine Qk ?_;have fresh:H2 s2.heap.objs.size=none:=I2.fresh;have I3:Inv X pins σ (upd H2 s2.heap.objs.size (.lst [])) { s2 with heap:=s2.heap.push { cls:=.type "list",data:=.seq ([]:#[22]).toArray } }:=I2.MD (its:=[]) (ys:=[]) (t':=s2.toks) .nil (QY _);have ob2:=T.obj _ _ st2;have lt2:∀ b∈fp,b<s2.heap.objs.size:=λ b hb=>let ⟨o,e,_⟩:=ob2 b hb;Px e
 have f3:∀ b∈fp,ql X pins (upd H2 s2.heap.objs.size (.lst [])) b:=λ b hb=>⟨by rw[aH (PY (lt2 b hb))];exact(f2 b hb).1,(f2 b hb).2⟩;have kp3:∀ b o,s2.heap.get? b=some o->(s2.heap.push { cls:=.type "list",data:=.seq ([]:#[22]).toArray }).get? b=some o:=λ b o e=>Pj _ e;generalize hs3:({ s2 with heap:=s2.heap.push { cls:=.type "list",data:=.seq ([]:#[22]).toArray } }:Shared)=s3 at I3 ⊢;have k3:∀ b o,s2.heap.get? b=some o->s3.heap.get? b=some o:=λ b o e=>by rw[<-hs3];exact kp3 b o e
 refine zx ?_;have OY:∀ b∈fp,b<s3.heap.objs.size:=λ b hb=>let ⟨o,e,_⟩:=ob2 b hb;Px (k3 b o e)
 have I4:=En (own:=own) (cap:=cap) (fp:=fp) I3 ok hcl hcl2 f3 OY;have st4:tn 0 (pushCells (s3.heap.push { cls:=.type "dict",data:=.dict #[] }) scope.names):=T.keep _ _ _ st2 λ b _ o e=>Tn _ _ b o (Pj _ (k3 b o e));obtain⟨W,⟨m0,w0⟩,turn⟩:=h s2.heap.objs.size fresh
 let Y:=iK X scope (cellsFrom (s3.heap.objs.size+1) scope.names cl) s3.heap.objs.size (own++cap.map (·.1)) s3 (upd H2 s2.heap.objs.size (.lst [])) fp
 have I4:Inv Y pins (List.replicate own.length none++qV σ cap) (upd H2 s2.heap.objs.size (.lst [])) { s3 with heap:=pushCells (s3.heap.push { cls:=.type "dict",data:=.dict #[] }) scope.names }:=I4;have f4:∀ {H':Hp},(∀ b∈fp,H' b=none)->∀ b∈fp,ql Y pins H' b:=λ {H'} hn b hb=>by
  refine⟨hn b hb,PY (OY b hb),λ z=>?_,.inl hb,(I4.ok.Jv b hb).2,(f2 b hb).2.2.2.2.2⟩;exact I4.ok.tq b hb z
 have loop:codeAny #[13] X.A (.compLoop #[16] 0 (.ref it) (.ref s2.heap.objs.size) Y.env) (RR (.ref s2.heap.objs.size) s3.heap.objs.size)
   { s3 with heap:=pushCells (s3.heap.push { cls:=.type "dict",data:=.dict #[] }) scope.names }:=by
  refine CK (λ n s'=>∃ i τ ys H',Inv Y pins τ H' s'/\tn i s'.heap/\(∀ b∈fp,H' b=none)/\W i n τ ys H') ?_ m0 ⟨0,_,[],_,I4,st4,λ b hb=>(f3 b hb).1,w0⟩;rintro n s5 ⟨i,τ,ys,H5,I5,st5,fr5,w5⟩;rcases turn i n τ ys H5 w5 with ⟨stop,q⟩|⟨go,step⟩
  ·refine eN (T.done Y rfl rfl rfl (hc _ _ _ _ _ _ I3) i pins s5 τ H5 (λ _ _=>False) I5 (f4 fr5) st5 stop) λ r s6 ⟨hr,I6⟩=>?_;subst hr;obtain⟨m,hns,_⟩:=I6.loc;have hC:X.s₀.heap.objs.size<=s3.heap.objs.size:=I3.sz;refine hR _ _ H5 s6 (λ h' hs'=>xC I3 f3 (Py _) I6 hs') ⟨m,hns⟩ I6.free hC (λ z=>?_) (λ x c e z=>?_) (λ p hp z=>?_) q
   ·exact QJ _ (z▸I3.lt)
   ·obtain⟨v,o,ho,_⟩:=I3.cell x c e;rw[z]at ho;exact QJ _ (Px ho)
   ·have e:=(I3.pin p hp).1;rw[z]at e;exact QJ _ (Px e)
  ·refine eN (T.item Y rfl rfl rfl (hc _ _ _ _ _ _ I3) i pins s5 τ H5 (λ _ _=>False) I5 (f4 fr5) st5 go) λ r s6 ⟨u,hr,h6⟩=>?_;subst hr;refine eN h6 λ _ s7 ⟨x,H7,I7,r7,y7,st7,fr7⟩=>?_;have I7':=I7.pinned (f4 fr7) (T.obj _ _ st7);refine eN (B.O5 _ _ _ _ _ _ s7 τ H7 x u _ I7' r7 (step x H7 y7)) λ _ s8 ⟨τ8,H8,I8,q8⟩=>?_;refine eN (B.O7 _ _ _ _ _ _ s8 τ8 H8 _ I8 q8) λ ok s8' ⟨H8',I8',q8'⟩=>?_;have again:∀ {H':Hp}{s':Shared},Inv Y (pins++qQ fp s7.heap) τ8 H' s'->Inv Y pins τ8 H' s'/\tn (i+1) s'.heap/\∀ b∈fp,H' b=none:=λ {H' s'} I'=>by
    refine⟨I'.nG,T.keep _ _ _ st7 λ b hb o e=>(I'.pin (b,o) (PM _ (PM _ (jZ hb e)))).1,λ b hb=>?_⟩;obtain⟨o,e,d⟩:=T.obj _ _ st7 b hb;exact(I'.pin (b,o) (PM _ (PM _ (jZ hb e)))).2.1
   cases ok with
   | false =>
    rw[PL Pq]at q8' ⊢;obtain⟨m',hm,w9⟩:=q8';obtain⟨z1,z2,z3⟩:=again I8';exact⟨m',hm,i+1,τ8,ys,H8',z1,z2,z3,w9⟩
   | true =>
    rw[PH rfl]at q8' ⊢;refine eN (B.O6 _ _ _ _ _ _ s8' τ8 H8' _ I8' q8') λ v s9 ⟨y,H9,I9,r9,hacc,hlen,m',hm,w9⟩=>?_;refine eN (lU _ s9 τ8 H9 (.ref s2.heap.objs.size) [y] (.ref s2.heap.objs.size) [v] (λ z H'=>z=.a8/\H'=upd H9 s2.heap.objs.size (.lst (ys++[y]))) I9 rfl (.cons r9 .nil) ⟨_,ys,y,rfl,rfl,hacc,hlen,rfl,rfl⟩) λ _ s10 ⟨z,H10,I10,_,_,e10⟩=>?_;subst e10;obtain⟨z1,z2,z3⟩:=again I10;exact⟨m',hm,i+1,τ8,ys++[y],_,z1,z2,z3,w9⟩
 exact codeAny_compStart_list loop (T.self X.A 0 _ _ _ st4 loop)
def nJ(I:#[5])(ok:gE X scope own cap):∃ cl,closureFor scope X.env=pure cl/\(∀ y c,cl.lookup y=some c->X.env.cells.lookup y=some c/\#[105]∈scope.names)/\(∀ y,#[105]∈scope.names->∃ c,cl.lookup y=some c):=
 zy λ y hy hk=>I.ok.has y.1 (ok.free y hy hk)
def qX (ok:gE X scope own cap):∀ x∈scope.names,x.2=.local->scope.names.lookup x.1=some .local:=λ x hx hl=>iz ok.nd (by rw[<-hl];exact hx)
def MN (cm:Cx->Prop)(X:Cx)(pins:#[15])(σ:St)(tg:Expr)(R:It->Hp->Prop)(itv:Value)(s2:Shared):Prop:=
 ∃ (it:Addr) (fp:#[8]) (tn:Nat->Heap->Prop) (J:It) (H':Hp),itv=.ref it/\Inv X pins σ H' s2/\AM cm X.prog X.w X.K tg J fp it tn/\tn 0 s2.heap/\(∀ b∈fp,ql X pins H' b)/\R J H'
def HA (cm:Cx->Prop)(X:Cx)(tg iter:Expr)(wi:TI):Prop:=
 ∀ (pins:#[15]) (s:Shared) (σ:St) (H:Hp) (R:It->Hp->Prop),Inv X pins σ H s->wi σ H R ->
  wpAny #[13] X.A (eval iter X.env) (λ v s1=>wpAny #[13] X.A (pyIter v) (MN cm X pins σ tg R) X.xe s1) X.xe s
def Eo(ok:gE X scope own cap)(hc:∀ pins σ cs C N s0 H0 fp,Inv X pins σ H0 s0->cm (iK X scope cs C N s0 H0 fp))(hi:HA cm X tg iter wi)(B:iA X scope own cap tg ifs elt g tt te)(hs:#[39]:=by intro _;rfl) :
  PE X #[16] (ug wi g tt te own.length cap):=by
 intro pins s σ H Q I h;obtain⟨cl,hclos,hcl,hcl2⟩:=nJ I ok;rw[eval_ListComp];refine wpAny_comprehension_free (use:=none) rfl hs hclos ok.kind (qX ok) (eN (hi pins s σ H _ I h) λ xv s1 h1=>eN h1 λ itv s2 h2=>?_);obtain⟨it,fp,tn,J,H2,e,I2,T,st2,f2,hW⟩:=h2;subst e;refine qW (Q:=Q) (RR:=λ acc C=>compPost #[13] X.A X.xe none (EP X pins σ Q) acc C) ok (hc pins σ) B hcl hcl2 I2 T st2 f2 hW ?_;rintro D C H' s' hI ⟨m,hm⟩ _ _ _ _ _ q;exact⟨m,hm,λ h' hs'=>⟨.ref D,H',hI h' hs',rfl,q⟩⟩
def pX{py spos:Pos}(hN:X.N.Nodup)(hi':X.N[i]?=some y)(hy:Loc X.env.scope y)(ok:gE X scope own cap)(hc:∀ pins σ cs C N s0 H0 fp,Inv X pins σ H0 s0->cm (iK X scope cs C N s0 H0 fp))(hi:HA cm X tg iter wi)(B:iA X scope own cap tg ifs elt g tt te)
  (hsw:#[127]:=by rfl)
  (hf:#[61]:=by first|exact .inl rfl|exact .inr rfl) (hs:#[39]:=by intro _;rfl) :
  PS X (.Assign [.Name y py] #[16] spos) (Kd (ug wi g tt te own.length cap) (qN i)):=by
 intro pins s σ H D I h;obtain⟨cl,hclos,hcl,hcl2⟩:=nJ I ok;rw[exec_Assign_Name_used _ _ _ _ hsw];refine Ph (wpAny_standAt (Ph ?_));show wpAny _ X.A (do let _ <-comprehension #[16] scope X.env _ (newList []) false (eval iter X.env) (some (assign (.Name y py) X.env))) _ _ s;refine Ph (QS (wpAny_comprehension_free (use:=some (assign (.Name y py) X.env)) (Q:=λ _ s'=>SP X pins D .next s') rfl hs hclos ok.kind (qX ok) (eN (hi pins s σ H _ I h) λ xv s1 h1=>eN h1 λ itv s2 h2=>?_)) (λ _ s' hq=>Po (Po hq)) λ _ _ e=>e);obtain⟨it,fp,tn,J,H2,e,I2,T,st2,f2,hW⟩:=h2;subst e;refine qW (Q:=λ v H'=>qN i v σ H' D.nx) (RR:=λ acc C=>compPost #[13] X.A X.xe (some (assign (.Name y py) X.env)) (λ _ s'=>SP X pins D .next s') acc C) ok (hc pins σ) B hcl hcl2 I2 T st2 f2 hW ?_;rintro D' C H' s' hI ⟨m,hm⟩ hHC hC1 hC2 hC3 hC4 q;have I':Inv X pins σ H' s':=hI s'.heap (.refl ..);show wpAny _ X.A (assign (.Name y py) X.env (.ref D')) _ _ s';refine wpAny_assign_Name (uc I' hN hi' hy (show RelV (.ref D') (.ref D') from rfl) (λ s'' I'' ⟨a,hsa,ha⟩=>?_) hf);have ne:C≠a:=by
  rcases ha with rfl|ha
  ·exact hC2
  ·exact λ z=>hC3 y a ha z.symm
 refine⟨m,hm.sameBut hsa ne,λ h' hs'=>?_⟩;refine⟨_,H',I''.turned (t':=s''.toks) (h':=h') (it:=C) (λ b o hb e=>(hs'.2 b hb).trans e) hHC hC2 (.inr hC1) (λ x c e z=>hC3 x c e z) hC4,q⟩
def HB (ok:gE X scope own cap)(hc:X.calm=true)(hi:PI X tg iter wi)(B:iA X scope own cap tg ifs elt g tt te)(hs:#[39]:=by intro _;rfl) :
  PE X #[16] (ug wi g tt te own.length cap):=Eo (cm:=λ X=>X.calm=true) ok (λ _ _ _ _ _ _ _ _ _=>hc) hi B hs
def zz{py spos:Pos}(hN:X.N.Nodup)(hi':X.N[i]?=some y)(hy:Loc X.env.scope y)(ok:gE X scope own cap)(hc:X.calm=true)(hi:PI X tg iter wi)(B:iA X scope own cap tg ifs elt g tt te)
  (hsw:#[127]:=by rfl)
  (hf:#[61]:=by first|exact .inl rfl|exact .inr rfl) (hs:#[39]:=by intro _;rfl) :
  PS X (.Assign [.Name y py] #[16] spos) (Kd (ug wi g tt te own.length cap) (qN i)):=
 pX (cm:=λ X=>X.calm=true) hN hi' hy ok (λ _ _ _ _ _ _ _ _ _=>hc) hi B hsw hf hs
end
section
variable {prog:#[84]}
def ky {t:Addr}{x:Value}(hit:s.heap.IsTupleIter it t i)(ht:s.heap.IsTuple t items)(hx:items[i]?=some x)
  (hQ:∀ h',h'.IsTupleIter it t (i+1)->Heap.SameBut it s.heap h'->Q x { s with heap:=h' }):wpAny #[12] A #[78] Q E s:=by
 obtain⟨o,ho,hc,hd⟩:=id hit;obtain⟨ot,hot,_,nt,hdt⟩:=ht;unfold Builtin.SmallTypes.nextOf;refine Ph (Qf (name:=Str.ofString "__next__") hit.typeIs RB (Qg RB hit.typeIs F.entry_tuple_iterator_next ?_ (F.args_tuple_iterator_next_1 _)));show wpAny _ _ (field (.ref it) 0 >>= _) _ _ s;refine Ph (Qh ho hd (x:=.ref t) rfl ?_);show wpAny _ _ (if (Value.ref t == Value.none)=true then _ else _) _ _ s;rw[PL (λ z:(Value.ref t == Value.none)=true=>Pq z)];show wpAny _ _ (field (.ref it) 1 >>= _) _ _ s;refine Ph (Qh ho hd (x:=.int i 0) rfl ?_);show wpAny _ _ (seqItems? (.ref t) >>= _) _ _ s;refine Ph (Q7 hot hdt ?_);simp only[Qm,hx];refine Ph (RC ho hd #[25] (Po ⟨x,rfl,Po (hQ _ ⟨_,Qu _ ho (R5 (RD hd _)),(Obj.cls_mapFields ..).trans hc,?_⟩ (Q9 ..))⟩));rw[RD hd];simp[rawInt]
def lj {t:Addr}(hh:A.handled=none)(hit:s.heap.IsTupleIter it t i)(ht:s.heap.IsTuple t items)(hx:items[i]?=none)
  (hE:∀ h' e,Heap.ExtBut it s.heap h'->(∃ o,h'.get? e=some o/\o.cls=.type "StopIteration")->E (.ref e) { s with heap:=h' }):wpAny #[12] A #[78] Q E s:=by
 obtain⟨o,ho,hc,hd⟩:=id hit;obtain⟨ot,hot,_,nt,hdt⟩:=ht;unfold Builtin.SmallTypes.nextOf;refine Ph (Qf (name:=Str.ofString "__next__") hit.typeIs RB (Qg RB hit.typeIs F.entry_tuple_iterator_next ?_ (F.args_tuple_iterator_next_1 _)));show wpAny _ _ (field (.ref it) 0 >>= _) _ _ s;refine Ph (Qh ho hd (x:=.ref t) rfl ?_);show wpAny _ _ (if (Value.ref t == Value.none)=true then _ else _) _ _ s;rw[PL (λ z:(Value.ref t == Value.none)=true=>Pq z)];show wpAny _ _ (field (.ref it) 1 >>= _) _ _ s;refine Ph (Qh ho hd (x:=.int i 0) rfl ?_);show wpAny _ _ (seqItems? (.ref t) >>= _) _ _ s;refine Ph (Q7 hot hdt ?_);simp only[Qm,hx];refine Ph (RP (Ph (RC ho hd #[25] ?_)));show wpAny _ _ (newExc (.type "StopIteration") [] >>= _) _ _ _;refine Ph ?_;simp only[newExc,newTuple];refine Ph (Qk ?_ (by size_fits));refine Ph (m:=firstArgMember _ _) #[96];refine Qk ?_ (by size_fits);simp only[raiseNew];refine Ph (S8 ?_)
 first|rw[show A.in1.handled=none from hh]|rw[hh]
 exact Ph (Po (Ug (hE _ _ (((Q9 ..).extBut.push _).push _) ⟨_,Pu _ rfl,rfl⟩)))
def CL{x old:Value}{R:Obj->Prop}{Q:#[131]}(he:IsEnum s.heap e it i old)(hne:e≠it)
  (hn:∀ (A':Around) (E' Q':#[4]),(∀ h',(∃ o,h'.get? it=some o/\R o)->Heap.SameBut it s.heap h'->Q' x { s with heap:=h' })->wpAny #[12] A' #[78] Q' E' s)
  (hQ:∀ h',IsEnumOut h' e it ((i:Int)+1) x s.heap.objs.size->(∃ o,h'.get? it=some o/\R o)->h'.get? s.heap.objs.size=some { cls:=.type "tuple",data:=.seq #[.int i s.toks,x] }->h'.objs.size=s.heap.objs.size+1 ->
   (∀ b o,b≠e->b≠it->s.heap.get? b=some o->h'.get? b=some o)->Q (some #[42]) { s with heap:=h',toks:=s.toks+1 }) :
  wpAny #[12] A (pyNext (.ref e)) Q E s:=by
 have hT:s.TypeIs (.ref e) "enumerate" :=⟨_,he,rfl⟩;unfold pyNext;refine Ph (QZ (Qf (name:=Str.ofString "__next__") hT R6 (Qg R6 hT F.entry_enumerate_next ?_ (F.args_enumerate_next_1 _))));obtain⟨hp,g,d,tk,os⟩:=s;show wpAny _ _ (field (.ref e) 2 >>= _) _ _ _;refine Ph (Qh he rfl (x:=.ref it) rfl (Ph (hn _ _ _ λ h₁ hit₁ hs₁=>?_)));replace hs₁:Heap.SameBut it hp h₁:=hs₁;have he₁:IsEnum h₁ e it i old:=(hs₁.2 e hne).trans he;show wpAny _ _ (field (.ref e) 3 >>= _) _ _ ⟨h₁,g,d,tk,os⟩;refine Ph (Qh he₁ rfl (x:=rawInt i) rfl ?_);show wpAny _ _ (field (.ref e) 4 >>= _) _ _ ⟨h₁,g,d,tk,os⟩;refine Ph (Qh he₁ rfl (x:=.none) rfl ?_);show wpAny _ _ (mkInt i >>= _) _ _ ⟨h₁,g,d,tk,os⟩;refine Ph (wpAny_mkInt ?_);show wpAny _ _ (setField (.ref e) 3 (rawInt ((i:Int)+1)) >>= _) _ _ ⟨h₁,g,d,tk+1,os⟩;refine Ph (Qa he₁ #[25] λ h₂ he₂ hs₂=>?_);replace hs₂:Heap.SameBut e h₁ h₂:=hs₂;replace he₂:IsEnum h₂ e it ((i:Int)+1) old:=he₂;show wpAny _ _ (setField (.ref e) 4 .none >>= _) _ _ ⟨h₂,g,d,tk+1,os⟩;refine Ph (Qa he₂ #[25] λ h₃ he₃ hs₃=>?_);replace hs₃:Heap.SameBut e h₂ h₃:=hs₃;replace he₃:IsEnum h₃ e it ((i:Int)+1) old:=he₃;show wpAny _ _ (newTuple [.int i tk,x] >>= _) _ _ ⟨h₃,g,d,tk+1,os⟩;refine Ph (TU ?_);have sz:h₃.objs.size=hp.objs.size:=by rw[hs₃.1,hs₂.1,hs₁.1]
 have hel:e<hp.objs.size:=Px he;obtain⟨h₄,hh₄⟩:∃ h₄,h₄=h₃.push { cls:=.type "tuple",data:=.seq #[.int i tk,x] }:=⟨_,rfl⟩;have he₄:IsEnum h₄ e it ((i:Int)+1) old:=by rw[hh₄];exact Pj _ he₃
 have ht₄:h₄.get? hp.objs.size=some { cls:=.type "tuple",data:=.seq #[.int i tk,x] }:=by rw[hh₄,<-sz];exact Pu _ rfl
 have hz₄:h₄.objs.size=hp.objs.size+1:=by rw[hh₄,Qt,sz]
 have hk₄:∀ b o,b≠e->b≠it->hp.get? b=some o->h₄.get? b=some o:=λ b o hbe hbi hb=>by
  rw[hh₄];exact Pj _ (hs₃.extBut b o hbe (hs₂.extBut b o hbe (hs₁.extBut b o hbi hb)))
 have hit₄:∃ o,h₄.get? it=some o/\R o:=by
  obtain⟨o,ho,r⟩:=hit₁;rw[hh₄];exact⟨o,Pj _ (hs₃.extBut it o (QK hne) (hs₂.extBut it o (QK hne) ho)),r⟩
 rw[<-hh₄];show wpAny _ _ (Builtin.SmallTypes.ownedTupleIsFree (.ref e) >>= _) _ _ ⟨h₄,g,d,tk+1,os⟩;rw[sz];clear hh₄ he₃ hs₃ he₂ hs₂ he₁ hs₁ hit₁ sz h₃ h₂ h₁;refine Ph ?_;unfold Builtin.SmallTypes.ownedTupleIsFree;refine Ph (Qh he₄ rfl (x:=.none) rfl (Po ?_));simp only[RE];refine Ph (RP (Ph (Qh he₄ rfl (x:=old) rfl (Ph (Qa he₄ #[25] λ h₅ he₅ hs₅=>?_)))));replace hs₅:Heap.SameBut e h₄ h₅:=hs₅;replace he₅:IsEnum h₅ e it ((i:Int)+1) x:=he₅;show wpAny _ _ (Builtin.SmallTypes.ownedTupleHandOut (.ref e) (.ref hp.objs.size) >>= _) _ _ ⟨h₅,g,d,tk+1,os⟩;refine Ph ?_;unfold Builtin.SmallTypes.ownedTupleHandOut;refine Ph (Qa he₅ #[25] λ h₆ he₆ hs₆=>?_);replace hs₆:Heap.SameBut e h₅ h₆:=hs₆;replace he₆:IsEnumOut h₆ e it ((i:Int)+1) x hp.objs.size:=he₆;refine Qa he₆ #[25] λ h₇ he₇ hs₇=>?_;replace hs₇:Heap.SameBut e h₆ h₇:=hs₇;replace he₇:IsEnumOut h₇ e it ((i:Int)+1) x hp.objs.size:=he₇;have up:∀ b o,b≠e->h₄.get? b=some o->h₇.get? b=some o:=λ b o hb q=>hs₇.extBut b o hb (hs₆.extBut b o hb (hs₅.extBut b o hb q));refine Ph (Uh (Po ⟨_,rfl,Po (hQ h₇ he₇ ?_ (up _ _ (Rj hel) ht₄) (by rw[hs₇.1,hs₆.1,hs₅.1,hz₄]) λ b o hbe hbi hb=>up b o hbe (hk₄ b o hbe hbi hb))⟩));obtain⟨o,ho,r⟩:=hit₄;exact⟨o,up it o (QK hne) ho,r⟩
def Ep{old:Value}{Q:#[131]}(he:IsEnum s.heap e it i old)
  (hn:∀ (A':Around) (E' Q':#[4]),A'.handled=A.handled->(∀ h' x,Heap.ExtBut it s.heap h'->(∃ o,h'.get? x=some o/\o.cls=.type "StopIteration")->E' (.ref x) { s with heap:=h' })->wpAny #[12] A' #[78] Q' E' s)
  (hQ:∀ h',Heap.ExtBut it s.heap h'->Q none { s with heap:=h' }):wpAny #[12] A (pyNext (.ref e)) Q E s:=by
 have hT:s.TypeIs (.ref e) "enumerate" :=⟨_,he,rfl⟩;unfold pyNext;refine Ph (QZ (Qf (name:=Str.ofString "__next__") hT R6 (Qg R6 hT F.entry_enumerate_next ?_ (F.args_enumerate_next_1 _))));show wpAny _ _ (field (.ref e) 2 >>= _) _ _ _;refine Ph (Qh he rfl (x:=.ref it) rfl (Ph (hn _ _ _ rfl λ h' x he' hx'=>?_)));obtain⟨o,ho,hc⟩:=hx';exact Ph (Rz (T:="StopIteration") (b:=true) ⟨o,ho,hc⟩ TV (Po (hQ _ he')))
set_option maxHeartbeats 4000000 in
def qq (t:Addr)(items:#[132])(n:Nat)(dct:Option Addr)(sl:Array (Option Value)) :
  Meets (Builtin.«enumerate.__new__» ⟨[.type "enumerate",.ref t],[]⟩) (λ _ R s=>s.heap.get? t=some { cls:=.type "tuple",dict:=dct,data:=.seq items n,slots:=sl } /\
   R (.ok (.ret (.ref #[83].objs.size)))
    { s with heap:=#[83].push { cls:=.type "enumerate",data:=.fields #[.none,.bool false,.ref s.heap.objs.size,rawInt 0,.none,.none] } }):=
 .of_wp λ prog w A R s h=>by
  obtain⟨hp,g,d,tk,os⟩:=s;obtain⟨ht,h⟩:=h;have hsub:=sub_enumerate;have hT:Heap.IsTuple (Shared.heap ⟨hp,g,d,tk,os⟩) t items:=⟨_,ht,rfl,n,rfl⟩
  wp_walk using Sl ht
  refine wpAny_stack_any λ st=>Po ?_;split
  ·rename_i c _ _ _ _ _;cases (c == Value.type "enumerate")<;>(wp_walk using Sl ht,Sw hT;exact⟨_,rfl,h⟩)
  ·wp_walk using Sl ht,Sw hT
   exact⟨_,rfl,h⟩
def tD {t:Addr}(hT:s.heap.IsTuple t items)
  (h:∀ h',IsEnum h' #[55] s.heap.objs.size 0 .none->h'.IsTupleIter s.heap.objs.size t 0->#[77]->Q (.ref #[55]) { s with heap:=h' }) :
  wpAny #[12] A (call (.type "enumerate") [.ref t]) Q E s:=by
 obtain⟨⟨c,dct,dt,sl⟩,hl,hc,n,hd⟩:=hT;have hc:c=.type "tuple" :=hc;have hd:dt=.seq items n:=hd;subst hc hd;refine callType_new F.called_enumerate #[120] (F.typeCall_enumerate_1 _) (F.newCall_enumerate_1 _) (λ obj=>F.args_object_init_2 obj _) F.entry_enumerate_new (qq t items n dct sl) ⟨hl,?_⟩;have hz:#[83].objs.size=s.heap.objs.size+1:=Qt ..;show _/\_;rw[hz];have q:=Pu #[83] (o:={ cls:=.type "enumerate",data:=.fields #[.none,.bool false,.ref s.heap.objs.size,rawInt 0,.none,.none] }) rfl;rw[hz]at q;exact⟨⟨_,q,rfl⟩,h _ q ⟨_,Pj _ (Pu _ rfl),rfl,rfl⟩ λ b o x=>Pj _ (Pj _ x)⟩
end
def vB{h:Heap}{p:Addr}{o:HO}(x:jj P w H h)(hn:H p=none)(new:ck P w (upd H p o) h p o):jj P w (upd H p o) h:=λ a u e=>by
 by_cases q:a=p
 ·subst q;rw[aN]at e;cases e;exact new
 ·rw[aH q]at e;exact(x a u e).stay (λ _ _ _ z=>z) (λ b z=>by rw[aH (bF z hn)];exact z) λ b xs z=>by rw[aH (bF z hn)];exact z
def NH (src:Hp->List V->Prop):It:=
 ⟨λ i H=>∃ xs x,src H xs/\xs[i]?=some x,λ i H x H'=>∃ p y,x=.ref p/\H p=none/\H'=upd H p (.tup [.int i,y])/\∀ xs,src H xs->xs[i]?=some y,λ i H=>∃ xs,src H xs/\xs.length<=i⟩
structure Src (P:Program)(w:World)(K:PySem.W.Frag)(a it:Addr)(src:Hp->List V->Prop)(nx:Nat->Obj->Prop):Prop where
 dat:∀ i o,nx i o->∀ v,o.data ≠ .cell v
 item:∀ (X:Cx),X.prog=P->X.w=w->X.K=K->∀ (pins:#[15]) (σ:St) (H:Hp) (s:Shared) (xs:List V) (i:Nat) (x:V),Inv X pins σ H s->src H xs->xs[i]?=some x->(∃ o,s.heap.get? it=some o/\nx i o) ->
  ∃ u,RelV x u/\∀ (A':Around) (E' Q':#[4]),(∀ h',(∃ o,h'.get? it=some o/\nx (i+1) o)->Heap.SameBut it s.heap h'->Q' u { s with heap:=h' })->wpAny (model P w) A' #[78] Q' E' s
 done:∀ (X:Cx),X.prog=P->X.w=w->X.K=K->∀ (pins:#[15]) (σ:St) (H:Hp) (s:Shared) (xs:List V) (i:Nat),Inv X pins σ H s->src H xs->xs.length<=i->(∃ o,s.heap.get? it=some o/\nx i o) ->
  ∀ (A':Around) (E' Q':#[4]),A'.handled=none->(∀ h' x,Heap.ExtBut it s.heap h'->(∃ o,h'.get? x=some o/\o.cls=.type "StopIteration")->E' (.ref x) { s with heap:=h' })->wpAny (model P w) A' #[78] Q' E' s
 inj:∀ (X:Cx),X.prog=P->X.w=w->X.K=K->∀ (pins:#[15]) (σ:St) (H:Hp) (s:Shared) (xs ys:List V),Inv X pins σ H s->src H xs->src H ys->xs=ys
def src_list{K:#[0]}(a it:Addr):Src P w K a it (λ H xs=>eQ K H a xs) (λ i o=>o.cls=.type "list_iterator" /\ o.data=.fields #[.ref a,.int i 0]) where
 dat:=λ i o h v z=>by rw[h.2]at z;cases z
 item:=by
  intro X hP hw hK pins σ H s xs i x I hq hx ho;subst hP hw hK;obtain⟨its,rv,p,hz⟩:=I.list hq;obtain⟨u,hu,ru⟩:=rv.get hx;obtain⟨o,h1,h2,h3⟩:=ho;exact⟨u,ru,λ A' E' Q' hQ=>wpAny_nextOf_list_item ⟨o,h1,h2,h3⟩ p.isList (by simpa using hu) λ h' st sb=>hQ h' st sb⟩
 done:=by
  intro X hP hw hK pins σ H s xs i I hq hx ho A' E' Q' hh hE;subst hP hw hK;obtain⟨its,rv,p,hz⟩:=I.list hq;obtain⟨o,h1,h2,h3⟩:=ho;have hl:=rv.length;exact wpAny_nextOf_list_end hh ⟨o,h1,h2,h3⟩ p.isList (by simp;omega) hE
 inj:=by
  intro X hP hw hK pins σ H s xs ys I h1 h2;subst hP hw hK;exact I.qM h1 h2
def j3 {h:Heap}{its:#[132]}(x:IsTup h a its):h.IsTuple a its:=by
 obtain⟨o,h1,h2,h3⟩:=x;exact⟨o,h1,h2,h3⟩
def HC{K:#[0]}(a it:Addr):Src P w K a it (λ H xs=>jW K H a xs) (λ i o=>o.cls=.type "tuple_iterator" /\ o.data=.fields #[.ref a,.int i 0]) where
 dat:=λ i o h v z=>by rw[h.2]at z;cases z
 item:=by
  intro X hP hw hK pins σ H s xs i x I hq hx ho;subst hP hw hK;obtain⟨its,rv,p,hz⟩:=I.tuple hq;obtain⟨u,hu,ru⟩:=rv.get hx;obtain⟨o,h1,h2,h3⟩:=ho;exact⟨u,ru,λ A' E' Q' hQ=>ky ⟨o,h1,h2,h3⟩ (j3 p) (by simpa using hu) λ h' st sb=>hQ h' st sb⟩
 done:=by
  intro X hP hw hK pins σ H s xs i I hq hx ho A' E' Q' hh hE;subst hP hw hK;obtain⟨its,rv,p,hz⟩:=I.tuple hq;obtain⟨o,h1,h2,h3⟩:=ho;have hl:=rv.length;exact lj hh ⟨o,h1,h2,h3⟩ (j3 p) (by simp;omega) hE
 inj:=by
  intro X hP hw hK pins σ H s xs ys I h1 h2;subst hP hw hK;exact I.oX h1 h2
def uh{K:#[0]}{elts:#[92]}{x1:Nat}{tp:Pos}{src:Hp->List V->Prop}{nx:Nat->Obj->Prop}(S:Src P w K a it src nx)(hne:e≠it) :
  Turn P w K (.Tuple elts x1 tp) (NH src) [e,it] e (λ i h=>(∃ old,IsEnum h e it (i:Nat) old)/\∃ o,h.get? it=some o/\nx i o) where
 mem:=by simp
 obj:=λ i h st b hb=>by
  obtain⟨⟨old,h1⟩,o,h2,h3⟩:=st;rcases PB.mp hb with q|q
  ·subst q;exact⟨_,h1,λ v z=>by cases z⟩
  ·have q:b=it:=by simpa using q
   subst q;exact⟨o,h2,S.dat i o h3⟩
 keep:=λ i h h' st k=>by
  obtain⟨⟨old,h1⟩,o,h2,h3⟩:=st;exact⟨⟨old,k e #[25] _ h1⟩,o,k it #[25] o h2,h3⟩
 item:=by
  intro X hP hw hK hc i pins s σ H E I hf st hg;obtain⟨xs,x,hq,hx⟩:=hg;obtain⟨⟨old,h1⟩,ho⟩:=st;obtain⟨u,ru,hnx⟩:=S.item X hP hw hK pins σ H s xs i x I hq hx ho;have inj:=λ ys (hy:src H ys)=>S.inj X hP hw hK pins σ H s ys xs I hy hq;obtain⟨f0,f1,f2,f3,f4,f5⟩:=hf e #[25];obtain⟨g0,g1,g2,g3,g4,g5⟩:=hf it #[25];subst hP hw hK;have hel:e<s.heap.objs.size:=Px h1;refine CL h1 hne hnx λ h' k1 k2 k3 k4 k5=>⟨_,rfl,wpAny_letOwnedTupleGo_enum k1 λ h'' m1 m2=>?_⟩;have m2:Heap.SameBut e h' h'':=m2;have fr:H s.heap.objs.size=none:=I.fresh;have kp:∀ b o,b≠e->b≠it->s.heap.get? b=some o->h''.get? b=some o:=λ b o hb hb' q=>(m2.2 b hb).trans (k5 b o hb hb' q);have tp:h''.get? s.heap.objs.size=some { cls:=.type "tuple",data:=.seq #[.int i s.toks,u] }:=(m2.2 _ (Rj hel)).trans k3;have ok1:jj X.prog X.w H h'':=λ b o hb=>(I.hok b o hb).stay (λ c v hcb q=>kp c v (λ z=>by
    subst z;rcases hcb with z|z
    ·subst z;rw[f0]at hb;cases hb
    ·rw[f0]at z;cases z) (λ z=>by
    subst z;rcases hcb with z|z
    ·subst z;rw[g0]at hb;cases hb
    ·rw[g0]at z;cases z) q) (λ _ z=>z) λ _ _ z=>z
  have ok2:jj X.prog X.w (upd H s.heap.objs.size (.tup [.int i,x])) h'':=vB ok1 fr ⟨by show 2<=sizeLine;decide,[.int i s.toks,u],.cons ⟨_,rfl⟩ (.cons ru .nil),⟨_,tp⟩⟩;have I2:Inv X pins σ (upd H s.heap.objs.size (.tup [.int i,x])) { s with heap:=h'',toks:=s.toks+1 }:=by
   refine I.step (g':=s.gens) (d':=s.drawn) (ch:=[e,it]) (λ b hb=>?_) (λ b o _ _ hb q _=>kp b o #[137] #[137] q) (λ b o _ _ hb q _=>⟨o.slots,kp b o #[137] #[137] q⟩)
    (λ b o _ q n=>by rw[aH (PY (Px q))];exact n) (λ b o hb q=>⟨o,kp b o #[137] #[137] q⟩)
    (λ b ys q=>by rw[aH (bF q fr)];exact q) (λ b o v q=>by rw[aH (bF q fr)];exact q) (λ b ps q=>⟨#[],by rw[aH (bF q fr),Sx];exact q⟩)
    (λ m hm=>hm.at λ o q=>kp _ o (QK f1) (QK g1) q) ok2 I.bare
   rcases PB.mp hb with z|z
   ·subst z;exact⟨f3,f1,f4,f5⟩
   ·have z:b=it:=by simpa using z
    subst z;exact⟨g3,g1,g4,g5⟩
  obtain⟨oi,hoi,ri⟩:=k2;refine⟨.ref s.heap.objs.size,_,I2,rfl,⟨_,x,rfl,fr,rfl,λ ys hy=>by rw[inj ys hy];exact hx⟩,⟨⟨u,?_⟩,oi,(m2.2 it (QK hne)).trans hoi,ri⟩,λ b hb=>?_⟩
  ·have m1:IsEnum h'' e it ((i:Int)+1) u:=m1;have z:(((i+1:Nat)):Int)=(i:Int)+1:=by omega
   rw[z];exact m1
  ·have lt:b<s.heap.objs.size:=by
    rcases PB.mp hb with z|z
    ·rw[z];exact hel
    ·have z:b=it:=by simpa using z
     obtain⟨o,q,_⟩:=ho;rw[z];exact Px q
   rw[aH (PY lt)];exact(hf b hb).1
 done:=by
  intro X hP hw hK hc i pins s σ H E I hf st hg;obtain⟨xs,hq,hx⟩:=hg;obtain⟨⟨old,h1⟩,ho⟩:=st;have hd:=S.done X hP hw hK pins σ H s xs i I hq hx ho;obtain⟨g0,g1,g2,g3,g4,g5⟩:=hf it #[25];subst hP hw hK;exact Ep h1 (λ A' E' Q' hA hE=>hd A' E' Q' (hA.trans (I.ok.hd hc)) hE) λ h' eb=>⟨rfl,I.turned (t':=s.toks) (λ b o hb q=>eb b o hb q) g0 g1 g3 g4 g5⟩
 self:=λ _ _ _ _ _ st h=>by
  obtain⟨⟨old,h1⟩,_⟩:=st;exact Ui h1 h
section
variable{elts:#[92]}{x1:Nat}{tp p:Pos}{l:Expr}{ta:TA}
end
section
def lq:eO X (.builtin "sorted") (λ xs H Q=>∃ (a:Addr) (ns:#[6]),xs=[.ref a]/\eQ X.K H a (ns.map V.int)/\ns.length<64/\∀ (p:Addr) (ns':#[6]),H p=none->ns'.Perm ns->ns'.Pairwise (· <= ·)->Q (.ref p) (upd H p (.lst (ns'.map V.int)))):=by
 intro pins s σ H xs us Q I r h;obtain⟨a,ns,rfl,hq,hl,q⟩:=h;obtain⟨u,rfl,ru⟩:=vals1 r;cases ru;obtain⟨its,rv,pl,hz⟩:=I.list hq;have hi:=intsAre_of rv;have hlen:=rv.length;rw[Pk]at hlen;refine sorted_ints pl.isList hi #[1] λ out ns' a1 a2 a3=>?_;obtain⟨e,he⟩:=sortedAll_at s.heap its out;refine⟨.ref #[55],_,I.laid (t':=s.toks) (λ b o z=>sortedAll_old z) (Rl _) ?_,rfl,q _ ns' (I.hok.fresh (Rl _)) a2 a3⟩;refine⟨?_,out.toList,e,lV a1,by rw[Td];exact he⟩;rw[Pk,a2.length_eq];exact QG (RY hl) #[120]
def dd (ns:#[6]):List Int:=firstMet (λ i=>ns.getD i 0) ns.length
end
def Er (scope sc:Scope):Scope:=
 { scope with names:=scope.names.map λ (n,k)=>if (k == .free&&sc.kind == .function&&sc.names.lookup n == some .cell) then (n,.cell) else (n,k) }
def KS (scope:Scope)(env:Env):relabel scope env=Er scope env.scope:=rfl
def A3 (sc:Scope)(N:#[116])(scope:Scope)(cap:List (Str×Nat)):Bool:=
 decide (scope.kind=.function)&&decide ((scope.names.map (·.1)).Nodup) &&
 (scope.names.all λ y=>!(y.2 == .free)||(sc.names.lookup y.1 == some .cell||sc.names.lookup y.1 == some .free)) &&
 (cap.all λ p=>(N[p.2]? == some p.1)&&scope.names.contains (p.1,NameKind.free))
def di{own:#[116]}(sc:Scope)(hsc:X.env.scope=sc)(N:#[116])(hN:X.N=N)(h:A3 sc N scope cap=true):gE X scope own cap:=by
 simp only[A3,Ql,RN]at h;obtain⟨⟨⟨h1,h2⟩,h3⟩,h4⟩:=h;refine⟨h1,h2,λ y hy hk=>?_,λ p hp=>?_⟩
 ·have q:=Sf.mp h3 y hy;show X.env.scope.names.lookup y.1=some .cell\/X.env.scope.names.lookup y.1=some .free;rw[hsc];rw[hk]at q;simpa using q
 ·have q:=Sf.mp h4 p hp;rw[Ql]at q;rw[hN];exact⟨by simpa using q.1,by simpa using q.2⟩
structure mY (P:Program)(w:World)(K:PySem.W.Frag)(mg:Str->Option Value)(base:Heap)(k:Nat)(x:Str)(ps:List Str)(sp:Sp):Prop where
 ex:∃ f fd,mg x=some (.ref f)/\PySem.W.keepIn K (.ref f)=true/\Binds K fd ps []/\oY P w K mg base yW k f fd ps sp
structure kP (K:PySem.W.Frag)(mg:Str->Option Value)(x:Str)(st:Stmt)(ps:List Str):Prop where
 ex:∃ f fd,Hw K x x st f fd/\mg x=some (.ref f)/\Binds K fd ps []
section
variable{k:Nat}{p:Pos}{e:Expr}{es:#[92]}{t:TA}
def KR (C:mY X.prog X.w X.K X.mg X.base k x ps sp)(hr:fG k X.A)(hg:Gl X x)(ha:PA X (e::es) t)(hdb:#[2]:=by decide)
  (he:#[9]:=by rfl) (hpl:#[45].any (·.1)=false:=by rfl):PE X #[48] (Jw sp [] E0 t):=by
 obtain⟨f,fd,hm,hk,hb,F⟩:=C.ex;exact Hb F hr hg hm hk hb .nil ML ha hdb he hpl
end
end L2
namespace DL
open PySem PySem.Spec PyProof.Rows L2
variable {a:Addr}{F F':#[17]}{X:Cx}{e l tg:Expr}{o:HO}{base:Heap}{B B' B0 B1 H H' H0 H1:Hp}{σ:L2.St}{cap:List (Str×Nat)}{P f fp:#[8]}{es rest:#[92]}{N ps:#[116]}{vs:List V}{i n:Nat}{p p1 pos pos':Pos}{C:Prop}{r:R2}{st:Stmt}{x:Str}{mg:#[11]}{T:String}{α β:Type}{v:V}{Q:VK}{w:World}
inductive Tg where|own|bor|aq|len (a:Addr)
 deriving DecidableEq
abbrev KT:=Sum Key (List Key)
variable {ks:List KT}
inductive D where
 |a8|bl (b:Bool)|int (i:Int)|str (x:Str)
 |tup (xs:List D)|lst (t:Tg) (xs:List D)|dct (t:Tg) (k:Bool) (ks:List KT) (vs:List D)
 |exc (C:Addr)
variable {d:D}{ds xs:List D}
abbrev SD:=List #[95]
variable {τ:SD}
inductive Res (α:Type) where|ok (a:α)|eB (C:Addr)|bad
variable {g:D->D->Res D}{it:SD->Res #[106]}{c gc tt:#[66]}{elt fe:#[28]}
def Res.bind:Res α->(α->Res β)->Res β
 |.ok a,f=>f a
 |.eB c,_=>.eB c
 |.bad,_=>.bad
def Res.map(f:α->β)(r:Res α):Res β:=r.bind λ a=>.ok (f a)
@[simp] theorem Res.aK(a:α)(f:α->Res β):(Res.ok a).bind f=f a:=rfl
@[simp] theorem Res.jE(c:Addr)(f:α->Res β):(Res.eB c:Res α).bind f=.eB c:=rfl
@[simp] theorem Res.jD(f:α->Res β):(Res.bad:Res α).bind f=.bad:=rfl
@[simp] theorem Res.Es(a:α)(f:α->β):Res.map f (Res.ok a)=.ok (f a):=rfl
def Tg.lu:Tg->Bool|.own=>true|.len _=>true|_=>false
def Tg.view:Tg->Tg|.own=>.bor|.len _=>.bor|t=>t
def Tg.aX:Tg->Tg|.aq=>.bor|t=>t
mutual
def D.view:D->D
 |.tup xs=>.tup (c5 xs)
 |.lst t xs=>.lst t.view (c5 xs)
 |.dct t k ks vs=>.dct t.view k ks (c5 vs)
 |d=>d
def c5:List D->List D
 |[]=>[]
 |d::r=>d.view::c5 r
end
mutual
def D.aq:D->D
 |.tup xs=>.tup (aG xs)
 |.lst _ xs=>.lst .aq (aG xs)
 |.dct _ k ks vs=>.dct .aq k ks (aG vs)
 |d=>d
def aG:List D->List D
 |[]=>[]
 |d::r=>d.aq::aG r
end
mutual
def D.aX:D->D
 |.tup xs=>.tup (bW xs)
 |.lst t xs=>.lst t.aX (bW xs)
 |.dct t k ks vs=>.dct t.aX k ks (bW vs)
 |d=>d
def bW:List D->List D
 |[]=>[]
 |d::r=>d.aX::bW r
end
mutual
def D.aD:D->Bool
 |.tup xs=>aB xs
 |.lst t xs=>decide (t=.bor)||aB xs
 |.dct t _ _ vs=>decide (t=.bor)||aB vs
 |_=>false
def aB:List D->Bool
 |[]=>false
 |d::r=>d.aD||aB r
end
mutual
def D.pure:D->Bool
 |.tup xs=>aT xs
 |.lst _ _=>false
 |.dct _ _ _ _=>false
 |_=>true
def aT:List D->Bool
 |[]=>true
 |d::r=>d.pure&&aT r
end
mutual
def uq:∀ d:D,d.pure=true->d.view=d
 |.a8,_=>rfl|.bl _,_=>rfl|.int _,_=>rfl|.str _,_=>rfl|.exc _,_=>rfl
 | .tup xs,h=>by
  have h:aT xs=true:=h;show D.tup (c5 xs)=_;rw[gF xs h]
 |.lst _ _,h=>by cases h
 |.dct _ _ _ _,h=>by cases h
def gF:∀ xs:List D,aT xs=true->c5 xs=xs
 |[],_=>rfl
 | d::r,h=>by
  have h:(d.pure&&aT r)=true:=h;rw[Ql]at h;show d.view::c5 r=_;rw[uq d h.1,gF r h.2]
end
mutual
def bQ:∀ d:D,d.pure=true->d.aq=d
 |.a8,_=>rfl|.bl _,_=>rfl|.int _,_=>rfl|.str _,_=>rfl|.exc _,_=>rfl
 | .tup xs,h=>by
  have h:aT xs=true:=h;show D.tup (aG xs)=_;rw[d9 xs h]
 |.lst _ _,h=>by cases h
 |.dct _ _ _ _,h=>by cases h
def d9:∀ xs:List D,aT xs=true->aG xs=xs
 |[],_=>rfl
 | d::r,h=>by
  have h:(d.pure&&aT r)=true:=h;rw[Ql]at h;show d.aq::aG r=_;rw[bQ d h.1,d9 r h.2]
end
mutual
def qY:∀ d:D,d.pure=true->d.aX=d
 |.a8,_=>rfl|.bl _,_=>rfl|.int _,_=>rfl|.str _,_=>rfl|.exc _,_=>rfl
 | .tup xs,h=>by
  have h:aT xs=true:=h;show D.tup (bW xs)=_;rw[gf xs h]
 |.lst _ _,h=>by cases h
 |.dct _ _ _ _,h=>by cases h
def gf:∀ xs:List D,aT xs=true->bW xs=xs
 |[],_=>rfl
 | d::r,h=>by
  have h:(d.pure&&aT r)=true:=h;rw[Ql]at h;show d.aX::bW r=_;rw[qY d h.1,gf r h.2]
end
mutual
def aV:∀ d:D,d.pure=true->d.aD=false
 |.a8,_=>rfl|.bl _,_=>rfl|.int _,_=>rfl|.str _,_=>rfl|.exc _,_=>rfl|.tup xs,h=>bB xs h
 |.lst _ _,h=>by cases h
 |.dct _ _ _ _,h=>by cases h
def bB:∀ xs:List D,aT xs=true->aB xs=false
 |[],_=>rfl
 | d::r,h=>by
  have h:(d.pure&&aT r)=true:=h;rw[Ql]at h;show(d.aD||aB r)=false;rw[aV d h.1,bB r h.2];rfl
end
def bK:∀ {xs:List D},(∀ d∈xs,d.pure=true)->aT xs=true
 |[],_=>rfl
 | d::r,h=>by
  show(d.pure&&aT r)=true;rw[h d Pp,bK λ x hx=>h x (Pn _ hx)];rfl
def uo:∀ {xs:List D},aT xs=true->∀ d∈xs,d.pure=true
 | d::r,h,x,hx=>by
  have h:(d.pure&&aT r)=true:=h;rw[Ql]at h;rcases PB.mp hx with e|e
  ·rw[e];exact h.1
  ·exact uo h.2 x e
def qZ:∀ xs:List D,c5 xs=xs.map D.view
 |[]=>rfl|d::r=>by rw[c5,qZ r];rfl
def qB:∀ xs:List D,aG xs=xs.map D.aq
 |[]=>rfl|d::r=>by rw[aG,qB r];rfl
def um:∀ xs:List D,bW xs=xs.map D.aX
 |[]=>rfl|d::r=>by rw[bW,um r];rfl
def q9:∀ xs:List D,aB xs=xs.any D.aD
 |[]=>rfl|d::r=>by rw[aB,q9 r];rfl
def DictAt (H:Hp)(a:Addr)(k:Bool)(ks:List KT)(vs:List V):Prop:=
 (k=false/\∃ (kvs:#[102]) (ep:Nat),H a=some (.dK kvs ep)/\ks=kvs.map (λ p=>Sum.inl p.1)/\vs=kvs.map (·.2)) ∨
 (k=true/\∃ (kvs:List (List Key×V)) (ep:Nat),H a=some (.dT kvs ep)/\ks=kvs.map (λ p=>Sum.inr p.1)/\vs=kvs.map (·.2))
def ExcAt (H:Hp)(a C:Addr):Prop:=∃ (t:Addr) (tb:Value) (u:HO),H a=some (.aq { cls:=.ref C,data:=.fields #[.ref t,tb,.none,.none,.bool false,.none] } u)
mutual
def Rep (K:#[0])(B:Hp)(S:#[17])(H:Hp):D->V->List Addr->Prop
 |.a8,v,fp=>v=.a8/\fp=[]
 |.bl b,v,fp=>v=.bl b/\fp=[]
 |.int i,v,fp=>v=.int i/\fp=[]
 |.str x,v,fp=>v=.str x/\fp=[]
 |.exc x,v,fp=>(∃ a,v=.ref a/\ExcAt H a x)/\fp=[]
 |.tup xs,v,fp=>∃ a vs,v=.ref a/\H a=some (.tup vs)/\ak K B S H xs vs fp
 |.lst .own xs,v,fp=>∃ a vs f,v=.ref a/\H a=some (.lst vs)/\ak K B S H xs vs f/\fp=a::f
 |.lst .bor xs,v,fp=>∃ a vs,v=.ref a/\((S a/\eQ K H a vs)\/eQ K B a vs)/\ak K B S H xs vs []/\fp=[]
 |.lst .aq xs,v,fp=>∃ a vs,v=.ref a/\eQ K B a vs/\ak K B (λ _=>False) H xs vs []/\fp=[]
 |.lst (.len _) _,_,_=>False
 |.dct (.len p) k ks xs,v,fp=>∃ vs f,v=.ref p/\DictAt H p k ks vs/\ak K B S H xs vs f/\fp=p::f
 |.dct .own k ks xs,v,fp=>∃ a vs f,v=.ref a/\DictAt H a k ks vs/\ak K B S H xs vs f/\fp=a::f
 |.dct .bor k ks xs,v,fp=>∃ a vs,v=.ref a/\((S a/\DictAt H a k ks vs)\/DictAt B a k ks vs)/\ak K B S H xs vs []/\fp=[]
 |.dct .aq k ks xs,v,fp=>∃ a vs,v=.ref a/\DictAt B a k ks vs/\ak K B (λ _=>False) H xs vs []/\fp=[]
def ak (K:#[0])(B:Hp)(S:#[17])(H:Hp):List D->List V->List Addr->Prop
 |[],vs,fp=>vs=[]/\fp=[]
 |d::ds,vs,fp=>∃ v r f g,vs=v::r/\Rep K B S H d v f/\ak K B S H ds r g/\fp=f++g
end
def eF {K:#[0]}(s:au H H'){xs:List V}(h:eQ K H a xs):eQ K H' a xs:=s.seq h
def DictAt.mono(s:au H H'){k:Bool}(h:DictAt H a k ks vs):DictAt H' a k ks vs:=by
 rcases h with ⟨z,kvs,ep,h,r⟩|⟨z,kvs,ep,h,r⟩
 ·exact .inl ⟨z,kvs,ep,s _ _ h,r⟩
 ·exact .inr ⟨z,kvs,ep,s _ _ h,r⟩
def ExcAt.mono(s:au H H'){C:Addr}(h:ExcAt H a C):ExcAt H' a C:=let ⟨t,tb,u,h⟩:=h;⟨t,tb,u,s _ _ h⟩
section
variable {K:#[0]}
mutual
def Rep.mono {B B' H H':Hp}{S S':#[17]}(sH:au H H')(sB:au B B')(sS:∀ a,S a->S' a):∀ {d:D}{v:V}{fp:#[8]},Rep K B S H d v fp->Rep K B' S' H' d v fp
 |.a8,_,_,h=>h
 |.bl _,_,_,h=>h
 |.int _,_,_,h=>h
 |.str _,_,_,h=>h
 |.exc _,_,_,h=>let ⟨⟨a,e,z⟩,r⟩:=h;⟨⟨a,e,z.mono sH⟩,r⟩
 |.tup xs,v,fp,h=>let ⟨a,vs,e,q,r⟩:=h;⟨a,vs,e,sH _ _ q,ak.mono sH sB sS r⟩
 |.lst .own xs,v,fp,h=>let ⟨a,vs,f,e,q,r,z⟩:=h;⟨a,vs,f,e,sH _ _ q,ak.mono sH sB sS r,z⟩
 |.lst .bor xs,v,fp,h=>let ⟨a,vs,e,q,r,z⟩:=h;⟨a,vs,e,q.imp (λ y=>⟨sS _ y.1,eF sH y.2⟩) (λ y=>eF sB y),ak.mono sH sB sS r,z⟩
 |.lst .aq xs,v,fp,h=>let ⟨a,vs,e,q,r,z⟩:=h;⟨a,vs,e,eF sB q,ak.mono sH sB (λ _ x=>x) r,z⟩
 |.lst (.len _) _,_,_,h=>h.elim
 |.dct (.len a) k ks xs,v,fp,h=>let ⟨vs,f,e,q,r,z⟩:=h;⟨vs,f,e,q.mono sH,ak.mono sH sB sS r,z⟩
 |.dct .own k ks xs,v,fp,h=>let ⟨a,vs,f,e,q,r,z⟩:=h;⟨a,vs,f,e,q.mono sH,ak.mono sH sB sS r,z⟩
 |.dct .bor k ks xs,v,fp,h=>let ⟨a,vs,e,q,r,z⟩:=h;⟨a,vs,e,q.imp (λ y=>⟨sS _ y.1,y.2.mono sH⟩) (λ y=>y.mono sB),ak.mono sH sB sS r,z⟩
 |.dct .aq k ks xs,v,fp,h=>let ⟨a,vs,e,q,r,z⟩:=h;⟨a,vs,e,q.mono sB,ak.mono sH sB (λ _ x=>x) r,z⟩
def ak.mono {B B' H H':Hp}{S S':#[17]}(sH:au H H')(sB:au B B')(sS:∀ a,S a->S' a):∀ {ds:List D}{vs:List V}{fp:#[8]},ak K B S H ds vs fp->ak K B' S' H' ds vs fp
 |[],_,_,h=>h
 |d::ds,vs,fp,h=>let ⟨v,r,f,g,e,h1,h2,z⟩:=h;⟨v,r,f,g,e,Rep.mono sH sB sS h1,ak.mono sH sB sS h2,z⟩
end
def ak.length {B H:Hp}{S:#[17]}:∀ {ds:List D}{vs:List V}{fp:#[8]},ak K B S H ds vs fp->ds.length=vs.length
 |[],_,_,h=>by rw[h.1];rfl
 | d::ds,vs,fp,h=>by
  obtain⟨v,r,f,g,e,h1,h2,z⟩:=h;rw[e,PU,PU,ak.length h2]
def mG {g:#[8]}(h:([]:#[8])=f++g):f=[]/\g=[]:=List.append_eq_nil_iff.mp h.symm
def ak.get {B H:Hp}{S:#[17]}:∀ {ds:List D}{vs:List V}{fp:#[8]}{i:Nat}{d:D},ak K B S H ds vs fp->ds[i]?=some d->∃ v f,vs[i]?=some v/\Rep K B S H d v f/\List.Sublist f fp
 |[],_,_,i,_,_,e=>by simp at e
 | d::ds,vs,fp,0,d',h,e=>by
  obtain⟨v,r,f,g,e1,h1,h2,z⟩:=h;have e:d=d':=by simpa using e
  subst e e1 z;exact⟨v,f,rfl,h1,Qj _ _⟩
 | d::ds,vs,fp,i+1,d',h,e=>by
  obtain⟨v,r,f,g,e1,h1,h2,z⟩:=h;subst e1 z;obtain⟨w,f',a1,a2,a3⟩:=ak.get (i:=i) h2 (by simpa using e);exact⟨w,f',by simpa using a1,a2,a3.trans (P6 _ _)⟩
def ak.append {B H:Hp}{S:#[17]}:∀ {xs ys:List D}{us vs:List V}{f g:#[8]},ak K B S H xs us f->ak K B S H ys vs g->ak K B S H (xs++ys) (us++vs) (f++g)
 | [],ys,us,vs,f,g,h,h'=>by
  obtain⟨rfl,rfl⟩:=h;exact h'
 | d::ds,ys,us,vs,f,g,h,h'=>by
  obtain⟨v,r,f1,f2,e1,h1,h2,z⟩:=h;subst e1 z;exact⟨v,r++vs,f1,f2++g,rfl,h1,ak.append h2 h',by rw[Qn]⟩
def ak.one{S:#[17]}(h:Rep K B S H d v f):ak K B S H [d] [v] f:=⟨v,[],f,[],rfl,h,⟨rfl,rfl⟩,(Qi _).symm⟩
def ak.split {B H:Hp}{S:#[17]}:∀ {xs ys:List D}{vs:List V}{f:#[8]},ak K B S H (xs++ys) vs f->∃ us ws g h,vs=us++ws/\f=g++h/\ak K B S H xs us g/\ak K B S H ys ws h
 |[],ys,vs,f,h=>⟨[],vs,[],f,rfl,rfl,⟨rfl,rfl⟩,h⟩
 | d::ds,ys,vs,f,h=>by
  obtain⟨v,r,f1,f2,e1,h1,h2,z⟩:=h;subst e1 z;obtain⟨us,ws,g,h',e1,e2,a,b⟩:=ak.split h2;subst e1 e2;exact⟨v::us,ws,f1++g,h',rfl,by rw[Qn],⟨v,us,f1,g,rfl,h1,a,rfl⟩,b⟩
def nK{S:#[17]}:(∀ (d:D) {v:V}{fp:#[8]},d.pure=true->Rep K B S H d v fp->fp=[])/\(∀ (ds:List D) {vs:List V}{fp:#[8]},aT ds=true->ak K B S H ds vs fp->fp=[]):=by
 refine⟨λ d=>?_,λ ds=>?_⟩
 ·exact D.rec (motive_1:=λ d=>∀ {v:V}{fp:#[8]},d.pure=true->Rep K B S H d v fp->fp=[]) (motive_2:=λ ds=>∀ {vs:List V}{fp:#[8]},aT ds=true->ak K B S H ds vs fp->fp=[])
   (λ _ h=>h.2) (λ _ _ _ _ h=>h.2) (λ _ _ _ _ h=>h.2) (λ _ _ _ _ h=>h.2) (λ xs ih _ _ p h=>let ⟨_,_,_,_,r⟩:=h;ih p r) (λ _ _ _ _ _ p=>by cases p) (λ _ _ _ _ _ _ _ p=>by cases p) (λ _ _ _ _ h=>h.2) (λ _ h=>h.2)
   (λ d r ih1 ih2 _ _ p h=>by
    have p:(d.pure&&aT r)=true:=p;rw[Ql]at p;obtain⟨_,_,_,_,_,h1,h2,z⟩:=h;rw[z,ih1 p.1 h1,ih2 p.2 h2];rfl) d
 ·exact D.rec_1 (motive_1:=λ d=>∀ {v:V}{fp:#[8]},d.pure=true->Rep K B S H d v fp->fp=[]) (motive_2:=λ ds=>∀ {vs:List V}{fp:#[8]},aT ds=true->ak K B S H ds vs fp->fp=[])
   (λ _ h=>h.2) (λ _ _ _ _ h=>h.2) (λ _ _ _ _ h=>h.2) (λ _ _ _ _ h=>h.2) (λ xs ih _ _ p h=>let ⟨_,_,_,_,r⟩:=h;ih p r) (λ _ _ _ _ _ p=>by cases p) (λ _ _ _ _ _ _ _ p=>by cases p) (λ _ _ _ _ h=>h.2) (λ _ h=>h.2)
   (λ d r ih1 ih2 _ _ p h=>by
    have p:(d.pure&&aT r)=true:=p;rw[Ql]at p;obtain⟨_,_,_,_,_,h1,h2,z⟩:=h;rw[z,ih1 p.1 h1,ih2 p.2 h2];rfl) ds
end
abbrev No:Addr->Prop:=λ _=>False
section
variable {K:#[0]}
mutual
def Rep.view {B H:Hp}{S:#[17]}:∀ {d:D}{v:V}{fp:#[8]},Rep K B No H d v fp->(∀ a∈fp,S a)->Rep K B S H d.view v []
 |.a8,_,_,h,_=>⟨h.1,rfl⟩
 |.bl _,_,_,h,_=>⟨h.1,rfl⟩
 |.int _,_,_,h,_=>⟨h.1,rfl⟩
 |.str _,_,_,h,_=>⟨h.1,rfl⟩
 |.exc _,_,_,h,_=>⟨h.1,rfl⟩
 |.tup xs,v,fp,h,hs=>let ⟨a,vs,e,q,r⟩:=h;⟨a,vs,e,q,ak.view r hs⟩
 | .lst .own xs,v,fp,h,hs=>by
  obtain⟨a,vs,f,e,q,r,z⟩:=h;subst z;exact⟨a,vs,e,.inl ⟨hs a Pp,eQ.of q⟩,ak.view r λ b hb=>hs b (Pn _ hb),rfl⟩
 |.lst .bor xs,v,fp,h,hs=>let ⟨a,vs,e,q,r,z⟩:=h;⟨a,vs,e,.inr (q.resolve_left λ y=>y.1),ak.view r (λ _ x=>by cases x),rfl⟩
 |.lst .aq xs,v,fp,h,hs=>let ⟨a,vs,e,q,r,z⟩:=h;⟨a,vs,e,q,ak.view (S:=No) r (λ _ x=>by cases x),rfl⟩
 |.lst (.len _) _,_,_,h,_=>h.elim
 | .dct (.len a) kd ks xs,v,fp,h,hs=>by
  obtain⟨vs,f,e,q,r,z⟩:=h;subst z;exact⟨a,vs,e,.inl ⟨hs a Pp,q⟩,ak.view r λ b hb=>hs b (Pn _ hb),rfl⟩
 | .dct .own kd ks xs,v,fp,h,hs=>by
  obtain⟨a,vs,f,e,q,r,z⟩:=h;subst z;exact⟨a,vs,e,.inl ⟨hs a Pp,q⟩,ak.view r λ b hb=>hs b (Pn _ hb),rfl⟩
 |.dct .bor kd ks xs,v,fp,h,hs=>let ⟨a,vs,e,q,r,z⟩:=h;⟨a,vs,e,.inr (q.resolve_left λ y=>y.1),ak.view r (λ _ x=>by cases x),rfl⟩
 |.dct .aq kd ks xs,v,fp,h,hs=>let ⟨a,vs,e,q,r,z⟩:=h;⟨a,vs,e,q,ak.view (S:=No) r (λ _ x=>by cases x),rfl⟩
def ak.view {B H:Hp}{S:#[17]}:∀ {ds:List D}{vs:List V}{fp:#[8]},ak K B No H ds vs fp->(∀ a∈fp,S a)->ak K B S H (c5 ds) vs []
 |[],_,_,h,_=>⟨h.1,rfl⟩
 | d::ds,vs,fp,h,hs=>by
  obtain⟨v,r,f,g,e,h1,h2,z⟩:=h;subst z;exact⟨v,r,[],[],e,Rep.view h1 (λ b hb=>hs b (PD _ hb)),ak.view h2 (λ b hb=>hs b (PM _ hb)),rfl⟩
end
def Et{S:#[17]}(sB:au B B')(hs:∀ a o,S a->H a=some o->B' a=some o)(q:(S a/\eQ K H a vs)\/eQ K B a vs):eQ K B' a vs:=by
 rcases q with ⟨s,(q|⟨o,q⟩)|q⟩|q
 ·exact .inl (.inl (hs _ _ s q))
 ·exact .inl (.inr ⟨o,hs _ _ s q⟩)
 ·exact .inr q
 ·exact sB.seq q
def lW{S:#[17]}{kd:Bool}(sB:au B B')(hs:∀ a o,S a->H a=some o->B' a=some o)(q:(S a/\DictAt H a kd ks vs)\/DictAt B a kd ks vs):DictAt B' a kd ks vs:=by
 rcases q with ⟨s,⟨z,kvs,ep,q,r⟩|⟨z,kvs,ep,q,r⟩⟩|q
 ·exact .inl ⟨z,kvs,ep,hs _ _ s q,r⟩
 ·exact .inr ⟨z,kvs,ep,hs _ _ s q,r⟩
 ·exact q.mono sB
mutual
def Rep.aq {B B' H:Hp}{S:#[17]}(sB:au B B')(hs:∀ a o,S a->H a=some o->B' a=some o):∀ {d:D}{v:V}{fp:#[8]},Rep K B S H d v fp->(∀ a∈fp,∀ o,H a=some o->B' a=some o)->Rep K B' No H d.aq v []
 |.a8,_,_,h,_=>⟨h.1,rfl⟩
 |.bl _,_,_,h,_=>⟨h.1,rfl⟩
 |.int _,_,_,h,_=>⟨h.1,rfl⟩
 |.str _,_,_,h,_=>⟨h.1,rfl⟩
 |.exc _,_,_,h,_=>⟨h.1,rfl⟩
 |.tup xs,v,fp,h,hf=>let ⟨a,vs,e,q,r⟩:=h;⟨a,vs,e,q,ak.aq sB hs r hf⟩
 | .lst .own xs,v,fp,h,hf=>by
  obtain⟨a,vs,f,e,q,r,z⟩:=h;subst z;exact⟨a,vs,e,eQ.of (hf a Pp _ q),ak.aq sB hs r λ b hb=>hf b (Pn _ hb),rfl⟩
 |.lst .bor xs,v,fp,h,hf=>let ⟨a,vs,e,q,r,z⟩:=h;⟨a,vs,e,Et sB hs q,ak.aq sB hs r (λ _ x=>by cases x),rfl⟩
 |.lst .aq xs,v,fp,h,hf=>let ⟨a,vs,e,q,r,z⟩:=h;⟨a,vs,e,eF sB q,ak.aq sB (λ _ _ x=>x.elim) r (λ _ x=>by cases x),rfl⟩
 |.lst (.len _) _,_,_,h,_=>h.elim
 | .dct (.len a) kd ks xs,v,fp,h,hf=>by
  obtain⟨vs,f,e,q,r,z⟩:=h;subst z;refine⟨a,vs,e,?_,ak.aq sB hs r λ b hb=>hf b (Pn _ hb),rfl⟩;exact lW (S:=λ b=>b=a) sB (λ b o eb=>by rw[eb];exact hf a Pp o) (.inl ⟨rfl,q⟩)
 | .dct .own kd ks xs,v,fp,h,hf=>by
  obtain⟨a,vs,f,e,q,r,z⟩:=h;subst z;refine⟨a,vs,e,?_,ak.aq sB hs r λ b hb=>hf b (Pn _ hb),rfl⟩;exact lW (S:=λ b=>b=a) sB (λ b o eb=>by rw[eb];exact hf a Pp o) (.inl ⟨rfl,q⟩)
 |.dct .bor kd ks xs,v,fp,h,hf=>let ⟨a,vs,e,q,r,z⟩:=h;⟨a,vs,e,lW sB hs q,ak.aq sB hs r (λ _ x=>by cases x),rfl⟩
 |.dct .aq kd ks xs,v,fp,h,hf=>let ⟨a,vs,e,q,r,z⟩:=h;⟨a,vs,e,q.mono sB,ak.aq sB (λ _ _ x=>x.elim) r (λ _ x=>by cases x),rfl⟩
def ak.aq {B B' H:Hp}{S:#[17]}(sB:au B B')(hs:∀ a o,S a->H a=some o->B' a=some o):∀ {ds:List D}{vs:List V}{fp:#[8]},ak K B S H ds vs fp->(∀ a∈fp,∀ o,H a=some o->B' a=some o)->ak K B' No H (aG ds) vs []
 |[],_,_,h,_=>⟨h.1,rfl⟩
 | d::ds,vs,fp,h,hf=>by
  obtain⟨v,r,f,g,e,h1,h2,z⟩:=h;subst z;exact⟨v,r,[],[],e,Rep.aq sB hs h1 (λ b hb=>hf b (PD _ hb)),ak.aq sB hs h2 (λ b hb=>hf b (PM _ hb)),rfl⟩
end
def xF{S:#[17]}(sH:au B H)(hb:∀ a o,B a=some o->B' a=some o\/S a)(q:eQ K B a vs):(S a/\eQ K H a vs)\/eQ K B' a vs:=by
 rcases q with (q|⟨o,q⟩)|q
 ·exact(hb _ _ q).symm.imp (λ s=>⟨s,eQ.of (sH _ _ q)⟩) λ z=>.inl (.inl z)
 ·exact(hb _ _ q).symm.imp (λ s=>⟨s,.inl (.inr ⟨o,sH _ _ q⟩)⟩) λ z=>.inl (.inr ⟨o,z⟩)
 ·exact .inr (.inr q)
def pY{S:#[17]}{kd:Bool}(sH:au B H)(hb:∀ a o,B a=some o->B' a=some o\/S a)(q:DictAt B a kd ks vs):(S a/\DictAt H a kd ks vs)\/DictAt B' a kd ks vs:=by
 rcases q with ⟨y,kvs,ep,q,r⟩|⟨y,kvs,ep,q,r⟩
 ·exact(hb _ _ q).symm.imp (λ s=>⟨s,.inl ⟨y,kvs,ep,sH _ _ q,r⟩⟩) λ z=>.inl ⟨y,kvs,ep,z,r⟩
 ·exact(hb _ _ q).symm.imp (λ s=>⟨s,.inr ⟨y,kvs,ep,sH _ _ q,r⟩⟩) λ z=>.inr ⟨y,kvs,ep,z,r⟩
mutual
def Rep.aX {B B' H:Hp}{S:#[17]}(sH:au B H)(hb:∀ a o,B a=some o->B' a=some o\/S a):∀ {d:D}{v:V}{fp:#[8]},Rep K B No H d v fp->Rep K B' S H d.aX v fp
 |.a8,_,_,h=>h
 |.bl _,_,_,h=>h
 |.int _,_,_,h=>h
 |.str _,_,_,h=>h
 |.exc _,_,_,h=>h
 |.tup xs,v,fp,h=>let ⟨a,vs,e,q,r⟩:=h;⟨a,vs,e,q,ak.aX sH hb r⟩
 |.lst .own xs,v,fp,h=>let ⟨a,vs,f,e,q,r,z⟩:=h;⟨a,vs,f,e,q,ak.aX sH hb r,z⟩
 |.lst .bor xs,v,fp,h=>let ⟨a,vs,e,q,r,z⟩:=h;⟨a,vs,e,xF sH hb (q.resolve_left λ y=>y.1),ak.aX sH hb r,z⟩
 |.lst .aq xs,v,fp,h=>let ⟨a,vs,e,q,r,z⟩:=h;⟨a,vs,e,xF sH hb q,ak.aX sH hb r,z⟩
 |.lst (.len _) _,_,_,h=>h.elim
 |.dct (.len a) kd ks xs,v,fp,h=>let ⟨vs,f,e,q,r,z⟩:=h;⟨vs,f,e,q,ak.aX sH hb r,z⟩
 |.dct .own kd ks xs,v,fp,h=>let ⟨a,vs,f,e,q,r,z⟩:=h;⟨a,vs,f,e,q,ak.aX sH hb r,z⟩
 |.dct .bor kd ks xs,v,fp,h=>let ⟨a,vs,e,q,r,z⟩:=h;⟨a,vs,e,pY sH hb (q.resolve_left λ y=>y.1),ak.aX sH hb r,z⟩
 |.dct .aq kd ks xs,v,fp,h=>let ⟨a,vs,e,q,r,z⟩:=h;⟨a,vs,e,pY sH hb q,ak.aX sH hb r,z⟩
def ak.aX {B B' H:Hp}{S:#[17]}(sH:au B H)(hb:∀ a o,B a=some o->B' a=some o\/S a):∀ {ds:List D}{vs:List V}{fp:#[8]},ak K B No H ds vs fp->ak K B' S H (bW ds) vs fp
 |[],_,_,h=>h
 |d::ds,vs,fp,h=>let ⟨v,r,f,g,e,h1,h2,z⟩:=h;⟨v,r,f,g,e,Rep.aX sH hb h1,ak.aX sH hb h2,z⟩
end
mutual
def Rep.gu {B H:Hp}{S:#[17]}:∀ {d:D}{v:V}{fp:#[8]},d.aD=false->Rep K B S H d v fp->Rep K B No H d v fp
 |.a8,_,_,_,h=>h
 |.bl _,_,_,_,h=>h
 |.int _,_,_,_,h=>h
 |.str _,_,_,_,h=>h
 |.exc _,_,_,_,h=>h
 |.tup xs,v,fp,p,h=>let ⟨a,vs,e,q,r⟩:=h;⟨a,vs,e,q,ak.gu (ds:=xs) p r⟩
 |.lst .own xs,v,fp,p,h=>let ⟨a,vs,f,e,q,r,z⟩:=h;⟨a,vs,f,e,q,ak.gu (ds:=xs) (by simpa[D.aD] using p) r,z⟩
 |.lst .bor xs,v,fp,p,h=>by simp[D.aD]at p
 |.lst .aq xs,v,fp,p,h=>h
 |.lst (.len _) _,_,_,_,h=>h.elim
 |.dct (.len a) kd ks xs,v,fp,p,h=>let ⟨vs,f,e,q,r,z⟩:=h;⟨vs,f,e,q,ak.gu (ds:=xs) (by simpa[D.aD] using p) r,z⟩
 |.dct .own kd ks xs,v,fp,p,h=>let ⟨a,vs,f,e,q,r,z⟩:=h;⟨a,vs,f,e,q,ak.gu (ds:=xs) (by simpa[D.aD] using p) r,z⟩
 |.dct .bor kd ks xs,v,fp,p,h=>by simp[D.aD]at p
 |.dct .aq kd ks xs,v,fp,p,h=>h
def ak.gu {B H:Hp}{S:#[17]}:∀ {ds:List D}{vs:List V}{fp:#[8]},aB ds=false->ak K B S H ds vs fp->ak K B No H ds vs fp
 |[],_,_,_,h=>h
 | d::ds,vs,fp,p,h=>by
  obtain⟨v,r,f,g,e,h1,h2,z⟩:=h;have p:(d.aD||aB ds)=false:=p;rw[Rm]at p;exact⟨v,r,f,g,e,Rep.gu p.1 h1,ak.gu p.2 h2,z⟩
end
def tF:HO->Prop
 |.lst _=>True
 |.dK _ _=>True
 |.dT _ _=>True
 |_=>False
structure jF (H H':Hp)(M:List Addr):Prop where
 keep:∀ a o,H a=some o->a∉M->H' a=some o
 Oj:∀ a∈M,∃ o,H a=some o/\tF o
def jF.xE{M:#[8]}(k:jF H H' M)(h:H a=some o)(n:¬ tF o):H' a=some o:=k.keep a o h λ m=>by
 obtain⟨u,e,z⟩:=k.Oj a m;rw[h]at e;cases e;exact n z
mutual
def Rep.keep {B H H':Hp}{M:#[8]}(k:jF H H' M):∀ {d:D}{v:V}{fp:#[8]},Rep K B No H d v fp->(∀ a∈fp,a∉M)->Rep K B No H' d v fp
 |.a8,_,_,h,_=>h
 |.bl _,_,_,h,_=>h
 |.int _,_,_,h,_=>h
 |.str _,_,_,h,_=>h
 |.exc _,_,_,h,_=>let ⟨⟨a,e,t,tb,u,h1⟩,r⟩:=h;⟨⟨a,e,t,tb,u,k.xE h1 (λ x=>x)⟩,r⟩
 | .tup xs,v,fp,h,hf=>by
  obtain⟨a,vs,e,q,r⟩:=h;exact⟨a,vs,e,k.xE q (λ x=>x),ak.keep k r hf⟩
 | .lst .own xs,v,fp,h,hf=>by
  obtain⟨a,vs,f,e,q,r,z⟩:=h;subst z;exact⟨a,vs,f,e,k.keep _ _ q (hf a Pp),ak.keep k r λ b hb=>hf b (Pn _ hb),rfl⟩
 |.lst .bor xs,v,fp,h,hf=>let ⟨a,vs,e,q,r,z⟩:=h;⟨a,vs,e,.inr (q.resolve_left λ y=>y.1),ak.keep k r (λ _ x=>by cases x),z⟩
 |.lst .aq xs,v,fp,h,hf=>let ⟨a,vs,e,q,r,z⟩:=h;⟨a,vs,e,q,ak.keep k r (λ _ x=>by cases x),z⟩
 |.lst (.len _) _,_,_,h,_=>h.elim
 | .dct (.len a) kd ks xs,v,fp,h,hf=>by
  obtain⟨vs,f,e,q,r,z⟩:=h;subst z;have hm:=hf a Pp;refine⟨vs,f,e,?_,ak.keep k r λ b hb=>hf b (Pn _ hb),rfl⟩;rcases q with ⟨y,kvs,ep,q,w⟩|⟨y,kvs,ep,q,w⟩
  ·exact .inl ⟨y,kvs,ep,k.keep _ _ q hm,w⟩
  ·exact .inr ⟨y,kvs,ep,k.keep _ _ q hm,w⟩
 | .dct .own kd ks xs,v,fp,h,hf=>by
  obtain⟨a,vs,f,e,q,r,z⟩:=h;subst z;have hm:=hf a Pp;refine⟨a,vs,f,e,?_,ak.keep k r λ b hb=>hf b (Pn _ hb),rfl⟩;rcases q with ⟨y,kvs,ep,q,w⟩|⟨y,kvs,ep,q,w⟩
  ·exact .inl ⟨y,kvs,ep,k.keep _ _ q hm,w⟩
  ·exact .inr ⟨y,kvs,ep,k.keep _ _ q hm,w⟩
 |.dct .bor kd ks xs,v,fp,h,hf=>let ⟨a,vs,e,q,r,z⟩:=h;⟨a,vs,e,.inr (q.resolve_left λ y=>y.1),ak.keep k r (λ _ x=>by cases x),z⟩
 |.dct .aq kd ks xs,v,fp,h,hf=>let ⟨a,vs,e,q,r,z⟩:=h;⟨a,vs,e,q,ak.keep k r (λ _ x=>by cases x),z⟩
def ak.keep {B H H':Hp}{M:#[8]}(k:jF H H' M):∀ {ds:List D}{vs:List V}{fp:#[8]},ak K B No H ds vs fp->(∀ a∈fp,a∉M)->ak K B No H' ds vs fp
 |[],_,_,h,_=>h
 | d::ds,vs,fp,h,hf=>by
  obtain⟨v,r,f,g,e,h1,h2,z⟩:=h;subst z;exact⟨v,r,f,g,e,Rep.keep k h1 (λ b hb=>hf b (PD _ hb)),ak.keep k h2 (λ b hb=>hf b (PM _ hb)),rfl⟩
end
mutual
def Rep.own {B H:Hp}{S:#[17]}:∀ {d:D}{v:V}{fp:#[8]},Rep K B S H d v fp->∀ a∈fp,∃ o,H a=some o/\tF o
 |.a8,_,_,h=>by rw[h.2];intro a m;cases m
 |.bl _,_,_,h=>by rw[h.2];intro a m;cases m
 |.int _,_,_,h=>by rw[h.2];intro a m;cases m
 |.str _,_,_,h=>by rw[h.2];intro a m;cases m
 |.exc _,_,_,h=>by rw[h.2];intro a m;cases m
 |.tup xs,v,fp,h=>let ⟨a,vs,e,q,r⟩:=h;ak.own r
 | .lst .own xs,v,fp,h=>by
  obtain⟨a,vs,f,e,q,r,z⟩:=h;subst z;intro b hb;rcases PB.mp hb with e|e
  ·subst e;exact⟨_,q,trivial⟩
  ·exact ak.own r b e
 |.lst .bor xs,v,fp,h=>by obtain⟨a,vs,e,q,r,z⟩:=h;rw[z];intro a m;cases m
 |.lst .aq xs,v,fp,h=>by obtain⟨a,vs,e,q,r,z⟩:=h;rw[z];intro a m;cases m
 |.lst (.len _) _,_,_,h=>h.elim
 | .dct (.len a) kd ks xs,v,fp,h=>by
  obtain⟨vs,f,e,q,r,z⟩:=h;subst z;intro b hb;rcases PB.mp hb with e|e
  ·subst e;rcases q with ⟨y,kvs,ep,q,w⟩|⟨y,kvs,ep,q,w⟩
   ·exact⟨_,q,trivial⟩
   ·exact⟨_,q,trivial⟩
  ·exact ak.own r b e
 | .dct .own kd ks xs,v,fp,h=>by
  obtain⟨a,vs,f,e,q,r,z⟩:=h;subst z;intro b hb;rcases PB.mp hb with e|e
  ·subst e;rcases q with ⟨y,kvs,ep,q,w⟩|⟨y,kvs,ep,q,w⟩
   ·exact⟨_,q,trivial⟩
   ·exact⟨_,q,trivial⟩
  ·exact ak.own r b e
 |.dct .bor kd ks xs,v,fp,h=>by obtain⟨a,vs,e,q,r,z⟩:=h;rw[z];intro a m;cases m
 |.dct .aq kd ks xs,v,fp,h=>by obtain⟨a,vs,e,q,r,z⟩:=h;rw[z];intro a m;cases m
def ak.own {B H:Hp}{S:#[17]}:∀ {ds:List D}{vs:List V}{fp:#[8]},ak K B S H ds vs fp->∀ a∈fp,∃ o,H a=some o/\tF o
 |[],_,_,h=>by rw[h.2];intro a m;cases m
 | d::ds,vs,fp,h=>by
  obtain⟨v,r,f,g,e,h1,h2,z⟩:=h;subst z;intro b hb;rcases PC.mp hb with e|e
  ·exact Rep.own h1 b e
  ·exact ak.own h2 b e
end
def dG (K:#[0])(B H:Hp):SD->L2.St->List Addr->Prop
 |[],σ,P=>σ=[]/\P=[]
 |none::r,σ,P=>∃ o τ,σ=o::τ/\dG K B H r τ P
 |some d::r,σ,P=>∃ v τ f g,σ=some v::τ/\Rep K B No H d v f/\dG K B H r τ g/\P=f++g
structure SI (K:PySem.W.Frag)(H0 B0 B H:Hp)(σ:L2.St)(τ:SD)(P:List Addr)(F:Addr->Prop):Prop where
 bh:au B H
 h0:au H0 H
 b0:au B0 B
 nb:∀ a,B a≠none->B0 a≠none\/H0 a=none
 rep:dG K B H τ σ P
 nd:P.Nodup
 own:∀ a∈P,B a=none/\H0 a=none/\¬ F a
 fr:∀ a,F a->B a=none/\H a≠none
structure gm (H0 B H:Hp)(P:List Addr)(F:Addr->Prop)(fp:List Addr):Prop where
 nd:fp.Nodup
 own:∀ a∈fp,B a=none/\H0 a=none/\H a≠none/\a∉P/\¬ F a
def gm.nil:gm H0 B H P F []:=⟨Qz,λ a m=>by cases m⟩
def gm.sub{fq:#[8]}(h:gm H0 B H P F fp)(s:List.Sublist fq fp):gm H0 B H P F fq:=⟨h.nd.sublist s,λ a m=>h.own a (s.subset m)⟩
def dG.own {B H:Hp}:∀ {τ:SD}{σ:L2.St}{P:#[8]},dG K B H τ σ P->∀ a∈P,∃ o,H a=some o/\tF o
 |[],_,_,h=>by rw[h.2];intro a m;cases m
 |none::r,σ,P,h=>by obtain⟨o,τ,e,h⟩:=h;exact dG.own h
 | some d::r,σ,P,h=>by
  obtain⟨v,τ,f,g,e,h1,h2,z⟩:=h;subst z;intro b hb;rcases PC.mp hb with e|e
  ·exact Rep.own h1 b e
  ·exact dG.own h2 b e
def dG.mono {B B' H H':Hp}(sH:au H H')(sB:au B B'):∀ {τ:SD}{σ:L2.St}{P:#[8]},dG K B H τ σ P->dG K B' H' τ σ P
 |[],_,_,h=>h
 |none::r,σ,P,h=>let ⟨o,τ,e,h⟩:=h;⟨o,τ,e,dG.mono sH sB h⟩
 |some d::r,σ,P,h=>let ⟨v,τ,f,g,e,h1,h2,z⟩:=h;⟨v,τ,f,g,e,Rep.mono sH sB (λ _ x=>x) h1,dG.mono sH sB h2,z⟩
def dG.get {B H:Hp}:∀ {τ:SD}{σ:L2.St}{P:#[8]}{i:Nat}{d:D},dG K B H τ σ P->τ[i]?=some (some d)->∃ v f,σ[i]?=some (some v)/\Rep K B No H d v f/\List.Sublist f P
 |[],_,_,i,_,_,e=>by simp at e
 |none::r,σ,P,0,d,h,e=>by simp at e
 | none::r,σ,P,i+1,d,h,e=>by
  obtain⟨o,τ,e1,h⟩:=h;subst e1;obtain⟨v,f,a1,a2,a3⟩:=dG.get (i:=i) h (by simpa using e);exact⟨v,f,by simpa using a1,a2,a3⟩
 | some d::r,σ,P,0,d',h,e=>by
  obtain⟨v,τ,f,g,e1,h1,h2,z⟩:=h;have e:d=d':=by simpa using e
  subst e e1 z;exact⟨v,f,rfl,h1,Qj _ _⟩
 | some d::r,σ,P,i+1,d',h,e=>by
  obtain⟨v,τ,f,g,e1,h1,h2,z⟩:=h;subst e1 z;obtain⟨w,f',a1,a2,a3⟩:=dG.get (i:=i) h2 (by simpa using e);exact⟨w,f',by simpa using a1,a2,a3.trans (P6 _ _)⟩
def SI.stands (I:#[21])(h:a∈P):H a≠none:=by
 obtain⟨o,e,_⟩:=I.rep.own a h;rw[e];exact λ z=>by cases z
def SI.tE(I:#[21])(h:∀ a,F' a->F a):SI K H0 B0 B H σ τ P F':=
 ⟨I.bh,I.h0,I.b0,I.nb,I.rep,I.nd,λ a m=>let ⟨x,y,z⟩:=I.own a m;⟨x,y,λ q=>z (h a q)⟩,λ a m=>I.fr a (h a m)⟩
def SI.hold(I:#[21])(v:gm H0 B H P F fp):SI K H0 B0 B H σ τ P (λ a=>a∈fp\/F a):=
 ⟨I.bh,I.h0,I.b0,I.nb,I.rep,I.nd,λ a m=>let ⟨x,y,z⟩:=I.own a m;⟨x,y,λ q=>q.elim (λ r=>(v.own a r).2.2.2.1 m) z⟩,λ a m=>m.elim (λ r=>⟨(v.own a r).1,(v.own a r).2.2.1⟩) (I.fr a)⟩
def SI.grow(I:#[21])(s:au H H'):SI K H0 B0 B H' σ τ P F:=
 ⟨I.bh.trans s,I.h0.trans s,I.b0,I.nb,I.rep.mono s (λ _ _ x=>x),I.nd,I.own,λ a m=>⟨(I.fr a m).1,λ z=>(I.fr a m).2 (s.free z)⟩⟩
def gm.grow(v:gm H0 B H P F fp)(s:au H H')(hb:∀ a∈fp,B' a=none):gm H0 B' H' P F fp:=
 ⟨v.nd,λ a m=>let ⟨x,y,z,p,q⟩:=v.own a m;⟨hb a m,y,λ n=>z (s.free n),p,q⟩⟩
def SI.A4 (I:#[21]){p:Addr}(h:H p=none):B p=none/\H0 p=none/\p∉P/\¬ F p:=
 ⟨I.bh.free h,I.h0.free h,λ m=>I.stands m h,λ m=>(I.fr p m).2 h⟩
end
def ex8 {α β γ δ ε ζ:Sort _}{p q:α->β->γ->δ->ε->ζ->Prop}(h:∃ a b c d e f,p a b c d e f/\q a b c d e f)(k:∀ a b c d e f,p a b c d e f->q a b c d e f->C):C:=h.elim λ a h=>h.elim λ b h=>h.elim λ c h=>h.elim λ d h=>h.elim λ e h=>h.elim λ f h=>k a b c d e f h.1 h.2
def ex7 {α β γ δ ε:Sort _}{p q:α->β->γ->δ->ε->Prop}(h:∃ a b c d e,p a b c d e/\q a b c d e)(k:∀ a b c d e,p a b c d e->q a b c d e->C):C:=h.elim λ a h=>h.elim λ b h=>h.elim λ c h=>h.elim λ d h=>h.elim λ e h=>k a b c d e h.1 h.2
def ex12 {α β γ δ ε ζ η θ:Sort _}{p q r s:α->β->γ->δ->ε->ζ->η->θ->Prop}(h:∃ a b c d e f g i,p a b c d e f g i/\q a b c d e f g i/\r a b c d e f g i/\s a b c d e f g i)(k:∀ a b c d e f g i,p a b c d e f g i->q a b c d e f g i->r a b c d e f g i->s a b c d e f g i->C):C:=h.elim λ a h=>h.elim λ b h=>h.elim λ c h=>h.elim λ d h=>h.elim λ e h=>h.elim λ f h=>h.elim λ g h=>h.elim λ i h=>k a b c d e f g i h.1 h.2.1 h.2.2.1 h.2.2.2
structure XY where
 ex:Addr->L2.St->Hp->Prop
 ln:Bool
variable {Y:XY}
instance:CoeFun XY λ _=>Addr->L2.St->Hp->Prop:=⟨XY.ex⟩
abbrev xG:XY:=⟨λ _ _ _=>False,false⟩
section
variable (K:#[0])(Y:XY)(H0 B0 B H:Hp)(σ:L2.St)(τ:SD)(P:#[8])(F:#[17])
def Out (Q:VK)(d:D):Prop:=∀ v H' B' fp,SI K H0 B0 B' H' σ τ P F->au H H'->au B B'->Rep K B' (· ∈ P) H' d v fp->gm H0 B' H' P F fp->Q v H'
def nN (C:Addr):Prop:=∀ H' B',SI K H0 B0 B' H' σ τ P F->au H H'->au B B'->Y C σ H'
def Om (Q:List V->Hp->Prop)(ds:List D):Prop:=∀ vs H' B' fp,SI K H0 B0 B' H' σ τ P F->au H H'->au B B'->ak K B' (· ∈ P) H' ds vs fp->gm H0 B' H' P F fp->Q vs H'
def Ol (Q:Bool->Hp->Prop)(b:Bool):Prop:=∀ H' B',SI K H0 B0 B' H' σ τ P F->au H H'->au B B'->Q b H'
def Goal (Q:VK):Res D->Prop
 |.ok d=>Out K H0 B0 B H σ τ P F Q d
 |.eB C=>nN K Y H0 B0 B H σ τ P F C
 |.bad=>False
def MP (Q:List V->Hp->Prop):Res (List D)->Prop
 |.ok d=>Om K H0 B0 B H σ τ P F Q d
 |.eB C=>nN K Y H0 B0 B H σ τ P F C
 |.bad=>False
def pZ (Q:Bool->Hp->Prop):Res Bool->Prop
 |.ok d=>Ol K H0 B0 B H σ τ P F Q d
 |.eB C=>nN K Y H0 B0 B H σ τ P F C
 |.bad=>False
end
def tM (K:#[0])(Y:XY)(f:#[28]):TE:=λ σ H Q=>∃ H0 B0 B τ P F,SI K H0 B0 B H σ τ P F/\Goal K Y H0 B0 B H σ τ P F Q (f τ)
def nM (K:#[0])(Y:XY)(f:#[40]):TA:=λ σ H Q=>∃ H0 B0 B τ P F,SI K H0 B0 B H σ τ P F/\MP K Y H0 B0 B H σ τ P F Q (f τ)
def kQ (K:#[0])(Y:XY)(f:#[66]):TT:=λ σ H Q=>∃ H0 B0 B τ P F,SI K H0 B0 B H σ τ P F/\pZ K Y H0 B0 B H σ τ P F Q (f τ)
section
variable {K:#[0]}
def nN.later{C:Addr}(h:nN K Y H0 B0 B H σ τ P F C)(sH:au H H1)(sB:au B B1)(hF:∀ a,F a->F' a):nN K Y H0 B0 B1 H1 σ τ P F' C:=
 λ H' B' I s b=>h H' B' (I.tE hF) (sH.trans s) (sB.trans b)
def Out.later(h:Out K H0 B0 B H σ τ P F Q d)(sH:au H H1)(sB:au B B1):Out K H0 B0 B1 H1 σ τ P F Q d:=
 λ v H' B' fp I s b r k=>h v H' B' fp I (sH.trans s) (sB.trans b) r k
def Goal.later{r:Res D}(h:Goal K Y H0 B0 B H σ τ P F Q r)(sH:au H H1)(sB:au B B1):Goal K Y H0 B0 B1 H1 σ τ P F Q r:=by
 cases r with
 |ok d=>exact Out.later h sH sB|eB C=>exact nN.later h sH sB λ _ x=>x
 |bad=>exact h
def Out.here(h:Out K H0 B0 B H σ τ P F Q d)(I:#[21])(r:Rep K B (· ∈ P) H d v []):Q v H:=h v H B [] I #[49] #[49] r gm.nil
def Out.A5(h:Out K H0 B0 B H σ τ P F Q d)(I:#[21])(r:Rep K B (· ∈ P) H d v fp)(k:gm H0 B H P F fp):Q v H:=h v H B fp I #[49] #[49] r k
def du {p:Addr}(h:H p=none):au H (upd H p o):=λ b u e=>by
 rw[aH (bF e h)];exact e
def Out.zA{p:Addr}(h:Out K H0 B0 B H σ τ P F Q (.lst .own ds))(I:#[21])(r:ak K B (· ∈ P) H ds vs fp)(k:gm H0 B H P F fp)(hp:H p=none):Q (.ref p) (upd H p (.lst vs)):=by
 have s:=du (o:=.lst vs) hp;obtain⟨n1,n2,n3,n4⟩:=I.A4 hp;refine h (.ref p) _ B (p::fp) (I.grow s) s #[49] ⟨p,vs,fp,rfl,aN,r.mono s #[49] (λ _ x=>x),rfl⟩ ⟨PN.mpr ⟨λ m=>(k.own p m).2.2.1 hp,k.nd⟩,λ a m=>?_⟩;rcases PB.mp m with e|e
 ·subst e;exact⟨n1,n2,(by rw[aN];exact QW _),n3,n4⟩
 ·obtain⟨a1,a2,a3,a4,a5⟩:=k.own a e;exact⟨a1,a2,λ z=>a3 (s.free z),a4,a5⟩
def Out.HD{p:Addr}(h:Out K H0 B0 B H σ τ P F Q (.tup ds))(I:#[21])(r:ak K B (· ∈ P) H ds vs fp)(k:gm H0 B H P F fp)(hp:H p=none):Q (.ref p) (upd H p (.tup vs)):=by
 have s:=du (o:=.tup vs) hp;exact h (.ref p) _ B fp (I.grow s) s #[49] ⟨p,vs,rfl,aN,r.mono s #[49] (λ _ x=>x)⟩ (k.grow s λ a m=>(k.own a m).1)
def gm.both{g:#[8]}(k:gm H0 B H P F f)(sH:au H H1)(I1:SI K H0 B0 B1 H1 σ τ P (λ a=>a∈f\/F a))(k':gm H0 B1 H1 P (λ a=>a∈f\/F a) g):gm H0 B1 H1 P F (f++g):=by
 refine⟨PJ.mpr ⟨k.nd,k'.nd,λ a ha b hb e=>?_⟩,λ a m=>?_⟩
 ·subst e;exact(k'.own a hb).2.2.2.2 (.inl ha)
 ·rcases PC.mp m with e|e
  ·obtain⟨a1,a2,a3,a4,a5⟩:=k.own a e;exact⟨(I1.fr a (.inl e)).1,a2,(I1.fr a (.inl e)).2,a4,a5⟩
  ·obtain⟨a1,a2,a3,a4,a5⟩:=k'.own a e;exact⟨a1,a2,a3,a4,λ z=>a5 (.inr z)⟩
def gm.left {g:#[8]}(k:gm H0 B H P F (f++g)):gm H0 B H P F f:=k.sub (Qj _ _)
def gm.right {g:#[8]}(k:gm H0 B H P F (f++g)):gm H0 B H P F g:=k.sub (P6 _ _)
def PE.imp{t t':TE}(h:PE X e t)(hi:∀ σ H Q,t' σ H Q->t σ H Q):PE X e t':=λ pins s σ H Q I hw=>h pins s σ H Q I (hi σ H Q hw)
def PT.imp{t t':TT}(h:PT X e t)(hi:∀ σ H Q,t' σ H Q->t σ H Q):PT X e t':=λ pins s σ H Q I hw=>h pins s σ H Q I (hi σ H Q hw)
def PA.imp{t t':TA}(h:PA X es t)(hi:∀ σ H Q,t' σ H Q->t σ H Q):PA X es t':=λ pos pins s σ H Q I hw=>h pos pins s σ H Q I (hi σ H Q hw)
def PS.imp{t t':TS}(h:PS X st t)(hi:∀ E σ H,t' E σ H->t E σ H):PS X st t':=λ pins s σ H E I hw=>h pins s σ H E I (hi E σ H hw)
def lR.imp{st:List Stmt}{t t':TS}(h:lR X st t)(hi:∀ E σ H,t' E σ H->t E σ H):lR X st t':=λ pins s σ H E I hw=>h pins s σ H E I (hi E σ H hw)
def tM.seq {f:#[28]}{Q':V->Hp->Prop}{g:D->Res D}(I:#[21])(h:Goal K Y H0 B0 B H σ τ P F Q ((f τ).bind g))
  (k:∀ d v H1 B1 fp,f τ=.ok d->SI K H0 B0 B1 H1 σ τ P F->au H H1->au B B1->Rep K B1 (· ∈ P) H1 d v fp->gm H0 B1 H1 P F fp->Goal K Y H0 B0 B1 H1 σ τ P F Q (g d)->Q' v H1):tM K Y f σ H Q':=by
 refine⟨H0,B0,B,τ,P,F,I,?_⟩;cases e:f τ with
 | ok d =>
  rw[e]at h;intro v H1 B1 fp I1 s1 b1 r1 k1;exact k d v H1 B1 fp e I1 s1 b1 r1 k1 (Goal.later h s1 b1)
 |eB C=>rw[e]at h;exact h|bad=>rw[e]at h;exact h
def tM.tH {f1 f2:#[28]}{Q':V->V->Hp->Prop}(I:#[21])(h:Goal K Y H0 B0 B H σ τ P F Q ((f1 τ).bind λ x=>(f2 τ).bind (g x)))
  (k:∀ d1 d2 v1 v2 H2 B2 fp1 fp2,f1 τ=.ok d1->f2 τ=.ok d2->SI K H0 B0 B2 H2 σ τ P F->au H H2->au B B2->Rep K B2 (· ∈ P) H2 d1 v1 fp1->Rep K B2 (· ∈ P) H2 d2 v2 fp2->gm H0 B2 H2 P F (fp1++fp2)->Goal K Y H0 B0 B2 H2 σ τ P F Q (g d1 d2)->Q' v1 v2 H2) :
  tM K Y f1 σ H λ x H1=>tM K Y f2 σ H1 λ y H2=>Q' x y H2:=by
 refine tM.seq (g:=λ x=>(f2 τ).bind (g x)) I h λ d1 v1 H1 B1 fp1 e1 I1 s1 b1 r1 k1 h1=>?_;refine⟨H0,B0,B1,τ,P,_,I1.hold k1,?_⟩;cases e:f2 τ with
 | ok d2 =>
  rw[e]at h1;intro v2 H2 B2 fp2 I2 s2 b2 r2 k2;exact k d1 d2 v1 v2 H2 B2 fp1 fp2 e1 e (I2.tE λ a x=>.inr x) (s1.trans s2) (b1.trans b2) (r1.mono s2 b2 λ _ x=>x) r2 (k1.both s2 I2 k2) (Goal.later h1 s2 b2)
 | eB C =>
  rw[e]at h1;exact nN.later h1 #[49] #[49] λ a x=>.inr x
 |bad=>rw[e]at h1;exact h1
def aa (i:Nat)(τ:SD):Res D:=match τ[i]? with
 |some (some d)=>.ok d.view
 |_=>.bad
def eC (d:D)(_:SD):Res D:=.ok d
def qv(i:Nat)(hN:#[69]:=by rfl)(hv:#[98]:=by first|exact Or.inl rfl|exact Or.inr (Or.inl rfl)|exact Or.inr (Or.inr rfl))(hd:#[2]:=by decide)
  (hcd:#[29]:=by decide):PE X (.Name x pos) (tM X.K Y (aa i)):=by
 refine PE.imp (dH hN hv hd hcd) ?_;rintro σ H Q ⟨H0,B0,B,τ,P,F,I,h⟩;unfold aa at h;cases e:τ[i]? with
 |none=>rw[e]at h;exact h.elim
 | some o =>
  cases o with
  |none=>rw[e]at h;exact h.elim
  | some d =>
   rw[e]at h;obtain⟨v,f,h1,h2,h3⟩:=I.rep.get e;exact⟨v,h1,Out.here h I (h2.view λ a m=>h3.subset m)⟩
def qc(h:PE X e (tC v))(hr:∀ K B S H,Rep K B S H d v []):PE X e (tM X.K Y (eC d)):=PE.imp h λ σ H Q hq=>ex8 hq λ H0 B0 B τ P F I h=>Out.here h I (hr _ _ _ _)
def aj{i:Int}{j pos}:PE X (.Constant (.int i) j pos) (tM X.K Y (eC (.int i))):=qc Kq λ _ _ _ _=>⟨rfl,rfl⟩
def vC{b:Bool}{j pos}:PE X (.Constant (.bool b) j pos) (tM X.K Y (eC (.bl b))):=qc Mw λ _ _ _ _=>⟨rfl,rfl⟩
def kB{j pos}:PE X (.Constant .none j pos) (tM X.K Y (eC .a8)):=qc KC λ _ _ _ _=>⟨rfl,rfl⟩
def iL{j pos}:PE X (.Constant (.str x) j pos) (tM X.K Y (eC (.str x))):=qc Ks λ _ _ _ _=>⟨rfl,rfl⟩
def qC (K:#[0])(Y:XY)(r:R2)(g:D->D->Res D):Prop:=∀ {H0 B0 B H:Hp}{σ:L2.St}{τ:SD}{P:#[8]}{F:#[17]}{d1 d2:D}{x y:V}{f1 f2:#[8]}{Q:VK},
 SI K H0 B0 B H σ τ P F->Rep K B (· ∈ P) H d1 x f1->Rep K B (· ∈ P) H d2 y f2->gm H0 B H P F (f1++f2)->Goal K Y H0 B0 B H σ τ P F Q (g d1 d2)->r x y H Q
def af (g:D->D->Res D)(a b:#[28])(τ:SD):Res D:=(a τ).bind λ x=>(b τ).bind (g x)
def kO.or{f:Value->Value->Sem Value}{r':R2}(h:kO X f r)(h':kO X f r'):kO X f (λ x y H Q=>r x y H Q\/r' x y H Q):=by
 intro pins s σ H x y v u Q I rx ry q;rcases q with q|q
 ·exact h pins s σ H x y v u Q I rx ry q
 ·exact h' pins s σ H x y v u Q I rx ry q
variable{a b c:Expr}{fa fb fc:#[28]}
def aJ {op:Operator}(ho:kO X (binaryOp op) r)(hg:qC X.K Y r g)(ha:#[80])(hb:PE X b (tM X.K Y fb)):PE X (.BinOp a op b pos) (tM X.K Y (af g fa fb)):=
 PE.imp (Ml ho ha hb) λ σ H Q hq=>ex8 hq λ H0 B0 B τ P F I h=>tM.tH I h λ d1 d2 v1 v2 H2 B2 f1 f2 _ _ I2 _ _ r1 r2 k h2=>hg I2 r1 r2 k h2
def MO {op:CmpOp}(ho:kO X (compareOp op) r)(hg:qC X.K Y r g)(ha:#[80])(hb:PE X b (tM X.K Y fb))(hm:behindInMarks op b=false):PE X (.Compare a [op] [b] pos) (tM X.K Y (af g fa fb)):=
 PE.imp (Hc ho ha hb hm) λ σ H Q hq=>ex8 hq λ H0 B0 B τ P F I h=>tM.tH I h λ d1 d2 v1 v2 H2 B2 f1 f2 _ _ I2 _ _ r1 r2 k h2=>hg I2 r1 r2 k h2
def Oo(ho:GY X r)(hg:qC X.K Y r g)(ha:#[80])(hb:PE X b (tM X.K Y fb))(hs:vy b):PE X (.Subscript a b pos) (tM X.K Y (af g fa fb)):=
 PE.imp (MB ho ha hb hs) λ σ H Q hq=>ex8 hq λ H0 B0 B τ P F I h=>tM.tH I h λ d1 d2 v1 v2 H2 B2 f1 f2 _ _ I2 _ _ r1 r2 k h2=>hg I2 r1 r2 k h2
def tG:D->Res Bool|.bl b=>.ok b|_=>.bad
def xH {Q:Bool->Hp->Prop}{r:Res D}(h:pZ K Y H0 B0 B H σ τ P F Q (r.bind tG)):Goal K Y H0 B0 B H σ τ P F (λ x H1=>∃ c,x=.bl c/\Q c H1) r:=by
 cases r with
 | ok d =>
  intro v H' B' fp I s b r k;cases d with
  |bl c=>obtain⟨rfl,rfl⟩:=r;exact⟨c,rfl,h H' B' I s b⟩| _=>exact h.elim
 |eB C=>exact h|bad=>exact h
def eT (f:#[28])(τ:SD):Res Bool:=(f τ).bind tG
def gx (ha:#[80])(he:∀ whole,isTrue a X.env whole=(do let v <-whole;standAt a.pos;holding [v] (truthy v)):=by intro _;rfl):PT X a (kQ X.K Y (eT fa)):=
 PT.imp (J2 ha he) λ σ H Q hq=>ex8 hq λ H0 B0 B τ P F I h=>⟨H0,B0,B,τ,P,F,I,xH h⟩
def Eu {op:CmpOp}(ho:kO X (compareOp op) r)(hg:qC X.K Y r g)(ha:#[80])(hb:PE X b (tM X.K Y fb))(hm:behindInMarks op b=false):PT X (.Compare a [op] [b] pos) (kQ X.K Y (eT (af g fa fb))):=
 PT.imp (Ha ho ha hb hm) λ σ H Q hq=>ex8 hq λ H0 B0 B τ P F I h=>tM.tH I (xH h) λ d1 d2 v1 v2 H2 B2 f1 f2 _ _ I2 _ _ r1 r2 k h2=>hg I2 r1 r2 k h2
end
section
variable {K:#[0]}
def Rep.lst (I:#[21]){t:Tg}(r:Rep K B (· ∈ P) H (.lst t xs) v f):∃ a vs g,v=.ref a/\eQ K H a vs/\ak K B (· ∈ P) H xs vs g/\List.Sublist g f:=by
 cases t with
 |len a=>exact False.elim r
 | own =>
  obtain⟨a,vs,g,e,q,r,z⟩:=r;subst z;exact⟨a,vs,g,e,eQ.of q,r,R0 _ _⟩
 | bor =>
  obtain⟨a,vs,e,q,r,z⟩:=r;subst z;exact⟨a,vs,[],e,q.elim (λ y=>y.2) λ y=>eF I.bh y,r,QI _⟩
 | aq =>
  obtain⟨a,vs,e,q,r,z⟩:=r;subst z;exact⟨a,vs,[],e,eF I.bh q,r.mono #[49] #[49] (λ _ x=>x.elim),QI _⟩
def Rep.tp(r:Rep K B (· ∈ P) H (.tup xs) v f):∃ a vs,v=.ref a/\jW K H a vs/\ak K B (· ∈ P) H xs vs f:=let ⟨a,vs,e,q,r⟩:=r;⟨a,vs,e,jW.of q,r⟩
def gy(h:eQ K H a vs):eQ K H a vs:=h
def JD (K:#[0]):R2:=λ x y H Q=>∃ l b xs zs,x=.ref l/\y=.ref b/\eQ K H l xs/\eQ K H b zs/\xs.length+zs.length<=sizeLine/\∀ p,H p=none->Q (.ref p) (upd H p (.lst (xs++zs)))
def HE:kO X (binaryOp .Add) (JD X.K):=by
 intro pins s σ H x y v u Q I rx ry h;obtain⟨l,b,xs,zs,rfl,rfl,hH,hB,hz,q⟩:=h;cases rx;cases ry;obtain⟨its,r,pl,z⟩:=I.list hH;obtain⟨its2,r2,pl2,z2⟩:=I.list hB;obtain⟨⟨cls,dd,data,sl⟩,ho,hc,n,hd⟩:=id pl.isList;obtain⟨⟨cls2,dd2,data2,sl2⟩,ho2,hc2,n2,hd2⟩:=id pl2.isList;simp only at hc hd hc2 hd2;subst hc hd hc2 hd2;have e:its.toArray++its2.toArray=(its++its2).toArray:=by simp
 have l1:=r.length;have l2:=r2.length;refine concat_meets ⟨_,ho,rfl⟩ ⟨_,ho2,rfl⟩ noFill_list_add seq_list_add PySem.F.slot_list_add PySem.F.entry_list_add (PySem.F.args_list_add_2 _ _) (list_addW l b its.toArray its2.toArray n n2 dd dd2 sl sl2 (by rw[PK,PK];omega)) ⟨ho,ho2,?_⟩;rw[e];exact⟨.ref _,_,I.MD (t':=s.toks) (r.append r2) (by rw[Pz];omega),rfl,q _ I.fresh⟩
def ba:D->D->Res D
 |.int i,.int j=>.ok (.int (i+j))
 |.str i,.str j=>if i.length+j.length<=16777216 then .ok (.str (i++j)) else .bad
 |.lst _ xs,.lst _ ys=>if xs.length+ys.length<=16777216 then .ok (.lst .own (xs++ys)) else .bad
 |.tup xs,.tup ys=>if xs≠[]/\ys≠[]/\xs.length+ys.length<=16777216 then .ok (.tup (xs++ys)) else .bad
 |_,_=>.bad
def KU(h:n<=16777216):n<=sizeLine:=by rw[Qx];exact h
def ak.lT {S:#[17]}(r:ak K B S H xs vs f):vs=[]↔xs=[]:=by
 have:=r.length;cases xs<;>cases vs<;>simp_all
abbrev Mn (K:#[0]):R2:=λ x y H Q=>DV (λ i j=>.int (i+j)) x y H Q\/((∃ i j,x=.str i/\y=.str j/\i.length+j.length<=sizeLine/\Q (.str (i++j)) H)\/(JD K x y H Q\/Jz K x y H Q))
def aU:kO X (binaryOp .Add) (Mn X.K):=kO.or Kv (kO.or y9 (kO.or HE Hr))
def cu:qC K Y (Mn K) ba:=by
 intro H0 B0 B H σ τ P F d1 d2 x y f1 f2 Q I r1 r2 k h;unfold ba at h;split at h
 ·obtain⟨rfl,rfl⟩:=r1;obtain⟨rfl,rfl⟩:=r2;exact .inl ⟨_,_,rfl,rfl,Out.here h I ⟨rfl,rfl⟩⟩
 ·obtain⟨rfl,rfl⟩:=r1;obtain⟨rfl,rfl⟩:=r2;split at h
  ·rename_i hl;exact .inr (.inl ⟨_,_,rfl,rfl,KU hl,Out.here h I ⟨rfl,rfl⟩⟩)
  ·exact h.elim
 ·obtain⟨a,vs,g1,rfl,q1,l1,s1⟩:=r1.lst I;obtain⟨b,ws,g2,rfl,q2,l2,s2⟩:=r2.lst I;split at h
  ·rename_i hl;refine .inr (.inr (.inl ⟨_,_,_,_,rfl,rfl,q1,q2,by rw[<-l1.length,<-l2.length];exact KU hl,λ p hp=>?_⟩));exact Out.zA h I (l1.append l2) (k.sub (s1.append s2)) hp
  ·exact h.elim
 ·obtain⟨a,vs,rfl,q1,l1⟩:=r1.tp;obtain⟨b,ws,rfl,q2,l2⟩:=r2.tp;split at h
  ·rename_i hl;obtain⟨n1,n2,hl⟩:=hl;refine .inr (.inr (.inr ⟨_,_,_,_,rfl,rfl,q1,q2,λ z=>n1 (l1.lT.mp z),by rw[<-l1.length,<-l2.length];exact KU hl,λ z=>absurd (l2.lT.mp z) n2,λ _ p hp=>?_⟩));exact Out.HD h I (l1.append l2) k hp
  ·exact h.elim
 ·exact h.elim
def qr (C:Int->Int->Prop)[∀ i j,Decidable (C i j)](g:Int->Int->D):D->D->Res D
 |.int i,.int j=>if C i j then .ok (g i j) else .bad
 |_,_=>.bad
def tL (g:Int->Int->D):D->D->Res D
 |.int i,.int j=>.ok (g i j)
 |_,_=>.bad
def Ew {C:Int->Int->Prop}[∀ i j,Decidable (C i j)]{g:Int->Int->D}{gv:Int->Int->V}(hg:∀ i j K B S H,Rep K B S H (g i j) (gv i j) []):qC K Y (rI C gv) (qr C g):=by
 intro H0 B0 B H σ τ P F d1 d2 x y f1 f2 Q I r1 r2 k h;unfold qr at h;split at h
 ·obtain⟨rfl,rfl⟩:=r1;obtain⟨rfl,rfl⟩:=r2;split at h
  ·rename_i hc;exact⟨_,_,rfl,rfl,hc,Out.here h I (hg ..)⟩
  ·exact h.elim
 ·exact h.elim
def Ex {g:Int->Int->D}{gv:Int->Int->V}(hg:∀ i j K B S H,Rep K B S H (g i j) (gv i j) []):qC K Y (DV gv) (tL g):=by
 intro H0 B0 B H σ τ P F d1 d2 x y f1 f2 Q I r1 r2 k h;unfold tL at h;split at h
 ·obtain⟨rfl,rfl⟩:=r1;obtain⟨rfl,rfl⟩:=r2;exact⟨_,_,rfl,rfl,Out.here h I (hg ..)⟩
 ·exact h.elim
instance (i j:Int):Decidable (jl i j):=inferInstanceAs (Decidable (_/\_))
instance (i j:Int):Decidable (jA i j):=inferInstanceAs (Decidable (_/\_/\_))
instance (i j:Int):Decidable (D0 i j):=inferInstanceAs (Decidable ((_/\_)\/(_/\_)))
def kC (i j:Int):Prop:=D0 i j\/(i.natAbs<2^1024/\j.natAbs<2^1024)
instance (i j:Int):Decidable (kC i j):=inferInstanceAs (Decidable (_\/(_/\_)))
def ur {i:Int}(h:i.natAbs<2^1024):Builtin.Int.intBits i<=2^20:=by
 unfold Builtin.Int.intBits;split
 ·exact QY _
 ·by_cases e:i.natAbs=0
  ·rw[e];decide
  ·have:=(Nat.log2_lt e).mpr h;omega
def j4:kO X (binaryOp .Mult) (rI kC λ i j=>.int (i*j)):=Mm λ _ _ _ _ _ _ _ hc q=>mul_int q (hc.elim D0.ok λ z=>IntMulOk.of_bits (ur z.1) (ur z.2))
abbrev Mb (g:Int->Int->Int):∀ i j K B S H,Rep K B S H (.int (g i j)) (.int (g i j)) []:=λ _ _ _ _ _ _=>⟨rfl,rfl⟩
abbrev OU (g:Int->Int->Bool):∀ i j K B S H,Rep K B S H (.bl (g i j)) (.bl (g i j)) []:=λ _ _ _ _ _ _=>⟨rfl,rfl⟩
abbrev xJ:=tL λ i j=>.int (i-j)
abbrev rf:=qr kC λ i j=>.int (i*j)
abbrev bw:=qr jl λ i j=>.int (i/j)
abbrev br:=qr (λ _ j=>0<j) λ i j=>.int (i%j)
abbrev tK:=qr jA λ i j=>.int (i^j.toNat)
abbrev KW:=qr (λ _ j=>0<=j) λ i j=>.int (i/2^j.toNat)
abbrev NI:=tL λ i j=>.bl (decide (i<j))
abbrev Ma:=tL λ i j=>.bl (decide (j<i))
def A6:qC K Y (DV λ i j=>.int (i-j)) xJ:=Ex (Mb _)
def rh:qC K Y (rI kC λ i j=>.int (i*j)) rf:=Ew (Mb _)
def cL:qC K Y (rI jl λ i j=>.int (i/j)) bw:=Ew (Mb _)
def bX:qC K Y (rI (λ _ j=>0<j) λ i j=>.int (i%j)) br:=Ew (Mb _)
def A7:qC K Y (rI jA λ i j=>.int (i^j.toNat)) tK:=Ew (Mb λ i j=>i^j.toNat)
def MR:qC K Y (rI (λ _ j=>0<=j) λ i j=>.int (i/2^j.toNat)) KW:=Ew (Mb λ i j=>i/2^j.toNat)
def MS:qC K Y (DV λ i j=>.bl (decide (i<j))) NI:=Ex (OU λ i j=>decide (i<j))
def MQ:qC K Y (DV λ i j=>.bl (decide (j<i))) Ma:=Ex (OU λ i j=>decide (j<i))
end
section
variable {K:#[0]}{a b c:Expr}{fa fb fc:#[28]}{ga gb:#[66]}
def gm.MW(k:gm H0 B H P F f)(sH:au H H1)(I1:SI K H0 B0 B1 H1 σ τ P (λ a=>a∈f\/F a)):gm H0 B1 H1 P F f:=⟨k.nd,λ a m=>let ⟨_,a2,_,a4,a5⟩:=k.own a m;⟨(I1.fr a (.inl m)).1,a2,(I1.fr a (.inl m)).2,a4,a5⟩⟩
def D.flat:D->Bool|.a8=>true|.bl _=>true|.int _=>true|.str _=>true|_=>false
def dg:D->D->Option Bool
 |.a8,.a8=>some true|.a8,.int _=>some false|.int _,.a8=>some false|.a8,.bl _=>some false|.bl _,.a8=>some false|.a8,.str _=>some false|.str _,.a8=>some false
 |.int i,.int j=>some (decide (i=j))|.bl i,.bl j=>some (decide (i=j))|.str i,.str j=>some (decide (i=j))
 |.int _,.str _=>some false|.str _,.int _=>some false|.bl _,.str _=>some false|.str _,.bl _=>some false
 |_,_=>none
def uv {S S':#[17]}{d1 d2:D}{x y:V}{f1 f2:#[8]}{r:Bool}(e:dg d1 d2=some r)(r1:Rep K B S H d1 x f1)(r2:Rep K B S' H d2 y f2):KA x y=true/\decide (x=y)=r:=by
 cases d1<;>cases d2<;>first|(cases e;done)|(obtain⟨rfl,rfl⟩:=r1;obtain⟨rfl,rfl⟩:=r2;cases e;first|exact⟨rfl,rfl⟩|exact⟨rfl,by simp⟩)
def vD (neg:Bool):Option Bool->Res D|some b=>.ok (.bl (xor neg b))|none=>.bad
def gW (d1 d2:D):Res D:=vD false (dg d1 d2)
def mJ (d1 d2:D):Res D:=vD true (dg d1 d2)
def iX:qC K Y OP gW:=by
 intro H0 B0 B H σ τ P F d1 d2 x y f1 f2 Q I r1 r2 k h;unfold gW at h;cases e:dg d1 d2 with
 |none=>rw[e]at h;exact h.elim
 | some r =>
  rw[e]at h;obtain⟨s,z⟩:=uv e r1 r2;refine⟨s,?_⟩;rw[z];exact Out.here h I ⟨by simp,rfl⟩
def tN:qC K Y ON mJ:=by
 intro H0 B0 B H σ τ P F d1 d2 x y f1 f2 Q I r1 r2 k h;unfold mJ at h;cases e:dg d1 d2 with
 |none=>rw[e]at h;exact h.elim
 | some r =>
  rw[e]at h;obtain⟨s,z⟩:=uv e r1 r2;refine⟨s,?_⟩;rw[z];exact Out.here h I ⟨by simp,rfl⟩
def f6 (neg:Bool):D->D->Res D
 |.a8,.a8=>.ok (.bl (!neg))
 |_,.a8=>.ok (.bl neg)
 |_,_=>.bad
def D.O8:D->Bool|.a8=>true|_=>false
def A9 {S:#[17]}(r:Rep K B S H d v f):decide (v=.a8)=d.O8:=by
 cases d with
 |a8=>rw[r.1];rfl|bl _=>rw[r.1];rfl|int _=>rw[r.1];rfl|str _=>rw[r.1];rfl|exc _=>obtain⟨⟨a,rfl,_⟩,_⟩:=r;rfl|tup _=>obtain⟨a,_,rfl,_⟩:=r;rfl|lst t _=>cases t<;>first|exact False.elim r|(obtain⟨a,_,r⟩:=r;first|(obtain⟨_,rfl,_⟩:=r;rfl)|(obtain⟨rfl,_⟩:=r;rfl))
 |dct t _ _ _=>cases t<;>(obtain⟨a,_,r⟩:=r;first|(obtain⟨_,rfl,_⟩:=r;rfl)|(obtain⟨rfl,_⟩:=r;rfl))
def xK:qC K Y (λ x y H Q=>y=.a8/\Q (.bl (decide (x=.a8))) H) (f6 false):=by
 intro H0 B0 B H σ τ P F d1 d2 x y f1 f2 Q I r1 r2 k h;have e:=A9 r1;unfold f6 at h;split at h
 ·rw[r2.1];rw[e];exact⟨rfl,Out.here h I ⟨rfl,rfl⟩⟩
 ·rename_i hn;rw[r2.1];rw[e];refine⟨rfl,Out.here h I ⟨?_,rfl⟩⟩;cases d1<;>first|rfl|exact(hn rfl).elim
 ·exact h.elim
def zB:qC K Y (λ x y H Q=>y=.a8/\Q (.bl (!decide (x=.a8))) H) (f6 true):=by
 intro H0 B0 B H σ τ P F d1 d2 x y f1 f2 Q I r1 r2 k h;have e:=A9 r1;unfold f6 at h;split at h
 ·rw[r2.1];rw[e];exact⟨rfl,Out.here h I ⟨rfl,rfl⟩⟩
 ·rename_i hn;rw[r2.1];rw[e];refine⟨rfl,Out.here h I ⟨?_,rfl⟩⟩;cases d1<;>first|rfl|exact(hn rfl).elim
 ·exact h.elim
def KY:D->D->Bool
 |.a8,.a8=>true
 |.bl a,.bl b=>a == b
 |.bl a,.int b=>(if a then 1 else 0) == b
 |.int a,.bl b=>a == (if b then 1 else 0)
 |.int a,.int b=>a == b
 |.str a,.str b=>a == b
 |_,_=>false
def lX (x:D)(xs:List D):Bool:=xs.any λ y=>KY y x
def rq {S:#[17]}(h:d.flat=true)(r:Rep K B S H d v f):mE v=true:=by
 cases d<;>first|exact absurd (show false=true from h) Pq|(obtain⟨rfl,_⟩:=r;rfl)
def K0 {S:#[17]}{e:D}{u:V}{g:#[8]}(h:d.flat=true)(h':e.flat=true)(r:Rep K B S H d v f)(r':Rep K B S H e u g):GZ v u=KY d e:=by
 cases d<;>cases e<;>first|exact absurd (show false=true from h) Pq|exact absurd (show false=true from h') Pq|(obtain⟨rfl,_⟩:=r;obtain⟨rfl,_⟩:=r';rfl)
def rz {S:#[17]}{x:D}{u:V}{g:#[8]}(hx:x.flat=true)(rx:Rep K B S H x u g):∀ {xs:List D}{vs:List V}{f:#[8]},xs.all D.flat=true->ak K B S H xs vs f->vs.all mE=true/\NF u vs=lX x xs
 |[],vs,f,_,r=>by obtain⟨rfl,_⟩:=r;exact⟨rfl,rfl⟩
 | d::ds,vs,f,h,r=>by
  obtain⟨v,w,f1,f2,rfl,r1,r2,_⟩:=r;rw[Ul,Ql]at h;obtain⟨i1,i2⟩:=rz hx rx h.2 r2;refine⟨by rw[Ul,rq h.1 r1,i1];rfl,?_⟩;show(GZ v u||NF u w)=(KY d x||lX x ds);rw[i2,K0 h.1 hx r1 rx]
def inD (neg:Bool):D->D->Res D
 |x,.lst _ xs=>if x.flat=true/\xs.all D.flat=true then .ok (.bl (if neg then !lX x xs else lX x xs)) else .bad
 |x,.tup xs=>if x.flat=true/\xs.all D.flat=true then .ok (.bl (if neg then !lX x xs else lX x xs)) else .bad
 |_,_=>.bad
def Eg (neg:Bool):qC K Y (OS K neg) (inD neg):=by
 intro H0 B0 B H σ τ P F d1 d2 x y f1 f2 Q I r1 r2 k h;unfold inD at h;split at h
 ·split at h
  ·rename_i hc;obtain⟨a,vs,g,rfl,q,l,s⟩:=r2.lst I;obtain⟨z1,z2⟩:=rz hc.1 r1 hc.2 l;refine⟨a,vs,rfl,.inl (gy q),rq hc.1 r1,z1,?_⟩;rw[z2];exact Out.here h I ⟨rfl,rfl⟩
  ·exact h.elim
 ·split at h
  ·rename_i hc;obtain⟨a,vs,rfl,q,l⟩:=r2.tp;obtain⟨z1,z2⟩:=rz hc.1 r1 hc.2 l;refine⟨a,vs,rfl,.inr q,rq hc.1 r1,z1,?_⟩;rw[z2];exact Out.here h I ⟨rfl,rfl⟩
  ·exact h.elim
 ·exact h.elim
def bL:D->D->Res D
 |.lst _ xs,.int i=>match tw xs i with|some d=>.ok d|none=>.bad
 |.tup xs,.int i=>match tw xs i with|some d=>.ok d|none=>.bad
 |.str z,.int i=>if z.length<=16777216 then match tw z.cps.toList i with|some c=>.ok (.str ⟨#[c]⟩)|none=>.bad else .bad
 |_,_=>.bad
def ak.tw {S:#[17]}{i:Int}(r:ak K B S H xs vs f)(e:tw xs i=some d):∃ v g,L2.tw vs i=some v/\Rep K B S H d v g/\List.Sublist g f:=by
 unfold L2.tw at e ⊢;rw[r.length]at e;cases z:Hq vs.length i with
 |none=>rw[z]at e;cases e
 | some j =>
  rw[z]at e;obtain⟨v,g,h1,h2,h3⟩:=r.get (i:=j) e;exact⟨v,g,h1,h2,h3⟩
def Ou:qC K Y (OQ K) bL:=by
 intro H0 B0 B H σ τ P F d1 d2 x y f1 f2 Q I r1 r2 k h;unfold bL at h;split at h
 ·obtain⟨rfl,rfl⟩:=r2;obtain⟨a,vs,g,rfl,q,l,s⟩:=r1.lst I;split at h
  ·rename_i d e;obtain⟨v,g',e1,r',s'⟩:=l.tw e;exact .inl ⟨a,vs,_,v,rfl,rfl,gy q,e1,Out.A5 h I r' (k.left.sub (s'.trans s))⟩
  ·exact h.elim
 ·obtain⟨rfl,rfl⟩:=r2;obtain⟨a,vs,rfl,q,l⟩:=r1.tp;split at h
  ·rename_i d e;obtain⟨v,g',e1,r',s'⟩:=l.tw e;exact .inr (.inl ⟨a,vs,_,v,rfl,rfl,q,e1,Out.A5 h I r' (k.left.sub s')⟩)
  ·exact h.elim
 ·obtain⟨rfl,rfl⟩:=r2;obtain⟨rfl,rfl⟩:=r1;split at h
  ·rename_i hl;split at h
   ·rename_i c e;exact .inr (.inr ⟨_,_,c,rfl,rfl,KU hl,e,Out.here h I ⟨rfl,rfl⟩⟩)
   ·exact h.elim
  ·exact h.elim
 ·exact h.elim
def pZ.later{Q:Bool->Hp->Prop}{r:Res Bool}(h:pZ K Y H0 B0 B H σ τ P F Q r)(sH:au H H1)(sB:au B B1):pZ K Y H0 B0 B1 H1 σ τ P F Q r:=by
 cases r with
 |ok d=>exact λ H' B' I s b=>h H' B' I (sH.trans s) (sB.trans b)
 |eB C=>exact nN.later h sH sB λ _ x=>x
 |bad=>exact h
def kQ.seq {f:#[66]}{Q':Bool->Hp->Prop}{g:Bool->Res Bool}{Q:Bool->Hp->Prop}(I:#[21])(h:pZ K Y H0 B0 B H σ τ P F Q ((f τ).bind g))
  (k:∀ d H1 B1,SI K H0 B0 B1 H1 σ τ P F->pZ K Y H0 B0 B1 H1 σ τ P F Q (g d)->Q' d H1):kQ K Y f σ H Q':=by
 refine⟨H0,B0,B,τ,P,F,I,?_⟩;cases e:f τ with
 |ok d=>rw[e]at h;exact λ H1 B1 I1 s1 b1=>k d H1 B1 I1 (pZ.later h s1 b1)
 |eB C=>rw[e]at h;exact h|bad=>rw[e]at h;exact h
def kQ.Oq {f:#[66]}{Q':Bool->Hp->Prop}{g:Bool->Res D}(I:#[21])(h:Goal K Y H0 B0 B H σ τ P F Q ((f τ).bind g))
  (k:∀ d H1 B1,SI K H0 B0 B1 H1 σ τ P F->Goal K Y H0 B0 B1 H1 σ τ P F Q (g d)->Q' d H1):kQ K Y f σ H Q':=by
 refine⟨H0,B0,B,τ,P,F,I,?_⟩;cases e:f τ with
 |ok d=>rw[e]at h;exact λ H1 B1 I1 s1 b1=>k d H1 B1 I1 (Goal.later h s1 b1)
 |eB C=>rw[e]at h;exact h|bad=>rw[e]at h;exact h
def gC (f:#[66])(τ:SD):Res Bool:=(f τ).bind λ b=>.ok (!b)
def gU (f g:#[66])(τ:SD):Res Bool:=(f τ).bind λ b=>if b=true then g τ else .ok false
def nP (f g:#[66])(τ:SD):Res Bool:=(f τ).bind λ b=>if b=true then .ok true else g τ
def o9 (ha:PT X a (kQ X.K Y ga)):PT X (.UnaryOp .Not a pos) (kQ X.K Y (gC ga)):=
 PT.imp (Ky ha) λ σ H Q hq=>ex8 hq λ H0 B0 B τ P F I h=>kQ.seq I h λ d H1 B1 I1 h1=>h1 H1 B1 I1 #[49] #[49]
def PW.imp{t t':TT}(h:PW X e t)(hi:∀ σ H Q,t' σ H Q->t σ H Q):PW X e t':=λ wh pins s σ H Q I hw=>h wh pins s σ H Q I (hi σ H Q hw)
def nO (ha:PT X a (kQ X.K Y ga)):PW X (.BoolOp .And [a] pos) (kQ X.K Y ga):=G7 ha
def pe (ha:PT X a (kQ X.K Y ga)):PW X (.BoolOp .Or [a] pos) (kQ X.K Y ga):=Kh ha
def rm(ha:PT X a (kQ X.K Y ga))(hb:PW X (.BoolOp .And (b::rest) pos) (kQ X.K Y gb)):PW X (.BoolOp .And (a::b::rest) pos) (kQ X.K Y (gU ga gb)):=
 PW.imp (Ko ha hb) λ σ H Q hq=>ex8 hq λ H0 B0 B τ P F I h=>kQ.seq I h λ d H1 B1 I1 h1=>by
  cases d with
  |true=>rw[PH rfl]at h1 ⊢;exact⟨H0,B0,B1,τ,P,F,I1,h1⟩| false=>rw[PL Pq]at h1 ⊢;exact h1 H1 B1 I1 #[49] #[49]
def rB(ha:PT X a (kQ X.K Y ga))(hb:PW X (.BoolOp .Or (b::rest) pos) (kQ X.K Y gb)):PW X (.BoolOp .Or (a::b::rest) pos) (kQ X.K Y (nP ga gb)):=
 PW.imp (MA ha hb) λ σ H Q hq=>ex8 hq λ H0 B0 B τ P F I h=>kQ.seq I h λ d H1 B1 I1 h1=>by
  cases d with
  |true=>rw[PH rfl]at h1 ⊢;exact h1 H1 B1 I1 #[49] #[49]|false=>rw[PL Pq]at h1 ⊢;exact⟨H0,B0,B1,τ,P,F,I1,h1⟩
def vE (c:#[66])(f g:#[28])(τ:SD):Res D:=(c τ).bind λ b=>if b=true then f τ else g τ
def Ot (hc:PT X c (kQ X.K Y ga))(ha:#[80])(hb:PE X b (tM X.K Y fb)):PE X (.IfExp c a b pos) (tM X.K Y (vE ga fa fb)):=
 PE.imp (DX hc ha hb) λ σ H Q hq=>ex8 hq λ H0 B0 B τ P F I h=>kQ.Oq I h λ d H1 B1 I1 h1=>by
  cases d with
  |true=>rw[PH rfl]at h1 ⊢;exact⟨H0,B0,B1,τ,P,F,I1,h1⟩| false=>rw[PL Pq]at h1 ⊢;exact⟨H0,B0,B1,τ,P,F,I1,h1⟩
def iM (f g:#[28])(τ:SD):Res D:=(f τ).bind λ d=>(tG d).bind λ b=>if b=true then g τ else .ok (.bl false)
def kR (f:#[28])(τ:SD):Res D:=(f τ).bind λ d=>(tG d).bind λ b=>.ok (.bl (!b))
def uu{g:Bool->Res D}(r:Rep K B (· ∈ P) H d v f)(h:Goal K Y H0 B0 B H σ τ P F Q ((tG d).bind g)):∃ c,v=.bl c/\f=[]/\Goal K Y H0 B0 B H σ τ P F Q (g c):=by
 cases d with
 |bl c=>exact⟨c,r.1,r.2,h⟩| _=>exact h.elim
def EB {op}(h:#[80]):PE X (.BoolOp op [a] pos) (tM X.K Y fa):=Kl h
def A8(ha:#[80])(hb:PE X (.BoolOp .And (b::rest) pos) (tM X.K Y fb)):PE X (.BoolOp .And (a::b::rest) pos) (tM X.K Y (iM fa fb)):=
 PE.imp (J5 ha hb) λ σ H Q hq=>ex8 hq λ H0 B0 B τ P F I h=>tM.seq I h λ d v H1 B1 fp _ I1 _ _ r1 _ h1=>by
  obtain⟨c,rfl,_,h2⟩:=uu r1 h1;refine⟨c,rfl,?_⟩;cases c with
  |true=>rw[PH rfl]at h2 ⊢;exact⟨H0,B0,B1,τ,P,F,I1,h2⟩| false=>rw[PL Pq]at h2 ⊢;exact Out.here h2 I1 ⟨rfl,rfl⟩
def MU (ha:#[80]):PE X (.UnaryOp .Not a pos) (tM X.K Y (kR fa)):=
 PE.imp (Kz ha) λ σ H Q hq=>ex8 hq λ H0 B0 B τ P F I h=>tM.seq I h λ d v H1 B1 fp _ I1 _ _ r1 _ h1=>by
  obtain⟨c,rfl,_,h2⟩:=uu r1 h1;exact⟨c,rfl,Out.here h2 I1 ⟨rfl,rfl⟩⟩
def fZ (g:D->Res D)(f:#[28])(τ:SD):Res D:=(f τ).bind g
def jG:D->Res D|.int i=>.ok (.int (-i))|_=>.bad
def MT (ha:#[80]):PE X (.UnaryOp .USub a pos) (tM X.K Y (fZ jG fa)):=
 PE.imp (Mj J9 ha) λ σ H Q hq=>ex8 hq λ H0 B0 B τ P F I h=>tM.seq I h λ d v H1 B1 fp _ I1 _ _ r1 _ h1=>by
  cases d with
  |int i=>exact⟨i,r1.1,Out.here h1 I1 ⟨rfl,rfl⟩⟩| _=>exact h1.elim
def ao (_:SD):Res (List D):=.ok []
def ae (f:#[28])(g:#[40])(τ:SD):Res (List D):=(f τ).bind λ d=>(g τ).bind λ ds=>.ok (d::ds)
variable{fs:#[40]}
def cR:PA X [] (nM X.K Y ao):=PA.imp dQ λ σ H Q hq=>ex8 hq λ H0 B0 B τ P F I h=>h [] H B [] I #[49] #[49] ⟨rfl,rfl⟩ gm.nil
def az (ha:#[46])(hr:PA X es (nM X.K Y fs))(hs:#[9]:=by rfl):PA X (e::es) (nM X.K Y (ae fe fs)):=by
 refine PA.imp (bY ha hr hs) λ σ H Q hq=>ex8 hq λ H0 B0 B τ P F I h=>?_;refine⟨H0,B0,B,τ,P,F,I,?_⟩;unfold ae at h;cases z:fe τ with
 |eB C=>rw[z]at h;exact h|bad=>rw[z]at h;exact h
 | ok d =>
  rw[z]at h;intro v H1 B1 fp I1 s1 b1 r1 k1;refine⟨H0,B0,B1,τ,P,_,I1.hold k1,?_⟩;cases y:fs τ with
  |eB C=>rw[y]at h;exact nN.later h s1 b1 λ a x=>.inr x
  |bad=>rw[y]at h;exact h
  | ok ds =>
   rw[y]at h;intro vs H2 B2 fq I2 s2 b2 r2 k2;exact h (v::vs) H2 B2 (fp++fq) (I2.tE λ a x=>.inr x) (s1.trans s2) (b1.trans b2) ⟨v,vs,fp,fq,rfl,r1.mono s2 b2 (λ _ x=>x),r2,rfl⟩ (k1.both s2 I2 k2)
def nM.seq {f:#[40]}{Q':List V->Hp->Prop}{g:List D->Res D}(I:#[21])(h:Goal K Y H0 B0 B H σ τ P F Q ((f τ).bind g))
  (k:∀ ds vs H1 B1 fp,f τ=.ok ds->SI K H0 B0 B1 H1 σ τ P F->au H H1->au B B1->ak K B1 (· ∈ P) H1 ds vs fp->gm H0 B1 H1 P F fp->Goal K Y H0 B0 B1 H1 σ τ P F Q (g ds)->Q' vs H1):nM K Y f σ H Q':=by
 refine⟨H0,B0,B,τ,P,F,I,?_⟩;cases e:f τ with
 | ok d =>
  rw[e]at h;intro v H1 B1 fp I1 s1 b1 r1 k1;exact k d v H1 B1 fp e I1 s1 b1 r1 k1 (Goal.later h s1 b1)
 |eB C=>rw[e]at h;exact h|bad=>rw[e]at h;exact h
def gG (ds:List D):Res D:=if ds.length<=16777216 then .ok (.tup ds) else .bad
def cM (ds:List D):Res D:=if ds.length<=16777216 then .ok (.lst .own ds) else .bad
def eA (g:List D->Res D)(f:#[40])(τ:SD):Res D:=(f τ).bind g
def rA {x1}(h:PA X es (nM X.K Y fs)):PE X (.Tuple es x1 pos) (tM X.K Y (eA gG fs)):=
 PE.imp (zh h) λ σ H Q hq=>ex8 hq λ H0 B0 B τ P F I h=>nM.seq I h λ ds vs H1 B1 fp _ I1 _ _ r1 k1 h1=>by
  unfold gG at h1;split at h1
  ·rename_i hl;exact⟨by rw[<-r1.length];exact KU hl,λ p hp=>Out.HD h1 I1 r1 k1 hp⟩
  ·exact h1.elim
def iy (h:PA X es (nM X.K Y fs)):PE X (.List es pos) (tM X.K Y (eA cM fs)):=
 PE.imp (zo h) λ σ H Q hq=>ex8 hq λ H0 B0 B τ P F I h=>nM.seq I h λ ds vs H1 B1 fp _ I1 _ _ r1 k1 h1=>by
  unfold cM at h1;split at h1
  ·rename_i hl;exact⟨by rw[<-r1.length];exact KU hl,λ p hp=>Out.zA h1 I1 r1 k1 hp⟩
  ·exact h1.elim
def mH (K:#[0])(Y:XY)(r:List V->Hp->VK->Prop)(g:List D->Res D):Prop:=∀ {H0 B0 B H:Hp}{σ:L2.St}{τ:SD}{P:#[8]}{F:#[17]}{ds:List D}{vs:List V}{f:#[8]}{Q:VK},
 SI K H0 B0 B H σ τ P F->ak K B (· ∈ P) H ds vs f->gm H0 B H P F f->Goal K Y H0 B0 B H σ τ P F Q (g ds)->r vs H Q
def HF{id:String}{r:List V->Hp->VK->Prop}{g:List D->Res D}(hc:eO X (.builtin id) r)(hgd:mH X.K Y r g)(hg:Gl X x)(hm:X.mg x=none)(hv:bootBuiltins x=some (.builtin id))(ha:PA X (e::es) (nM X.K Y fs))(hn:x ≠ "__name__" :=by decide)(hdb:#[2]:=by decide)
  (he:#[9]:=by rfl) (hpl:#[45].any (·.1)=false:=by rfl) :
  PE X #[48] (tM X.K Y (eA g fs)):=
 PE.imp (jz hc hg hm hv ha hn hdb he hpl) λ σ H Q hq=>ex8 hq λ H0 B0 B τ P F I h=>nM.seq I h λ ds vs H1 B1 fp _ I1 _ _ r1 k1 h1=>hgd I1 r1 k1 h1
def EA{r:List V->Hp->VK->Prop}{g:List D->Res D}(hc:eO X (.type T) r)(hgd:mH X.K Y r g)(hg:Gl X x)(hm:X.mg x=none)(hv:bootBuiltins x=some (.type T))(ha:PA X (e::es) (nM X.K Y fs))(hn:x ≠ "__name__" :=by decide)(hdb:#[2]:=by decide)
  (he:#[9]:=by rfl) (hpl:#[45].any (·.1)=false:=by rfl) :
  PE X #[48] (tM X.K Y (eA g fs)):=
 PE.imp (Cq hc hg hm hv ha hn hdb he hpl) λ σ H Q hq=>ex8 hq λ H0 B0 B τ P F I h=>nM.seq I h λ ds vs H1 B1 fp _ I1 _ _ r1 k1 h1=>hgd I1 r1 k1 h1
def lz {S:#[17]}(r:ak K B S H [d] vs f):∃ v,vs=[v]/\Rep K B S H d v f:=by
 obtain⟨v,w,f1,f2,rfl,r1,r2,rfl⟩:=r;obtain⟨rfl,rfl⟩:=r2;exact⟨v,rfl,by rw[Qi];exact r1⟩
def Ey {S:#[17]}{e:D}(r:ak K B S H [d,e] vs f):∃ v u f1 f2,vs=[v,u]/\f=f1++f2/\Rep K B S H d v f1/\Rep K B S H e u f2:=by
 obtain⟨v,w,f1,f2,rfl,r1,r2,rfl⟩:=r;obtain⟨u,rfl,r3⟩:=lz r2;exact⟨v,u,f1,f2,rfl,rfl,r1,r3⟩
def dJ:List D->Res D
 |[.lst _ xs]=>.ok (.int xs.length)
 |[.tup xs]=>.ok (.int xs.length)
 |[.str z]=>if z.length<=16777216 then .ok (.int z.length) else .bad
 |_=>.bad
abbrev MV (K:#[0]):List V->Hp->VK->Prop:=λ xs H Q=>(∃ p ys,xs=[.ref p]/\(eQ K H p ys\/jW K H p ys)/\Q (.int ys.length) H)\/∃ z,xs=[.str z]/\z.length<=sizeLine/\Q (.int z.length) H
def eu:eO X (.builtin "len") (MV X.K):=eO.or vo vp
def mF:mH K Y (MV K) dJ:=by
 intro H0 B0 B H σ τ P F ds vs f Q I r k h;unfold dJ at h;split at h
 ·obtain⟨v,rfl,r'⟩:=lz r;obtain⟨a,ws,g,rfl,q,l,s⟩:=r'.lst I;refine .inl ⟨a,ws,rfl,.inl (gy q),?_⟩;rw[<-l.length];exact Out.here h I ⟨rfl,rfl⟩
 ·obtain⟨v,rfl,r'⟩:=lz r;obtain⟨a,ws,rfl,q,l⟩:=r'.tp;refine .inl ⟨a,ws,rfl,.inr q,?_⟩;rw[<-l.length];exact Out.here h I ⟨rfl,rfl⟩
 ·obtain⟨v,rfl,r'⟩:=lz r;obtain⟨rfl,rfl⟩:=r';split at h
  ·rename_i hl;exact .inr ⟨_,rfl,KU hl,Out.here h I ⟨rfl,rfl⟩⟩
  ·exact h.elim
 ·exact h.elim
def fJ:List D->Res D|[.int i,.int j]=>.ok (.int (if j>i then j else i))|_=>.bad
def gh:List D->Res D|[.int i,.int j]=>.ok (.int (if j<i then j else i))|_=>.bad
def zC:mH K Y (λ xs H Q=>∃ i j,xs=[.int i,.int j]/\Q (.int (if j>i then j else i)) H) fJ:=by
 intro H0 B0 B H σ τ P F ds vs f Q I r k h;unfold fJ at h;split at h
 ·obtain⟨v,u,f1,f2,rfl,rfl,⟨rfl,rfl⟩,⟨rfl,rfl⟩⟩:=Ey r;exact⟨_,_,rfl,Out.here h I ⟨rfl,rfl⟩⟩
 ·exact h.elim
def Ez:mH K Y (λ xs H Q=>∃ i j,xs=[.int i,.int j]/\Q (.int (if j<i then j else i)) H) gh:=by
 intro H0 B0 B H σ τ P F ds vs f Q I r k h;unfold gh at h;split at h
 ·obtain⟨v,u,f1,f2,rfl,rfl,⟨rfl,rfl⟩,⟨rfl,rfl⟩⟩:=Ey r;exact⟨_,_,rfl,Out.here h I ⟨rfl,rfl⟩⟩
 ·exact h.elim
def fH:List D->Res D
 |[.lst _ xs]=>.ok (.lst .own xs)
 |[.tup xs]=>.ok (.lst .own xs)
 |_=>.bad
def KZ:mH K Y (λ xs H Q=>∃ p ys,xs=[.ref p]/\(eQ K H p ys\/jW K H p ys)/\∀ l,H l=none->Q (.ref l) (upd H l (.lst ys))) fH:=by
 intro H0 B0 B H σ τ P F ds vs f Q I r k h;unfold fH at h;split at h
 ·obtain⟨v,rfl,r'⟩:=lz r;obtain⟨a,ws,g,rfl,q,l,s⟩:=r'.lst I;exact⟨a,ws,rfl,.inl (gy q),λ p hp=>Out.zA h I l (k.sub s) hp⟩
 ·obtain⟨v,rfl,r'⟩:=lz r;obtain⟨a,ws,rfl,q,l⟩:=r'.tp;exact⟨a,ws,rfl,.inr q,λ p hp=>Out.zA h I l k hp⟩
 ·exact h.elim
def dh:List D->Res D
 |[.lst _ xs]=>.ok (.tup xs)
 |[.tup xs]=>.ok (.tup xs)
 |_=>.bad
def vF:mH K Y (λ xs H Q=>∃ p ys,xs=[.ref p]/\((eQ K H p ys/\∀ l,H l=none->Q (.ref l) (upd H l (.tup ys)))\/(jW K H p ys/\Q (.ref p) H))) dh:=by
 intro H0 B0 B H σ τ P F ds vs f Q I r k h;unfold dh at h;split at h
 ·obtain⟨v,rfl,r'⟩:=lz r;obtain⟨a,ws,g,rfl,q,l,s⟩:=r'.lst I;exact⟨a,ws,rfl,.inl ⟨gy q,λ p hp=>Out.HD h I l (k.sub s) hp⟩⟩
 ·obtain⟨v,rfl,r'⟩:=lz r;obtain⟨a,ws,rfl,q,l⟩:=r'.tp;exact⟨a,ws,rfl,.inr ⟨q,Out.A5 h I r' k⟩⟩
 ·exact h.elim
def eP (f:#[28])(τ:SD):Res (Option Int):=(f τ).bind λ d=>match d with|.int i=>.ok (some i)|_=>.bad
def ly (_:SD):Res (Option Int):=.ok none
def NJ (K:#[0])(Y:XY)(f:SD->Res (Option Int)):TO:=λ σ H Q=>∃ H0 B0 B τ P F,SI K H0 B0 B H σ τ P F/\match f τ with
 |.ok o=>∀ H' B',SI K H0 B0 B' H' σ τ P F->au H H'->au B B'->Q o H'
 |.eB C=>nN K Y H0 B0 B H σ τ P F C
 |.bad=>False
def PO.imp {e:Option Expr}{t t':TO}(h:PO X e t)(hi:∀ σ H Q,t' σ H Q->t σ H Q):PO X e t':=λ pins s σ H Q I hw=>h pins s σ H Q I (hi σ H Q hw)
def j5:PO X none (NJ X.K Y ly):=PO.imp Hm λ σ H Q hq=>ex8 hq λ H0 B0 B τ P F I h=>h H B I #[49] #[49]
def iB (h:#[46]):PO X (some e) (NJ X.K Y (eP fe)):=by
 refine PO.imp (Hs h) λ σ H Q hq=>ex8 hq λ H0 B0 B τ P F I h=>?_;refine⟨H0,B0,B,τ,P,F,I,?_⟩;unfold eP at h;cases z:fe τ with
 |eB C=>rw[z]at h;exact h|bad=>rw[z]at h;exact h
 | ok d =>
  rw[z]at h;intro v H1 B1 fp I1 s1 b1 r1 k1;cases d with
  |int i=>exact⟨i,r1.1,h H1 B1 I1 s1 b1⟩| _=>exact h.elim
def cut(xs:List α)(lo hi:Option Int):List α:=(xs.drop (HT.fX xs.length 0 lo)).take (HT.fX xs.length xs.length hi-HT.fX xs.length 0 lo)
def ak.drop {S:#[17]}:∀ (n:Nat) {xs:List D}{vs:List V}{f:#[8]},ak K B S H xs vs f->∃ g,ak K B S H (xs.drop n) (vs.drop n) g/\List.Sublist g f
 |0,xs,vs,f,r=>⟨f,r,QI _⟩
 | n+1,[],vs,f,r=>by
  obtain⟨rfl,rfl⟩:=r;exact⟨[],⟨rfl,rfl⟩,QI _⟩
 | n+1,d::ds,vs,f,r=>by
  obtain⟨v,w,f1,f2,rfl,r1,r2,rfl⟩:=r;obtain⟨g,h1,h2⟩:=ak.drop n r2;exact⟨g,h1,h2.trans (P6 _ _)⟩
def ak.take {S:#[17]}:∀ (n:Nat) {xs:List D}{vs:List V}{f:#[8]},ak K B S H xs vs f->∃ g,ak K B S H (xs.take n) (vs.take n) g/\List.Sublist g f
 |0,xs,vs,f,r=>⟨[],⟨rfl,rfl⟩,List.nil_sublist _⟩
 | n+1,[],vs,f,r=>by
  obtain⟨rfl,rfl⟩:=r;exact⟨[],⟨rfl,rfl⟩,QI _⟩
 | n+1,d::ds,vs,f,r=>by
  obtain⟨v,w,f1,f2,rfl,r1,r2,rfl⟩:=r;obtain⟨g,h1,h2⟩:=ak.take n r2;exact⟨f1++g,⟨v,_,f1,g,rfl,r1,h1,rfl⟩,Tw (QI _) h2⟩
def ak.cut {S:#[17]}(r:ak K B S H xs vs f)(lo hi:Option Int):∃ g,ak K B S H (cut xs lo hi) (xu vs lo hi) g/\List.Sublist g f:=by
 unfold DL.cut xu;rw[r.length];obtain⟨g,h1,h2⟩:=r.drop (HT.fX vs.length 0 lo);obtain⟨g',h3,h4⟩:=h1.take (HT.fX vs.length vs.length hi-HT.fX vs.length 0 lo);exact⟨g',h3,h4.trans h2⟩
def cutD (d:D)(lo hi:Option Int):Res D:=match d with
 |.lst _ xs=>.ok (.lst .own (cut xs lo hi))
 |.tup xs=>if HT.fX xs.length 0 lo=0/\HT.fX xs.length xs.length hi=xs.length then .bad else .ok (.tup (cut xs lo hi))
 |_=>.bad
def c8 (f:#[28])(lo hi:SD->Res (Option Int))(τ:SD):Res D:=(f τ).bind λ d=>(lo τ).bind λ l=>(hi τ).bind λ u=>cutD d l u
def i8 {lo hi:Option Expr}{fl fh:SD->Res (Option Int)}{p2:Pos}(he:#[46])(hl:PO X lo (NJ X.K Y fl))(hu:PO X hi (NJ X.K Y fh)):PE X (.Subscript e (.Slice lo hi none p2) pos) (tM X.K Y (c8 fe fl fh)):=by
 refine PE.imp (Eb (Jy.or Hk KJ) he hl hu) λ σ H Q hq=>ex8 hq λ H0 B0 B τ P F I h=>?_;refine tM.seq I h λ d v H1 B1 fp _ I1 s1 b1 r1 k1 h1=>?_;refine⟨H0,B0,B1,τ,P,_,I1.hold k1,?_⟩;cases z:fl τ with
 |eB C=>rw[z]at h1;exact nN.later h1 #[49] #[49] λ a x=>.inr x
 |bad=>rw[z]at h1;exact h1
 | ok l =>
  rw[z]at h1;intro H2 B2 I2 s2 b2;refine⟨H0,B0,B2,τ,P,_,I2,?_⟩;cases y:fh τ with
  |eB C=>rw[y]at h1;exact nN.later h1 s2 b2 λ a x=>.inr x
  |bad=>rw[y]at h1;exact h1
  | ok u =>
   rw[y]at h1;intro H3 B3 I3 s3 b3;have I4:=I3.tE (F':=F) λ a x=>.inr x;have k4:=k1.MW (s2.trans s3) I3;have r4:=r1.mono (s2.trans s3) (b2.trans b3) λ _ x=>x;have h4:Goal X.K Y H0 B0 B3 H3 σ τ P F Q (cutD d l u):=Goal.later h1 (s2.trans s3) (b2.trans b3);unfold cutD at h4;split at h4
   ·obtain⟨a,vs,g,rfl,q,l',s⟩:=r4.lst I4;obtain⟨g',l2,s2⟩:=l'.cut l u;exact .inl ⟨a,vs,rfl,gy q,λ p hp=>Out.zA h4 I4 l2 (k4.sub (s2.trans s)) hp⟩
   ·obtain⟨a,vs,rfl,q,l'⟩:=r4.tp;obtain⟨g',l2,s2⟩:=l'.cut l u;split at h4
    ·exact h4.elim
    ·rename_i hc;rw[l'.length]at hc;exact .inr ⟨a,vs,rfl,q,hc,λ p hp=>Out.HD h4 I4 l2 (k4.sub s2) hp⟩
   ·exact h4.elim
end
inductive Fl where|nx (τ:SD)|rt (d:D)|bk (τ:SD)|ct (τ:SD)|ex (C:Addr)(τ:SD)|bad
abbrev SF:=SD->Fl
variable {b:SF}
def Tg.a7:Tg->Tg|.bor=>.aq|t=>t
mutual
def D.a7:D->D
 |.tup xs=>.tup (cF xs)
 |.lst t xs=>.lst t.a7 (cF xs)
 |.dct t k ks vs=>.dct t.a7 k ks (cF vs)
 |d=>d
def cF:List D->List D
 |[]=>[]
 |d::r=>d.a7::cF r
end
mutual
def xM:∀ d:D,d.aD=false->d.a7=d
 |.a8,_=>rfl|.bl _,_=>rfl|.int _,_=>rfl|.str _,_=>rfl|.exc _,_=>rfl
 | .tup xs,h=>by
  have h:aB xs=false:=h;show D.tup (cF xs)=_;rw[jH xs h]
 | .lst t xs,h=>by
  have h:(decide (t=.bor)||aB xs)=false:=h;rw[Rm]at h;show D.lst t.a7 (cF xs)=_;rw[jH xs h.2];cases t<;>first|rfl|exact absurd h.1 #[120]
 | .dct t k ks vs,h=>by
  have h:(decide (t=.bor)||aB vs)=false:=h;rw[Rm]at h;show D.dct t.a7 k ks (cF vs)=_;rw[jH vs h.2];cases t<;>first|rfl|exact absurd h.1 #[120]
def jH:∀ xs:List D,aB xs=false->cF xs=xs
 |[],_=>rfl
 | d::r,h=>by
  have h:(d.aD||aB r)=false:=h;rw[Rm]at h;show d.a7::cF r=_;rw[xM d h.1,jH r h.2]
end
section
variable {K:#[0]}
mutual
def Rep.a7 {B B' H:Hp}{S:#[17]}(sB:au B B')(hs:∀ a o,S a->H a=some o->B' a=some o):∀ {d:D}{v:V}{fp:#[8]},Rep K B S H d v fp->Rep K B' No H d.a7 v fp
 |.a8,_,_,h=>h
 |.bl _,_,_,h=>h
 |.int _,_,_,h=>h
 |.str _,_,_,h=>h
 |.exc _,_,_,h=>h
 |.tup xs,v,fp,h=>let ⟨a,vs,e,q,r⟩:=h;⟨a,vs,e,q,ak.a7 sB hs r⟩
 |.lst .own xs,v,fp,h=>let ⟨a,vs,f,e,q,r,z⟩:=h;⟨a,vs,f,e,q,ak.a7 sB hs r,z⟩
 |.lst .bor xs,v,fp,h=>let ⟨a,vs,e,q,r,z⟩:=h;⟨a,vs,e,Et sB hs q,ak.a7 sB hs r,z⟩
 |.lst .aq xs,v,fp,h=>let ⟨a,vs,e,q,r,z⟩:=h;⟨a,vs,e,eF sB q,ak.a7 sB (λ _ _ x=>x.elim) r,z⟩
 |.lst (.len _) _,_,_,h=>h.elim
 |.dct (.len a) kd ks xs,v,fp,h=>let ⟨vs,f,e,q,r,z⟩:=h;⟨vs,f,e,q,ak.a7 sB hs r,z⟩
 |.dct .own kd ks xs,v,fp,h=>let ⟨a,vs,f,e,q,r,z⟩:=h;⟨a,vs,f,e,q,ak.a7 sB hs r,z⟩
 |.dct .bor kd ks xs,v,fp,h=>let ⟨a,vs,e,q,r,z⟩:=h;⟨a,vs,e,lW sB hs q,ak.a7 sB hs r,z⟩
 |.dct .aq kd ks xs,v,fp,h=>let ⟨a,vs,e,q,r,z⟩:=h;⟨a,vs,e,q.mono sB,ak.a7 sB (λ _ _ x=>x.elim) r,z⟩
def ak.a7 {B B' H:Hp}{S:#[17]}(sB:au B B')(hs:∀ a o,S a->H a=some o->B' a=some o):∀ {ds:List D}{vs:List V}{fp:#[8]},ak K B S H ds vs fp->ak K B' No H (cF ds) vs fp
 |[],_,_,h=>h
 |d::ds,vs,fp,h=>let ⟨v,r,f,g,e,h1,h2,z⟩:=h;⟨v,r,f,g,e,Rep.a7 sB hs h1,ak.a7 sB hs h2,z⟩
end
def mK (H H':Hp):Prop:=∀ a o,H a=some o->¬ tF o->H' a=some o
def mK.of(s:au H H'):mK H H':=λ a o h _=>s a o h
def mK.refl (H:Hp):mK H H:=λ _ _ h _=>h
def mK.trans {H2:Hp}(a:mK H H1)(b:mK H1 H2):mK H H2:=λ x o h n=>b x o (a x o h n) n
structure jU (K:PySem.W.Frag)(H0 B0 B H:Hp)(B' H':Hp)(σ':L2.St)(τ':SD)(P':List Addr):Prop where
 si:SI K H0 B0 B' H' σ' τ' P' No
 b:au B B'
 xE:mK H H'
structure lA (K:PySem.W.Frag)(H0 B0 B' H':Hp)(d:D)(v:V)(fp:List Addr):Prop where
 h0:au H0 H'
 b0:au B0 B'
 bh:au B' H'
 nb:∀ a,B' a≠none->B0 a≠none\/H0 a=none
 rep:Rep K B' No H' d v fp
 nd:fp.Nodup
 own:∀ a∈fp,B' a=none/\H0 a=none/\H' a≠none
def OV (K:#[0])(H0 B0:Hp)(E:Ends):D->Prop
 |.tup [r,x]=>∀ B' H' v u f1 f2,lA K H0 B0 B' H' r v f1->Rep K B' No H' x u f2->(f1++f2).Nodup->(∀ b∈f2,B' b=none/\H0 b=none/\H' b≠none)->E.rt v H'
 |_=>False
def cy (K:#[0])(Y:XY)(H0 B0 B H:Hp)(E:Ends):Fl->Prop
 |.nx τ'=>∀ B' H' σ' P',jU K H0 B0 B H B' H' σ' τ' P'->E.nx σ' H'
 |.bk τ'=>∀ B' H' σ' P',jU K H0 B0 B H B' H' σ' τ' P'->E.bk σ' H'
 |.ct τ'=>∀ B' H' σ' P',jU K H0 B0 B H B' H' σ' τ' P'->E.ct σ' H'
 |.ex C τ'=>∀ B' H' σ' P',jU K H0 B0 B H B' H' σ' τ' P'->Y C σ' H'
 | .rt d=>match Y.ln with
  |false=>∀ B' H' v fp,lA K H0 B0 B' H' d v fp->E.rt v H'
  |true=>OV K H0 B0 E d
 |.bad=>False
def iZ (K:#[0])(Y:XY)(g:SF):TS:=λ E σ H=>∃ H0 B0 B τ P,SI K H0 B0 B H σ τ P No/\cy K Y H0 B0 B H E (g τ)
variable{E:Ends}
def jU.refl (I:#[110]):jU K H0 B0 B H B H σ τ P:=⟨I,au.refl _,mK.refl _⟩
def jU.grow(I:SI K H0 B0 B' H' σ τ P No)(sB:au B B')(sH:au H H'):jU K H0 B0 B H B' H' σ τ P:=⟨I,sB,mK.of sH⟩
def jU.trans {B2 H2:Hp}{σ1 σ2:L2.St}{τ1 τ2:SD}{P1 P2:#[8]}(a:jU K H0 B0 B H B1 H1 σ1 τ1 P1)(b:jU K H0 B0 B1 H1 B2 H2 σ2 τ2 P2):jU K H0 B0 B H B2 H2 σ2 τ2 P2:=⟨b.si,a.b.trans b.b,a.xE.trans b.xE⟩
def cy.later{σ1:L2.St}{τ1:SD}{P1:#[8]}{r:Fl}(h:cy K Y H0 B0 B H E r)(a:jU K H0 B0 B H B1 H1 σ1 τ1 P1):cy K Y H0 B0 B1 H1 E r:=by
 cases r with
 |nx τ'=>exact λ B' H' σ' P' b=>h B' H' σ' P' (a.trans b)
 |bk τ'=>exact λ B' H' σ' P' b=>h B' H' σ' P' (a.trans b)
 |ct τ'=>exact λ B' H' σ' P' b=>h B' H' σ' P' (a.trans b)
 |ex C τ'=>exact λ B' H' σ' P' b=>h B' H' σ' P' (a.trans b)
 |rt d=>exact h|bad=>exact h
def cy.rt(hl:Y.ln=false)(h:cy K Y H0 B0 B H E (.rt d)):∀ B' H' v fp,lA K H0 B0 B' H' d v fp->E.rt v H':=by
 have h:(match Y.ln with|false=>∀ B' H' v fp,lA K H0 B0 B' H' d v fp->E.rt v H'|true=>OV K H0 B0 E d):=h;rw[hl]at h;exact h
def Fl.andThen (r:Fl)(s:SF):Fl:=match r with|.nx τ=>s τ|r=>r
def aA (a b:SF)(τ:SD):Fl:=(a τ).andThen b
def aR (τ:SD):Fl:=.nx τ
variable{rest:List Stmt}{g g1 g2:SF}
def bE:lR X [] (iZ X.K Y aR):=lR.imp Hd λ E σ H hq=>ex7 hq λ H0 B0 B τ P I h=>h B H σ P (jU.refl I)
def aw (h:PS X st (iZ X.K Y g)):lR X [st] (iZ X.K Y g):=AO h
def ai (h1:PS X st (iZ X.K Y g1))(h2:lR X rest (iZ X.K Y g2)):lR X (st::rest) (iZ X.K Y (aA g1 g2)):=by
 refine lR.imp (DW h1 h2) λ E σ H hq=>ex7 hq λ H0 B0 B τ P I h=>⟨H0,B0,B,τ,P,I,?_⟩;unfold aA at h;cases e:g1 τ with
 |nx τ'=>rw[e]at h;exact λ B' H' σ' P' a=>⟨H0,B0,B',τ',P',a.si,cy.later h a⟩
 |bk τ'=>rw[e]at h;exact h|ct τ'=>rw[e]at h;exact h|ex C τ'=>rw[e]at h;exact h|rt d=>rw[e]at h;exact h|bad=>rw[e]at h;exact h
def Res.jo (τ:SD)(r:Res D)(k:D->Fl):Fl:=match r with|.ok d=>k d|.eB C=>.ex C τ|.bad=>.bad
def Res.rC (τ:SD)(r:Res Bool)(k:Bool->Fl):Fl:=match r with|.ok d=>k d|.eB C=>.ex C τ|.bad=>.bad
def lB {f:#[28]}{k:D->Fl}(I:#[110])(h:cy K Y H0 B0 B H E ((f τ).jo τ k))
  (c:∀ d v H1 B1 fp,f τ=.ok d->SI K H0 B0 B1 H1 σ τ P No->au H H1->au B B1->Rep K B1 (· ∈ P) H1 d v fp->gm H0 B1 H1 P No fp->cy K Y H0 B0 B1 H1 E (k d)->Q v H1):tM K Y f σ H Q:=by
 refine⟨H0,B0,B,τ,P,No,I,?_⟩;cases e:f τ with
 | ok d =>
  rw[e]at h;intro v H1 B1 fp I1 s1 b1 r1 k1;exact c d v H1 B1 fp e I1 s1 b1 r1 k1 (cy.later h (jU.grow I1 b1 s1))
 |eB C=>rw[e]at h;exact λ H1 B1 I1 s1 b1=>h B1 H1 σ P (jU.grow I1 b1 s1)
 |bad=>rw[e]at h;exact h
def JE {f:#[66]}{k:Bool->Fl}{Q:Bool->Hp->Prop}(I:#[110])(h:cy K Y H0 B0 B H E ((f τ).rC τ k))
  (c:∀ d H1 B1,f τ=.ok d->SI K H0 B0 B1 H1 σ τ P No->au H H1->au B B1->cy K Y H0 B0 B1 H1 E (k d)->Q d H1):kQ K Y f σ H Q:=by
 refine⟨H0,B0,B,τ,P,No,I,?_⟩;cases e:f τ with
 |ok d=>rw[e]at h;exact λ H1 B1 I1 s1 b1=>c d H1 B1 e I1 s1 b1 (cy.later h (jU.grow I1 b1 s1))
 |eB C=>rw[e]at h;exact λ H1 B1 I1 s1 b1=>h B1 H1 σ P (jU.grow I1 b1 s1)
 |bad=>rw[e]at h;exact h
variable {c:Expr}
def eG (f:#[28])(τ:SD):Fl:=(f τ).jo τ λ _=>.nx τ
def zD (he:#[46])(hs:swapsWith e none pos.line X.env=pure false:=by rfl):PS X (.Expr e pos) (iZ X.K Y (eG fe)):=
 PS.imp (j0 he hs) λ E σ H hq=>ex7 hq λ H0 B0 B τ P I h=>lB I h λ d v H1 B1 fp _ I1 _ _ _ _ h1=>h1 B1 H1 σ P (jU.refl I1)
def dD (c:#[66])(a b:SF)(τ:SD):Fl:=(c τ).rC τ λ t=>if t=true then a τ else b τ
def eE {a b:List Stmt}(hc:PT X c (kQ X.K Y gc))(ha:lR X a (iZ X.K Y g1))(hb:lR X b (iZ X.K Y g2)):PS X (.If c a b pos) (iZ X.K Y (dD gc g1 g2)):=
 PS.imp (Mi hc ha hb) λ E σ H hq=>ex7 hq λ H0 B0 B τ P I h=>JE I h λ d H1 B1 _ I1 _ _ h1=>by
  cases d with
  |true=>rw[PH rfl]at h1 ⊢;exact⟨H0,B0,B1,τ,P,I1,h1⟩| false=>rw[PL Pq]at h1 ⊢;exact⟨H0,B0,B1,τ,P,I1,h1⟩
def atRest (B H:Hp)(S:#[17]):Hp:=λ a=>by classical exact if S a then H a else B a
def dI {S:#[17]}(h:au B H):au B (atRest B H S):=λ a o e=>by
 unfold atRest;split
 ·exact h a o e
 ·exact e
def fT {S:#[17]}(s:S a)(h:H a=some o):atRest B H S a=some o:=by unfold atRest;rw[PH s];exact h
def iC {S:#[17]}(h:au B H):au (atRest B H S) H:=λ a o e=>by
 unfold atRest at e;split at e
 ·exact e
 ·exact h a o e
def gX {S:#[17]}(s:¬ S a):atRest B H S a=B a:=by unfold atRest;rw[PL s]
def bA (f:#[28])(τ:SD):Fl:=(f τ).jo τ λ d=>.rt d.a7
def EC(I:#[21])(r:Rep K B (· ∈ P) H d v fp)(k:gm H0 B H P F fp):lA K H0 B0 (atRest B H (· ∈ P)) H d.a7 v fp where
 h0:=I.h0
 b0:=I.b0.trans (dI I.bh)
 bh:=iC I.bh
 nb:=λ a n=>by
  by_cases m:a∈P
  ·exact .inr (I.own a m).2.1
  ·rw[gX m]at n;exact I.nb a n
 rep:=r.a7 (dI I.bh) λ a o s h=>fT s h
 nd:=k.nd
 own:=λ a m=>let ⟨a1,a2,a3,a4,_⟩:=k.own a m;⟨by rw[gX a4];exact a1,a2,a3⟩
def bV (he:#[46])(hl:Y.ln=false:=by rfl):PS X (.Return (some e) pos) (iZ X.K Y (bA fe)):=
 PS.imp (oW he) λ E σ H hq=>ex7 hq λ H0 B0 B τ P I h=>lB I h λ d v H1 B1 fp _ I1 _ _ r1 k1 h1=>(cy.rt hl h1) _ H1 v fp (EC I1 r1 k1)
def c9 (i:Nat)(τ:SD):Fl:=match τ[i]? with|some (some d)=>.rt d|_=>.bad
def jn (i:Nat)(hN:#[69]:=by rfl)(hv:#[98]:=by first|exact Or.inl rfl|exact Or.inr (Or.inl rfl)|exact Or.inr (Or.inr rfl))(hd:#[2]:=by decide)
  (hcd:#[29]:=by decide) (hl:Y.ln=false:=by rfl):PS X (.Return (some (.Name x pos')) pos) (iZ X.K Y (c9 i)):=by
 refine PS.imp (oW (dH hN hv hd hcd)) λ E σ H hq=>ex7 hq λ H0 B0 B τ P I h=>?_;unfold c9 at h;cases e:τ[i]? with
 |none=>rw[e]at h;exact h.elim
 | some o =>
  cases o with
  |none=>rw[e]at h;exact h.elim
  | some d =>
   rw[e]at h;obtain⟨v,f,h1,h2,h3⟩:=I.rep.get e;refine⟨v,h1,(cy.rt hl h) B H v f ⟨I.h0,I.b0,I.bh,I.nb,h2,I.nd.sublist h3,λ a m=>?_⟩⟩;obtain⟨a1,a2,a3⟩:=I.own a (h3.subset m);exact⟨a1,a2,I.stands (h3.subset m)⟩
def dG.length {B H:Hp}:∀ {τ:SD}{σ:L2.St}{P:#[8]},dG K B H τ σ P->τ.length=σ.length
 |[],_,_,h=>by rw[h.1];rfl
 |none::r,σ,P,h=>by obtain⟨o,t,rfl,h⟩:=h;rw[PU,PU,dG.length h]
 |some d::r,σ,P,h=>by obtain⟨v,t,f,g,rfl,_,h,_⟩:=h;rw[PU,PU,dG.length h]
def dG.cut {B H:Hp}:∀ {τ:SD}{σ:L2.St}{P:#[8]}{i:Nat},dG K B H τ σ P->i<τ.length->∃ A f C,P=A++f++C/\(∀ d,τ[i]?=some (some d)->∃ v,σ[i]?=some (some v)/\Rep K B No H d v f) /\
  ∀ {B' H':Hp}{d':D}{v':V}{f':#[8]},(∀ d v g,Rep K B No H d v g->(∀ a∈g,a∈A++C)->Rep K B' No H' d v g)->Rep K B' No H' d' v' f'->dG K B' H' (τ.set i (some d')) (σ.set i (some v')) (A++f'++C)
 |[],σ,P,i,h,hi=>absurd hi (RK _)
 | none::r,σ,P,0,h,hi=>by
  obtain⟨o,t,rfl,h⟩:=h;refine⟨[],[],P,rfl,λ d e=>by simp at e,λ {B' H' d' v' f'} hm hr=>⟨v',t,f',P,rfl,hr,?_,rfl⟩⟩
  revert hm
  have key:∀ {τ:SD}{σ:L2.St}{Q:#[8]},dG K B H τ σ Q->(∀ d v g,Rep K B No H d v g->(∀ a∈g,a∈Q)->Rep K B' No H' d v g)->dG K B' H' τ σ Q:=by
   intro τ
   induction τ with
   |nil=>intro σ Q h _;exact h
   | cons o r ih =>
    intro σ Q h hm;cases o with
    |none=>obtain⟨o,t,e,h⟩:=h;exact⟨o,t,e,ih h hm⟩
    | some d =>
     obtain⟨v,t,f,g,e,h1,h2,z⟩:=h;subst z;exact⟨v,t,f,g,e,hm d v f h1 (λ a m=>PD _ m),ih h2 (λ d v g' hr hg=>hm d v g' hr λ a m=>PM _ (hg a m)),rfl⟩
  exact λ hm=>key h hm
 | some d::r,σ,P,0,h,hi=>by
  obtain⟨v,t,f,g,rfl,h1,h2,rfl⟩:=h;refine⟨[],f,g,by simp,λ d' e=>⟨v,rfl,?_⟩,λ {B' H' d' v' f'} hm hr=>⟨v',t,f',g,rfl,hr,?_,rfl⟩⟩
  ·have e:d=d':=by simpa using e
   subst e;exact h1
  ·have key:∀ {τ:SD}{σ:L2.St}{Q:#[8]},dG K B H τ σ Q->(∀ d v g,Rep K B No H d v g->(∀ a∈g,a∈Q)->Rep K B' No H' d v g)->dG K B' H' τ σ Q:=by
    intro τ
    induction τ with
    |nil=>intro σ Q h _;exact h
    | cons o r ih =>
     intro σ Q h hm;cases o with
     |none=>obtain⟨o,t,e,h⟩:=h;exact⟨o,t,e,ih h hm⟩
     | some d =>
      obtain⟨v,t,f,g,e,h1,h2,z⟩:=h;subst z;exact⟨v,t,f,g,e,hm d v f h1 (λ a m=>PD _ m),ih h2 (λ d v g' hr hg=>hm d v g' hr λ a m=>PM _ (hg a m)),rfl⟩
   exact key h2 hm
 | none::r,σ,P,i+1,h,hi=>by
  obtain⟨o,t,rfl,h⟩:=h;obtain⟨A,f,C,e,h1,h2⟩:=dG.cut (i:=i) h (by simpa using hi);exact⟨A,f,C,e,λ d z=>h1 d (by simpa using z),λ hm hr=>⟨o,_,rfl,h2 hm hr⟩⟩
 | some d::r,σ,P,i+1,h,hi=>by
  obtain⟨v,t,f,g,rfl,r1,r2,rfl⟩:=h;obtain⟨A,f',C,e,h1,h2⟩:=dG.cut (i:=i) r2 (by simpa using hi);subst e;refine⟨f++A,f',C,by simp,λ d z=>h1 d (by simpa using z),λ {B' H' d' v' f''} hm hr=>?_⟩;refine⟨v,_,f,A++f''++C,rfl,hm d v f r1 λ a m=>by simp[m],h2 (λ d v g hr hg=>hm d v g hr λ a m=>?_) hr,by simp⟩;have:=hg a m;simp at this ⊢;rcases this with z|z
  ·exact .inr (.inl z)
  ·exact .inr (.inr z)
def SI.put{d':D}{v':V}{f':#[8]}(I:#[21])(hi:i<τ.length){A C:#[8]}(eP:P=A++f++C)
  (put:∀ {B' H':Hp}{d':D}{v':V}{f':#[8]},(∀ d v g,Rep K B No H d v g->(∀ a∈g,a∈A++C)->Rep K B' No H' d v g)->Rep K B' No H' d' v' f'->dG K B' H' (τ.set i (some d')) (σ.set i (some v')) (A++f'++C))
  (kp:jF H H1 f) (r:Rep K B No H1 d' v' f') (nd:f'.Nodup) (own:∀ a∈f',a∈f\/(B a=none/\H0 a=none/\H a=none/\¬ F a)\/(a∉P/\B a=none/\H0 a=none/\¬ F a)) :
  SI K H0 B0 B H1 (σ.set i (some v')) (τ.set i (some d')) (A++f'++C) F:=by
 have nd0:=I.nd;rw[eP]at nd0;have ndA:A.Nodup:=(nd0.sublist #[25]).sublist (Qj A (f++C));have kb:∀ a o,B a=some o->a∉f:=λ a o e m=>by
  have:=(I.own a (by rw[eP];simp[m])).1;rw[e]at this;cases this
 have k0:∀ a o,H0 a=some o->a∉f:=λ a o e m=>by
  have:=(I.own a (by rw[eP];simp[m])).2.1;rw[e]at this;cases this
 have kf:∀ a,F a->a∉f:=λ a e m=>(I.own a (by rw[eP];simp[m])).2.2 e;have notin:∀ a∈f',a∉A/\a∉C:=λ a m=>by
  rcases own a m with q|q|q
  ·rw[Qn,PJ]at nd0;obtain⟨n1,n2,n3⟩:=nd0;rw[PJ]at n2;exact⟨λ z=>n3 a z a (by simp[q]) rfl,λ z=>n2.2.2 a q a z rfl⟩
  ·exact⟨λ z=>I.stands (a:=a) (by rw[eP];simp[z]) q.2.2.1,λ z=>I.stands (a:=a) (by rw[eP];simp[z]) q.2.2.1⟩
  ·exact⟨λ z=>q.1 (by rw[eP];simp[z]),λ z=>q.1 (by rw[eP];simp[z])⟩
 refine⟨λ a o e=>kp.keep a o (I.bh a o e) (kb a o e),λ a o e=>kp.keep a o (I.h0 a o e) (k0 a o e),I.b0,I.nb,?_,?_,λ a m=>?_,λ a m=>⟨(I.fr a m).1,λ z=>?_⟩⟩
 ·refine put (λ d v g hr hg=>hr.keep kp λ a m z=>?_) r;have h1:=hg a m;rw[Qn,PJ]at nd0;obtain⟨n1,n2,n3⟩:=nd0;rw[PJ]at n2;rcases PC.mp h1 with q|q
  ·exact n3 a q a (by simp[z]) rfl
  ·exact n2.2.2 a z a q rfl
 ·rw[Qn,PJ]at nd0 ⊢;obtain⟨n1,n2,n3⟩:=nd0;rw[PJ]at n2;refine⟨n1,PJ.mpr ⟨nd,n2.2.1,λ a ha b hb e=>?_⟩,λ a ha b hb e=>?_⟩
  ·subst e;exact(notin a ha).2 hb
  ·subst e;rcases PC.mp hb with q|q
   ·exact(notin a q).1 ha
   ·exact n3 a ha a (by simp[q]) rfl
 ·rcases PC.mp m with q|q
  ·rcases PC.mp q with q|q
   ·exact I.own a (by rw[eP];simp[q])
   ·rcases own a q with q|q|q
    ·exact I.own a (by rw[eP];simp[q])
    ·exact⟨q.1,q.2.1,q.2.2.2⟩
    ·exact⟨q.2.1,q.2.2.1,q.2.2.2⟩
  ·exact I.own a (by rw[eP];simp[q])
 ·obtain⟨o,e⟩:=TY.mp (I.fr a m).2;rw[kp.keep a o e (kf a m)]at z;cases z
def jF.same(h:∀ a∈f,∃ o,H a=some o/\tF o):jF H H f:=⟨λ _ _ h _=>h,h⟩
def c6 (A f C:#[8]):∀ a∈f,a∈A++f++C:=λ a m=>by simp[m]
def SI.set(i:Nat)(I:#[21])(r:Rep K B No H d v fp)(k:gm H0 B H P F fp):∃ P',SI K H0 B0 B H (σ.set i (some v)) (τ.set i (some d)) P' F/\∀ a∈P',a∈P\/a∈fp:=by
 by_cases hi:i<τ.length
 ·obtain⟨A,f,C,e,h1,h2⟩:=I.rep.cut hi;refine⟨_,I.put hi e h2 (jF.same λ a m=>I.rep.own a (by rw[e];exact c6 A f C a m)) r k.nd λ a m=>.inr (.inr ?_),λ a m=>?_⟩
  ·obtain⟨a1,a2,a3,a4,a5⟩:=k.own a m;exact⟨a4,a1,a2,a5⟩
  ·rw[e];simp at m ⊢;rcases m with m|m|m<;>simp[m]
 ·have e1:τ.set i (some d)=τ:=List.set_eq_of_length_le #[1];have e2:σ.set i (some v)=σ:=List.set_eq_of_length_le (by rw[<-I.rep.length];omega);rw[e1,e2];exact⟨P,I,λ a m=>.inl m⟩
def jq (i:Nat)(τ:SD)(d:D):Fl:=if d.aD=true then .bad else .nx (τ.set i (some d))
def aQ (i:Nat)(f:#[28])(τ:SD):Fl:=(f τ).jo τ (jq i τ)
def MX(hN:X.N.Nodup)(hi:#[69])(hx:Loc X.env.scope x)(he:#[46])(hs:swapsWith e (some (.Name x pos')) pos.line X.env=pure false:=by rfl)(hf:#[37]:=by first|exact .inl rfl|exact .inr rfl) :
  PS X (.Assign [.Name x pos'] e pos) (iZ X.K Y (aQ i fe)):=
 PS.imp (zm hN hi hx he hs hf) λ E σ H hq=>ex7 hq λ H0 B0 B τ P I h=>lB I h λ d v H1 B1 fp _ I1 _ _ r1 k1 h1=>by
  unfold jq at h1;split at h1
  ·exact h1.elim
  ·rename_i hb;obtain⟨P',I',_⟩:=I1.set i (r1.gu (by simpa using hb)) k1;exact h1 B1 H1 _ P' ⟨I',au.refl _,mK.refl _⟩
def cI (js:#[31])(τ:SD):SD:=js.foldl (λ t j=>match t[j]? with|some (some d)=>t.set j (some d.aq)|_=>t) τ
def SI.Ov (j:Nat)(I:#[110])(hd:τ[j]?=some (some d)):∃ B' P',au B B'/\SI K H0 B0 B' H σ (τ.set j (some d.aq)) P' No:=by
 have hi:j<τ.length:=(Pw.mp hd).1;obtain⟨A,f,C,e,h1,h2⟩:=I.rep.cut hi;obtain⟨v,e1,r1⟩:=h1 d hd;have sB:au B (atRest B H (· ∈ f)):=dI I.bh;have nd0:=I.nd;rw[e]at nd0;have dis:∀ a∈A++C,a∉f:=λ a m z=>by
  rw[Qn,PJ]at nd0;obtain⟨n1,n2,n3⟩:=nd0;rw[PJ]at n2;rcases PC.mp m with q|q
  ·exact n3 a q a (by simp[z]) rfl
  ·exact n2.2.2 a z a q rfl
 have es:σ.set j (some v)=σ:=by
  refine QQ λ k=>?_;by_cases hk:k=j
  ·subst hk;rw[QA (Pw.mp e1).1,e1]
  ·rw[QH (QK hk)]
 have rr:=h2 (B':=atRest B H (· ∈ f)) (H':=H) (d':=d.aq) (v':=v) (f':=[]) (λ d v g hr hg=>hr.mono #[49] sB λ _ x=>x) (r1.aq sB (λ a o s=>s.elim) λ a m o ho=>fT m ho);rw[es]at rr;refine⟨atRest B H (· ∈ f),A++[]++C,sB,iC I.bh,I.h0,I.b0.trans sB,λ a n=>?_,rr,?_,λ a m=>?_,λ a m=>m.elim⟩
 ·by_cases m:a∈f
  ·exact .inr (I.own a (by rw[e];exact c6 A f C a m)).2.1
  ·rw[gX m]at n;exact I.nb a n
 ·rw[Qi];refine nd0.sublist ?_;rw[Qn];exact Tw (QI _) (P6 _ _)
 ·rw[Qi]at m;obtain⟨a1,a2,a3⟩:=I.own a (by rw[e];rcases PC.mp m with q|q<;>simp[q]);exact⟨by rw[gX (dis a m)];exact a1,a2,λ x=>x⟩
def SI.cI:∀ (js:#[31]) {B:Hp}{τ:SD}{P:#[8]},SI K H0 B0 B H σ τ P No->∃ B' P',au B B'/\SI K H0 B0 B' H σ (DL.cI js τ) P' No
 |[],B,τ,P,I=>⟨B,P,au.refl _,I⟩
 | j::js,B,τ,P,I=>by
  unfold DL.cI;rw[Ux];cases e:τ[j]? with
  |none=>exact SI.cI js I
  | some o =>
   cases o with
   |none=>exact SI.cI js I
   | some d =>
    obtain⟨B1,P1,s1,I1⟩:=I.Ov j e;obtain⟨B2,P2,s2,I2⟩:=SI.cI js I1;exact⟨B2,P2,s1.trans s2,I2⟩
def iY (js:#[31])(g:SF)(τ:SD):Fl:=g (cI js τ)
def JF (js:#[31])(h:PS X st (iZ X.K Y g)):PS X st (iZ X.K Y (iY js g)):=PS.imp h λ E σ H hq=>ex7 hq λ H0 B0 B τ P I h=>by
 obtain⟨B',P',s,I'⟩:=I.cI js;exact⟨H0,B0,B',_,P',I',cy.later h (jU.grow I' s #[49])⟩
def dX (τ:SD)(i:Nat):Option (List D):=match τ[i]? with|some (some (.lst .own xs))=>some xs|_=>none
def gk(h:dX τ i=some xs):τ[i]?=some (some (.lst .own xs)):=by
 unfold dX at h;split at h
 ·rename_i e;cases h;exact e
 ·cases h
def SI.CM{xs':List D}{gp:#[8]}{vs':List V}(I:#[110])(hi:#[108])(ev:σ[i]?=some (some (.ref a)))
  (k:gm H0 B H P No gp)
  (items:∀ f,H a=some (.lst vs)->ak K B No H xs vs f->∃ f',ak K B No H xs' vs' f'/\(∀ b∈f',b∈f\/b∈gp)/\(f.Nodup->(∀ b∈gp,b∉f)->f'.Nodup)) (hv:H a=some (.lst vs)) :
  ∃ P',jU K H0 B0 B H B (upd H a (.lst vs')) σ (τ.set i (some (.lst .own xs'))) P':=by
 have hi':i<τ.length:=(Pw.mp hi).1;obtain⟨A,f,C,e,h1,h2⟩:=I.rep.cut hi';obtain⟨v,e1,r1⟩:=h1 _ hi;rw[ev]at e1;cases e1;obtain⟨a',ws,g,ea,hq,rl,ef⟩:=r1;cases ea;rw[hv]at hq;cases hq;subst ef;have nd0:=I.nd;rw[e]at nd0;have ndf:(a::g).Nodup:=(nd0.sublist (Qj _ _)).sublist (P6 _ _);have gdis:∀ b∈gp,b∉a::g:=λ b m z=>(k.own b m).2.2.2.1 (by rw[e];exact c6 _ _ _ b z);obtain⟨f',r',s',n'⟩:=items g hv rl;obtain⟨na,ng⟩:=PN.mp ndf;have hna:a∉f':=λ m=>(s' a m).elim na λ z=>gdis a z Pp;have es:σ.set i (some (.ref a))=σ:=by
  refine QQ λ k=>?_;by_cases hk:k=i
  ·subst hk;rw[QA (Pw.mp ev).1,ev]
  ·rw[QH (QK hk)]
 have kp:jF H (upd H a (.lst vs')) [a]:=⟨λ b o h n=>by rw[aH (by simpa using n)];exact h,λ b m=>by
  have:b=a:=by simpa using m
  subst this;exact⟨_,hv,trivial⟩⟩
 have kpf:jF H (upd H a (.lst vs')) (a::g):=⟨λ b o h n=>kp.keep b o h (λ z=>n (PB.mpr (.inl (Qw.mp z)))),λ b m=>I.rep.own b (by rw[e];exact c6 _ _ _ b m)⟩;have key:=I.put (i:=i) (H1:=upd H a (.lst vs')) (d':=.lst .own xs') (v':=.ref a) (f':=a::f') hi' e h2 kpf ⟨a,vs',f',rfl,aN,r'.keep kp λ b m=>by
   have:b≠a:=λ z=>hna (z▸m);simpa using this,rfl⟩ (PN.mpr ⟨hna,n' ng λ b m z=>gdis b m (Pn _ z)⟩) λ b m=>?_
 ·rw[es]at key;exact⟨_,key,au.refl _,λ b o h n=>kp.xE h n⟩
 ·rcases PB.mp m with q|q
  ·exact .inl (by simp[q])
  ·rcases s' b q with z|z
   ·exact .inl (Pn _ z)
   ·obtain⟨a1,a2,a3,a4,a5⟩:=k.own b z;exact .inr (.inr ⟨a4,a1,a2,a5⟩)
end
section
variable {K:#[0]}{E:Ends}{c:Expr}
def SI.listAt(I:#[21])(h:#[108]):∃ a vs,σ[i]?=some (some (.ref a))/\H a=some (.lst vs)/\xs.length=vs.length:=by
 obtain⟨v,f,h1,h2,h3⟩:=I.rep.get h;obtain⟨a,vs,g,rfl,q,r,z⟩:=h2;exact⟨a,vs,h1,q,r.length⟩
def i0 (i:Nat)(f:#[28])(τ:SD):Fl:=match dX τ i with
 |some xs=>(f τ).jo τ λ d=>if d.aD=true then .bad else if xs.length<16777216 then .nx (τ.set i (some (.lst .own (xs++[d])))) else .bad
 |none=>.bad
def JG (i:Nat){apos cpos:Pos}(he:#[46])(hN:#[69]:=by rfl)(hv:#[98]:=by first|exact Or.inl rfl|exact Or.inr (Or.inl rfl)|exact Or.inr (Or.inr rfl))(hd:#[2]:=by decide)(hcd:#[29]:=by decide)
  (hbase:attributeBase #[59] "append" X.env (eval #[59] X.env)=eval #[59] X.env:=by rfl)
  (hfew:((backTo cpos (starEach [e] X.env)).all (λ x=>!x.1)&&(backToKw cpos (keywordEach [] X.env)).all (λ x=>x.1.isSome)
   && decide ([e].length+([]:List Keyword).length+(if ([]:List Keyword).isEmpty then 0 else 1)<30))=true:=by rfl)
  (hline:#[47]:=by rfl) (hs:#[81]:=by rfl) (hplain:(backTo cpos (starEach [] X.env)).any (·.1)=false:=by rfl)
  (hsw:swapsWith (.Call (.Attribute #[59] "append" apos) [e] [] cpos) none pos.line X.env=pure false:=by rfl) :
  PS X (.Expr (.Call (.Attribute #[59] "append" apos) [e] [] cpos) pos) (iZ X.K Y (i0 i fe)):=by
 refine PS.imp (j0 (qS QN Sm Sn lU (dH hN hv hd hcd) (bY he dQ hs) hbase hfew hline hs hplain) hsw) λ E σ H hq=>ex7 hq λ H0 B0 B τ P I h=>?_;unfold i0 at h;cases z:dX τ i with
 |none=>rw[z]at h;exact h.elim
 | some xs =>
  rw[z]at h;have hi:=gk z;obtain⟨a,vs,ea,ha,hl⟩:=I.listAt hi;refine⟨.ref a,ea,.inl ⟨rfl,vs,eQ.of ha⟩,lB I h λ d v H1 B1 fp _ I1 s1 b1 r1 k1 h1=>?_⟩;split at h1
  ·exact h1.elim
  ·rename_i hb;split at h1
   ·rename_i hz;have ha1:=s1 a _ ha;refine⟨a,vs,v,rfl,rfl,ha1,by rw[<-hl,Qx];exact hz,?_⟩;obtain⟨P',I'⟩:=I1.CM (xs':=xs++[d]) (vs':=vs++[v]) hi ea k1 (λ f _ rl=>⟨f++fp,rl.append (ak.one (r1.gu (by simpa using hb))),λ b m=>PC.mp m,λ nf dis=>PJ.mpr ⟨nf,k1.nd,λ a ha b hb e=>dis b hb (e▸ha)⟩⟩) ha1;exact h1 B1 _ σ P' I'
   ·exact h1.elim
def jJ (i:Nat)(τ:SD):Fl:=match dX τ i with|some xs=>.nx (τ.set i (some (.lst .own xs.reverse)))|none=>.bad
def ak.reverse {S:#[17]}:∀ {xs:List D}{vs:List V}{f:#[8]},ak K B S H xs vs f->∃ g,ak K B S H xs.reverse vs.reverse g/\f.Perm g
 |[],vs,f,r=>by obtain⟨rfl,rfl⟩:=r;exact⟨[],⟨rfl,rfl⟩,QO _⟩
 | d::ds,vs,f,r=>by
  obtain⟨v,w,f1,f2,rfl,r1,r2,rfl⟩:=r;obtain⟨g,h1,h2⟩:=ak.reverse r2;refine⟨g++f1,?_,List.perm_append_comm.trans (h2.append_right f1)⟩;rw[SG,SG];exact h1.append (ak.one r1)
def MZ (i:Nat){apos cpos:Pos}(hN:#[69]:=by rfl)(hv:#[98]:=by first|exact Or.inl rfl|exact Or.inr (Or.inl rfl)|exact Or.inr (Or.inr rfl))(hd:#[2]:=by decide)(hcd:#[29]:=by decide)
  (hbase:attributeBase #[59] "reverse" X.env (eval #[59] X.env)=eval #[59] X.env:=by rfl) (hline:#[47]:=by rfl)
  (hsw:swapsWith (.Call (.Attribute #[59] "reverse" apos) [] [] cpos) none pos.line X.env=pure false:=by rfl) :
  PS X (.Expr (.Call (.Attribute #[59] "reverse" apos) [] [] cpos) pos) (iZ X.K Y (jJ i)):=by
 refine PS.imp (j0 (zp QN PySem.F.slot_list_reverse PySem.F.type_list_reverse zu (dH hN hv hd hcd) hbase hline) hsw) λ E σ H hq=>ex7 hq λ H0 B0 B τ P I h=>?_;unfold jJ at h;cases z:dX τ i with
 |none=>rw[z]at h;exact h.elim
 | some xs =>
  rw[z]at h;have hi:=gk z;obtain⟨a,vs,ea,ha,hl⟩:=I.listAt hi;refine⟨.ref a,ea,.inl ⟨rfl,vs,eQ.of ha⟩,a,vs,rfl,rfl,ha,?_⟩;obtain⟨P',I'⟩:=I.CM (xs':=xs.reverse) (vs':=vs.reverse) (gp:=[]) hi ea gm.nil (λ f _ rl=>let ⟨g,h1,h2⟩:=rl.reverse;⟨g,h1,λ b m=>.inl (h2.mem_iff.mpr m),λ nf _=>h2.nodup_iff.mp nf⟩) ha;exact h B _ σ P' I'
structure HG (K:PySem.W.Frag)(J:It)(ds:List D)(B H:Hp):Prop where
 go:∀ B' H' i d,au B B'->au B' H'->mK H H'->ds[i]?=some d->J.go i H'
 zb:∀ B' H' i d x H'',au B B'->au B' H'->mK H H'->ds[i]?=some d->J.zb i H' x H''->au H' H''/\Rep K B' No H'' d x []
 stop:∀ B' H',au B B'->au B' H'->mK H H'->J.stop ds.length H'
def JH (K:#[0])(J:It)(ds:List D)(fl:Bool)(B H:Hp)(P fp:#[8]):Prop:=
 ∀ Bx:Hp,au B Bx->au Bx H->(∀ a∈fp,∀ o,H a=some o->Bx a=some o)->(fl=true->∀ a∈P,∀ o,H a=some o->Bx a=some o)->HG K J (aG ds) Bx H
def Ba (K:#[0])(Y:XY)(f:SD->Res #[106]):TI:=λ σ H R=>∃ H0 B0 B τ P F,SI K H0 B0 B H σ τ P F/\match f τ with
 |.ok (fl,ds)=>∀ J H' B' fp,SI K H0 B0 B' H' σ τ P F->au H H'->au B B'->gm H0 B' H' P F fp->JH K J ds fl B' H' P fp->R J H'
 |.eB C=>nN K Y H0 B0 B H σ τ P F C
 |.bad=>False
def PI.imp {it:Expr}{t t':TI}(h:PI X tg it t)(hi:∀ σ H R,t' σ H R->t σ H R):PI X tg it t':=λ pins s σ H R I hw=>h pins s σ H R I (hi σ H R hw)
def bI:D->Res #[106]
 |.lst t xs=>.ok ((D.lst t xs).aD,xs)
 |.tup xs=>.ok ((D.tup xs).aD,xs)
 |_=>.bad
def gD (f:#[28])(τ:SD):Res #[106]:=(f τ).bind bI
def K2{tl:TE}(hl:PE X l tl):PI X tg l (λ σ H R=>tl σ H λ x H1=>(∃ a,x=.ref a/\(∃ xs,eQ X.K H1 a xs)/\R (NX X.K a) H1)\/∃ a,x=.ref a/\(∃ xs,jW X.K H1 a xs)/\R (NY X.K a) H1):=by
 intro pins s σ H R I h;refine eN (hl pins s σ H _ I h) λ v s1 hq5=>L2.ex5 hq5 λ x H1 I1 r1 q1=>?_;rcases q1 with ⟨a,e,⟨xs,hq⟩,q⟩|⟨a,e,⟨xs,hq⟩,q⟩
 ·subst e;cases r1;obtain⟨its,rv,p,hz⟩:=I1.list hq;refine Uj p.isList ?_;refine⟨s1.heap.objs.size,[s1.heap.objs.size],_,_,H1,rfl,I1.kept (t':=s1.toks) λ b o e=>Pj _ e,Cz a _,⟨_,Pu _ rfl,rfl,rfl⟩,λ b hb=>?_,q⟩;have e:b=s1.heap.objs.size:=by simpa using hb
  subst e;exact I1.qL (Py _) (I1.hok.fresh (Py _))
 ·subst e;cases r1;obtain⟨its,rv,p,hz⟩:=I1.tuple hq;refine Sw (show s1.heap.IsTuple a its.toArray from p) ?_;refine⟨s1.heap.objs.size,[s1.heap.objs.size],_,_,H1,rfl,I1.kept (t':=s1.toks) λ b o e=>Pj _ e,zd a _,⟨_,Pu _ rfl,rfl,rfl⟩,λ b hb=>?_,q⟩;have e:b=s1.heap.objs.size:=by simpa using hb
  subst e;exact I1.qL (Py _) (I1.hok.fresh (Py _))
def SI.MY(I:#[21])(k:gm H0 B H P F fp):SI K H0 B0 (atRest B H (· ∈ fp)) H σ τ P F/\au B (atRest B H (· ∈ fp)):=by
 have sB:au B (atRest B H (· ∈ fp)):=dI I.bh;refine⟨⟨iC I.bh,I.h0,I.b0.trans sB,λ a n=>?_,I.rep.mono #[49] sB,I.nd,λ a m=>?_,λ a m=>?_⟩,sB⟩
 ·by_cases m:a∈fp
  ·exact .inr (k.own a m).2.1
  ·rw[gX m]at n;exact I.nb a n
 ·obtain⟨a1,a2,a3⟩:=I.own a m;exact⟨by rw[gX λ z=>(k.own a z).2.2.2.1 m];exact a1,a2,a3⟩
 ·obtain⟨a1,a2⟩:=I.fr a m;exact⟨by rw[gX λ z=>(k.own a z).2.2.2.2 m];exact a1,a2⟩
mutual
def Rep.stay {B B' H H':Hp}(sB:au B B')(im:mK H H'):∀ {d:D}{v:V}{fp:#[8]},fp=[]->Rep K B No H d v fp->Rep K B' No H' d v fp
 |.a8,_,_,_,h=>h
 |.bl _,_,_,_,h=>h
 |.int _,_,_,_,h=>h
 |.str _,_,_,_,h=>h
 |.exc _,_,_,_,h=>let ⟨⟨a,e,t,tb,u,h1⟩,r⟩:=h;⟨⟨a,e,t,tb,u,im _ _ h1 (λ x=>x)⟩,r⟩
 | .tup xs,v,fp,ef,h=>by
  obtain⟨a,vs,e,q,r⟩:=h;exact⟨a,vs,e,im _ _ q (λ x=>x),ak.stay sB im ef r⟩
 |.lst .own xs,v,fp,ef,h=>by obtain⟨a,vs,f,e,q,r,z⟩:=h;rw[ef]at z;cases z
 |.lst .bor xs,v,fp,ef,h=>let ⟨a,vs,e,q,r,z⟩:=h;⟨a,vs,e,.inr (eF sB (q.resolve_left λ y=>y.1)),ak.stay sB im rfl r,z⟩
 |.lst .aq xs,v,fp,ef,h=>let ⟨a,vs,e,q,r,z⟩:=h;⟨a,vs,e,eF sB q,ak.stay sB im rfl r,z⟩
 |.lst (.len _) _,_,_,_,h=>h.elim
 |.dct (.len a) kd ks xs,v,fp,ef,h=>by obtain⟨vs,f,e,q,r,z⟩:=h;rw[ef]at z;cases z
 |.dct .own kd ks xs,v,fp,ef,h=>by obtain⟨a,vs,f,e,q,r,z⟩:=h;rw[ef]at z;cases z
 |.dct .bor kd ks xs,v,fp,ef,h=>let ⟨a,vs,e,q,r,z⟩:=h;⟨a,vs,e,.inr ((q.resolve_left λ y=>y.1).mono sB),ak.stay sB im rfl r,z⟩
 |.dct .aq kd ks xs,v,fp,ef,h=>let ⟨a,vs,e,q,r,z⟩:=h;⟨a,vs,e,q.mono sB,ak.stay sB im rfl r,z⟩
def ak.stay {B B' H H':Hp}(sB:au B B')(im:mK H H'):∀ {ds:List D}{vs:List V}{fp:#[8]},fp=[]->ak K B No H ds vs fp->ak K B' No H' ds vs fp
 |[],_,_,_,h=>h
 | d::ds,vs,fp,ef,h=>by
  obtain⟨v,r,f,g,e,h1,h2,z⟩:=h;rw[ef]at z;obtain⟨z1,z2⟩:=mG z;exact⟨v,r,f,g,e,Rep.stay sB im z1 h1,ak.stay sB im z2 h2,by rw[ef,z1,z2];rfl⟩
end
def nQ(h:List.Sublist f []):f=[]:=List.sublist_nil.mp h
def EF(q:eQ K B a vs)(r:ak K B No H ds vs []):HG K (NX K a) ds B H where
 go:=λ B' H' i d s1 s2 im e=>by
  obtain⟨v,f,h1,_⟩:=r.get e;exact⟨vs,v,gy (eF (s1.trans s2) q),h1⟩
 zb:=λ B' H' i d x H'' s1 s2 im e y=>by
  obtain⟨rfl,y⟩:=y;obtain⟨v,f,h1,h2,h3⟩:=r.get e;have z:=y vs (gy (eF (s1.trans s2) q));rw[h1]at z;cases z;cases nQ h3;exact⟨au.refl _,h2.stay s1 im rfl⟩
 stop:=λ B' H' s1 s2 im=>⟨vs,gy (eF (s1.trans s2) q),by rw[r.length];exact Py _⟩
def nR(im:mK H H')(q:jW K H a vs):jW K H' a vs:=by
 rcases q with (q|⟨o,q⟩)|q
 ·exact .inl (.inl (im _ _ q (λ x=>x)))
 ·exact .inl (.inr ⟨o,im _ _ q (λ x=>x)⟩)
 ·exact .inr q
def HJ(q:jW K H a vs)(r:ak K B No H ds vs []):HG K (NY K a) ds B H where
 go:=λ B' H' i d s1 s2 im e=>by
  obtain⟨v,f,h1,_⟩:=r.get e;exact⟨vs,v,nR im q,h1⟩
 zb:=λ B' H' i d x H'' s1 s2 im e y=>by
  obtain⟨rfl,y⟩:=y;obtain⟨v,f,h1,h2,h3⟩:=r.get e;have z:=y vs (nR im q);rw[h1]at z;cases z;cases nQ h3;exact⟨au.refl _,h2.stay s1 im rfl⟩
 stop:=λ B' H' s1 s2 im=>⟨vs,nR im q,by rw[r.length];exact Py _⟩
def CN {lo:Int}:HG K (L7 lo n) (#[57].map λ k:Nat=>D.int (lo+k)) B H where
 go:=λ B' H' i d s1 s2 im e=>by
  have:=(Pw.mp e).1;show i<n;simpa using this
 zb:=λ B' H' i d x H'' s1 s2 im e y=>by
  obtain⟨rfl,rfl⟩:=y;have hi:=(Pw.mp e).1;rw[Pk,Qd]at hi;rw[P0,QM hi]at e;cases e;exact⟨au.refl _,rfl,rfl⟩
 stop:=λ B' H' s1 s2 im=>by
  show n<=_;rw[Pk,Qd];exact Py _
def ja {Bx:Hp}(r:Rep K B (· ∈ P) H d v fp)(sB:au B Bx)(h1:∀ a∈fp,∀ o,H a=some o->Bx a=some o)(h2:d.aD=true->∀ a∈P,∀ o,H a=some o->Bx a=some o):Rep K Bx No H d.aq v []:=by
 by_cases hb:d.aD=true
 ·exact r.aq sB (λ a o s h=>h2 hb a s o h) h1
 ·exact(r.gu (by simpa using hb)).aq sB (λ a o s=>s.elim) h1
def iN(he:#[46]):PI X tg e (Ba X.K Y (gD fe)):=by
 refine PI.imp (K2 he) λ σ H R hq=>ex8 hq λ H0 B0 B τ P F I h=>⟨H0,B0,B,τ,P,F,I,?_⟩;cases z:fe τ with
 |eB C=>simp only[gD,z,Res.jE]at h;exact h|bad=>simp only[gD,z,Res.jD]at h
 | ok d =>
  simp only[gD,z,Res.aK]at h;intro v H1 B1 fp I1 s1 b1 r1 k1;cases d with
  | lst t xs =>
   simp only[bI]at h;obtain⟨a,vs,g,rfl,q,_⟩:=r1.lst I1;refine .inl ⟨a,rfl,⟨vs,gy q⟩,h _ H1 _ fp I1 s1 b1 k1 λ Bx sB sH h1 h2=>?_⟩;obtain⟨a',ws,ea,q',rl,_⟩:Rep X.K Bx No H1 (D.lst .aq (aG xs)) (.ref a) []:=ja r1 sB h1 h2;cases ea;exact EF q' rl
  | tup xs =>
   simp only[bI]at h;obtain⟨a,vs,rfl,q,_⟩:=r1.tp;refine .inr ⟨a,rfl,⟨vs,q⟩,h _ H1 _ fp I1 s1 b1 k1 λ Bx sB sH h1 h2=>?_⟩;obtain⟨a',ws,ea,q',rl⟩:Rep X.K Bx No H1 (D.tup (aG xs)) (.ref a) []:=ja r1 sB h1 h2;cases ea;exact HJ (jW.of q') rl
  |_=>exact h.elim
def bb (f:Nat->Int)(l:#[31]):aG (l.map λ k=>D.int (f k))=l.map λ k=>D.int (f k):=by
 induction l with
 |nil=>rfl|cons a r ih=>rw[PV,aG,ih];rfl
def lY:List D->Res #[106]
 |[.int j]=>if -1000000000<=j/\j<=1000000000 then .ok (false,(List.range j.toNat).map λ k:Nat=>.int (0+k)) else .bad
 |_=>.bad
def bC (f:#[40])(τ:SD):Res #[106]:=(f τ).bind lY
def xP {fs:#[40]}{R:It->Hp->Prop}:Ba X.K Y (bC fs) σ H R->DU (nM X.K Y fs) σ H R:=by
 rintro⟨H0,B0,B,τ,P,F,I,h⟩;refine⟨H0,B0,B,τ,P,F,I,?_⟩;cases z:fs τ with
 |eB C=>simp only[bC,z,Res.jE]at h;exact h|bad=>simp only[bC,z,Res.jD]at h
 | ok ds =>
  simp only[bC,z,Res.aK]at h;intro vs H1 B1 fp I1 s1 b1 r1 k1;cases y:lY ds with
  |eB C=>exfalso;unfold lY at y;split at y<;>first|(split at y<;>cases y)|cases y
  |bad=>rw[y]at h;exact h.elim
  | ok es =>
   rw[y]at h;unfold lY at y;split at y
   ·split at y
    ·rename_i hc;cases y;obtain⟨v,rfl,rfl,rfl⟩:=lz r1;exact⟨_,rfl,#[1],#[1],h _ H1 B1 [] I1 s1 b1 gm.nil λ Bx _ _ _ _=>by rw[bb];exact CN⟩
    ·cases y
   ·cases y
def gH {a:Expr}{fs:#[40]}(hg:Gl X "range")(hm:X.mg "range" = none)(ha:PA X [a] (nM X.K Y fs))(hs:starEach [a] X.env=[(false,eval a X.env)]:=by rfl):PI X tg (.Call (.Name "range" p) [a] [] pos) (Ba X.K Y (bC fs)):=
 PI.imp (Cu hg hm ha hs) λ σ H R h=>xP h
def df (xs:List D):List D:=xs.mapIdx λ i d=>.tup [.int i,d]
def eK (f:#[40])(τ:SD):Res #[106]:=(f τ).bind λ ds=>match ds with|[d]=>(bI d).map λ p=>(p.1,df p.2)|_=>.bad
def xO (xs:List D):∀ (f:Nat->Nat),aG (xs.mapIdx λ i d=>D.tup [.int (f i),d])=(aG xs).mapIdx λ i d=>D.tup [.int (f i),d]:=by
 induction xs with
 |nil=>intro f;rfl
 | cons a r ih =>
  intro f;rw[List.mapIdx_cons,aG,aG,List.mapIdx_cons];exact Q3 _ (ih λ i=>f (i+1))
def ph (xs:List D):aG (df xs)=df (aG xs):=xO xs id
def xN {src:Hp->List V->Prop}(r:ak K B No H ds vs [])(q:∀ B' H':Hp,au B B'->au B' H'->mK H H'->src H' vs):HG K (NH src) (df ds) B H where
 go:=λ B' H' i d s1 s2 im e=>by
  have hi:=(Pw.mp e).1;unfold df at hi;rw[TZ,r.length]at hi;exact⟨vs,vs[i],q B' H' s1 s2 im,Pr hi⟩
 zb:=λ B' H' i d x H'' s1 s2 im e y=>by
  obtain⟨p,w,rfl,hp,rfl,hy⟩:=y;have hi:=(Pw.mp e).1;unfold df at hi e;rw[TZ]at hi;rw[List.getElem?_mapIdx,Pr hi]at e;cases e;have z:=hy vs (q B' H' s1 s2 im);obtain⟨v,f,h1,h2,h3⟩:=r.get (Pr hi);rw[z]at h1;cases h1;cases nQ h3;have s:=du (o:=.tup [.int i,w]) hp;exact⟨s,p,[.int i,w],rfl,aN,.int i,[w],[],[],rfl,⟨rfl,rfl⟩,ak.one ((h2.stay s1 im rfl).mono s #[49] (λ _ x=>x)),rfl⟩
 stop:=λ B' H' s1 s2 im=>⟨vs,q B' H' s1 s2 im,by unfold df;rw[TZ,r.length];exact Py _⟩
def ED {elts:#[92]}{x1:Nat}{tp:Pos}{ta:TA}(hg:Gl X "enumerate")(hm:X.mg "enumerate" = none)(ha:PA X [l] ta)(hs:starEach [l] X.env=[(false,eval l X.env)]:=by rfl) :
  PI X (.Tuple elts x1 tp) (.Call (.Name "enumerate" p) [l] [] pos) (λ σ H R=>ta σ H λ vs H1=>(∃ a xs,vs=[.ref a]/\eQ X.K H1 a xs/\R (NH λ H xs=>eQ X.K H a xs) H1)\/∃ a xs,vs=[.ref a]/\jW X.K H1 a xs/\R (NH λ H xs=>jW X.K H a xs) H1):=by
 intro pins s σ H R I h;refine QT (jk I hg hm (by decide +kernel:bootBuiltins "enumerate" = some (.type "enumerate")) ?_);refine QL #[82] hs rfl;rcases q1 with ⟨a,xs,rfl,hq,q⟩|⟨a,xs,rfl,hq,q⟩
 ·obtain⟨u,rfl,ru⟩:=vals1 r1;cases ru;obtain⟨its,rv,pl,hz⟩:=I1.list hq;refine call_enumerate_list pl.isList λ h' e1 e2 e3 e4=>Ui e1 ?_;have I2:Inv X pins σ H1 { s1 with heap:=h' }:=I1.kept (t':=s1.toks) e4;obtain⟨o,c1,c2,c3⟩:=e2;refine⟨_,_,_,_,H1,rfl,I2,uh (src_list a s1.heap.objs.size) (Nat.succ_ne_self _),⟨⟨_,e1⟩,o,c1,c2,c3⟩,λ b hb=>?_,q⟩;rcases PB.mp hb with z|z
  ·subst z;exact I1.qL (Rl _) (I1.hok.fresh (Rl _))
  ·have z:b=s1.heap.objs.size:=by simpa using z
   subst z;exact I1.qL (Py _) (I1.hok.fresh (Py _))
 ·obtain⟨u,rfl,ru⟩:=vals1 r1;cases ru;obtain⟨its,rv,pl,hz⟩:=I1.tuple hq;refine tD (j3 pl) λ h' e1 e2 e4=>Ui e1 ?_;have I2:Inv X pins σ H1 { s1 with heap:=h' }:=I1.kept (t':=s1.toks) e4;obtain⟨o,c1,c2,c3⟩:=e2;refine⟨_,_,_,_,H1,rfl,I2,uh (HC a s1.heap.objs.size) (Nat.succ_ne_self _),⟨⟨_,e1⟩,o,c1,c2,c3⟩,λ b hb=>?_,q⟩;rcases PB.mp hb with z|z
  ·subst z;exact I1.qL (Rl _) (I1.hok.fresh (Rl _))
  ·have z:b=s1.heap.objs.size:=by simpa using z
   subst z;exact I1.qL (Py _) (I1.hok.fresh (Py _))
def HH {elts:#[92]}{x1:Nat}{tp:Pos}{fs:#[40]}(hg:Gl X "enumerate")(hm:X.mg "enumerate" = none)(ha:PA X [l] (nM X.K Y fs))(hs:starEach [l] X.env=[(false,eval l X.env)]:=by rfl) :
  PI X (.Tuple elts x1 tp) (.Call (.Name "enumerate" p) [l] [] pos) (Ba X.K Y (eK fs)):=by
 refine PI.imp (ED hg hm ha hs) λ σ H R hq=>ex8 hq λ H0 B0 B τ P F I h=>⟨H0,B0,B,τ,P,F,I,?_⟩;cases z:fs τ with
 |eB C=>simp only[eK,z,Res.jE]at h;exact h|bad=>simp only[eK,z,Res.jD]at h
 | ok ds =>
  simp only[eK,z,Res.aK]at h;intro vs H1 B1 fp I1 s1 b1 r1 k1
  match ds,r1,h with
  | [d],r1,h =>
   obtain⟨v,rfl,r1'⟩:=lz r1;simp only at h;cases d with
   | lst t xs =>
    simp only[bI,Res.Es]at h;obtain⟨a,vs,g,rfl,q,_⟩:=r1'.lst I1;refine .inl ⟨a,vs,rfl,gy q,h _ H1 _ fp I1 s1 b1 k1 λ Bx sB sH h1 h2=>?_⟩;obtain⟨a',ws,ea,q',rl,_⟩:Rep X.K Bx No H1 (D.lst .aq (aG xs)) (.ref a) []:=ja r1' sB h1 h2;cases ea;rw[ph];exact xN rl λ B' H' z1 z2 _=>gy (eF (z1.trans z2) q')
   | tup xs =>
    simp only[bI,Res.Es]at h;obtain⟨a,vs,rfl,q,_⟩:=r1'.tp;refine .inr ⟨a,vs,rfl,q,h _ H1 _ fp I1 s1 b1 k1 λ Bx sB sH h1 h2=>?_⟩;obtain⟨a',ws,ea,q',rl⟩:Rep X.K Bx No H1 (D.tup (aG xs)) (.ref a) []:=ja r1' sB h1 h2;cases ea;rw[ph];exact xN rl λ B' H' z1 z2 im=>nR im (jW.of q')
   |_=>exact h.elim
  |[],r1,h=>exact h.elim|_::_::_,r1,h=>exact h.elim
abbrev xg:=D->SD->Option SD
def G1 (K:#[0])(g:xg):TG:=λ v σ H Q=>∃ H0 B0 B τ P F d fp,SI K H0 B0 B H σ τ P F/\Rep K B No H d v fp/\gm H0 B H P F fp/\match g d τ with
 |some τ'=>∀ H' σ' P',SI K H0 B0 B H' σ' τ' P' F->H'=H->Q σ' H'
 |none=>False
def gN (i:Nat)(d:D)(τ:SD):Option SD:=some (τ.set i (some d))
def PG.imp{t t':TG}(h:PG X tg t)(hi:∀ v σ H Q,t' v σ H Q->t v σ H Q):PG X tg t':=λ pins s σ H v u Q I r hw=>h pins s σ H v u Q I r (hi v σ H Q hw)
def K1(hN:X.N.Nodup)(hi:#[69])(hx:Loc X.env.scope x)(hf:#[37]:=by first|exact .inl rfl|exact .inr rfl):PG X (.Name x pos) (G1 X.K (gN i)):=
 PG.imp (AU hN hi hx hf) λ v σ H Q hq=>ex12 hq λ H0 B0 B τ P F d fp I r k h=>by
  obtain⟨P',I',_⟩:=I.set i r k;exact h H _ P' I' rfl
abbrev EE:=List D->SD->Option SD
def HL (K:#[0])(g:EE):G6:=λ vs σ H Q=>∃ H0 B0 B τ P F ds fp,SI K H0 B0 B H σ τ P F/\ak K B No H ds vs fp/\gm H0 B H P F fp/\match g ds τ with
 |some τ'=>∀ H' σ' P',SI K H0 B0 B H' σ' τ' P' F->H'=H->Q σ' H'
 |none=>False
def dw (ds:List D)(τ:SD):Option SD:=match ds with|[]=>some τ|_=>none
def bc (i:Nat)(g:EE)(ds:List D)(τ:SD):Option SD:=match ds with|d::r=>g r (τ.set i (some d))|[]=>none
def CB.imp {tgs:#[92]}{t t':G6}(h:CB X tgs t)(hi:∀ v σ H Q,t' v σ H Q->t v σ H Q):CB X tgs t':=λ pins s σ H v u Q I r hw=>h pins s σ H v u Q I r (hi v σ H Q hw)
def vH:CB X [] (HL X.K dw):=CB.imp G8 λ vs σ H Q hq=>ex12 hq λ H0 B0 B τ P F ds fp I r k h=>by
 cases ds with
 |nil=>exact⟨r.1,h H σ P I rfl⟩| cons d ds=>exact h.elim
def i9{g:EE}(hN:X.N.Nodup)(hi:#[69])(hx:Loc X.env.scope x)(h2:CB X es (HL X.K g))(hf:#[37]:=by first|exact .inl rfl|exact .inr rfl)
  (hs:(assignEach (.Name x pos::es) X.env).map (·.2)=assign (.Name x pos) X.env::(assignEach es X.env).map (·.2):=by rfl):CB X (.Name x pos::es) (HL X.K (bc i g)):=
 CB.imp (DY (AU hN hi hx hf) h2 hs) λ vs σ H Q hq=>ex12 hq λ H0 B0 B τ P F ds fp I r k h=>by
  cases ds with
  |nil=>exact h.elim
  | cons d ds =>
   obtain⟨v,w,f1,f2,rfl,r1,r2,rfl⟩:=r;obtain⟨P',I',s'⟩:=I.set i r1 k.left;refine⟨v,w,rfl,H0,B0,B,_,P',F,ds,f2,I',r2,⟨k.right.nd,λ a m=>?_⟩,h⟩;obtain⟨a1,a2,a3,a4,a5⟩:=k.right.own a m;refine⟨a1,a2,a3,λ z=>?_,a5⟩;rcases s' a z with y|y
   ·exact a4 y
   ·exact(PJ.mp k.nd).2.2 a y a m rfl
def gT (n:Nat)(g:EE)(d:D)(τ:SD):Option SD:=match d with|.tup ds=>if ds.length=n then g ds τ else none|_=>none
def Bb{k:Nat}{g:EE}(hc:X.calm=true)(h:CB X es (HL X.K g))
  (hn:(assignEach es X.env).length=n:=by rfl) (hst:(assignEach es X.env).findIdx? (·.1)=none:=by rfl):PG X (.Tuple es k pos) (G1 X.K (gT n g)):=
 PG.imp (J6 hc h hn hst) λ v σ H Q hq=>ex12 hq λ H0 B0 B τ P F d fp I r k h=>by
  cases d with
  | tup ds =>
   obtain⟨a,vs,rfl,q,rl⟩:=r;unfold gT at h;by_cases hl:ds.length=n
   ·simp only[hl,RE]at h;exact⟨a,vs,rfl,jW.of q,by rw[<-rl.length];exact hl,H0,B0,B,τ,P,F,ds,fp,I,rl,k,h⟩
   ·simp only[hl,RL]at h
  |_=>exact h.elim
def cg (tg:xg)(body:SF):List D->SF
 |[],τ=>.nx τ
 | d::r,τ=>match tg d τ with
  |none=>.bad
  | some τ'=>match body τ' with
   |.nx t=>cg tg body r t
   |.ct t=>cg tg body r t
   |.bk t=>.nx t
   |o=>o
def cV (js:#[31])(it:SD->Res #[106])(tg:xg)(body:SF)(τ:SD):Fl:=match it (cI js τ) with
 |.ok (false,ds)=>cg tg body (aG ds) (cI js τ)
 |.ok (true,_)=>.bad
 |.eB C=>.ex C (cI js τ)
 |.bad=>.bad
def jI (js:#[31]){iter:Expr}{body:List Stmt}{tgd:xg}{g:SF}(hp:PassesOwn #[13] X.A X.env X.xe)(hc:X.calm=true)(hi:PI X tg iter (Ba X.K Y it))(hg:PG X tg (G1 X.K tgd))(hb:lR X body (iZ X.K Y g))
  (hs:#[39]:=by intro _;rfl):PS X (.For tg iter body [] pos) (iZ X.K Y (cV js it tgd g)):=by
 refine PS.imp (Kf hp hc hi hg hb hs) λ E σ H hq=>ex7 hq λ H0 B0 B τ P I h=>?_;obtain⟨Bf,Pf,sf,If⟩:=I.cI js;have h:cy X.K Y H0 B0 Bf H E (cV js it tgd g τ):=cy.later h (jU.grow If sf #[49]);unfold cV at h;refine⟨H0,B0,Bf,_,Pf,No,If,?_⟩;cases z:it (cI js τ) with
 |eB C=>rw[z]at h;exact λ H1 B1 I1 s1 b1=>h B1 H1 σ Pf (jU.grow I1 b1 s1)
 |bad=>rw[z]at h;exact h.elim
 | ok q =>
  obtain⟨fl,ds0⟩:=q;rw[z]at h;intro J H1 B1' fp I1' s1 b1' k1 JA;cases fl with
  |true=>exact h.elim|false=>
  obtain⟨I1,b2⟩:=I1'.MY k1;have b1:=b1'.trans b2;have J1:=JA _ b2 (iC I1'.bh) (λ a m o h=>fT m h) (λ z=>Bool.noConfusion z);generalize atRest B1' H1 (· ∈ fp)=B1 at I1 b1 J1;have h:cy X.K Y H0 B0 Bf H E (cg tgd g (aG ds0) (cI js τ)):=h;generalize aG ds0=ds at h J1;have h:cy X.K Y H0 B0 B1 H1 E (cg tgd g ds (cI js τ)):=cy.later h (jU.grow I1 b1 s1);refine⟨λ i m σ' H'=>m=ds.length-i/\i<=ds.length/\∃ B' τ' P',jU X.K H0 B0 B1 H1 B' H' σ' τ' P'/\cy X.K Y H0 B0 B' H' E (cg tgd g (ds.drop i) τ'),⟨_,rfl,QY _,B1,_,Pf,jU.refl I1,h⟩,?_⟩;rintro i m σ' H' ⟨rfl,hle,B',τ',P',a,gl⟩;by_cases hlt:i<ds.length
  ·obtain⟨d,hd⟩:∃ d,ds[i]?=some d:=⟨ds[i],Pr hlt⟩;have hdrop:ds.drop i=d::ds.drop (i+1):=by
    rw[RI hlt]
    congr 1
    rw[Pr hlt]at hd;exact QC hd
   rw[hdrop]at gl;unfold cg at gl;refine .inr ⟨J1.go B' H' i d a.b a.si.bh a.xE hd,λ σ2 H2=>∃ B2 τ2 P2,jU X.K H0 B0 B1 H1 B2 H2 σ2 τ2 P2/\cy X.K Y H0 B0 B2 H2 E (cg tgd g (ds.drop (i+1)) τ2),λ σ2 H2 w=>⟨_,by omega,rfl,hlt,w⟩,λ x H'' y=>?_⟩;obtain⟨sy,ry⟩:=J1.zb B' H' i d x H'' a.b a.si.bh a.xE hd y;have Iy:=a.si.grow sy;refine⟨H0,B0,B',τ',P',No,d,[],Iy,ry,gm.nil,?_⟩;cases w:tgd d τ' with
   |none=>rw[w]at gl;exact gl.elim
   | some τ2 =>
    rw[w]at gl;intro H3 σ3 P3 I3 e3;subst e3;have ay:jU X.K H0 B0 B' H' B' H3 σ3 τ2 P3:=⟨I3,au.refl _,mK.of sy⟩;refine⟨H0,B0,B',τ2,P3,I3,?_⟩;cases u:g τ2 with
    | nx t =>
     simp only[u]at gl;exact λ B4 H4 σ4 P4 a4=>⟨B4,t,P4,(a.trans ay).trans a4,cy.later gl (ay.trans a4)⟩
    | ct t =>
     simp only[u]at gl;exact λ B4 H4 σ4 P4 a4=>⟨B4,t,P4,(a.trans ay).trans a4,cy.later gl (ay.trans a4)⟩
    | bk t =>
     simp only[u]at gl;exact λ B4 H4 σ4 P4 a4=>gl B4 H4 σ4 P4 (ay.trans a4)
    |rt d=>simp only[u]at gl;exact gl|ex C t=>simp only[u]at gl;exact λ B4 H4 σ4 P4 a4=>gl B4 H4 σ4 P4 (ay.trans a4)
    |bad=>simp only[u]at gl;exact gl
  ·have e:i=ds.length:=by omega
   subst e;rw[List.drop_length]at gl;exact .inl ⟨J1.stop B' H' a.b a.si.bh a.xE,gl B' H' σ' P' (jU.refl a.si)⟩
def bN (c:#[66])(body:SF):Nat->SF
 |0,_=>.bad
 | n+1,τ=>(c τ).rC τ λ b=>if b=true then (match body τ with
   |.nx t=>bN c body n t
   |.ct t=>bN c body n t
   |.bk t=>.nx t
   |o=>o) else .nx τ
def iO (c:#[66])(body:SF)(τ:SD):Fl:=by classical exact if h:∃ n,bN c body n τ ≠ .bad then bN c body h.choose τ else .bad
def lC {c:#[66]}{body:SF}:∀ {n:Nat}{τ:SD},bN c body n τ ≠ .bad->bN c body (n+1) τ=bN c body n τ
 |0,_,h=>absurd rfl h
 | n+1,τ,h=>by
  rw[bN]at h
  conv=>lhs;rw[bN]
  conv=>rhs;rw[bN]
  cases e:c τ with
  |eB C=>rfl|bad=>rfl
  | ok b =>
   rw[e]at h;cases b with
   |false=>rfl
   | true =>
    simp only[Res.rC,RE]at h ⊢;cases u:body τ with
    |nx t=>simp only[u]at h ⊢;exact lC h|ct t=>simp only[u]at h ⊢;exact lC h|bk t=>rfl|rt d=>rfl|ex C t=>rfl|bad=>rfl
def uw {c:#[66]}{body:SF}(h:bN c body n τ ≠ .bad):∀ {m:Nat},n<=m->bN c body m τ=bN c body n τ:=by
 intro m hm
 induction hm with
 |refl=>rfl|step hm ih=>rw[lC (by rw[ih];exact h),ih]
def pj {c:#[66]}{body:SF}(h:bN c body n τ ≠ .bad):iO c body τ=bN c body n τ:=by
 have ex:∃ n,bN c body n τ ≠ .bad:=⟨n,h⟩;unfold iO;rw[dif_pos ex];rcases Nat.le_total n ex.choose with q|q
 ·exact uw h q
 ·exact(uw ex.choose_spec q).symm
def vG {body:List Stmt}{g:SF}(hp:PassesOwn #[13] X.A X.env X.xe)(hc:PT X c (kQ X.K Y gc))(hb:lR X body (iZ X.K Y g)):PS X (.While c body [] pos) (iZ X.K Y (iO gc g)):=by
 refine PS.imp (DZ hp hc hb) λ E σ H hq=>ex7 hq λ H0 B0 B τ P I h=>?_;obtain⟨n,hn⟩:∃ n,cy X.K Y H0 B0 B H E (bN gc g n τ):=by
  unfold iO at h;split at h
  ·exact⟨_,h⟩
  ·exact h.elim
 refine⟨λ m σ' H'=>∃ B' τ' P',SI X.K H0 B0 B' H' σ' τ' P' No/\cy X.K Y H0 B0 B' H' E (bN gc g m τ'),⟨n,B,τ,P,I,hn⟩,?_⟩;rintro m σ' H' ⟨B',τ',P',I',gl⟩;cases m with
 |zero=>exact gl.elim
 | succ m =>
  rw[bN]at gl;refine JE I' gl λ d H1 B1 _ I1 s1 b1 h1=>?_;cases d with
  |false=>rw[PL Pq]at h1 ⊢;exact h1 B1 H1 σ' P' (jU.refl I1)
  | true =>
   rw[PH rfl]at h1 ⊢;refine⟨λ σ2 H2=>∃ B2 τ2 P2,SI X.K H0 B0 B2 H2 σ2 τ2 P2 No/\cy X.K Y H0 B0 B2 H2 E (bN gc g m τ2),λ σ2 H2 w=>⟨m,SX _,w⟩,H0,B0,B1,τ',P',I1,?_⟩;cases u:g τ' with
   |nx t=>simp only[u]at h1;exact λ B4 H4 σ4 P4 a4=>⟨B4,t,P4,a4.si,cy.later h1 a4⟩
   |ct t=>simp only[u]at h1;exact λ B4 H4 σ4 P4 a4=>⟨B4,t,P4,a4.si,cy.later h1 a4⟩
   |bk t=>simp only[u]at h1;exact h1|rt d=>simp only[u]at h1;exact h1|ex C t=>simp only[u]at h1;exact h1|bad=>simp only[u]at h1;exact h1
end
variable {tgd:xg}
abbrev DF:=List D->Res D
variable {G:DF}
def jy (K:#[0])(G:DF):Sp:=λ vs H Q _=>∃ B0 ds,au B0 H/\ak K B0 No H ds vs []/\match G ds with
 |.ok d=>∀ B' H' v fp,lA K H B0 B' H' d v fp->Q v H'
 |.eB _=>False
 |.bad=>False
def Res.NK (r:Res D):Res D:=match r with|.eB _=>.bad|r=>r
@[simp] theorem Res.Ow (d:D):(Res.ok d).NK=.ok d:=rfl
def eU (G:DF)(ds:List D):Res D:=if aB ds=true then (G (aG ds)).NK.map D.aX else (G (aG ds)).NK
def aE (G:DF)(fs:#[40])(τ:SD):Res D:=(fs τ).bind (eU G)
section
variable {K:#[0]}{fs:#[40]}
def SI.called {S:#[17]}{fq:#[8]}(I:#[21])(k:gm H0 B H P F fp)(hS:∀ a,S a->a∈P)(r:lA K H (atRest B H (λ a=>S a\/a∈fp)) B' H' d v fq) :
  ∃ B'',SI K H0 B0 B'' H' σ τ P F/\au B B''/\gm H0 B'' H' P F fq/\(∀ a o,B' a=some o->B'' a=some o\/(S a/\a∈P)):=by
 classical
 have sP:∀ a o,B a=some o->a∉P:=λ a o e m=>by
  have:=(I.own a m).1;rw[e]at this;cases this
 have up:∀ a,B' a≠none->B a≠none\/S a\/a∈fp\/H a=none:=λ a n=>by
  rcases r.nb a n with q|q
  ·by_cases hs:S a\/a∈fp
   ·exact .inr (hs.elim .inl λ z=>.inr (.inl z))
   ·rw[gX hs]at q;exact .inl q
  ·exact .inr (.inr (.inr q))
 refine⟨λ a=>if a∈P then none else B' a,?_,λ a o e=>?_,⟨r.nd,λ a m=>?_⟩,λ a o e=>?_⟩
 ·have sB:au B (λ a=>if a∈P then none else B' a):=λ a o e=>by
   show#[112]=some o;rw[PL (sP a o e)];exact r.b0 a o (dI I.bh a o e)
  refine⟨λ a o e=>?_,I.h0.trans r.h0,I.b0.trans sB,λ a n=>?_,I.rep.mono r.h0 sB,I.nd,λ a m=>?_,λ a m=>?_⟩
  ·have e:#[112]=some o:=e;split at e
   ·cases e
   ·exact r.bh a o e
  ·have n:#[112]≠none:=n;split at n
   ·exact absurd rfl n
   ·rename_i hp;rcases up a n with q|q|q|q
    ·exact I.nb a q
    ·exact absurd (hS a q) hp
    ·exact .inr (k.own a q).2.1
    ·exact .inr (I.h0.free q)
  ·refine⟨?_,(I.own a m).2⟩;show#[112]=none;rw[PH m]
  ·obtain⟨a1,a2⟩:=I.fr a m;refine⟨?_,λ z=>a2 (r.h0.free z)⟩;show#[112]=none;split
   ·rfl
   ·rename_i hp;cases e:B' a with
    |none=>rfl
    | some o =>
     exfalso;rcases up a (by rw[e];exact QW _) with q|q|q|q
     ·exact q a1
     ·exact hp (hS a q)
     ·exact(k.own a q).2.2.2.2 m
     ·exact a2 q
 ·show#[112]=some o;rw[PL (sP a o e)];exact r.b0 a o (dI I.bh a o e)
 ·obtain⟨a1,a2,a3⟩:=r.own a m;obtain⟨n1,n2,n3,n4⟩:=I.A4 a2;refine⟨?_,n2,a3,n3,n4⟩;show#[112]=none;rw[PL n3];exact a1
 ·by_cases hp:a∈P
  ·rcases up a (by rw[e];exact QW _) with q|q|q|q
   ·obtain⟨o',e'⟩:=TY.mp q;exact absurd hp (sP a o' e')
   ·exact .inr ⟨q,hp⟩
   ·exact absurd hp (k.own a q).2.2.2.1
   ·exact absurd q (I.stands hp)
  ·left;show#[112]=some o;rw[PL hp];exact e
def M0 {k:Nat}(C:mY X.prog X.w X.K X.mg X.base k x ps (jy X.K G))(hr:fG k X.A)(hg:Gl X x)(ha:PA X (e::es) (nM X.K Y fs))(hdb:#[2]:=by decide)
  (he:#[9]:=by rfl) (hpl:#[45].any (·.1)=false:=by rfl):PE X #[48] (tM X.K Y (aE G fs)):=by
 refine PE.imp (KR C hr hg ha hdb he hpl) λ σ H Q hq=>ex8 hq λ H0 B0 B τ P F I h=>nM.seq I h λ ds vs H1 B1 fp _ I1 s1 b1 r1 k1 h1=>?_;rw[Qi];unfold eU at h1;split at h1
 ·refine⟨atRest B1 H1 (λ a=>a∈P\/a∈fp),aG ds,iC I1.bh,r1.aq (dI I1.bh) (λ a o s h=>fT (.inl s) h) (λ a m o h=>fT (.inr m) h),?_⟩;cases z:G (aG ds) with
  |eB c=>rw[z]at h1;exact h1.elim|bad=>rw[z]at h1;exact h1.elim
  | ok d =>
   rw[z]at h1;intro B' H' v fq r;obtain⟨B2,I2,s2,k2,hb⟩:=I1.called k1 (S:=λ a=>a∈P) (λ a s=>s) r;exact h1 v H' B2 fq I2 r.h0 s2 (r.rep.aX r.bh λ a o e=>(hb a o e).imp id λ z=>z.2) k2
 ·rename_i hb;have hb:aB ds=false:=by simpa using hb
  refine⟨atRest B1 H1 (λ a=>False\/a∈fp),aG ds,iC I1.bh,(r1.gu hb).aq (dI I1.bh) (λ a o s=>s.elim) (λ a m o h=>fT (.inr m) h),?_⟩;cases z:G (aG ds) with
  |eB c=>rw[z]at h1;exact h1.elim|bad=>rw[z]at h1;exact h1.elim
  | ok d =>
   rw[z]at h1;intro B' H' v fq r;obtain⟨B2,I2,s2,k2,hb⟩:=I1.called k1 (S:=λ _=>False) (λ a s=>s.elim) r;refine h1 v H' B2 fq I2 r.h0 s2 ?_ k2;have sb:au B' B2:=λ a o e=>(hb a o e).resolve_right λ z=>z.1;exact r.rep.mono #[49] sb λ _ x=>x.elim
def Fl.out:Fl->Res D
 |.rt d=>.ok d
 |.nx _=>.ok .a8
 |.ex C _=>.eB C
 |_=>.bad
def bM (n N:Nat)(g:SF)(ds:List D):Res D:=if ds.length=n then (g (ds.map some++List.replicate (N-n) none)).out else .bad
def j6:∀ {ds:List D}{vs:List V} (m:Nat),ak K B No H ds vs []->dG K B H (ds.map some++List.replicate m none) (vs.map some++List.replicate m none) []
 | [],vs,m,r=>by
  obtain⟨rfl,_⟩:=r
  induction m with
  |zero=>exact⟨rfl,rfl⟩| succ m ih=>exact⟨none,_,rfl,ih⟩
 | d::ds,vs,m,r=>by
  obtain⟨v,w,f1,f2,rfl,r1,r2,z⟩:=r;obtain⟨rfl,rfl⟩:=mG z;exact⟨v,_,[],[],rfl,r1,j6 m r2,rfl⟩
def Bc {P:#[84]}{k:Nat}{g:SF}{f:Addr}{fd:FuncData}(D:Hw K x x st f fd)(S:aP N ps (av st))
  (hbody:∀ (f:Addr) (cdv:Value) (A:Around) (outer:List Env) (s:Shared) (H:Hp),fG k #[75] ->
   lR (mw yW P w K mg base N x (av st) f cdv A outer s H E0).Ju (dR st) (iZ K xG g)):oY P w K mg base yW (k+1) f fd ps (jy K (bM ps.length N.length g)):=by
 refine D.ok S (λ vs H Q E h=>?_) λ cdv A outer s H vs Q E hr h=>?_
 ·obtain⟨B0,ds,_,r,h⟩:=h;rw[<-r.length];unfold bM at h;by_cases hl:ds.length=ps.length
  ·exact hl
  ·rw[PL hl]at h;exact h.elim
 ·obtain⟨B0,ds,sB,r,h⟩:=h;unfold bM at h;by_cases hl:ds.length=ps.length
  ·rw[PH hl]at h;have e:L2.start N vs=vs.map some++List.replicate (N.length-ps.length) none:=by
    unfold L2.start;rw[<-r.length,hl]
   refine⟨_,hbody f cdv A outer s H hr,H,B0,B0,ds.map some++List.replicate (N.length-ps.length) none,[],⟨sB,au.refl _,au.refl _,λ a n=>.inl n,by rw[e];exact j6 _ r,Qz,(λ a m=>by cases m),λ a m=>m.elim⟩,?_⟩;cases z:g (ds.map some++List.replicate (N.length-ps.length) none) with
   |rt d=>rw[z]at h;exact λ B' H' v fp q=>h B' H' v fp q
   | nx t =>
    rw[z]at h;intro B' H' σ' P' a;exact h B' H' .a8 [] ⟨a.si.h0,a.si.b0,a.si.bh,a.si.nb,⟨rfl,rfl⟩,Qz,λ a m=>by cases m⟩
   |bk t=>rw[z]at h;exact h.elim|ct t=>rw[z]at h;exact h.elim|ex C t=>rw[z]at h;exact h.elim|bad=>rw[z]at h;exact h.elim
  ·rw[PL hl]at h;exact h.elim
def K3 {P:#[84]}{k:Nat}{g:SF}(D:kP K mg x st ps)(S:aP N ps (av st))
  (hbody:∀ (f:Addr) (cdv:Value) (A:Around) (outer:List Env) (s:Shared) (H:Hp),fG k #[75] ->
   lR (mw yW P w K mg base N x (av st) f cdv A outer s H E0).Ju (dR st) (iZ K xG g)):mY P w K mg base (k+1) x ps (jy K (bM ps.length N.length g)):=by
 obtain⟨f,fd,F,hm,hb⟩:=D.ex;exact⟨f,fd,hm,F.kp,hb,Bc F S hbody⟩
end
mutual
def D.cN:D->Bool
 |.tup xs=>bR xs
 |.lst t xs=>t.lu||bR xs
 |.dct t _ _ vs=>t.lu||bR vs
 |_=>false
def bR:List D->Bool
 |[]=>false
 |d::r=>d.cN||bR r
end
mutual
def xQ:∀ d:D,d.pure=true->d.cN=false
 |.a8,_=>rfl|.bl _,_=>rfl|.int _,_=>rfl|.str _,_=>rfl|.exc _,_=>rfl|.tup xs,h=>j8 xs h
 |.lst _ _,h=>by cases h
 |.dct _ _ _ _,h=>by cases h
def j8:∀ xs:List D,aT xs=true->bR xs=false
 |[],_=>rfl
 | d::r,h=>by
  have h:(d.pure&&aT r)=true:=h;rw[Ql]at h;show(d.cN||bR r)=false;rw[xQ d h.1,j8 r h.2];rfl
end
section
variable {K:#[0]}
mutual
def Rep.noOwn {B H:Hp}{S:#[17]}:∀ {d:D}{v:V}{fp:#[8]},d.cN=false->Rep K B S H d v fp->fp=[]
 |.a8,_,_,_,h=>h.2
 |.bl _,_,_,_,h=>h.2
 |.int _,_,_,_,h=>h.2
 |.str _,_,_,_,h=>h.2
 |.exc _,_,_,_,h=>h.2
 |.tup xs,v,fp,p,h=>let ⟨a,vs,e,q,r⟩:=h;ak.noOwn (ds:=xs) p r
 |.lst .own xs,v,fp,p,h=>by simp[D.cN,Tg.lu]at p
 |.lst .bor xs,v,fp,p,h=>let ⟨a,vs,e,q,r,z⟩:=h;z
 |.lst .aq xs,v,fp,p,h=>let ⟨a,vs,e,q,r,z⟩:=h;z
 |.lst (.len _) _,_,_,_,h=>h.elim
 |.dct (.len a) kd ks xs,v,fp,p,h=>by simp[D.cN,Tg.lu]at p
 |.dct .own kd ks xs,v,fp,p,h=>by simp[D.cN,Tg.lu]at p
 |.dct .bor kd ks xs,v,fp,p,h=>let ⟨a,vs,e,q,r,z⟩:=h;z
 |.dct .aq kd ks xs,v,fp,p,h=>let ⟨a,vs,e,q,r,z⟩:=h;z
def ak.noOwn {B H:Hp}{S:#[17]}:∀ {ds:List D}{vs:List V}{fp:#[8]},bR ds=false->ak K B S H ds vs fp->fp=[]
 |[],_,_,_,h=>h.2
 | d::ds,vs,fp,p,h=>by
  obtain⟨v,r,f,g,e,h1,h2,z⟩:=h;have p:(d.cN||bR ds)=false:=p;rw[Rm]at p;rw[z,Rep.noOwn p.1 h1,ak.noOwn p.2 h2];rfl
end
def fE (τ:SD)(cap:List (Str×Nat)):SD:=cap.map λ p=>((τ[p.2]?).join).map D.aq
def cW (τ:SD)(cap:List (Str×Nat)):Bool:=cap.any λ p=>match (τ[p.2]?).join with|some d=>d.cN|none=>false
def gY (tg:xg)(tt:#[66])(elt:#[28]):List D->SD->Res (List D)
 |[],_=>.ok []
 | d::r,τ=>match tg d τ with
  |none=>.bad
  |some τ'=>(tt τ').bind λ b=>if b=true then (elt τ').bind λ x=>if x.aD=true then .bad else (gY tg tt elt r τ').bind λ xs=>.ok (x::xs) else gY tg tt elt r τ'
def bo (it:SD->Res #[106])(tg:xg)(tt:#[66])(elt:#[28])(k:Nat)(cap:List (Str×Nat))(τ:SD):Res D:=(it τ).bind λ q=>
 match gY tg tt elt (aG q.2) (List.replicate k none++fE τ cap) with
 |.ok xs=>if xs.length<=16777216 then .ok (.lst .own (if (q.1||cW τ cap)=true then bW xs else xs)) else .bad
 |_=>.bad
def EG {Bx:Hp}(I:#[21])(sB:au B Bx)(cap:List (Str×Nat))(hx:cW τ cap=true->∀ a∈P,∀ o,H a=some o->Bx a=some o):dG K Bx H (fE τ cap) (qV σ cap) []:=by
 induction cap with
 |nil=>exact⟨rfl,rfl⟩
 | cons p r ih =>
  have ih:=ih λ z=>hx (by unfold cW at z ⊢;rw[Rx,z,Uw]);unfold fE qV at ih ⊢;rw[PV,PV];cases e:(τ[p.2]?).join with
  |none=>exact⟨_,_,rfl,ih⟩
  | some d =>
   have e':τ[p.2]?=some (some d):=by
    cases z:τ[p.2]? with
    |none=>rw[z]at e;cases e|some o=>rw[z]at e;exact Q3 some e
   obtain⟨v,f,h1,h2,h3⟩:=I.rep.get e';refine⟨v,_,[],[],?_,?_,ih,rfl⟩
   ·rw[h1];rfl
   ·by_cases ho:d.cN=true
    ·have hc:cW τ (p::r)=true:=by
      unfold cW;rw[Rx,e];simp[ho]
     exact h2.aq sB (λ a o s=>s.elim) λ a m o h=>hx hc a (h3.subset m) o h
    ·have hf:=h2.noOwn (by simpa using ho);subst hf;exact h2.aq sB (λ a o s=>s.elim) λ a m=>by cases m
def uz {Bx:Hp}:∀ (k:Nat) {τ:SD}{σ:L2.St},dG K Bx H τ σ []->dG K Bx H (List.replicate k none++τ) (List.replicate k none++σ) []
 |0,_,_,h=>h
 |k+1,_,_,h=>⟨none,_,rfl,uz k h⟩
def SI.K4{o':HO}(I:SI K H0 B0 B H σ τ P F')(hF:F' a)(hH0:H0 a=none)(ha:H a=some o)(mu:tF o):SI K H0 B0 B (upd H a o') σ τ P F':=by
 have kp:jF H (upd H a o') [a]:=⟨λ b u h n=>by rw[aH (by simpa using n)];exact h,λ b m=>by
  have:b=a:=by simpa using m
  subst this;exact⟨o,ha,mu⟩⟩
 have kr:∀ {τ:SD}{σ:L2.St}{P:#[8]},(∀ b∈P,b≠a)->dG K B H τ σ P->dG K B (upd H a o') τ σ P:=by
  intro τ
  induction τ with
  |nil=>intro σ P _ h;exact h
  | cons q r ih =>
   intro σ P hp h;cases q with
   |none=>obtain⟨x,t,e,h⟩:=h;exact⟨x,t,e,ih hp h⟩
   | some d =>
    obtain⟨v,t,f,g,e,h1,h2,z⟩:=h;subst z;exact⟨v,t,f,g,e,h1.keep kp λ b m=>by
     have:=hp b (PD _ m);simpa using this,ih (λ b m=>hp b (PM _ m)) h2,rfl⟩
 refine⟨λ b u e=>?_,λ b u e=>?_,I.b0,I.nb,kr (λ b m z=>(I.own b m).2.2 (z▸hF)) I.rep,I.nd,I.own,λ b m=>⟨(I.fr b m).1,?_⟩⟩
 ·rw[aH]
  ·exact I.bh b u e
  ·intro z;subst z;rw[(I.fr b hF).1]at e;cases e
 ·rw[aH]
  ·exact I.h0 b u e
  ·intro z;subst z;rw[hH0]at e;cases e
 ·by_cases z:b=a
  ·subst z;rw[aN];exact QW _
  ·rw[aH z];exact(I.fr b m).2
def aK{r:Res α}{f:α->Res β}{b:β}(h:r.bind f=.ok b):∃ a,r=.ok a/\f a=.ok b:=by
 cases r with
 |ok a=>exact⟨a,rfl,h⟩| eB C=>cases h|bad=>cases h
def CP{k:Nat}{fl:Bool}{J:It}(I1:SI K H0 B0 B1 H1 σ τ P F)(k1:gm H0 B1 H1 P F fp)(JA:JH K J ds fl B1 H1 P fp)
  (h:Goal K Y H0 B0 B1 H1 σ τ P F Q (match gY tgd tt elt (aG ds) (List.replicate k none++fE τ cap) with
   |.ok xs=>if xs.length<=16777216 then .ok (.lst .own (if (fl||cW τ cap)=true then bW xs else xs)) else .bad
   |_=>.bad)):ug (λ _ _ R=>R J H1) (G1 K tgd) (kQ K xG tt) (tM K xG elt) k cap σ H1 Q:=by
 intro acc hacc;cases zc:gY tgd tt elt (aG ds) (List.replicate k none++fE τ cap) with
 |eB C=>rw[zc]at h;exact h.elim|bad=>rw[zc]at h;exact h.elim
 | ok xs =>
  rw[zc]at h;simp only at h;by_cases hxl:xs.length<=16777216
  ·rw[PH hxl]at h
   let S:Addr->Prop:=λ a=>(fl||cW τ cap)=true/\a∈P
   let Bx:Hp:=atRest B1 H1 (λ a=>S a\/a∈fp)
   have sBx:au B1 Bx:=dI I1.bh;have uBx:au Bx H1:=iC I1.bh;have J1:HG K J (aG ds) Bx H1:=JA Bx sBx uBx (λ a m o e=>fT (.inr m) e) (λ hf a m o e=>fT (.inl ⟨by rw[hf];rfl,m⟩) e);have c0:dG K Bx H1 (List.replicate k none++fE τ cap) (List.replicate k none++qV σ cap) []:=uz k (EG I1 sBx cap λ hc a m o e=>fT (.inl ⟨by rw[hc,Uw],m⟩) e);have sacc:au H1 (upd H1 acc (.lst [])):=du hacc;have C0:SI K H1 Bx Bx (upd H1 acc (.lst [])) (List.replicate k none++qV σ cap) (List.replicate k none++fE τ cap) [] (λ a=>a=acc\/a∈([]:#[8])):=
    ⟨uBx.trans sacc,sacc,au.refl _,λ a n=>.inl n,c0.mono sacc #[49],Qz,(λ a m=>by cases m),λ a m=>by
     have:a=acc:=m.elim id λ z=>by cases z
     subst this;exact⟨uBx.free hacc,by rw[aN];exact QW _⟩⟩
   refine⟨λ i m τv ys H'=>m=(aG ds).length-i/\i<=(aG ds).length/\∃ B' τb Pb es fe rest,SI K H1 Bx B' H' τv τb Pb (λ a=>a=acc\/a∈fe)/\H' acc=some (.lst ys)/\ak K B' No H' es ys fe/\fe.Nodup /\
     (∀ a∈fe,H1 a=none/\a≠acc)/\gY tgd tt elt ((aG ds).drop i) τb=.ok rest/\xs=es++rest/\acc∉fe,⟨_,rfl,QY _,Bx,_,[],[],[],xs,C0,aN,⟨rfl,rfl⟩,Qz,(λ a m=>by cases m),zc,rfl,by simp⟩,?_⟩
   rintro i m τv ys H' ⟨rfl,hle,B',τb,Pb,es,fe,rest,C,ha,re,ndf,own,ec,ex,hna⟩;have im:mK H1 H':=mK.of C.h0;by_cases hlt:i<(aG ds).length
   ·obtain⟨d,hd⟩:∃ d,(aG ds)[i]?=some d:=⟨(aG ds)[i],Pr hlt⟩;have hdrop:(aG ds).drop i=d::(aG ds).drop (i+1):=by
     rw[RI hlt]
     congr 1
     rw[Pr hlt]at hd;exact QC hd
    rw[hdrop]at ec;unfold gY at ec;refine .inr ⟨J1.go B' H' i d C.b0 C.bh im hd,λ x H'' y=>?_⟩;obtain⟨sy,ry⟩:=J1.zb B' H' i d x H'' C.b0 C.bh im hd y;cases w:tgd d τb with
    |none=>rw[w]at ec;cases ec
    | some τ2 =>
     rw[w]at ec;simp only at ec;refine⟨H1,Bx,B',τb,Pb,_,d,[],C.grow sy,ry,gm.nil,?_⟩;rw[w];intro H3 σ3 P3 I3 e3;subst e3;obtain⟨b,eb,ec⟩:=aK ec;refine⟨H1,Bx,B',τ2,P3,_,I3,?_⟩;rw[eb];intro H4 B4 I4 s4 b4;have re4:ak K B4 No H4 es ys fe:=re.mono (sy.trans s4) b4 λ _ x=>x;have ha4:H4 acc=some (.lst ys):=s4 _ _ (sy _ _ ha);cases b with
     | false =>
      rw[PL Pq]at ec ⊢;exact⟨_,by omega,rfl,hlt,B4,τ2,P3,es,fe,rest,I4,ha4,re4,ndf,own,ec,ex,hna⟩
     | true =>
      rw[PH rfl]at ec ⊢;obtain⟨x',ex',ec⟩:=aK ec;refine⟨H1,Bx,B4,τ2,P3,_,I4,?_⟩;rw[ex'];intro v H5 B5 fv I5 s5 b5 r5 k5;by_cases hb:x'.aD=true
      ·rw[PH hb]at ec;cases ec
      ·rw[PL hb]at ec;obtain⟨rest',er',ec⟩:=aK ec;cases ec;have hb:x'.aD=false:=by simpa using hb
       have ha5:H5 acc=some (.lst ys):=s5 _ _ ha4;have re5:ak K B5 No H5 es ys fe:=re4.mono s5 b5 λ _ x=>x;have hlen:ys.length<sizeLine:=by
        rw[<-re.length,Qx];have:=Q3 List.length ex;simp at this;omega
       refine⟨ha5,hlen,_,by omega,rfl,hlt,?_⟩;have Ih:=I5.hold k5;have fdis:∀ a∈fv,a∉fe/\a≠acc:=λ a m=>⟨λ z=>(k5.own a m).2.2.2.2 (.inr z),λ z=>(k5.own a m).2.2.2.2 (.inl z)⟩;have Ih2:SI K H1 Bx B5 H5 σ3 τ2 P3 (λ a=>a=acc\/a∈fe++fv):=Ih.tE λ a m=>by
        rcases m with m|m
        ·exact .inr (.inl m)
        ·rcases PC.mp m with m|m
         ·exact .inr (.inr m)
         ·exact .inl m
       have Iw:=Ih2.K4 (o':=.lst (ys++[v])) (.inl rfl) hacc ha5 trivial;have kp:jF H5 (upd H5 acc (.lst (ys++[v]))) [acc]:=⟨λ b u h n=>by rw[aH (by simpa using n)];exact h,λ b m=>by
        have:b=acc:=by simpa using m
        subst this;exact⟨_,ha5,trivial⟩⟩
       refine⟨B5,τ2,P3,es++[x'],fe++fv,rest',Iw,aN,?_,PJ.mpr ⟨ndf,k5.nd,λ a h1 b h2 e=>(fdis b h2).1 (e▸h1)⟩,λ a m=>?_,er',by rw[ex];simp,λ m=>?_⟩
       ·refine ak.append (re5.keep kp λ a m z=>?_) (ak.one ((r5.gu hb).keep kp λ a m z=>?_))
        ·have:a=acc:=by simpa using z
         exact hna (this▸m)
        ·have:a=acc:=by simpa using z
         exact(fdis a m).2 this
       ·rcases PC.mp m with m|m
        ·exact own a m
        ·exact⟨(k5.own a m).2.1,(fdis a m).2⟩
       ·rcases PC.mp m with m|m
        ·exact hna m
        ·exact(fdis acc m).2 rfl
   ·have e:i=(aG ds).length:=by omega
    subst e;rw[List.drop_length]at ec;unfold gY at ec;cases ec;rw[Qi]at ex;subst ex;refine .inl ⟨J1.stop B' H' C.b0 C.bh im,?_⟩;have ro:lA K H1 Bx B' H' (.lst .own xs) (.ref acc) (acc::fe):=⟨C.h0,C.b0,C.bh,C.nb,⟨acc,ys,fe,rfl,ha,re,rfl⟩,PN.mpr ⟨hna,ndf⟩,λ a m=>by
     rcases PB.mp m with m|m
     ·subst m;exact⟨(C.fr a (.inl rfl)).1,hacc,(C.fr a (.inl rfl)).2⟩
     ·exact⟨(C.fr a (.inr m)).1,(own a m).1,(C.fr a (.inr m)).2⟩⟩
    obtain⟨B2,I2,s2,k2,hb⟩:=I1.called k1 (S:=S) (λ a s=>s.2) ro;by_cases hl:(fl||cW τ cap)=true
    ·rw[PH hl]at h;exact h (.ref acc) H' B2 _ I2 C.h0 s2 (ro.rep.aX ro.bh λ a o e=>(hb a o e).imp id λ z=>z.2) k2
    ·rw[PL hl]at h;have sb:au B' B2:=λ a o e=>(hb a o e).resolve_right λ z=>hl z.1.1;exact h (.ref acc) H' B2 _ I2 C.h0 s2 (ro.rep.mono #[49] sb λ _ x=>x.elim) k2
  ·rw[PL hxl]at h;exact h.elim
def pq{k:Nat}(I:#[21])(h:Goal K Y H0 B0 B H σ τ P F Q (bo it tgd tt elt k cap τ)) :
  ug (Ba K Y it) (G1 K tgd) (kQ K xG tt) (tM K xG elt) k cap σ H Q:=by
 refine⟨H0,B0,B,τ,P,F,I,?_⟩;unfold bo at h;cases z:it τ with
 |eB C=>rw[z]at h;exact h|bad=>rw[z]at h;exact h
 | ok q =>
  obtain⟨fl,ds⟩:=q;rw[z]at h;simp only[Res.aK]at h;intro J H1 B1 fp I1 s1 b1 k1 JA;exact CP I1 k1 JA (Goal.later h s1 b1)
variable {elt iter:Expr}{ifs:#[92]}{scope:Scope}{own:#[116]}
def mZ (ok:gE X scope own cap)(hc:X.calm=true)(hi:PI X tg iter (Ba X.K Y it))(Bl:#[89])(hs:#[39]:=by intro _;rfl) :
  PE X #[16] (tM X.K Y (bo it tgd tt fe own.length cap)):=
 PE.imp (HB ok hc hi Bl hs) λ σ H Q hq=>ex8 hq λ H0 B0 B τ P F I h=>pq I h
def CO{y:Str}{py spos:Pos}(hN:X.N.Nodup)(hi':X.N[i]?=some y)(hy:Loc X.env.scope y)(ok:gE X scope own cap)(hc:X.calm=true)(hi:PI X tg iter (Ba X.K Y it))(Bl:#[89])
  (hsw:#[127]:=by rfl)
  (hf:#[61]:=by first|exact .inl rfl|exact .inr rfl) (hs:#[39]:=by intro _;rfl) :
  PS X (.Assign [.Name y py] #[16] spos) (iZ X.K Y (aQ i (bo it tgd tt fe own.length cap))):=by
 refine PS.imp (zz hN hi' hy ok hc hi Bl hsw hf hs) λ E σ H hq=>ex7 hq λ H0 B0 B τ P I h=>?_;have key:tM X.K Y (bo it tgd tt fe own.length cap) σ H (λ x H1=>qN i x σ H1 E.nx):=lB I h λ d v H1 B1 fp _ I1 _ _ r1 k1 h1=>by
  unfold jq at h1;split at h1
  ·exact h1.elim
  ·rename_i hb;obtain⟨P',I',_⟩:=I1.set i (r1.gu (by simpa using hb)) k1;exact h1 B1 H1 _ P' ⟨I',au.refl _,mK.refl _⟩
 obtain⟨H0',B0',B',τ',P',F',I',h'⟩:=key;exact pq I' h'
def cT (_:SD):Res Bool:=.ok true
def nS:MM X [] (kQ X.K Y cT):=λ pins s σ H Q I ⟨H0,B0,B,τ,P,F,I',h⟩=>Hz pins s σ H Q I (h H B I' #[49] #[49])
def j7 {c:Expr}(h:PT X c (kQ X.K Y gc)):MM X [c] (kQ X.K Y gc):=Hy h
end
section
variable {K:#[0]}
def NL:D->String|.a8=>"NoneType" |.bl _=>"bool" |.int _=>"int" |.str _=>"str" |.tup _=>"tuple" |.lst _ _=>"list" |.dct _ _ _ _=>"dict" |.exc _=>""
def D.isExc:D->Bool|.exc _=>true|_=>false
def vJ:eO X (.builtin "isinstance") (λ xs H Q=>∃ x t b,xs=[x,.ty T]/\(nE X.K H x t\/(∃ a vs,x=.ref a/\jW X.K H a vs/\t=.type "tuple")\/(∃ a vs,x=.ref a/\eQ X.K H a vs/\t=.type "list"))/\PySem.W.kitOne X.K t (.type T)=some b/\Q (.bl b) H):=by
 intro pins s σ H xs us Q I r h;obtain⟨x,t,b,rfl,ty,e,q⟩:=h;obtain⟨u,v,rfl,ru,rv⟩:=vals2 r;cases rv;rcases ty with ty|⟨a,vs,rfl,hq,rfl⟩|⟨a,vs,rfl,hq,rfl⟩
 ·exact Cv I ru ty e λ tk=>⟨.bl b,H,I.tok tk,rfl,q⟩
 ·cases ru;obtain⟨its,_,⟨o,h1,h2,_⟩,_⟩:=I.tuple hq;exact QD PySem.W.kitx_tuple I.oV ⟨o,h1,h2⟩ e (λ z=>nomatch z) λ tk=>⟨.bl b,H,I.tok tk,rfl,q⟩
 ·cases ru;obtain⟨its,_,pl,_⟩:=I.list hq;obtain⟨o,h1,h2,_⟩:=pl.isList;exact QD Ue I.oV ⟨o,h1,h2⟩ e (λ z=>nomatch z) λ tk=>⟨.bl b,H,I.tok tk,rfl,q⟩
def EH(I:#[21])(r:Rep K B (· ∈ P) H d v f)(ne:d.isExc=false):nE K H v (.type (NL d))\/(∃ a vs,v=.ref a/\jW K H a vs/\(Value.type (NL d))=.type "tuple")\/(∃ a vs,v=.ref a/\eQ K H a vs/\(Value.type (NL d))=.type "list"):=by
 cases d with
 |a8=>rw[r.1];exact .inl .a8|bl b=>rw[r.1];exact .inl (.bl b)|int b=>rw[r.1];exact .inl (.int b)|str b=>rw[r.1];exact .inl (.str b)|exc _=>cases ne|tup xs=>obtain⟨a,vs,rfl,q,_⟩:=r;exact .inr (.inl ⟨a,vs,rfl,jW.of q,rfl⟩)
 | lst t xs =>
  obtain⟨a,vs,g,rfl,q,_⟩:=r.lst I;exact .inr (.inr ⟨a,vs,rfl,q,rfl⟩)
 | dct t k ks xs =>
  have:∃ a vs,v=.ref a/\DictAt H a k ks vs:=by
   cases t with
   |len a=>obtain⟨vs,g,e,q,_⟩:=r;exact⟨a,vs,e,q⟩| own=>obtain⟨a,vs,g,e,q,_⟩:=r;exact⟨a,vs,e,q⟩| bor=>obtain⟨a,vs,e,q,_⟩:=r;exact⟨a,vs,e,q.elim (λ y=>y.2) λ y=>y.mono I.bh⟩| aq=>obtain⟨a,vs,e,q,_⟩:=r;exact⟨a,vs,e,q.mono I.bh⟩
  obtain⟨a,vs,rfl,⟨_,kvs,ep,q,_⟩|⟨_,kvs,ep,q,_⟩⟩:=this
  ·exact .inl (.dK q)
  ·exact .inl (.dT q)
def uA:D->Bool|.bl _=>true|_=>false
def vK:D->Bool|.bl _=>true|.int _=>true|_=>false
def sY:D->Bool|.str _=>true|_=>false
def vI:D->Bool|.lst _ _=>true|_=>false
def j9:D->Bool|.tup _=>true|_=>false
def pA (T:String)(g:D->Bool):Prop:=∀ (K:#[0]) (d:D),d.isExc=false->PySem.W.kitOne K (.type (NL d)) (.type T)=some (g d)
def pB:pA "bool" uA:=λ K d h=>by cases d<;>first|rfl|cases h
def xR:pA "int" vK:=λ K d h=>by cases d<;>first|rfl|cases h
def rE:pA "str" sY:=λ K d h=>by cases d<;>first|rfl|cases h
def uB:pA "list" vI:=λ K d h=>by cases d<;>first|rfl|cases h
def rF:pA "tuple" j9:=λ K d h=>by cases d<;>first|rfl|cases h
def cU (g:D->Bool)(d:D):Res D:=if d.isExc=true then .bad else .ok (.bl (g d))
def ib{g:D->Bool}{ty:Expr}{pt:Pos}(hI:pA T g)(hg:Gl X "isinstance")(hm:X.mg "isinstance" = none)(he:#[46])(hgT:Gl X x)(hmT:X.mg x=none)(hbT:bootBuiltins x=some (.type T))
  (hs:starEach [e,.Name x pt] X.env=(false,eval e X.env)::starEach [.Name x pt] X.env:=by rfl) (hs2:starEach [.Name x pt] X.env=(false,eval (.Name x pt) X.env)::starEach [] X.env:=by rfl) (hpl:(backTo pos (starEach [.Name x pt] X.env)).any (·.1)=false:=by rfl) (hn:x ≠ "__name__" :=by decide) (hdb:#[2]:=by decide) :
  PE X (.Call (.Name "isinstance" p) [e,.Name x pt] [] pos) (tM X.K Y (fZ (cU g) fe)):=by
 refine PE.imp (jz (vJ (T:=T)) hg hm #[30] (bY he (bY (AR hgT hmT hbT (show RelV (.ty T) _ from rfl) hn hdb) dQ hs2) hs) (he:=hs) (hpl:=hpl)) λ σ H Q hq=>ex8 hq λ H0 B0 B τ P F I h=>?_;refine tM.seq (g:=cU g) I h λ d v H1 B1 fp _ I1 s1 b1 r1 k1 h1=>?_;unfold cU at h1;split at h1
 ·exact h1.elim
 ·rename_i hx;have hx:d.isExc=false:=by simpa using hx
  exact⟨v,_,_,rfl,EH I1 r1 hx,hI _ d hx,Out.here h1 I1 ⟨rfl,rfl⟩⟩
def intsOf:List D->Option #[6]
 |[]=>some []
 |.int i::r=>(intsOf r).map (i :: ·)
 |_::_=>none
def f7 (ns:#[6]):intsOf #[85]=some ns:=by
 induction ns with
 |nil=>rfl|cons n r ih=>rw[PV,intsOf,ih];rfl
def iI:∀ {xs:List D}{ns:#[6]},intsOf xs=some ns->xs=ns.map D.int
 |[],ns,h=>by cases h;rfl
 | .int i::r,ns,h=>by
  unfold intsOf at h;cases e:intsOf r with
  |none=>rw[e]at h;cases h|some m=>rw[e]at h;cases h;rw[PV,<-iI e]
 |.a8::_,_,h=>by cases h
 |.bl _::_,_,h=>by cases h
 |.str _::_,_,h=>by cases h
 |.tup _::_,_,h=>by cases h
 |.lst _ _::_,_,h=>by cases h
 |.dct _ _ _ _::_,_,h=>by cases h
 |.exc _::_,_,h=>by cases h
def iH {S:#[17]}:∀ {ns:#[6]}{vs:List V}{f:#[8]},ak K B S H #[85] vs f->vs=ns.map V.int/\f=[]
 |[],vs,f,r=>r
 | n::ns,vs,f,r=>by
  obtain⟨v,w,f1,f2,rfl,⟨rfl,rfl⟩,r2,rfl⟩:=r;obtain⟨rfl,rfl⟩:=iH r2;exact⟨rfl,rfl⟩
def lZ {S:#[17]}:∀ (ns:#[6]),ak K B S H #[85] (ns.map V.int) []
 |[]=>⟨rfl,rfl⟩
 |n::ns=>⟨_,_,[],[],rfl,⟨rfl,rfl⟩,lZ ns,rfl⟩
def sortI (ns:#[6]):List Int:=ns.mergeSort (λ a b=>decide (a<=b))
def sortI_perm (ns:#[6]):(sortI ns).Perm ns:=List.mergeSort_perm ns _
def fg (ns:#[6]):(sortI ns).Pairwise (· <= ·):=by
 have h:=List.pairwise_mergeSort (le:=λ a b:Int=>decide (a<=b)) (λ a b c h1 h2=>by simp at *;omega) (λ a b=>by simp;omega) ns;exact h.imp λ h=>by simpa using h
def ez:∀ {l m:#[6]},l.Perm m->l.Pairwise (· <= ·)->m.Pairwise (· <= ·)->l=m
 |[],m,hp,_,_=>(List.Perm.nil_eq hp)
 | x::r,m,hp,h1,h2=>by
  match m,hp,h2 with
  |[],hp,_=>exact absurd hp.length_eq #[25]
  | y::r',hp,h2 =>
   obtain⟨a1,a2⟩:=T4.mp h1;obtain⟨b1,b2⟩:=T4.mp h2;have e:x=y:=by
    have m1:x∈y::r':=hp.mem_iff.mp Pp;have m2:y∈x::r:=hp.mem_iff.mpr Pp;rcases PB.mp m1 with q|q
    ·exact q
    ·rcases PB.mp m2 with q'|q'
     ·exact q'.symm
     ·have:=b1 x q;have:=a1 y q';omega
   subst e;rw[ez ((List.perm_cons _).mp hp) a2 b2]
def bJ:List D->Res D
 |[.lst _ xs]=>match intsOf xs with|some ns=>if ns.length<64 then .ok (.lst .own ((sortI ns).map D.int)) else .bad|none=>.bad
 |_=>.bad
def rD:mH K Y (λ xs H Q=>∃ (a:Addr) (ns:#[6]),xs=[.ref a]/\eQ K H a (ns.map V.int)/\ns.length<64/\∀ (p:Addr) (ns':#[6]),H p=none->ns'.Perm ns->ns'.Pairwise (· <= ·)->Q (.ref p) (upd H p (.lst (ns'.map V.int)))) bJ:=by
 intro H0 B0 B H σ τ P F ds vs f Q I r k h;unfold bJ at h;split at h
 ·obtain⟨v,rfl,r'⟩:=lz r;obtain⟨a,ws,g,rfl,q,l,s⟩:=r'.lst I;split at h
  ·rename_i ns e;split at h
   ·rename_i hl;have ex:=iI e;subst ex;obtain⟨rfl,rfl⟩:=iH l;refine⟨a,ns,rfl,gy q,hl,λ p ns' hp h1 h2=>?_⟩;have e2:ns'=sortI ns:=ez (h1.trans (sortI_perm ns).symm) h2 (fg ns);subst e2;exact Out.zA h I (lZ _) gm.nil hp
   ·exact h.elim
  ·exact h.elim
 ·exact h.elim
end
def kT:D->Option Key|.int i=>some (.inl i)|.str x=>some (.inr x)|_=>none
def dY:List D->Option (List Key)
 |[]=>some []
 |d::r=>(kT d).bind λ k=>(dY r).map (k :: ·)
def fK:D->Option KT
 |.int i=>some (.inl (.inl i))
 |.str x=>some (.inl (.inr x))
 |.tup ds=>(dY ds).map .inr
 |_=>none
def KT.kind:KT->Bool|.inl _=>false|.inr _=>true
def eV:List KT->List D->KT->Option D
 |k::ks,d::ds,q=>if k=q then some d else eV ks ds q
 |_,_,_=>none
def qt (ks:List KT)(q:KT):Bool:=ks.any λ k=>decide (k=q)
def kE (ks:List KT)(q:KT):List KT:=if qt ks q=true then ks else ks++[q]
def Be:List KT->List D->KT->D->List D
 |k::ks,d::ds,q,x=>(if k=q then x else d)::Be ks ds q x
 |_,ds,_,_=>ds
def kD (ks:List KT)(ds:List D)(q:KT)(d:D):List D:=if qt ks q=true then Be ks ds q d else ds++[d]
section
variable {K:#[0]}
def Rep.dc (I:#[21]){t:Tg}{k:Bool}(r:Rep K B (· ∈ P) H (.dct t k ks xs) v f):∃ a vs g,v=.ref a/\DictAt H a k ks vs/\ak K B (· ∈ P) H xs vs g/\List.Sublist g f:=by
 cases t with
 | len a =>
  obtain⟨vs,g,e,q,r,z⟩:=r;subst z;exact⟨a,vs,g,e,q,r,R0 _ _⟩
 | own =>
  obtain⟨a,vs,g,e,q,r,z⟩:=r;subst z;exact⟨a,vs,g,e,q,r,R0 _ _⟩
 | bor =>
  obtain⟨a,vs,e,q,r,z⟩:=r;subst z;exact⟨a,vs,[],e,q.elim (λ y=>y.2) λ y=>y.mono I.bh,r,QI _⟩
 | aq =>
  obtain⟨a,vs,e,q,r,z⟩:=r;subst z;exact⟨a,vs,[],e,q.mono I.bh,r.mono #[49] #[49] (λ _ x=>x.elim),QI _⟩
def uC {S:#[17]}:∀ {ds:List D}{k:List Key}{vs:List V}{f:#[8]},dY ds=some k->ak K B S H ds vs f->vs=k.map kV
 |[],k,vs,f,h,r=>by cases h;exact r.1
 | d::ds,k,vs,f,h,r=>by
  obtain⟨v,w,f1,f2,rfl,r1,r2,_⟩:=r;unfold dY at h;cases e1:kT d with
  |none=>rw[e1]at h;cases h
  | some q =>
   rw[e1]at h;cases e2:dY ds with
   |none=>rw[e2]at h;cases h
   | some m =>
    rw[e2]at h;cases h;rw[uC e2 r2,PV]
    congr 1
    cases d<;>first|(cases e1;exact r1.1)|cases e1
def rG {S:#[17]}{k:Key}(h:fK d=some (.inl k))(r:Rep K B S H d v f):v=kV k:=by
 cases d with
 |int i=>cases h;exact r.1|str i=>cases h;exact r.1
 | tup ds =>
  have h:(dY ds).map Sum.inr=some (Sum.inl k):=h;cases e:dY ds<;>rw[e]at h<;>cases h
 |_=>cases h
def EJ {S:#[17]}{k:List Key}(h:fK d=some (.inr k))(r:Rep K B S H d v f):∃ b,v=.ref b/\H b=some (.tup (k.map kV)):=by
 cases d with
 | tup ds =>
  have h:(dY ds).map Sum.inr=some (Sum.inr k):=h;cases e:dY ds with
  |none=>rw[e]at h;cases h
  | some m =>
   rw[e]at h;cases h;obtain⟨a,vs,rfl,q,rl⟩:=r;rw[uC e rl]at q;exact⟨a,rfl,q⟩
 |int i=>cases h|str i=>cases h|_=>cases h
def l4 {κ:Type}[DecidableEq κ](ι:κ->KT)(inj:∀ a b,ι a=ι b->a=b){S:#[17]}:∀ {kvs:List (κ×V)}{xs:List D}{f:#[8]}{k:κ},ak K B S H xs (kvs.map (·.2)) f ->
  match eV (kvs.map λ p=>ι p.1) xs (ι k) with
  |some d=>∃ v g,jB kvs k=some v/\Rep K B S H d v g/\List.Sublist g f
  |none=>jB kvs k=none
 |[],xs,f,k,r=>by cases xs<;>rfl
 |p::kvs,[],f,k,r=>by obtain⟨h,_⟩:=r;cases h
 | p::kvs,d::ds,f,k,r=>by
  obtain⟨v,w,f1,f2,e,r1,r2,rfl⟩:=r;rw[PV]at e;cases e;rw[PV,eV];by_cases h:p.1=k
  ·rw[PH (Q3 ι h)];exact⟨_,f1,k9 h,r1,Qj _ _⟩
  ·rw[PL λ z=>h (inj _ _ z)];have ih:=l4 ι inj (k:=k) r2;split at ih
   ·rename_i d' e';obtain⟨v',g,h1,h2,h3⟩:=ih;exact⟨v',g,by rw[jC h];exact h1,h2,h3.trans (P6 _ _)⟩
   ·rename_i e';rw[jC h];exact ih
def HM{k:Bool}{g:#[8]}{q:KT}{dk:D}{y:V}(hd:DictAt H a k ks vs)(r:ak K B (· ∈ P) H xs vs g)(hk:fK dk=some q)(rk:Rep K B (· ∈ P) H dk y f)(hq:q.kind=k) :
  match eV ks xs q with
  |some d=>∃ v g',nI H a y (some v)/\Rep K B (· ∈ P) H d v g'/\List.Sublist g' g
  |none=>nI H a y none:=by
 rcases hd with ⟨rfl,kvs,ep,ha,rfl,rfl⟩|⟨rfl,kvs,ep,ha,rfl,rfl⟩
 ·cases q with
  |inr q=>cases hq
  | inl q =>
   have ev:=rG hk rk;subst ev;have ih:=l4 Sum.inl (λ a b h=>RX h) (k:=q) r;split at ih
   ·rename_i d e;rw[e];obtain⟨v,g',h1,h2,h3⟩:=ih;exact⟨v,g',h1▸nI.k ⟨ep,ha⟩,h2,h3⟩
   ·rename_i e;rw[e];exact ih▸nI.k ⟨ep,ha⟩
 ·cases q with
  |inl q=>cases hq
  | inr q =>
   obtain⟨b,rfl,hb⟩:=EJ hk rk;have ih:=l4 Sum.inr (λ a b h=>Sum.inr.inj h) (k:=q) r;split at ih
   ·rename_i d e;rw[e];obtain⟨v,g',h1,h2,h3⟩:=ih;exact⟨v,g',h1▸nI.t ⟨ep,ha⟩ hb,h2,h3⟩
   ·rename_i e;rw[e];exact ih▸nI.t ⟨ep,ha⟩ hb
def fB (k:Bool)(_:SD):Res D:=.ok (.dct .own k [] [])
def newDict{k:Bool}{pa:Addr}(h:Out K H0 B0 B H σ τ P F Q (.dct .own k [] []))(I:#[21])(hp:H pa=none)(ho:DictAt (upd H pa o) pa k [] []):Q (.ref pa) (upd H pa o):=by
 have s:=du (o:=o) hp;obtain⟨n1,n2,n3,n4⟩:=I.A4 hp;refine h (.ref pa) _ B [pa] (I.grow s) s #[49] ⟨pa,[],[],rfl,ho,⟨rfl,rfl⟩,rfl⟩ ⟨by simp,λ a m=>?_⟩;have e:a=pa:=by simpa using m
 subst e;exact⟨n1,n2,(by rw[aN];exact QW _),n3,n4⟩
def HP:PE X (.Dict [] [] pos) (tM X.K Y (fB true)):=PE.imp Ef λ σ H Q ⟨H0,B0,B,τ,P,F,I,h⟩ p hp=>newDict h I hp (.inr ⟨rfl,[],0,aN,rfl,rfl⟩)
def vL:PE X (.Dict [] [] pos) (tM X.K Y (fB false)):=PE.imp Ei λ σ H Q ⟨H0,B0,B,τ,P,F,I,h⟩ p hp=>newDict h I hp (.inl ⟨rfl,[],0,aN,rfl,rfl⟩)
variable {o i:Expr}{fo fi:#[28]}
def cQ (dd dk:D):Res D:=match dd with
 | .dct _ k ks vs=>match fK dk with
  |some q=>if q.kind=k then (match eV ks vs q with|some d=>.ok d|none=>.bad) else .bad
  |none=>.bad
 |_=>.bad
def iP (hu:X.A.units+1<cLine)(ho:PE X o (tM X.K Y fo))(hi:PE X i (tM X.K Y fi))(hs:Hv i):PE X (.Subscript o i pos) (tM X.K Y (af cQ fo fi)):=
 PE.imp (A2 hu ho hi hs) λ σ H Q hq=>ex8 hq λ H0 B0 B τ P F I h=>tM.tH I h λ d1 d2 v1 v2 H2 B2 f1 f2 _ _ I2 _ _ r1 r2 k h2=>by
  unfold cQ at h2;split at h2
  ·split at h2
   ·rename_i q hk;split at h2
    ·rename_i hq;obtain⟨a,vs,g,rfl,hd,rl,sg⟩:=r1.dc I2;have key:=HM hd rl hk r2 hq;split at key
     ·rename_i d e;rw[e]at h2;obtain⟨v,g',k1,k2,k3⟩:=key;exact⟨a,v,rfl,k1,Out.A5 h2 I2 k2 (k.left.sub (k3.trans sg))⟩
     ·rename_i e;rw[e]at h2;exact h2.elim
    ·exact h2.elim
   ·exact h2.elim
  ·exact h2.elim
def Rep.cj {t:Tg}{k:Bool}{S:#[17]}(ht:t.lu=true)(r:Rep K B S H (.dct t k ks xs) v fp) :
  ∃ a vs f,v=.ref a/\DictAt H a k ks vs/\ak K B S H xs vs f/\fp=a::f/\∀ {B' H':Hp}{S':#[17]}{ks':List KT}{xs':List D}{vs':List V}{f':#[8]},DictAt H' a k ks' vs'->ak K B' S' H' xs' vs' f'->Rep K B' S' H' (.dct t k ks' xs') (.ref a) (a::f'):=by
 cases t with
 |own=>obtain⟨a,vs,f,e,q,r,z⟩:=r;exact⟨a,vs,f,e,q,r,z,λ q' r'=>⟨a,_,_,rfl,q',r',rfl⟩⟩| len a=>obtain⟨vs,f,e,q,r,z⟩:=r;exact⟨a,vs,f,e,q,r,z,λ q' r'=>⟨_,_,rfl,q',r',rfl⟩⟩| bor=>cases ht|aq=>cases ht
def dB (τ:SD)(i:Nat):Option (Tg×Bool×List KT×List D):=match τ[i]? with|some (some (.dct t k ks xs))=>if t.lu=true then some (t,k,ks,xs) else none|_=>none
def m9{i:Nat}{t:Tg}{k:Bool}(h:dB τ i=some (t,k,ks,xs)):τ[i]?=some (some (.dct t k ks xs))/\t.lu=true:=by
 unfold dB at h;split at h
 ·rename_i e;split at h
  ·rename_i ht;cases h;exact⟨e,ht⟩
  ·cases h
 ·cases h
def xS {κ:Type}[DecidableEq κ](ι:κ->KT)(inj:∀ a b,ι a=ι b->a=b)(k:κ):∀ kvs:List (κ×V),qt (kvs.map λ p=>ι p.1) (ι k)=kvs.any λ kv=>decide (kv.1=k)
 |[]=>rfl
 | p::r=>by
  have ih:=xS ι inj k r;unfold qt at ih ⊢;rw[PV,Rx,Rx,ih]
  congr 1
  by_cases h:p.1=k
  ·simp[h]
  ·rw[PQ h,PQ λ z=>h (inj _ _ z)]
def zE {κ:Type}[DecidableEq κ](ι:κ->KT)(inj:∀ a b,ι a=ι b->a=b){kvs:List (κ×V)}{k:κ}(r:ak K B No H xs (kvs.map (·.2)) f)(rv:Rep K B No H d v fp)(hp:qt (kvs.map λ p=>ι p.1) (ι k)=true->d.pure=true) :
  kE (kvs.map λ p=>ι p.1) (ι k)=(putK kvs k v).map (λ p=>ι p.1)/\∃ f',ak K B No H (kD (kvs.map λ p=>ι p.1) xs (ι k) d) ((putK kvs k v).map (·.2)) f'/\(∀ b∈f',b∈f\/b∈fp)/\(f.Nodup->fp.Nodup->(∀ b∈fp,b∉f)->f'.Nodup):=by
 unfold kE kD putK;rw[xS ι inj k kvs]at hp ⊢;by_cases h:(kvs.any λ kv=>decide (kv.1=k))=true
 ·rw[PH h,PH h,PH h];have hpu:=hp h;have hfp:fp=[]:=nK.1 d hpu rv;subst hfp;refine⟨?_,?_⟩
  ·rw[Qq];refine Qo λ p _=>?_;show _=ι (if p.1=k then (p.1,v) else p).1;split<;>rfl
  ·have key:∀ {kvs:List (κ×V)}{xs:List D}{f:#[8]},ak K B No H xs (kvs.map (·.2)) f->∃ f',ak K B No H (Be (kvs.map λ p=>ι p.1) xs (ι k) d) ((kvs.map λ kv=>if kv.1=k then (kv.1,v) else kv).map (·.2)) f'/\List.Sublist f' f:=by
    intro kvs
    induction kvs with
    | nil=>intro xs f r; cases xs with
     |nil=>exact⟨f,r,QI _⟩| cons x xs=>obtain⟨_,_,_,_,e,_⟩:=r;cases e
    | cons p kvs ih =>
     intro xs f r;cases xs with
     |nil=>obtain⟨e,_⟩:=r;cases e
     | cons x xs =>
      obtain⟨u,w,f1,f2,e,r1,r2,rfl⟩:=r;rw[PV]at e;cases e;obtain⟨g,h1,h2⟩:=ih r2;rw[PV,PV,PV,Be];by_cases hk:p.1=k
      ·rw[PH hk,PH (Q3 ι hk)];exact⟨g,⟨v,_,[],g,rfl,rv,h1,rfl⟩,h2.trans (P6 _ _)⟩
      ·rw[PL hk,PL λ z=>hk (inj _ _ z)];exact⟨f1++g,⟨_,_,f1,g,rfl,r1,h1,rfl⟩,Tw (QI _) h2⟩
   obtain⟨g,h1,h2⟩:=key r;exact⟨g,h1,λ b m=>.inl (h2.subset m),λ n _ _=>n.sublist h2⟩
 ·rw[PL h,PL h,PL h];refine⟨by rw[PR];rfl,f++fp,?_,λ b m=>PC.mp m,λ n1 n2 n3=>PJ.mpr ⟨n1,n2,λ a ha b hb e=>n3 b hb (e▸ha)⟩⟩;rw[PR];exact r.append (ak.one rv)
def SI.K5 {i:Nat}{t:Tg}(ht:t.lu=true){k:Bool}{ks':List KT}{xs':List D}{gp:#[8]}{o':HO}(I:#[110])(hi:τ[i]?=some (some (.dct t k ks xs)))(ev:σ[i]?=some (some (.ref a)))(kv:gm H0 B H P No gp)(mu:∃ o,H a=some o/\tF o)
  (items:∀ vs f,DictAt H a k ks vs->ak K B No H xs vs f->∃ vs' f',DictAt (upd H a o') a k ks' vs'/\ak K B No H xs' vs' f'/\(∀ b∈f',b∈f\/b∈gp)/\(f.Nodup->(∀ b∈gp,b∉f)->f'.Nodup)) :
  ∃ P',jU K H0 B0 B H B (upd H a o') σ (τ.set i (some (.dct t k ks' xs'))) P':=by
 have hi':i<τ.length:=(Pw.mp hi).1;obtain⟨A,f,C,e,h1,h2⟩:=I.rep.cut hi';obtain⟨v,e1,r1⟩:=h1 _ hi;rw[ev]at e1;cases e1;obtain⟨a',ws,g,ea,hq,rl,ef,back⟩:=r1.cj ht;cases ea;subst ef;have nd0:=I.nd;rw[e]at nd0;have ndf:(a::g).Nodup:=(nd0.sublist (Qj _ _)).sublist (P6 _ _);have gdis:∀ b∈gp,b∉a::g:=λ b m z=>(kv.own b m).2.2.2.1 (by rw[e];exact c6 _ _ _ b z);obtain⟨vs',f',dq',r',s',n'⟩:=items ws g hq rl;obtain⟨na,ng⟩:=PN.mp ndf;have hna:a∉f':=λ m=>(s' a m).elim na λ z=>gdis a z Pp;have es:σ.set i (some (.ref a))=σ:=by
  refine QQ λ k=>?_;by_cases hk:k=i
  ·subst hk;rw[QA (Pw.mp ev).1,ev]
  ·rw[QH (QK hk)]
 have kp:jF H (upd H a o') [a]:=⟨λ b o h n=>by rw[aH (by simpa using n)];exact h,λ b m=>by
  have:b=a:=by simpa using m
  subst this;exact mu⟩
 have kpf:jF H (upd H a o') (a::g):=⟨λ b o h n=>kp.keep b o h (λ z=>n (PB.mpr (.inl (Qw.mp z)))),λ b m=>I.rep.own b (by rw[e];exact c6 _ _ _ b m)⟩;have key:=I.put (i:=i) (H1:=upd H a o') (d':=.dct t k ks' xs') (v':=.ref a) (f':=a::f') hi' e h2 kpf (back dq' (r'.keep kp λ b m=>by
   have:b≠a:=λ z=>hna (z▸m);simpa using this)) (PN.mpr ⟨hna,n' ng λ b m z=>gdis b m (Pn _ z)⟩) λ b m=>?_
 ·rw[es]at key;exact⟨_,key,au.refl _,λ b o h n=>kp.xE h n⟩
 ·rcases PB.mp m with q|q
  ·exact .inl (by simp[q])
  ·rcases s' b q with z|z
   ·exact .inl (Pn _ z)
   ·obtain⟨a1,a2,a3,a4,a5⟩:=kv.own b z;exact .inr (.inr ⟨a4,a1,a2,a5⟩)
def fL (i:Nat)(fk fv:#[28])(τ:SD):Fl:=(fv τ).jo τ λ d=>match dB τ i with
 | some (t,k,ks,xs)=>(fk τ).jo τ λ dk=>match fK dk with
  |some q=>if q.kind=k/\d.aD=false/\ks.length<16777216/\(qt ks q=true->d.pure=true) then .nx (τ.set i (some (.dct t k (kE ks q) (kD ks xs q d)))) else .bad
  |none=>.bad
 |none=>.bad
def EI (i:Nat){ke value:Expr}{fk fv:#[28]}(hu:X.A.units+1<cLine)(hk:PE X ke (tM X.K Y fk))(hv:PE X value (tM X.K Y fv))(hN:#[69]:=by rfl)(hvi:#[98]:=by first|exact Or.inl rfl|exact Or.inr (Or.inl rfl)|exact Or.inr (Or.inr rfl))(hd:#[2]:=by decide)(hcd:#[29]:=by decide)
  (hs:swapsWith value (some (.Subscript #[59] ke pos')) pos.line X.env=pure false:=by rfl):PS X (.Assign [.Subscript #[59] ke pos'] value pos) (iZ X.K Y (fL i fk fv)):=by
 refine PS.imp (A1 hu (dH hN hvi hd hcd) hk hv hs) λ E σ H hq=>ex7 hq λ H0 B0 B τ P I h=>?_;refine lB I h λ d v H1 B1 fp _ I1 s1 b1 r1 k1 h1=>?_;cases z:dB τ i with
 |none=>rw[z]at h1;exact h1.elim
 | some t =>
  obtain⟨t,k,ks,xs⟩:=t;rw[z]at h1;obtain⟨hi,ht⟩:=m9 z;obtain⟨w,f,e1,r2,sf⟩:=I1.rep.get hi;obtain⟨a,ws,g,rfl,dq,rl,ef,_⟩:=r2.cj ht;refine⟨.ref a,e1,?_⟩;refine⟨H0,B0,B1,τ,P,_,I1.hold k1,?_⟩;simp only at h1;cases y:fk τ with
  |eB C=>rw[y]at h1;exact λ H2 B2 I2 s2 b2=>h1 B2 H2 σ P (jU.grow (I2.tE λ _ x=>x.elim) b2 s2)
  |bad=>rw[y]at h1;exact h1
  | ok dk =>
   rw[y]at h1;intro vk H2 B2 fq I2 s2 b2 rk kk;have I3:SI X.K H0 B0 B2 H2 σ τ P No:=I2.tE λ _ x=>x.elim;have h2:=cy.later h1 (jU.grow I3 b2 s2);simp only[Res.jo]at h2;cases hkk:fK dk with
   |none=>rw[hkk]at h2;exact h2.elim
   | some q =>
    rw[hkk]at h2;simp only at h2;split at h2
    ·rename_i hc;obtain⟨c1,c2,c3,c4⟩:=hc;have kv:gm H0 B2 H2 P No fp:=⟨k1.nd,λ a m=>let ⟨_,a2,_,a4,a5⟩:=k1.own a m;⟨(I2.fr a (.inl m)).1,a2,(I2.fr a (.inl m)).2,a4,a5⟩⟩;have rd:=(r1.gu c2).mono s2 b2 λ _ x=>x;have dq2:=dq.mono s2;have rl2:=rl.mono s2 b2 λ _ x=>x;have mu:∃ o,H2 a=some o/\tF o:=by
      rcases dq2 with ⟨_,kvs,ep,q,_⟩|⟨_,kvs,ep,q,_⟩
      ·exact⟨_,q,trivial⟩
      ·exact⟨_,q,trivial⟩
     rcases dq2 with ⟨rfl,kvs,ep,ha,hks,hws⟩|⟨rfl,kvs,ep,ha,hks,hws⟩
     ·cases q with
      |inr q=>cases c1
      | inl q =>
       have ev:=rG hkk rk;subst ev;subst hks hws;have A:∀ en:Nat,∃ P',_:=λ en=>I3.K5 ht (o':=.dK (putK kvs q v) en) (ks':=kE #[52] (.inl q)) (xs':=kD #[52] xs (.inl q) d) hi e1 kv mu λ vs f hda hr=>by
        rcases hda with ⟨_,kvs',ep',q1,q2,q3⟩|⟨q0,_⟩
        ·rw[ha]at q1;cases q1;subst q3;obtain⟨p1,f',p2,p3,p4⟩:=zE Sum.inl (λ a b h=>RX h) (k:=q) hr rd c4;exact⟨_,f',.inl ⟨rfl,_,en,aN,p1,rfl⟩,p2,p3,λ n1 n2=>p4 n1 kv.nd n2⟩
        ·cases q0
       exact⟨a,rfl,.inl ⟨kvs,q,⟨ep,ha⟩,rfl,(by rw[Qx];simpa using c3),λ en=>let ⟨P',A'⟩:=A en;h2 B2 _ σ P' A'⟩⟩
     ·cases q with
      |inl q=>cases c1
      | inr q =>
       obtain⟨b,rfl,hb⟩:=EJ hkk rk;subst hks hws;have A:∀ en:Nat,∃ P',_:=λ en=>I3.K5 ht (o':=.dT (putK kvs q v) en) (ks':=kE (kvs.map λ p=>Sum.inr p.1) (.inr q)) (xs':=kD (kvs.map λ p=>Sum.inr p.1) xs (.inr q) d) hi e1 kv mu λ vs f hda hr=>by
        rcases hda with ⟨q0,_⟩|⟨_,kvs',ep',q1,q2,q3⟩
        ·cases q0
        ·rw[ha]at q1;cases q1;subst q3;obtain⟨p1,f',p2,p3,p4⟩:=zE Sum.inr (λ a b h=>Sum.inr.inj h) (k:=q) hr rd c4;exact⟨_,f',.inr ⟨rfl,_,en,aN,p1,rfl⟩,p2,p3,λ n1 n2=>p4 n1 kv.nd n2⟩
       exact⟨a,rfl,.inr ⟨kvs,q,b,⟨ep,ha⟩,rfl,hb,(by rw[Qx];simpa using c3),λ en=>let ⟨P',A'⟩:=A en;h2 B2 _ σ P' A'⟩⟩
    ·exact h2.elim
end
section
variable {P:#[84]}{K:#[0]}
def HQ{k:Nat}(D:kP K mg x st ps):mY P w K mg base k x ps (jy K λ _=>.bad):=by
 obtain⟨f,fd,F,hm,hb⟩:=D.ex;exact⟨f,fd,hm,F.kp,hb,λ vs H Q E h=>by obtain⟨_,_,_,_,h⟩:=h;exact h.elim,λ A outer s H args us vs Q E hr he hbd hv h=>by obtain⟨_,_,_,_,h⟩:=h;exact h.elim⟩
def bZ{k m:Nat}{g:SF}(D:kP K mg x st ps)(S:aP N ps (av st))(hn:ps.length=n)(hm:N.length=m)
  (hbody:∀ (f:Addr) (cdv:Value) (A:Around) (outer:List Env) (s:Shared) (H:Hp),fG k #[75] ->
   lR (mw yW P w K mg base N x (av st) f cdv A outer s H E0).Ju (dR st) (iZ K xG g)):mY P w K mg base (k+1) x ps (jy K (bM n m g)):=by
 subst hn hm;exact K3 D S hbody
def EK{k m:Nat}{g:SF}{f:Addr}{fd:FuncData}(D:Hw K x x st f fd)(S:aP N ps (av st))(hn:ps.length=n)(hm:N.length=m)
  (hbody:∀ (f:Addr) (cdv:Value) (A:Around) (outer:List Env) (s:Shared) (H:Hp),fG k #[75] ->
   lR (mw yW P w K mg base N x (av st) f cdv A outer s H E0).Ju (dR st) (iZ K xG g)):oY P w K mg base yW (k+1) f fd ps (jy K (bM n m g)):=by
 subst hn hm;exact Bc D S hbody
def K7 {h:Heap}{f:Addr}{oc:Value}{od an:Option Addr}{osl:Array (Option Value)}{kV doc pm cdv ct:Value}(KX:K.In h)(G:h.Ns mainGlobals mg)(a:PySem.W.nsIn K mainGlobals x=some (some (.ref f)))
  (l:K.lookup f=some ⟨oc,od,.func (PySem.W.fnOf x x (i7 st) (dR st) (av st) .none kV doc pm an cdv ct),osl⟩) (c:PySem.W.codeIn K cdv x=true) (k:PySem.W.keepIn K (.ref f)=true)
  (hb:∀ (kV doc pm:Value) (an:Option Addr) (cdv ct:Value) (us:#[22]),us.length=ps.length->bindArgs (PySem.W.fnOf x x (i7 st) (dR st) (av st) .none kV doc pm an cdv ct) ⟨us,[]⟩=pure (ps.zip us)):kP K mg x st ps:=
 ⟨f,_,zw l c k,PySem.W.mg_of KX G a,(zw l c k).binds hb⟩
def K6{ns:#[6]}(hS:eQ K H a (ns.map V.int))(h:G [.lst .aq #[85]]=.ok (.bl true)):jy K G [.ref a] H (λ v _=>v=.bl true) λ _ _ _=>False:=by
 refine⟨H,[.lst .aq #[85]],au.refl _,ak.one ⟨a,_,rfl,hS,lZ ns,rfl⟩,?_⟩;rw[h];exact λ B' H' v fp r=>r.rep.1
end
def ah (ns:#[6]):aT #[85]=true:=bK λ d hd=>by obtain⟨n,_,rfl⟩:=PF.mp hd;rfl
@[simp] theorem Me (ns:#[6]):c5 #[85]=ns.map D.int:=gF _ (ah ns)
@[simp] theorem bG (ns:#[6]):aG #[85]=ns.map D.int:=d9 _ (ah ns)
@[simp] theorem nU (ns:#[6]):aB #[85]=false:=bB _ (ah ns)
@[simp] theorem M1 (ns:#[6]):bR #[85]=false:=j8 _ (ah ns)
@[simp] theorem K9 (ns:#[6]):bW #[85]=ns.map D.int:=gf _ (ah ns)
@[simp] theorem Le (ns:#[6]):cF #[85]=ns.map D.int:=jH _ (nU ns)
@[simp] theorem ints_map (ns:#[6]):intsOf #[85]=some ns:=f7 ns
@[simp] theorem Lf (τ:SD)(s:SF):(Fl.nx τ).andThen s=s τ:=rfl
@[simp] theorem K8 (d:D)(s:SF):(Fl.rt d).andThen s=.rt d:=rfl
@[simp] theorem Ld (τ:SD)(s:SF):(Fl.bk τ).andThen s=.bk τ:=rfl
@[simp] theorem La (τ:SD)(s:SF):(Fl.ct τ).andThen s=.ct τ:=rfl
@[simp] theorem Lb (C:PySem.Addr)(τ:SD)(s:SF):(Fl.ex C τ).andThen s=.ex C τ:=rfl
@[simp] theorem JJ (s:SF):Fl.bad.andThen s=.bad:=rfl
@[simp] theorem iD (τ:SD)(d:D)(k:D->Fl):(Res.ok d).jo τ k=k d:=rfl
@[simp] theorem M4 (τ:SD)(C:PySem.Addr)(k:D->Fl):(Res.eB C:Res D).jo τ k=.ex C τ:=rfl
@[simp] theorem M3 (τ:SD)(k:D->Fl):(Res.bad:Res D).jo τ k=.bad:=rfl
@[simp] theorem nV (τ:SD)(d:Bool)(k:Bool->Fl):(Res.ok d).rC τ k=k d:=rfl
@[simp] theorem Mf (τ:SD)(C:PySem.Addr)(k:Bool->Fl):(Res.eB C:Res Bool).rC τ k=.ex C τ:=rfl
@[simp] theorem Mc (τ:SD)(k:Bool->Fl):(Res.bad:Res Bool).rC τ k=.bad:=rfl
@[simp] theorem NN:(Res.bad:Res D).NK=.bad:=rfl
@[simp] theorem OA (d:D):(Fl.rt d).out=.ok d:=rfl
@[simp] theorem Ox (τ:SD):(Fl.nx τ).out=.ok .a8:=rfl
@[simp] theorem Oz (C:PySem.Addr)(τ:SD):(Fl.ex C τ).out=.eB C:=rfl
@[simp] theorem NO:Fl.bad.out=.bad:=rfl
def aZ{a b:#[28]}{x y:D}(ha:a τ=.ok x)(hb:b τ=.ok y):af g a b τ=g x y:=by unfold af;rw[ha,hb];rfl
def JI{a:SF}{t:Bool}(h:c τ=.ok t):dD c a b τ=if t=true then a τ else b τ:=by unfold dD;rw[h];rfl
def gI(h:n<=1000000000):lY [.int n]=.ok (false,#[57].map λ k:Nat=>.int k):=by
 have h1 : -1000000000<=(n:Int)/\(n:Int)<=1000000000:=by omega
 simp[lY,h1]
def aC {a:SF}{τ':SD}(h:a τ=.nx τ'):aA a b τ=b τ':=by unfold aA;rw[h];rfl
def vM {a:SF}(Q:Fl->Prop)(τ':SD)(h:a τ=.nx τ')(k:Q (b τ')):Q (aA a b τ):=by rw[aC h];exact k
def aO{e:#[28]}(h:e τ=.ok d)(hb:d.aD=false):aQ i e τ=.nx (τ.set i (some d)):=by
 unfold aQ jq;rw[h,iD,hb];rfl
def l5{e:#[28]}(Q:Fl->Prop)(d:D)(h:e τ=.ok d)(hb:d.aD=false)(k:Q (b (τ.set i (some d)))):Q (aA (aQ i e) b τ):=vM Q _ (aO h hb) k
def uD{e:#[28]}(Q:Fl->Prop)(Pd:D->Prop)(hc:∃ t,c τ=.ok t/\(t=true->∃ d,e τ=.ok d/\d.aD=false/\Pd d))(h0:∃ d,τ[i]?=some (some d)/\Pd d)(k:∀ d,Pd d->Q (b (τ.set i (some d)))):Q (aA (dD c (aQ i e) aR) b τ):=by
 obtain⟨t,h1,h2⟩:=hc;cases t with
 | true =>
  obtain⟨d,h3,h4,h5⟩:=h2 rfl;refine vM Q (τ.set i (some d)) ?_ (k d h5);unfold dD;rw[h1,nV,PH rfl];exact aO h3 h4
 | false =>
  obtain⟨d,h3,h5⟩:=h0;have es:τ.set i (some d)=τ:=by
   refine QQ λ k=>?_;by_cases hk:k=i
   ·subst hk;rw[QA (Pw.mp h3).1,h3]
   ·rw[QH (QK hk)]
  refine vM Q (τ.set i (some d)) ?_ (k d h5);unfold dD;rw[h1,nV,PL Pq,es];rfl
def CS{a:SF}(Q:Fl->Prop)(hc:∃ t,c τ=.ok t/\(t=true->∃ d,a τ=.rt d/\Q (.rt d))/\(t=false->Q (b τ))):Q (aA (dD c a aR) b τ):=by
 obtain⟨t,h1,h2,h3⟩:=hc;cases t with
 | true =>
  obtain⟨d,h4,h5⟩:=h2 rfl;have:aA (dD c a aR) b τ=.rt d:=by
   unfold aA dD;rw[h1,nV,PH rfl,h4];rfl
  rw[this];exact h5
 | false =>
  refine vM Q τ ?_ (h3 rfl);unfold dD;rw[h1,nV,PL Pq];rfl
def EL{xs:List α}{i:Int}{j:Nat}{v:α}(hi:i=j)(h:xs[j]?=some v):tw xs i=some v:=by subst hi;exact Hl h
def Bg {tg:xg}{body:SF}(st:Nat->SD):∀ {ds:List D} (i:Nat),(∀ j d,ds[j]?=some d->∃ τ',tg d (st (i+j))=some τ'/\body τ'=.nx (st (i+j+1)))->cg tg body ds (st i)=.nx (st (i+ds.length))
 |[],i,_=>rfl
 | d::r,i,h=>by
  obtain⟨τ',h1,h2⟩:=h 0 d rfl;unfold cg;simp only[Nat.add_zero]at h1 h2;rw[h1];simp only[h2];have ih:=Bg st (ds:=r) (i+1) λ j e he=>by
   have:=h (j+1) e (by simpa using he);rw[show i+(j+1)=i+1+j by omega]at this;exact this
  rw[ih,PU]
  congr 2
  omega
def jK {tg:xg}{body:SF}(Pv:Nat->SD->Prop):∀ {ds:List D} (i:Nat) (τ:SD),Pv i τ->(∀ j d τ,ds[j]?=some d->Pv (i+j) τ->∃ τ' t,tg d τ=some τ'/\(body τ'=.nx t\/body τ'=.ct t)/\Pv (i+j+1) t)->∃ t,cg tg body ds τ=.nx t/\Pv (i+ds.length) t
 |[],i,τ,h0,_=>⟨τ,rfl,h0⟩
 | d::r,i,τ,h0,h=>by
  obtain⟨τ',t,h1,h2,h3⟩:=h 0 d τ rfl h0;have ih:=jK Pv (ds:=r) (i+1) t h3 λ j e τ he hp=>by
   have:=h (j+1) e τ (by simpa using he) (by rw[show i+(j+1)=i+1+j by omega];exact hp);rw[show i+(j+1)=i+1+j by omega]at this;exact this
  obtain⟨u,h4,h5⟩:=ih;refine⟨u,?_,by rw[PU,show i+(r.length+1)=i+1+r.length by omega];exact h5⟩;unfold cg;rw[h1];rcases h2 with h2|h2<;>(simp only[h2];exact h4)
def uE {tt:#[66]}{elt:#[28]}{caps:SD}(p:D->Bool)(f:D->D):∀ {ds:List D} (o:#[95]),(∀ d∈ds,tt (some d::caps)=.ok (p d))->(∀ d∈ds,p d=true->elt (some d::caps)=.ok (f d)/\(f d).aD=false)->gY (gN 0) tt elt ds (o::caps)=.ok ((ds.filter p).map f)
 |[],o,_,_=>rfl
 | d::r,o,ht,he=>by
  have ih:=uE p f (ds:=r) (some d) (λ e m=>ht e (Pn _ m)) λ e m=>he e (Pn _ m);unfold gY;simp only[gN,List.set_cons_zero];rw[ht d Pp];simp only[Res.aK];by_cases hp:p d=true
  ·obtain⟨h1,h2⟩:=he d Pp hp;simp only[hp,RE,h1,Res.aK,h2,Qc,RL,ih];rw[List.filter_cons_of_pos hp,PV]
  ·simp only[hp,RL,ih,Qc];rw[List.filter_cons_of_neg hp]
def CQ{caps:SD}(f:D->D)(o:#[95])(he:∀ d∈ds,elt (some d::caps)=.ok (f d)/\(f d).aD=false):gY (gN 0) cT elt ds (o::caps)=.ok (ds.map f):=by
 have:=uE (tt:=cT) (λ _=>true) f o (λ d _=>rfl) λ d m _=>he d m;rw[List.filter_eq_self.mpr λ _ _=>rfl]at this;exact this
def zF(h:G (aG ds)=.ok d)(hp:d.pure=true):eU G ds=.ok d:=by
 unfold eU;rw[h];split
 ·simp[qY d hp]
 ·rfl
def CT(h:G (aG ds)=.ok d)(hb:aB ds=false):eU G ds=.ok d:=by
 unfold eU;rw[h,hb];rfl
def dE{fs:#[40]}(ha:fs τ=.ok ds)(h:G (aG ds)=.ok d)(hp:d.pure=true):aE G fs τ=.ok d:=by
 unfold aE;rw[ha];exact zF h hp
def dj{fs:#[40]}(ha:fs τ=.ok ds)(h:G (aG ds)=.ok d)(hb:aB ds=false):aE G fs τ=.ok d:=by
 unfold aE;rw[ha];exact CT h hb
def uF{cap:List (PySem.Str×Nat)}{fl:Bool}(f:D->D)(hit:it τ=.ok (fl,ds))(he:∀ d∈aG ds,elt (some d::fE τ cap)=.ok (f d)/\(f d).pure=true)(hl:ds.length<=16777216) :
  bo it (gN 0) cT elt 1 cap τ=.ok (.lst .own ((aG ds).map f)):=by
 have hp:aT ((aG ds).map f)=true:=bK λ d m=>by
  obtain⟨x,hx,rfl⟩:=PF.mp m;exact(he x hx).2
 have hl':((aG ds).map f).length<=16777216:=by rw[Pk,qB,Pk];exact hl
 have hc:gY (gN 0) cT elt (aG ds) (List.replicate 1 none++fE τ cap)=.ok ((aG ds).map f):=CQ f none λ d m=>⟨(he d m).1,aV _ (he d m).2⟩;unfold bo;rw[hit,Res.aK];simp only[hc,PH hl',gf _ hp,ite_self]
def AY (n d a:Nat):HT.fX n d (some (a:Int))=min a n:=by
 unfold HT.fX;have h:¬ (a:Int)<0:=by omega
 simp only[h,RL];omega
def xT(xs:List α)(a:Nat):cut xs (some (a:Int)) none=xs.drop a:=by
 unfold cut;rw[AY,show HT.fX xs.length xs.length none=xs.length from rfl];by_cases h:a<=xs.length
 ·rw[To h,SH #[25]]
 ·rw[R1 (by omega:xs.length<=a),R1 #[1],List.take_nil]
def Lc(xs:List α)(a:Nat):cut xs none (some (a:Int))=xs.take a:=by
 unfold cut;rw[AY,show HT.fX xs.length 0 none=0 from rfl,List.drop_zero,Nat.sub_zero];by_cases h:a<=xs.length
 ·rw[To h]
 ·rw[Ur #[1],SH (Py _),SH #[1]]
def cJ(h:aT xs=true):(D.lst .own xs).aD=false:=by
 show(false||aB xs)=false;rw[bB xs h];rfl
def fC {g:List D->Res D}{f:#[40]}(h:f τ=.ok ds):eA g f τ=g ds:=by unfold eA;rw[h];rfl
def aI {f:#[28]}{g:#[40]}(h1:f τ=.ok d)(h2:g τ=.ok ds):ae f g τ=.ok (d::ds):=by unfold ae;rw[h1,h2];rfl
def cG {f:#[28]}(h1:f τ=.ok d):ae f ao τ=.ok [d]:=aI h1 rfl
def dS {e:#[28]}(h:e τ=.ok d)(hb:d.aD=false):bA e τ=.rt d:=by unfold bA;rw[h,iD,xM d hb]
def c7(h:τ[i]?=some (some d))(hp:d.pure=true):aa i τ=.ok d:=by unfold aa;rw[h];simp[uq d hp]
def cf(h:τ[i]?=some (some (.lst .aq xs)))(hp:aT xs=true):aa i τ=.ok (.lst .aq xs):=by unfold aa;rw[h];simp[D.view,Tg.view,gF xs hp]
def fU(h:#[108])(hp:aT xs=true):aa i τ=.ok (.lst .bor xs):=by unfold aa;rw[h];simp[D.view,Tg.view,gF xs hp]
end DL
namespace L2
open PySem PySem.Spec PyProof.Rows
variable {a l l1 l2:Addr}{A:Around}{xs:#[132]}{b:Bool}{X:Cx}{prog:#[84]}{s:Shared}{E:#[4]}{w:World}
structure nc (a it:Addr)(its:Array Value)(seq:Heap->Prop)(nx:Nat->Obj->Prop):Prop where
 ext:∀ {h h':Heap},seq h->(∀ o,h.get? a=some o->h'.get? a=some o)->seq h'
 item:∀ {P:#[84]}{w:World}{A:Around}{E:#[4]}{s:Shared}{i:Nat}{x:Value}{Q:#[4]},seq s.heap->(∃ o,s.heap.get? it=some o/\nx i o)->its[i]?=some x ->
  (∀ h',(∃ o,h'.get? it=some o/\nx (i+1) o)->Heap.SameBut it s.heap h'->Q x { s with heap:=h' })->wpAny (model P w) A #[78] Q E s
 done:∀ {P:#[84]}{w:World}{A:Around}{E:#[4]}{s:Shared}{i:Nat}{Q:#[4]},A.handled=none->seq s.heap->(∃ o,s.heap.get? it=some o/\nx i o)->its[i]?=none ->
  (∀ h' e,Heap.ExtBut it s.heap h'->(∃ o,h'.get? e=some o/\o.cls=.type "StopIteration")->E (.ref e) { s with heap:=h' })->wpAny (model P w) A #[78] Q E s
abbrev OX (a:Addr)(i:Nat)(o:Obj):Prop:=o.cls=.type "list_iterator" /\ o.data=.fields #[.ref a,.int i 0]
abbrev OW (a:Addr)(i:Nat)(o:Obj):Prop:=o.cls=.type "tuple_iterator" /\ o.data=.fields #[.ref a,.int i 0]
def EN (a it:Addr)(its:#[132]):nc a it its (λ h=>h.IsList a its) (OX a) where
 ext:=λ x k=>x.at k
 item:=λ hs ⟨o,h1,h2,h3⟩ hx hQ=>wpAny_nextOf_list_item ⟨o,h1,h2,h3⟩ hs hx λ h' st sb=>hQ h' st sb
 done:=λ hh hs ⟨o,h1,h2,h3⟩ hx hE=>wpAny_nextOf_list_end hh ⟨o,h1,h2,h3⟩ hs hx hE
def HR (a it:Addr)(its:#[132]):nc a it its (λ h=>h.IsTuple a its) (OW a) where
 ext:=λ ⟨o,h1,h2⟩ k=>⟨o,k o h1,h2⟩
 item:=λ hs ⟨o,h1,h2,h3⟩ hx hQ=>ky ⟨o,h1,h2,h3⟩ hs hx λ h' st sb=>hQ h' st sb
 done:=λ hh hs ⟨o,h1,h2,h3⟩ hx hE=>lj hh ⟨o,h1,h2,h3⟩ hs hx hE
section
variable{z TI TO i1 i2:Addr}{k:Nat}{ys:#[132]}{a b:Value}{seq1 tH:Heap->Prop}{nx1 nx2:Nat->Obj->Prop}
def CU {x y:Value}{Q:#[131]}(S1:nc l1 i1 xs seq1 nx1)(S2:nc l2 i2 ys tH nx2)(D:ZipApart z TI TO i1 i2 l1 l2)(hz:IsZip s.heap z TI TO .none)(hI:IsPair s.heap TI (.ref i1) (.ref i2))(hO:IsPair s.heap TO a b)
  (h1:∃ o,s.heap.get? i1=some o/\nx1 k o) (h2:∃ o,s.heap.get? i2=some o/\nx2 k o) (hl1:seq1 s.heap) (hl2:tH s.heap) (hx:xs[k]?=some x) (hy:ys[k]?=some y)
  (hQ:∀ h',IsZip h' z TI TO (rawInt s.heap.objs.size)->IsPair h' TO x y->(∃ o,h'.get? i1=some o/\nx1 (k+1) o)->(∃ o,h'.get? i2=some o/\nx2 (k+1) o)->IsPair h' s.heap.objs.size x y ->
   (∀ c o,c≠z->c≠TO->c≠i1->c≠i2->s.heap.get? c=some o->h'.get? c=some o)->Q (some #[42]) { s with heap:=h' }):wpAny (model prog w) A (pyNext (.ref z)) Q E s:=by
 have hT:s.TypeIs (.ref z) "zip" :=⟨_,hz,rfl⟩;unfold pyNext;refine Ph (QZ (Qf (name:=Str.ofString "__next__") hT Tp (Qg Tp hT F.entry_zip_next ?_ (F.args_zip_next_1 _))));show wpAny _ _ (field (.ref z) 2 >>= _) _ _ _;refine Ph (Qh hz rfl (x:=.bool false) rfl (show wpAny _ _ (field (.ref z) 3 >>= _) _ _ _ from Ph (Qh hz rfl (x:=.ref TI) rfl (Ph (Q7 hI rfl ?_)))));show wpAny _ _ (Builtin.SmallTypes.ownedTupleIsFree (.ref z) >>= _) _ _ _;refine Ph ?_;unfold Builtin.SmallTypes.ownedTupleIsFree;refine Ph (Qh hz rfl (x:=.none) rfl (Po ?_));simp only[RE];refine Ph (RP (Ph (Qh hz rfl (x:=.ref TO) rfl (Ph (Qa hz #[25] λ g1 hz1 hs1=>?_)))));replace hz1:IsZip g1 z TI TO .ellipsis:=hz1;refine Ph ?_;simp only[List.zipIdx_cons,List.zipIdx_nil,Tj,TR];refine Ph (Ph (Uo (show wpAny _ _ (Builtin.SmallTypes.nextOf (.ref i1) >>= _) _ _ _ from Ph (S1.item (S1.ext hl1 λ o q=>hs1.extBut _ _ D.l1z q) (h1.imp λ o q=>⟨hs1.extBut _ _ D.i1z q.1,q.2⟩) hx λ g2 h12 hs2=>Po ?_))));have hO2:IsPair g2 TO a b:=hs2.extBut _ _ D.TOi1 (hs1.extBut _ _ D.TOz hO);refine Ph (Q7 hO2 rfl (Ph (Te hO2 λ g3 hO3 hs3=>?_)));replace hO3:IsPair g3 TO x b:=hO3;refine Ph (Uh (Po (Ph (Ph (Uo (show wpAny _ _ (Builtin.SmallTypes.nextOf (.ref i2) >>= _) _ _ _ from Ph (S2.item (S2.ext hl2 λ o q=>hs3.extBut _ _ D.l2TO (hs2.extBut _ _ D.l2i1 (hs1.extBut _ _ D.l2z q))) (h2.imp λ o q=>⟨hs3.extBut _ _ D.TOi2.symm (hs2.extBut _ _ D.i12.symm (hs1.extBut _ _ D.i2z q.1)),q.2⟩) hy λ g4 h24 hs4=>Po ?_)))))));have hO4:IsPair g4 TO x b:=hs4.extBut _ _ D.TOi2 hO3;refine Ph (Q7 hO4 rfl (Ph (Te hO4 λ g5 hO5 hs5=>?_)));replace hO5:IsPair g5 TO x y:=hO5;refine Ph (Uh (Po (Po (Ph (Q7 hO5 rfl (Ph (TU ?_)))))));have sz:g5.objs.size=s.heap.objs.size:=by rw[hs5.1,hs4.1,hs3.1,hs2.1,hs1.1]
 have hz5:IsZip g5 z TI TO .ellipsis:=hs5.extBut _ _ D.TOz.symm (hs4.extBut _ _ D.i2z.symm (hs3.extBut _ _ D.TOz.symm (hs2.extBut _ _ D.i1z.symm hz1)));have kp:∀ c o,c≠z->c≠TO->c≠i1->c≠i2->s.heap.get? c=some o->g5.get? c=some o:=λ c o c1 c2 c3 c4 e=>hs5.extBut _ _ c2 (hs4.extBut _ _ c4 (hs3.extBut _ _ c2 (hs2.extBut _ _ c3 (hs1.extBut _ _ c1 e))));have n1:∃ o,g5.get? i1=some o/\nx1 (k+1) o:=h12.imp λ o q=>⟨hs5.extBut _ _ D.TOi1.symm (hs4.extBut _ _ D.i12 (hs3.extBut _ _ D.TOi1.symm q.1)),q.2⟩;have n2:∃ o,g5.get? i2=some o/\nx2 (k+1) o:=h24.imp λ o q=>⟨hs5.extBut _ _ D.TOi2.symm q.1,q.2⟩;have zlt:z<g5.objs.size:=Px hz5;show wpAny _ _ (Builtin.SmallTypes.ownedTupleHandOut (.ref z) (.ref g5.objs.size) >>= _) _ _ _;refine Ph ?_;unfold Builtin.SmallTypes.ownedTupleHandOut;have hz6:IsZip (g5.push { cls:=.type "tuple",data:=.seq #[x,y] }) z TI TO .ellipsis:=Pj _ hz5;refine Ph (Qa hz6 #[25] λ g7 hz7 hs7=>?_);replace hz7:IsZip g7 z TI TO (rawInt g5.objs.size):=hz7;refine Qa hz7 #[25] λ g8 hz8 hs8=>?_;replace hz8:IsZip g8 z TI TO (rawInt g5.objs.size):=hz8;have up:∀ c o,c≠z->g5.get? c=some o->g8.get? c=some o:=λ c o c1 e=>hs8.extBut _ _ c1 (hs7.extBut _ _ c1 (Pj _ e));have hT8:IsPair g8 g5.objs.size x y:=hs8.extBut _ _ (Rj zlt) (hs7.extBut _ _ (Rj zlt) (Pu _ rfl));rw[sz]at hz8 hT8;refine Po ⟨_,rfl,Po ?_⟩;show Q (some (.ref g5.objs.size)) _;rw[sz];exact hQ g8 hz8 (up _ _ D.TOz hO5) (n1.imp λ o q=>⟨up _ o D.i1z q.1,q.2⟩) (n2.imp λ o q=>⟨up _ o D.i2z q.1,q.2⟩) hT8 λ c o c1 c2 c3 c4 e=>up c o c1 (kp c o c1 c2 c3 c4 e)
def EM {Q:#[131]}(hh:A.handled=none)(S1:nc l1 i1 xs seq1 nx1)(S2:nc l2 i2 ys tH nx2)(D:ZipApart z TI TO i1 i2 l1 l2)(hz:IsZip s.heap z TI TO .none)(hI:IsPair s.heap TI (.ref i1) (.ref i2))(hO:IsPair s.heap TO a b)
  (h1:∃ o,s.heap.get? i1=some o/\nx1 k o) (h2:∃ o,s.heap.get? i2=some o/\nx2 k o) (hl1:seq1 s.heap) (hl2:tH s.heap) (he:xs[k]?=none\/ys[k]?=none)
  (hQ:∀ h',(∀ c o,c≠z->c≠TO->c≠i1->c≠i2->s.heap.get? c=some o->h'.get? c=some o)->Q none { s with heap:=h' }):wpAny #[12] A (pyNext (.ref z)) Q E s:=by
 have hT:s.TypeIs (.ref z) "zip" :=⟨_,hz,rfl⟩;unfold pyNext;refine Ph (QZ (Qf (name:=Str.ofString "__next__") hT Tp (Qg Tp hT F.entry_zip_next ?_ (F.args_zip_next_1 _))));have fin:∀ (h':Heap) (e:Addr),(∀ c o,c≠z->c≠TO->c≠i1->c≠i2->s.heap.get? c=some o->h'.get? c=some o)->(∃ o,h'.get? e=some o/\o.cls=.type "StopIteration") ->
   wpAny #[12] A (do let b <-isInstance (.ref e) (.type "StopIteration");if b=true then pure none else throw (.ref e)) Q E { s with heap:=h' }:=λ h' e kp ⟨o,ho,hc⟩=>Ph (Rz (T:="StopIteration") (b:=true) ⟨o,ho,hc⟩ TV (Po (hQ h' kp)))
 show wpAny _ _ (field (.ref z) 2 >>= _) _ _ _;refine Ph (Qh hz rfl (x:=.bool false) rfl (show wpAny _ _ (field (.ref z) 3 >>= _) _ _ _ from Ph (Qh hz rfl (x:=.ref TI) rfl (Ph (Q7 hI rfl ?_)))));show wpAny _ _ (Builtin.SmallTypes.ownedTupleIsFree (.ref z) >>= _) _ _ _;refine Ph ?_;unfold Builtin.SmallTypes.ownedTupleIsFree;refine Ph (Qh hz rfl (x:=.none) rfl (Po ?_));simp only[RE];refine Ph (RP (Ph (Qh hz rfl (x:=.ref TO) rfl (Ph (Qa hz #[25] λ g1 hz1 hs1=>?_)))));replace hz1:IsZip g1 z TI TO .ellipsis:=hz1;refine Ph ?_;simp only[List.zipIdx_cons,List.zipIdx_nil,Tj,TR];refine Ph (Ph (Uo (show wpAny _ _ (Builtin.SmallTypes.nextOf (.ref i1) >>= _) _ _ _ from Ph ?_)));have b1:=S1.ext hl1 λ o q=>hs1.extBut _ _ D.l1z q;have c1:∃ o,g1.get? i1=some o/\nx1 k o:=h1.imp λ o q=>⟨hs1.extBut _ _ D.i1z q.1,q.2⟩;cases hx:xs[k]? with
 | none =>
  refine S1.done hh b1 c1 hx λ g2 e hs2 ⟨oe,ho,hc⟩=>?_;have hz2:IsZip g2 z TI TO .ellipsis:=hs2 _ _ D.i1z.symm hz1;have hne:e≠z:=λ x=>by subst x;rw[hz2]at ho;cases ho;simp at hc
  refine Qa hz2 #[25] λ g3 _ hs3=>fin g3 e (λ c o c1 _ c3 _ x=>hs3.extBut _ _ c1 (hs2 _ _ c3 (hs1.extBut _ _ c1 x))) ⟨oe,hs3.extBut _ _ hne ho,hc⟩
 | some x =>
  have hy:ys[k]?=none:=he.resolve_left λ q=>by rw[hx]at q;cases q
  refine S1.item b1 c1 hx λ g2 h12 hs2=>Po ?_;have hO2:IsPair g2 TO a b:=hs2.extBut _ _ D.TOi1 (hs1.extBut _ _ D.TOz hO);refine Ph (Q7 hO2 rfl (Ph (Te hO2 λ g3 hO3 hs3=>?_)));refine Ph (Uh (Po (Ph (Ph (Uo (show wpAny _ _ (Builtin.SmallTypes.nextOf (.ref i2) >>= _) _ _ _ from Ph (S2.done hh (S2.ext hl2 λ o q=>hs3.extBut _ _ D.l2TO (hs2.extBut _ _ D.l2i1 (hs1.extBut _ _ D.l2z q))) (h2.imp λ o q=>⟨hs3.extBut _ _ D.TOi2.symm (hs2.extBut _ _ D.i12.symm (hs1.extBut _ _ D.i2z q.1)),q.2⟩) hy λ g4 e hs4 ⟨oe,ho,hc⟩=>?_)))))));have hz4:IsZip g4 z TI TO .ellipsis:=hs4 _ _ D.i2z.symm (hs3.extBut _ _ D.TOz.symm (hs2.extBut _ _ D.i1z.symm hz1));have hne:e≠z:=λ x=>by subst x;rw[hz4]at ho;cases ho;simp at hc
  refine Qa hz4 #[25] λ g5 _ hs5=>fin g5 e (λ c o c1 c2 c3 c4 x=>hs5.extBut _ _ c1 (hs4 _ _ c4 (hs3.extBut _ _ c2 (hs2.extBut _ _ c3 (hs1.extBut _ _ c1 x))))) ⟨oe,hs5.extBut _ _ hne ho,hc⟩
end
def xU (b:Bool)(l:Addr):Obj:={ cls:=.type (if b=true then "tuple_iterator" else "list_iterator"),data:=.fields #[.ref l,.int 0 0] }
def qu (b:Bool)(h:Heap)(l:Addr)(xs:#[132]):Prop:=if b=true then h.IsTuple l xs else h.IsList l xs
def CV{h:Heap}(x:qu b h l xs)(o:Obj):qu b (h.push o) l xs:=by
 cases b
 ·exact Heap.IsList.push x o
 ·obtain⟨u,h1,h2⟩:=x;exact⟨u,Pj _ h1,h2⟩
def zH (b1 b2:Bool)(h:Heap)(l1 l2:Addr):Heap:=((((h.push (xU b1 l1)).push (xU b2 l2)).push { cls:=.type "tuple",data:=.seq #[.ref h.objs.size,.ref (h.objs.size+1)] }).push { cls:=.type "tuple",data:=.seq #[.none,.none] }).push { cls:=.type "zip",data:=.fields #[.none,.bool false,.bool false,.ref (h.objs.size+2),.ref (h.objs.size+3)] }
def kF{Q:#[4]}(h:qu b s.heap l xs)(k:Q #[42] { s with heap:=s.heap.push (xU b l) }):wpAny #[12] A (pyIter (.ref l)) Q E s:=by
 cases b
 ·exact Uj h k
 ·exact Sw h k
def vN (b1 b2:Bool)(l1 l2:Addr)(xs ys:#[132]) :
  Meets (Builtin.«zip.__new__» ⟨[.type "zip",.ref l1,.ref l2],[]⟩) (λ _ R s=>qu b1 s.heap l1 xs/\qu b2 s.heap l2 ys/\R (.ok (.ret (.ref (s.heap.objs.size+4)))) { s with heap:=zH b1 b2 s.heap l1 l2 }):=
 .of_wp λ prog w A R s h=>by
  obtain⟨hp,g,d,tk,os⟩:=s;obtain⟨hl1,hl2,h⟩:=h;have hsub:=sub_zip;have q1:qu b1 (Shared.heap ⟨hp,g,d,tk,os⟩) l1 xs:=hl1;have q2:qu b2 (Shared.heap ⟨hp.push (xU b1 l1),g,d,tk,os⟩) l2 ys:=CV hl2 _
  wp_walk using kF q1,kF q2
  refine⟨_,rfl,?_⟩;simp only[Qt];exact h
def xV{b1 b2:Bool}{ys:#[132]}{Q:#[4]}(h1:qu b1 s.heap l1 xs)(h2:qu b2 s.heap l2 ys)
  (h:∀ h',IsZip h' (s.heap.objs.size+4) (s.heap.objs.size+2) (s.heap.objs.size+3) .none->IsPair h' (s.heap.objs.size+2) #[42] (.ref #[55])->IsPair h' (s.heap.objs.size+3) .none .none->h'.get? s.heap.objs.size=some (xU b1 l1)->h'.get? #[55]=some (xU b2 l2) ->
   (∀ c o,s.heap.get? c=some o->h'.get? c=some o)->Q (.ref (s.heap.objs.size+4)) { s with heap:=h' }):wpAny (model prog w) A (call (.type "zip") [.ref l1,.ref l2]) Q E s:=by
 refine callType_new F.called_zip #[120] (F.typeCall_zip_2 _ _) (F.newCall_zip_2 _ _) (λ obj=>F.args_object_init_3 obj _ _) F.entry_zip_new (vN b1 b2 l1 l2 xs ys) ⟨h1,h2,?_⟩;have e5:(zH b1 b2 s.heap l1 l2).get? (s.heap.objs.size+4)=some { cls:=.type "zip",data:=.fields #[.none,.bool false,.bool false,.ref (s.heap.objs.size+2),.ref (s.heap.objs.size+3)] }:=by
  have:=Pu ((((s.heap.push (xU b1 l1)).push (xU b2 l2)).push { cls:=.type "tuple",data:=.seq #[.ref s.heap.objs.size,.ref #[55]] }).push { cls:=.type "tuple",data:=.seq #[.none,.none] }) (o:={ cls:=.type "zip",data:=.fields #[.none,.bool false,.bool false,.ref (s.heap.objs.size+2),.ref (s.heap.objs.size+3)] }) rfl;simp only[Qt]at this;exact this
 have e4:(zH b1 b2 s.heap l1 l2).get? (s.heap.objs.size+3)=some { cls:=.type "tuple",data:=.seq #[.none,.none] }:=by
  have:=Pu (((s.heap.push (xU b1 l1)).push (xU b2 l2)).push { cls:=.type "tuple",data:=.seq #[.ref s.heap.objs.size,.ref #[55]] }) (o:={ cls:=.type "tuple",data:=.seq #[.none,.none] }) rfl;simp only[Qt]at this;exact Pj _ this
 have e3:(zH b1 b2 s.heap l1 l2).get? (s.heap.objs.size+2)=some { cls:=.type "tuple",data:=.seq #[.ref s.heap.objs.size,.ref #[55]] }:=by
  have:=Pu ((s.heap.push (xU b1 l1)).push (xU b2 l2)) (o:={ cls:=.type "tuple",data:=.seq #[.ref s.heap.objs.size,.ref #[55]] }) rfl;simp only[Qt]at this;exact Pj _ (Pj _ this)
 have e2:(zH b1 b2 s.heap l1 l2).get? #[55]=some (xU b2 l2):=by
  have:=Pu (s.heap.push (xU b1 l1)) (o:=xU b2 l2) rfl;simp only[Qt]at this;exact Pj _ (Pj _ (Pj _ this))
 have e1:(zH b1 b2 s.heap l1 l2).get? s.heap.objs.size=some (xU b1 l1):=Pj _ (Pj _ (Pj _ (Pj _ (Pu _ rfl))));exact⟨⟨_,e5,rfl⟩,h _ e5 e3 e4 e1 e2 λ c o x=>Pj _ (Pj _ (Pj _ (Pj _ (Pj _ x))))⟩
def EO (K:#[0])(b:Bool)(a:Addr)(H:Hp)(xs:List V):Prop:=if b=true then jW K H a xs else eQ K H a xs
def M5 (b:Bool)(a:Addr)(i:Nat)(o:Obj):Prop:=if b=true then OW a i o else OX a i o
def vO (b:Bool)(a it:Addr)(its:#[132]):nc a it its (λ h=>qu b h a its) (M5 b a):=by
 cases b
 ·exact EN a it its
 ·exact HR a it its
def Bk{i:Nat}{o:Obj}(h:M5 b a i o):∀ v,o.data ≠ .cell v:=λ v z=>by
 cases b
 ·rw[show o.data=_ from h.2]at z;cases z
 ·rw[show o.data=_ from h.2]at z;cases z
def Bo (b:Bool)(a:Addr):M5 b a 0 (xU b a):=by
 cases b
 ·exact⟨rfl,rfl⟩
 ·exact⟨rfl,rfl⟩
def pC{pins:#[15]}{σ:St}{H:Hp}{xs:List V}(I:#[5])(h:EO X.K b a H xs):∃ its,Vals xs its/\qu b s.heap a its.toArray:=by
 cases b
 ·obtain⟨its,rv,p,_⟩:=I.list h;exact⟨its,rv,p.isList⟩
 ·obtain⟨its,rv,p,_⟩:=I.tuple h;exact⟨its,rv,j3 p⟩
def Bj{pins:#[15]}{σ:St}{H:Hp}{xs ys:List V}(I:#[5])(h:EO X.K b a H xs)(h':EO X.K b a H ys):xs=ys:=by
 cases b
 ·exact I.qM h h'
 ·exact I.oX h h'
def Iz (src1 src2:Hp->List V->Prop):It:=
 ⟨λ i H=>∃ xs x ys y,src1 H xs/\xs[i]?=some x/\src2 H ys/\ys[i]?=some y,λ i H v H'=>∃ p y1 y2,v=.ref p/\H p=none/\H'=upd H p (.tup [y1,y2])/\(∀ xs,src1 H xs->xs[i]?=some y1)/\∀ ys,src2 H ys->ys[i]?=some y2,λ i H=>∃ xs ys,src1 H xs/\src2 H ys/\(xs.length<=i\/ys.length<=i)⟩
def O9 (b1 b2:Bool)(z TI TO i1 i2 l1 l2:Addr)(i:Nat)(h:Heap):Prop:=IsZip h z TI TO .none/\IsPair h TI (.ref i1) (.ref i2)/\(∃ a b,IsPair h TO a b)/\(∃ o,h.get? i1=some o/\M5 b1 l1 i o)/\∃ o,h.get? i2=some o/\M5 b2 l2 i o
def ER {P:#[84]}{K:#[0]}{elts:#[92]}{x1:Nat}{tp:Pos}{z TI TO i1 i2:Addr}(b1 b2:Bool)(D:ZipApart z TI TO i1 i2 l1 l2) :
  Turn P w K (.Tuple elts x1 tp) (Iz (EO K b1 l1) (EO K b2 l2)) [z,TI,TO,i1,i2] z (O9 b1 b2 z TI TO i1 i2 l1 l2) where
 mem:=by simp
 obj:=λ i h st b hb=>by
  obtain⟨h1,h2,⟨u,v,h3⟩,⟨o1,h4,h5⟩,o2,h6,h7⟩:=st;simp only[PB,QE,or_false]at hb;rcases hb with q|q|q|q|q<;>subst q
  ·exact⟨_,h1,λ v z=>by cases z⟩
  ·exact⟨_,h2,λ v z=>by cases z⟩
  ·exact⟨_,h3,λ v z=>by cases z⟩
  ·exact⟨o1,h4,Bk h5⟩
  ·exact⟨o2,h6,Bk h7⟩
 keep:=λ i h h' st k=>by
  obtain⟨h1,h2,⟨u,v,h3⟩,⟨o1,h4,h5⟩,o2,h6,h7⟩:=st;exact⟨k z #[25] _ h1,k TI #[25] _ h2,⟨u,v,k TO #[25] _ h3⟩,⟨o1,k i1 #[25] _ h4,h5⟩,o2,k i2 #[25] _ h6,h7⟩
 item:=by
  intro X hP hw hK hc i pins s σ H E I hf st hg;obtain⟨xs,x,ys,y,hq1,hx,hq2,hy⟩:=hg;obtain⟨h1,h2,⟨u,v,h3⟩,h4,h5⟩:=st;subst hP hw hK;obtain⟨its1,rv1,sq1⟩:=pC I hq1;obtain⟨its2,rv2,sq2⟩:=pC I hq2;obtain⟨ux,hux,rux⟩:=rv1.get hx;obtain⟨uy,huy,ruy⟩:=rv2.get hy;have zlt:z<s.heap.objs.size:=Px h1;refine CU (vO b1 l1 i1 its1.toArray) (vO b2 l2 i2 its2.toArray) D h1 h2 h3 h4 h5 sq1 sq2 (by simpa using hux) (by simpa using huy) λ h' k1 k2 k3 k4 k5 k6=>⟨_,rfl,wpAny_letOwnedTupleGo_zip k1 λ h'' m1 m2=>?_⟩;have m2:Heap.SameBut z h' h'':=m2;have fr:H s.heap.objs.size=none:=I.fresh;have kp:∀ b o,b∉[z,TI,TO,i1,i2]->s.heap.get? b=some o->h''.get? b=some o:=λ b o hb q=>(m2.2 b λ e=>hb (by simp[e])).trans (k6 b o (λ e=>hb (by simp[e])) (λ e=>hb (by simp[e])) (λ e=>hb (by simp[e])) (λ e=>hb (by simp[e])) q);have hTI:IsPair h'' TI (.ref i1) (.ref i2):=(m2.2 TI D.TIz).trans (k6 TI _ D.TIz D.TITO D.TIi1 D.TIi2 h2);have tp:h''.get? s.heap.objs.size=some { cls:=.type "tuple",data:=.seq #[ux,uy] }:=(m2.2 _ (Rj zlt)).trans k5;have ok1:jj X.prog X.w H h'':=λ b o hb=>(I.hok b o hb).stay (λ c v hcb q=>kp c v (λ e=>by
    have n:=(hf c e).1;rcases hcb with e2|e2
    ·subst e2;rw[n]at hb;cases hb
    ·rw[n]at e2;cases e2) q) (λ _ e=>e) λ _ _ e=>e
  have ok2:jj X.prog X.w (upd H s.heap.objs.size (.tup [x,y])) h'':=vB ok1 fr ⟨by show 2<=sizeLine;decide,[ux,uy],.cons rux (.cons ruy .nil),⟨_,tp⟩⟩;have I2:Inv X pins σ (upd H s.heap.objs.size (.tup [x,y])) { s with heap:=h'' }:=by
   refine I.step (t':=s.toks) (g':=s.gens) (d':=s.drawn) (ch:=[z,TI,TO,i1,i2]) (λ b hb=>?_) (λ b o _ _ hb q _=>kp b o hb q) (λ b o _ _ hb q _=>⟨o.slots,kp b o hb q⟩)
    (λ b o _ q n=>by rw[aH (PY (Px q))];exact n) (λ b o hb q=>⟨o,kp b o hb q⟩)
    (λ b ys q=>by rw[aH (bF q fr)];exact q) (λ b o v q=>by rw[aH (bF q fr)];exact q) (λ b ps q=>⟨#[],by rw[aH (bF q fr),Sx];exact q⟩)
    (λ m hm=>hm.at λ o q=>kp _ o (λ e=>(hf _ e).2.1 rfl) q) ok2 I.bare
   obtain⟨f0,f1,f2,f3,f4,f5⟩:=hf b hb;exact⟨f3,f1,f4,f5⟩
  refine⟨.ref s.heap.objs.size,_,I2,rfl,⟨_,x,y,rfl,fr,rfl,λ ws hw=>by rw[Bj I hw hq1];exact hx,λ ws hw=>by rw[Bj I hw hq2];exact hy⟩,⟨m1,hTI,⟨ux,uy,(m2.2 TO D.TOz).trans k2⟩,k3.imp λ o q=>⟨(m2.2 i1 D.i1z).trans q.1,q.2⟩,k4.imp λ o q=>⟨(m2.2 i2 D.i2z).trans q.1,q.2⟩⟩,λ b hb=>?_⟩;have lt:b<s.heap.objs.size:=by
   simp only[PB,QE,or_false]at hb;rcases hb with q|q|q|q|q<;>subst q
   ·exact zlt
   ·exact Px h2
   ·exact Px h3
   ·obtain⟨_,q,_⟩:=h4;exact Px q
   ·obtain⟨_,q,_⟩:=h5;exact Px q
  rw[aH (PY lt)];exact(hf b hb).1
 done:=by
  intro X hP hw hK hc i pins s σ H E I hf st hg;obtain⟨xs,ys,hq1,hq2,he⟩:=hg;obtain⟨h1,h2,⟨u,v,h3⟩,h4,h5⟩:=st;subst hP hw hK;obtain⟨its1,rv1,sq1⟩:=pC I hq1;obtain⟨its2,rv2,sq2⟩:=pC I hq2;have e1:=rv1.length;have e2:=rv2.length;refine EM (I.ok.hd hc) (vO b1 l1 i1 its1.toArray) (vO b2 l2 i2 its2.toArray) D h1 h2 h3 h4 h5 sq1 sq2 (he.imp (λ q=>by simp;omega) λ q=>by simp;omega) λ h' k6=>⟨rfl,?_⟩;have kp:∀ b o,b∉[z,TI,TO,i1,i2]->s.heap.get? b=some o->h'.get? b=some o:=λ b o hb q=>k6 b o (λ e=>hb (by simp[e])) (λ e=>hb (by simp[e])) (λ e=>hb (by simp[e])) (λ e=>hb (by simp[e])) q;have ok1:jj X.prog X.w H h':=λ b o hb=>(I.hok b o hb).stay (λ c v hcb q=>kp c v (λ e=>by
    have n:=(hf c e).1;rcases hcb with e2|e2
    ·subst e2;rw[n]at hb;cases hb
    ·rw[n]at e2;cases e2) q) (λ _ e=>e) λ _ _ e=>e
  refine I.step (t':=s.toks) (g':=s.gens) (d':=s.drawn) (ch:=[z,TI,TO,i1,i2]) (λ b hb=>?_) (λ b o _ _ hb q _=>kp b o hb q) (λ b o _ _ hb q _=>⟨o.slots,kp b o hb q⟩)
   (λ _ _ _ _ n=>n) (λ b o hb q=>⟨o,kp b o hb q⟩) (λ _ _ q=>q) (λ _ _ _ q=>q) (λ b ps q=>⟨#[],by rw[Sx];exact q⟩)
   (λ m hm=>hm.at λ o q=>kp _ o (λ e=>(hf _ e).2.1 rfl) q) ok1 I.bare
  obtain⟨f0,f1,f2,f3,f4,f5⟩:=hf b hb;exact⟨f3,f1,f4,f5⟩
 self:=λ _ _ _ _ _ st h=>wpAny_pyIter_zip st.1 h
def Bm{h:Heap}(x:qu b h l xs):l<h.objs.size:=by
 cases b
 ·obtain⟨o,e,_⟩:=x;exact Px e
 ·obtain⟨o,e,_⟩:=x;exact Px e
def Lg{elts:#[92]}{x1:Nat}{tp p pos:Pos}{l m:Expr}{ta:TA}(hg:Gl X "zip")(hm:X.mg "zip" = none)(ha:PA X [l,m] ta)(hs:starEach [l,m] X.env=[(false,eval l X.env),(false,eval m X.env)]:=by rfl)(hs2:starEach [m] X.env=[(false,eval m X.env)]:=by rfl) :
  PI X (.Tuple elts x1 tp) (.Call (.Name "zip" p) [l,m] [] pos) (λ σ H R=>ta σ H λ vs H1=>∃ b1 b2 a1 a2 xs ys,vs=[.ref a1,.ref a2]/\EO X.K b1 a1 H1 xs/\EO X.K b2 a2 H1 ys/\R (Iz (EO X.K b1 a1) (EO X.K b2 a2)) H1):=by
 intro pins s σ H R I h;refine QT (jk I hg hm (by decide +kernel:bootBuiltins "zip" = some (.type "zip")) ?_);refine QL #[82] (by rw[hs,hs2]) (by rw[hs2];rfl);obtain⟨b1,b2,a1,a2,xs,ys,rfl,hq1,hq2,q⟩:=q1;obtain⟨u,u',rfl,ru,ru'⟩:=vals2 r1;cases ru;cases ru';obtain⟨its1,rv1,sq1⟩:=pC I1 hq1;obtain⟨its2,rv2,sq2⟩:=pC I1 hq2;refine xV sq1 sq2 λ h' e1 e2 e3 e4 e5 e6=>wpAny_pyIter_zip e1 ?_;have I2:Inv X pins σ H1 { s1 with heap:=h' }:=I1.kept (t':=s1.toks) e6;refine⟨_,_,_,_,H1,rfl,I2,ER b1 b2 (zipApart_new (Bm sq1) (Bm sq2)),⟨e1,e2,⟨_,_,e3⟩,⟨_,e4,Bo b1 a1⟩,⟨_,e5,Bo b2 a2⟩⟩,λ b hb=>?_,q⟩;have le:s1.heap.objs.size<=b:=by
  simp only[PB,QE,or_false]at hb;rcases hb with e|e|e|e|e<;>(rw[e];first|exact Py _|exact Us _ _)
 exact I1.qL le (I1.hok.fresh le)
end L2
namespace DL
open PySem PySem.Spec PyProof.Rows L2
section
variable {K:#[0]}{Y:XY}{H0 B0 B H:Hp}{σ:L2.St}{τ:SD}{P:#[8]}{F:#[17]}{X:Cx}{pos:Pos}
def my (xs ys:List D):List D:=List.zipWith (λ x y=>D.tup [x,y]) xs ys
def M6:List D->Res #[106]
 |[d,e]=>(bI d).bind λ p=>(bI e).bind λ q=>.ok (p.1||q.1,my p.2 q.2)
 |_=>.bad
def vQ (f:#[40])(τ:SD):Res #[106]:=(f τ).bind M6
def xX:∀ xs ys:List D,aG (my xs ys)=my (aG xs) (aG ys)
 |[],_=>rfl|_::_,[]=>rfl
 | x::xs,y::ys=>by
  show(D.tup [x,y]).aq::aG (my xs ys)=D.tup [x.aq,y.aq]::my (aG xs) (aG ys);rw[xX xs ys];rfl
def vP (xs ys:List D):(my xs ys).length=min xs.length ys.length:=by simp[my]
def ET {xs ys:List D}{i:Nat}{d:D}(h:(my xs ys)[i]?=some d):∃ x y,xs[i]?=some x/\ys[i]?=some y/\d=.tup [x,y]:=by
 unfold my at h;rw[SO]at h;cases hx:xs[i]? with
 |none=>rw[hx]at h;cases h
 | some x =>
  cases hy:ys[i]? with
  |none=>rw[hx,hy]at h;cases h
  | some y =>
   rw[hx,hy]at h;cases h;exact⟨x,y,rfl,rfl,rfl⟩
def HS {src1 src2:Hp->List V->Prop}{ds es:List D}{vs ws:List V}(r:ak K B No H ds vs [])(r':ak K B No H es ws [])(q:∀ B' H':Hp,au B B'->au B' H'->mK H H'->src1 H' vs)(q':∀ B' H':Hp,au B B'->au B' H'->mK H H'->src2 H' ws):HG K (Iz src1 src2) (my ds es) B H where
 go:=λ B' H' i d s1 s2 im e=>by
  obtain⟨x,y,h1,h2,rfl⟩:=ET e;obtain⟨v,f,a1,_⟩:=r.get h1;obtain⟨w,g,a2,_⟩:=r'.get h2;exact⟨vs,v,ws,w,q B' H' s1 s2 im,a1,q' B' H' s1 s2 im,a2⟩
 zb:=λ B' H' i d x H'' s1 s2 im e y=>by
  obtain⟨p,w1,w2,rfl,hp,rfl,hy1,hy2⟩:=y;obtain⟨dx,dy,h1,h2,rfl⟩:=ET e;obtain⟨v,f,a1,a2,a3⟩:=r.get h1;obtain⟨w,g,c1,c2,c3⟩:=r'.get h2;have z1:=hy1 vs (q B' H' s1 s2 im);have z2:=hy2 ws (q' B' H' s1 s2 im);rw[z1]at a1;cases a1;rw[z2]at c1;cases c1;cases nQ a3;cases nQ c3;have s:=du (o:=.tup [w1,w2]) hp;exact⟨s,p,[w1,w2],rfl,aN,w1,[w2],[],[],rfl,(a2.stay s1 im rfl).mono s #[49] (λ _ x=>x),ak.one ((c2.stay s1 im rfl).mono s #[49] (λ _ x=>x)),rfl⟩
 stop:=λ B' H' s1 s2 im=>⟨vs,ws,q B' H' s1 s2 im,q' B' H' s1 s2 im,by
  have e1:=r.length;have e2:=r'.length;rw[vP];omega⟩
def xW {d:D}{fl:Bool}{xs:List D}{v:V}{f:#[8]}(hi:bI d=.ok (fl,xs))(I:#[21])(r:Rep K B (· ∈ P) H d v f) :
  ∃ b a vs,v=.ref a/\EO K b a H vs/\∀ Bx:Hp,au B Bx->(∀ a∈f,∀ o,H a=some o->Bx a=some o)->(fl=true->∀ a∈P,∀ o,H a=some o->Bx a=some o)->∃ ws,ak K Bx No H (aG xs) ws []/\∀ B' H':Hp,au Bx B'->au B' H'->mK H H'->EO K b a H' ws:=by
 cases d with
 | lst t ys =>
  cases hi;obtain⟨a,vs,g,rfl,q,_⟩:=r.lst I;refine⟨false,a,vs,rfl,q,λ Bx sB h1 h2=>?_⟩;obtain⟨a',ws,ea,q',rl,_⟩:Rep K Bx No H (D.lst .aq (aG xs)) (.ref a) []:=ja r sB h1 h2;cases ea;exact⟨ws,rl,λ B' H' z1 z2 _=>eF (z1.trans z2) q'⟩
 | tup ys =>
  cases hi;obtain⟨a,vs,rfl,q,_⟩:=r.tp;refine⟨true,a,vs,rfl,q,λ Bx sB h1 h2=>?_⟩;obtain⟨a',ws,ea,q',rl⟩:Rep K Bx No H (D.tup (aG xs)) (.ref a) []:=ja r sB h1 h2;cases ea;exact⟨ws,rl,λ B' H' z1 z2 im=>nR im (jW.of q')⟩
 |_=>cases hi
def ES {elts:#[92]}{x1:Nat}{tp p:Pos}{l m:Expr}{fs:#[40]}(hg:Gl X "zip")(hm:X.mg "zip" = none)(ha:PA X [l,m] (nM X.K Y fs))(hs:starEach [l,m] X.env=[(false,eval l X.env),(false,eval m X.env)]:=by rfl)(hs2:starEach [m] X.env=[(false,eval m X.env)]:=by rfl) :
  PI X (.Tuple elts x1 tp) (.Call (.Name "zip" p) [l,m] [] pos) (Ba X.K Y (vQ fs)):=by
 refine PI.imp (Lg hg hm ha hs hs2) λ σ H R hq=>ex8 hq λ H0 B0 B τ P F I h=>⟨H0,B0,B,τ,P,F,I,?_⟩;cases z:fs τ with
 |eB C=>simp only[vQ,z,Res.jE]at h;exact h|bad=>simp only[vQ,z,Res.jD]at h
 | ok ds =>
  simp only[vQ,z,Res.aK]at h;intro vs H1 B1 fp I1 s1 b1 r1 k1
  match ds,r1,h with
  | [d,e],r1,h =>
   obtain⟨v,u,f1,f2,rfl,rfl,rd,re⟩:=Ey r1;simp only[M6]at h;cases hd:bI d with
   |eB C=>exfalso;cases d<;>cases hd
   |bad=>rw[hd]at h;exact h.elim
   | ok p =>
    obtain⟨g1,xs⟩:=p;rw[hd,Res.aK]at h;cases he:bI e with
    |eB C=>exfalso;cases e<;>cases he
    |bad=>rw[he]at h;exact h.elim
    | ok p =>
     obtain⟨g2,ys⟩:=p;rw[he,Res.aK]at h;obtain⟨c1,a1,vs1,rfl,q1,k2⟩:=xW hd I1 rd;obtain⟨c2,a2,vs2,rfl,q2,k3⟩:=xW he I1 re;refine⟨c1,c2,a1,a2,vs1,vs2,rfl,q1,q2,h _ H1 _ (f1++f2) I1 s1 b1 k1 λ Bx sB sH h1 h2=>?_⟩;obtain⟨w1,rl1,m1⟩:=k2 Bx sB (λ a m=>h1 a (PD _ m)) λ t=>h2 (by rw[t];rfl);obtain⟨w2,rl2,m2⟩:=k3 Bx sB (λ a m=>h1 a (PM _ m)) λ t=>h2 (by rw[t];simp);rw[xX];exact HS rl1 rl2 m1 m2
  |[],r1,h=>exact h.elim|[_],r1,h=>exact h.elim|_::_::_::_,r1,h=>exact h.elim
end
section
variable {K:#[0]}{Y:XY}{H0 B0 B H:Hp}{σ:L2.St}{τ:SD}{P:#[8]}{F:#[17]}{X:Cx}{pos:Pos}{e:Expr}{fe:#[28]}
def HU (i:Nat)(xs:List D)(τ:SD):D->Fl
 |.lst .own ys=>if aB ys=true then .bad else if xs.length+ys.length<=16777216 then .nx (τ.set i (some (.lst .own (xs++ys)))) else .bad
 |_=>.bad
def zI (i:Nat)(f:#[28])(τ:SD):Fl:=match dX τ i with
 |some xs=>(f τ).jo τ (HU i xs τ)
 |none=>.bad
def JK (i:Nat){x:Str}{p1 apos cpos:Pos}(he:#[46])(hN:#[69]:=by rfl)(hv:#[98]:=by first|exact Or.inl rfl|exact Or.inr (Or.inl rfl)|exact Or.inr (Or.inr rfl))(hd:#[2]:=by decide)(hcd:#[29]:=by decide)
  (hbase:attributeBase #[59] "extend" X.env (eval #[59] X.env)=eval #[59] X.env:=by rfl)
  (hfew:((backTo cpos (starEach [e] X.env)).all (λ x=>!x.1)&&(backToKw cpos (keywordEach [] X.env)).all (λ x=>x.1.isSome)
   && decide ([e].length+([]:List Keyword).length+(if ([]:List Keyword).isEmpty then 0 else 1)<30))=true:=by rfl)
  (hline:#[47]:=by rfl) (hs:#[81]:=by rfl) (hplain:(backTo cpos (starEach [] X.env)).any (·.1)=false:=by rfl)
  (hsw:swapsWith (.Call (.Attribute #[59] "extend" apos) [e] [] cpos) none pos.line X.env=pure false:=by rfl) :
  PS X (.Expr (.Call (.Attribute #[59] "extend" apos) [e] [] cpos) pos) (iZ X.K Y (zI i fe)):=by
 refine PS.imp (j0 (qS QN PySem.F.slot_list_extend PySem.F.type_list_extend ue (dH hN hv hd hcd) (bY he dQ hs) hbase hfew hline hs hplain) hsw) λ E σ H hq=>ex7 hq λ H0 B0 B τ P I h=>?_;unfold zI at h;cases z:dX τ i with
 |none=>rw[z]at h;exact h.elim
 | some xs =>
  rw[z]at h;have hi:=gk z;obtain⟨a,vs,ea,ha,hl⟩:=I.listAt hi;refine⟨.ref a,ea,.inl ⟨rfl,vs,eQ.of ha⟩,lB I h λ d v H1 B1 fp _ I1 s1 b1 r1 k1 h1=>?_⟩;unfold HU at h1;split at h1
  ·rename_i ys hfe;obtain⟨b,ws,f,rfl,hb,rl2,rfl⟩:=r1;split at h1
   ·exact h1.elim
   ·rename_i hnb;split at h1
    ·rename_i hz;have ha1:=s1 a _ ha;have hl2:=rl2.length;refine⟨a,b,vs,ws,rfl,rfl,ha1,hb,by rw[<-hl,<-hl2,Qx];exact hz,?_⟩;have k2:gm H0 B1 H1 P No f:=k1.sub (R0 _ _);obtain⟨P',I'⟩:=I1.CM (xs':=xs++ys) (vs':=vs++ws) hi ea k2 (λ g _ rl=>⟨g++f,rl.append (rl2.gu (by simpa using hnb)),λ b m=>PC.mp m,λ nf dis=>PJ.mpr ⟨nf,k2.nd,λ a ha b hb e=>dis b hb (e▸ha)⟩⟩) ha1;exact h1 B1 _ σ P' I'
    ·exact h1.elim
  ·exact h1.elim
end
end DL
namespace L2
open PySem PySem.Spec PyProof.Rows
section
variable {X:Cx}
end
end L2
namespace DL
open PySem PySem.Spec PyProof.Rows L2
end DL
namespace L2
open PySem PySem.Spec PyProof.Rows
section
variable {X:Cx}
variable {o e:Expr}{es:#[92]}{to:TE}{t:TA}{name:Str}{apos cpos:Pos}{id:String}{r:V->List V->Hp->VK->Prop}
end
end L2
namespace DL
open PySem PySem.Spec PyProof.Rows L2
section
variable {K:#[0]}{Y:XY}{X:Cx}{o e:Expr}{fo fe:#[28]}{apos cpos:Pos}
end
end DL
namespace XF
open PySem
variable {h:Heap}
def eX (cls:Value)(t:Addr)(tb:Value):Obj:={ cls:=cls,data:=.fields #[.ref t,tb,.none,.none,.bool false,.none] }
def OB (cls:Value)(t:Addr)(tb x:Value):Obj.mapFields (·.setIfInBounds 1 x) (eX cls t tb)=eX cls t x:=rfl
structure Tr (B:Heap)(e:Addr)(cls:Value)(fl:Value)(h:Heap):Prop where
 ex:∃ (t T:Addr) (oT:Obj) (ts:#[132]),h.get? e=some (eX cls t (.ref T))/\B.get? T=none/\T≠e/\h.get? T=some oT/\oT.data=.fields ts/\ts[3]?=some fl
structure zJ (B:Heap)(l:List Env)(e:Addr)(cls fl:Value)(h:Heap):Prop where
 st:B.StaysIn h
 new:B.get? e=none
 ff:h.FunFrames B l
 tr:Tr B e cls fl h
structure yX (fs:List Addr)(h h':Heap):Prop where
 up:h.UpToSlots h'
 ex:∀ b o,h.get? b=some o->∃ o',h'.get? b=some o'
 same:∀ b o,h.get? b=some o->b∉fs->(∀ vs,o.data ≠ .fields vs)->h'.get? b=some o
def yX.trans {fs:#[8]}{h1 h2:Heap}(a:yX fs h h1)(b:yX fs h1 h2):yX fs h h2:=⟨a.up.trans b.up,λ c o q=>let ⟨o',z⟩:=a.ex c o q;b.ex c o' z,λ c o q n d=>b.same c o (a.same c o q n d) n d⟩
abbrev G3 (l:List Env):List Addr:=l.filterMap (·.frame)
section
variable {M:Model}{A:Around}{E:#[4]}{s:Shared}{B:Heap}{env:Env}{outer:List Env}{L e t:Addr}{cls tb head:Value}{Q:Unit->Shared->Prop}
def Lh {fs:#[8]}{h':Heap}{l:List Env}(f:h.FunFrames B l)(u:yX fs h h'):h'.FunFrames B l:=f.of_keeps λ b o q n=>let ⟨sl,z⟩:=u.up b o q n;⟨_,z,rfl⟩
def entry {hn:Bool}(fr:A.frames=some (env::outer))(ff:s.heap.FunFrames B (env::outer))(fl:env.frame=some L)(ee:s.heap.get? e=some (eX cls t tb))(st:B.StaysIn s.heap)(en:B.get? e=none)
  (k:#[94]) :
  wpAny M A (do let a <-frameOf env;let pl <-entryPlaceOf L hn;let b <-EntryCells.newEntry head a .none (rawInt L) .none pl;setField (.ref e) 1 b) Q E s:=by
 have nfr:e∉(env::outer).filterMap (·.frame):=λ m=>by
  obtain⟨_,o,q,z⟩:=ff.mem m;rw[ee]at q;cases q;exact z _ rfl
 refine Ph (wpAny_frameOf_fun fr ff fl λ g sg=>?_);refine Ph (wpAny_entryPlaceOf λ pl ip=>?_);unfold EntryCells.newEntry newFields;refine Ph (Qk ?_ (ip.sizeOk5 _ _ _ _ _));generalize hob:({ cls:=.type "traceback",dict:=none,data:=.fields ([head,Value.ref L,.none,rawInt L,.none]++(if pl.isEmpty then List.replicate 6 Value.none else pl)).toArray }:Obj)=ob;have hdat:∃ ts,ob.data=.fields ts/\ts[3]?=some (rawInt L):=by
  rw[<-hob];exact⟨_,rfl,by simp⟩
 have ge:g.get? e=some (eX cls t tb):=(sg.2.1 e nfr).trans ee;have gst:B.StaysIn g:=λ b o q=>(sg.2.1 b λ m=>by rw[(ff.mem m).1]at q;cases q).trans (st b o q);have g2:(g.push ob).get? e=some (eX cls t tb):=Pj _ ge;refine RC g2 rfl (RG rfl) ?_;have ne:g.objs.size≠e:=Rj (Px ge);have keep:∀ b o,b≠e->g.get? b=some o->((g.push ob).update e (Obj.mapFields (·.setIfInBounds 1 (Value.ref g.objs.size)))).get? b=some o:=λ b o n q=>by
  rw[QB _ _ (QK n)];exact Pj _ q
 have ups:yX (G3 (env::outer)) s.heap ((g.push ob).update e (Obj.mapFields (·.setIfInBounds 1 (Value.ref g.objs.size)))):=⟨λ b o q n=>by
  obtain⟨sl,z⟩:=sg.2.2 b o q;exact⟨sl,keep b _ (λ x=>by rw[x,ee]at q;cases q;exact n _ rfl) z⟩,λ b o q=>by
  by_cases x:b=e
  ·rw[x];exact⟨_,Qu _ g2 rfl⟩
  ·obtain⟨sl,z⟩:=sg.2.2 b o q;exact⟨_,keep b _ x z⟩,λ b o q n d=>keep b o (λ x=>by rw[x,ee]at q;cases q;exact d _ rfl) ((sg.2.1 b n).trans q)⟩
 refine k _ ⟨λ b o q=>keep b o (λ x=>by rw[x,en]at q;cases q) (gst b o q),en,Lh ff ups,⟨t,g.objs.size,ob,hdat.choose,?_,gst.fresh,ne,?_,hdat.choose_spec.1,hdat.choose_spec.2⟩⟩ ups
 ·exact(Qu _ g2 rfl).trans rfl
 ·rw[QB _ _ (QK ne)];exact Pu g (by rw[<-hob];rfl)
def mark {fs:#[8]}{x:Option Addr}{fl:Value}{l:List Env}(f:zJ B l e cls fl s.heap)(k:∀ h',zJ B l e cls (x.elim .none λ a=>rawInt a) h'->yX fs s.heap h'->Q () { s with heap:=h' }):wpAny M A (setFlight (.ref e) x) Q E s:=by
 obtain⟨st,new,ff,⟨t,T,oT,ts,h1,h2,h3,h4,h5,h6⟩⟩:=f;unfold setFlight;refine Ph (Qh h1 rfl (x:=.ref T) rfl ?_);rw[PH (show(Value.ref T != Value.none)=true by simp)];have sz:3<ts.size:=(Sb.mp h6).1;refine RC h4 h5 sz ?_;have oth:∀ b,b≠T->∀ f,(s.heap.update T f).get? b=s.heap.get? b:=λ b n f=>QB _ _ (QK n);have nT:∀ b o,s.heap.get? b=some o->(∀ vs,o.data ≠ .fields vs)->b≠T:=λ b o q n z=>by
  rw[z,h4]at q;cases q;exact n ts h5
 refine k _ ⟨λ b o q=>(oth b (λ z=>by rw[z,h2]at q;cases q) _).trans (st b o q),new,ff.of_keeps λ b o q n=>⟨o,(oth b (nT b o q n) _).trans q,rfl⟩,⟨t,T,_,_,(oth e (QK h3) _).trans h1,h2,h3,Qu _ h4 ?_,RD h5 _,by simp[sz]⟩⟩ ⟨λ b o q n=>⟨o.slots,(oth b (nT b o q n) _).trans q⟩,λ b o q=>?_,λ b o q n d=>?_⟩
 ·exact R5 (RD h5 _)
 ·by_cases x:b=T
  ·rw[x];exact⟨_,Qu _ h4 (R5 (RD h5 _))⟩
  ·exact⟨o,(oth b x _).trans q⟩
 ·exact(oth b (nT b o q d) _).trans q
def note (fr:A.frames=some (env::outer))(fl:env.frame=some L)(f:zJ B (env::outer) e cls .none s.heap)(k:#[94]):wpAny M A (noteFrame (.ref e) env) Q E s:=by
 obtain⟨st,new,ff,⟨t,T,oT,ts,h1,h2,h3,h4,h5,h6⟩⟩:=f;unfold noteFrame;simp only[fl];refine Ph (Qh h1 rfl (x:=.ref T) rfl ?_);rw[PH (show(Value.ref T != Value.none)=true by simp)];refine Ph (Qh h4 h5 h6 ?_);rw[PL (show ¬ ((Value.none == rawInt L)=true) by simp[rawInt])];have sz:3<ts.size:=(Sb.mp h6).1;refine Ph (RC h4 h5 sz ?_);have oth:∀ b,b≠T->∀ f,(s.heap.update T f).get? b=s.heap.get? b:=λ b n f=>QB _ _ (QK n);have nT:∀ b o,s.heap.get? b=some o->(∀ vs,o.data ≠ .fields vs)->b≠T:=λ b o q n z=>by
  rw[z,h4]at q;cases q;exact n ts h5
 refine entry fr (ff.of_keeps λ b o q n=>⟨o,(oth b (nT b o q n) _).trans q,rfl⟩) fl ((oth e (QK h3) _).trans h1) (λ b o q=>(oth b (λ z=>by rw[z,h2]at q;cases q) _).trans (st b o q)) new λ h' f' u=>k h' f' ⟨λ b o q n=>u.up b o ((oth b (nT b o q n) _).trans q) n,λ b o q=>?_,λ b o q n d=>u.same b o ((oth b (nT b o q d) _).trans q) n d⟩;by_cases x:b=T
 ·rw[x];exact u.ex T _ (Qu _ h4 (R5 (RD h5 _)))
 ·exact u.ex b o ((oth b x _).trans q)
def uG (fr:A.frames=some (env::outer))(fl:env.frame=some L)(ff:s.heap.FunFrames B (env::outer))(ee:s.heap.get? e=some (eX cls t .none))(st:B.StaysIn s.heap)(en:B.get? e=none)
  (k:#[94]):wpAny M A (noteFrame (.ref e) env) Q E s:=by
 unfold noteFrame;simp only[fl];refine Ph (Qh ee rfl (x:=.none) rfl ?_);rw[PL #[120]];exact entry fr ff fl ee st en k
def zJ.tail {fl:Value}(f:zJ B (env::outer) e cls fl h):zJ B outer e cls fl h:=⟨f.st,f.new,f.ff.2.2,f.tr⟩
def leave (fr:A.frames=some (env::outer))(fl:env.frame=some L)(f:zJ B (env::outer) e cls .none s.heap)(k:∀ h',zJ B outer e cls .none h'->yX (G3 (env::outer)) s.heap h'->Q () { s with heap:=h' }):wpAny M A (leaving env (.ref e)) Q E s:=by
 unfold leaving;exact Ph (note fr fl f λ h1 f1 u1=>mark (x:=none) f1 λ h2 f2 u2=>k h2 f2.tail (u1.trans u2))
def zK (fr:A.frames=some (env::outer))(fl:env.frame=some L)(ff:s.heap.FunFrames B (env::outer))(ee:s.heap.get? e=some (eX cls t .none))(st:B.StaysIn s.heap)(en:B.get? e=none)
  (k:∀ h',zJ B outer e cls .none h'->yX (G3 (env::outer)) s.heap h'->Q () { s with heap:=h' }):wpAny M A (leaving env (.ref e)) Q E s:=by
 unfold leaving;exact Ph (uG fr fl ff ee st en λ h1 f1 u1=>mark (x:=none) f1 λ h2 f2 u2=>k h2 f2.tail (u1.trans u2))
end
end XF
namespace XF
open PySem PySem.Spec PyProof.Rows L2 DL
variable {C f:Addr}{X:Cx}{base:Heap}{H:Hp}{σ:L2.St}{pins:#[15]}{N ps:#[116]}{P:#[84]}{s:Shared}{x:Str}{mg:#[11]}{w:World}{E:XK}
def EV (P:#[84])(w:World):DT:=λ outer H s E e s'=>∃ (ea C:Addr) (B:Heap) (H':Hp),e=.ref ea/\s'.os=s.os/\AllBare s'.gens/\zJ B outer ea (.ref C) .none s'.heap /\
 (∀ b o,s.heap.get? b=some o->H b=none->b∉frs outer->B.get? b=some o)/\jj P w H' B/\Un (frs outer) [] H H' s.heap s'.heap/\E (.ref C) none H'
structure HV (X:Cx)(pins:List (Addr×Obj))(σ:L2.St)(H:Hp)(e C:Addr)(s:Shared):Prop where
 inv:Inv X pins σ H s
 fl:∃ B:Heap,B.StaysIn s.heap/\B.get? e=none/\s.heap.FunFrames B X.stack/\jj X.prog X.w H B /\
  (∀ b o,X.s₀.heap.get? b=some o->X.H₀ b=none->b∉X.fs->b∉X.ex->B.get? b=some o)/\(∀ p∈X.pn++pins,B.get? p.1=some p.2) /\
  ((∃ t,s.heap.get? e=some (eX (.ref C) t .none))\/Tr B e (.ref C) .none s.heap)
def JL (X:Cx)(Y:XY):Prop:=∀ (pins:#[15]) (σ:L2.St) (H:Hp) (e C:Addr) (s:Shared),HV X pins σ H e C s->Y C σ H->X.xe (.ref e) s
def JM(I:#[5]){b:Addr}{o:Obj}(q:X.s₀.heap.get? b=some o)(n:b∉X.fs):b∉frs X.stack:=λ m=>by
 rcases PB.mp (I.oZ b m) with z|z
 ·have h1:=Px q;have h2:=I.ok.above;exact absurd h1 (by rw[z];exact Nat.not_lt.mpr h2)
 ·exact n z
def EU(I:#[5]){p:Addr×Obj}(hp:p∈X.pn++pins):p.1∉frs X.stack:=λ m=>by
 obtain⟨_,_,h1,h2,_⟩:=I.pin p hp;rcases PB.mp (I.oZ _ m) with z|z
 ·exact h1 z
 ·exact h2 z
def CY{s':Shared}{e:Value}(I:#[5])(h:EV X.prog X.w X.stack H s E e s') :
  ∃ ea C H',e=.ref ea/\HV X pins σ H' ea C s'/\E (.ref C) none H':=by
 obtain⟨ea,C,B,H',rfl,os,bare,fly,cov,hok,un,hE⟩:=h;refine⟨ea,C,H',rfl,⟨I.Jx os un (hok.kept fly.st) bare λ b z=>absurd z #[25],B,fly.st,fly.new,fly.ff,hok,λ b o q n nf nx=>?_,λ p hp=>cov p.1 p.2 (I.pin p hp).1 (I.pin p hp).2.1 (EU I hp),.inr fly.tr⟩,hE⟩;exact cov b o (I.base.keep b o q n nf nx) (I.base.free b o q n nx) (JM I q nf)
def zL{K:#[0]}{qual:Str}{scope:Scope}{cd:Value}{A:Around}{outer:List Env}{H':Hp}{e:Addr}{s':Shared}
  (c:HV (mw (EV P w) P w K mg base N qual scope f cd A outer s H E) pins σ H' e C s') (hE:E (.ref C) none H'):(mw (EV P w) P w K mg base N qual scope f cd A outer s H E).xe (.ref e) s':=by
 obtain⟨I,B,st,new,ff,hok,cov,_,made⟩:=c;show wpAny (model P w) (A.deeper #[62]) (leaving #[62] (.ref e)) (λ _ s''=>EV P w outer H s E (.ref e) s'') (λ e' s''=>EV P w outer H s E e' s'') s';have nil:∀ b:Addr,b∉([]:#[8]):=λ b z=>by cases z
 have fin:∀ h',zJ B outer e (.ref C) .none h'->yX (G3 (envOfC qual scope s.heap.objs.size f cd::outer)) s'.heap h'->EV P w outer H s E (.ref e) { s' with heap:=h' }:=λ h' fly u=>by
  refine⟨e,C,B,H',rfl,I.os,I.bare,fly,λ b o q n nf=>cov b o q n nf (nil b),hok,⟨λ b o q n nf _=>fly.st _ _ (cov b o q n nf (nil b)),λ b o q n m _=>?_,λ b o q n z=>I.base.free b o q n z,λ b o q z=>?_,I.base.tups,I.base.mq,I.base.o4⟩,hE⟩
  ·obtain⟨sl,z⟩:=I.base.slot b o q n m (nil b);have ff2:s'.heap.FunFrames B outer:=ff.2.2;obtain⟨_,o',q',nd⟩:=ff2.mem m;rw[z]at q';cases q';obtain⟨sl',z'⟩:=u.up b _ z nd;exact⟨sl',z'⟩
  ·obtain⟨o',z'⟩:=I.base.there b o q z;exact u.ex b o' z'
 rcases made with ⟨t,he⟩|tr
 ·exact zK I.ok.frames rfl ff he st new fin
 ·exact leave I.ok.frames rfl ⟨st,new,ff,tr⟩ fin
abbrev OC (E:XK):XY:=⟨λ C _ H'=>E (.ref C) none H',false⟩
def HX{K:#[0]}{qual:Str}{scope:Scope}{cd:Value}{A:Around}{outer:List Env} :
  JL (mw (EV P w) P w K mg base N qual scope f cd A outer s H E) (OC E):=λ _ _ _ _ _ _ c h=>zL c h
def G4 (K:#[0])(G:DF):Sp:=λ vs H Q E=>∃ B0 ds,au B0 H/\ak K B0 No H ds vs []/\match G ds with
 |.ok d=>∀ B' H' v fp,lA K H B0 B' H' d v fp->Q v H'
 |.eB C=>∀ H',au H H'->E (.ref C) none H'
 |.bad=>False
structure vR (P:Program)(w:World)(K:PySem.W.Frag)(mg:Str->Option Value)(base:Heap)(k:Nat)(x:Str)(ps:List Str)(sp:Sp):Prop where
 ex:∃ f fd,mg x=some (.ref f)/\PySem.W.keepIn K (.ref f)=true/\Binds K fd ps []/\oY P w K mg base (EV P w) k f fd ps sp
def Bp (G:DF)(ds:List D):Res D:=if aB ds=true then (G (aG ds)).map D.aX else G (aG ds)
def dU (G:DF)(fs:#[40])(τ:SD):Res D:=(fs τ).bind (Bp G)
section
variable {K:#[0]}{Y:XY}{H0 B0 B:Hp}{τ:SD}{P:#[8]}{F:#[17]}{pos p:Pos}{e:Expr}{es:#[92]}{fs:#[40]}
def HW {k:Nat}{fd:FuncData}{sp:Sp}{Q:VK}{us:#[22]}{vs:List V}(hx:JL X Y)(hE:∀ C H',E (.ref C) none H'->Y C σ H')(F:oY X.prog X.w X.K X.mg X.base (EV X.prog X.w) k f fd ps sp)(hr:fG k X.A)(hb:Binds X.K fd ps [])
  (I:#[5]) (r:Vals vs us) (h:sp vs H Q E):wpAny #[13] X.A (call (.ref f) us) (EP X pins σ Q) X.xe s:=by
 have hl:us.length=ps.length:=by rw[<-r.length];exact F.len _ _ _ _ h
 have hb':=hb s us I.oV (by rw[Qi];exact hl);rw[Qi]at hb';refine TM (Sd (F.run X.A X.stack s H ⟨us,[]⟩ us vs Q E hr I.Ku hb' r h) λ r s' hq=>?_);cases r with
 | error e =>
  obtain⟨ea,C,H',rfl,c,hE'⟩:=CY I hq;exact hx _ _ _ _ _ _ c (hE C H' hE')
 | ok fl =>
  cases fl with
  |ret u=>exact I.after hq|next=>exact False.elim hq|brk=>exact False.elim hq|cont=>exact False.elim hq
def Lj {k:Nat}{G:DF}(hx:JL X Y)(C:vR X.prog X.w X.K X.mg X.base k x ps (G4 X.K G))(hr:fG k X.A)(hg:Gl X x)(ha:PA X (e::es) (nM X.K Y fs))(hdb:#[2]:=by decide)
  (he:#[9]:=by rfl) (hpl:#[45].any (·.1)=false:=by rfl):PE X #[48] (tM X.K Y (dU G fs)):=by
 obtain⟨f,fd,hm,hk,hb,Fn⟩:=C.ex;intro pins s σ H Q J ⟨H0,B0,B,τ,P,F,I,h⟩;have hq:nM X.K Y fs σ H (λ vs H1=>G4 X.K G vs H1 Q (λ c _ H'=>∃ C,c=.ref C/\Y C σ H')):=nM.seq I h λ ds vs H1 B1 fp _ I1 s1 b1 r1 k1 h1=>by
  unfold Bp at h1;split at h1
  ·refine⟨atRest B1 H1 (λ a=>a∈P\/a∈fp),aG ds,iC I1.bh,r1.aq (dI I1.bh) (λ a o s h=>fT (.inl s) h) (λ a m o h=>fT (.inr m) h),?_⟩;cases z:G (aG ds) with
   |eB c=>rw[z]at h1;exact λ H' sm=>⟨c,rfl,h1 H' B1 (I1.grow sm) sm #[49]⟩
   |bad=>rw[z]at h1;exact h1.elim
   | ok d =>
    rw[z]at h1;intro B' H' v fq r;obtain⟨B2,I2,s2,k2,hb⟩:=I1.called k1 (S:=λ a=>a∈P) (λ a s=>s) r;exact h1 v H' B2 fq I2 r.h0 s2 (r.rep.aX r.bh λ a o e=>(hb a o e).imp id λ z=>z.2) k2
  ·rename_i hb;have hb:aB ds=false:=by simpa using hb
   refine⟨atRest B1 H1 (λ a=>False\/a∈fp),aG ds,iC I1.bh,(r1.gu hb).aq (dI I1.bh) (λ a o s=>s.elim) (λ a m o h=>fT (.inr m) h),?_⟩;cases z:G (aG ds) with
   |eB c=>rw[z]at h1;exact λ H' sm=>⟨c,rfl,h1 H' B1 (I1.grow sm) sm #[49]⟩
   |bad=>rw[z]at h1;exact h1.elim
   | ok d =>
    rw[z]at h1;intro B' H' v fq r;obtain⟨B2,I2,s2,k2,hb⟩:=I1.called k1 (S:=λ _=>False) (λ a s=>s.elim) r;refine h1 v H' B2 fq I2 r.h0 s2 ?_ k2;have sb:au B' B2:=λ a o e=>(hb a o e).resolve_right λ z=>z.1;exact r.rep.mono #[49] sb λ _ x=>x.elim
 refine QT (lQ J hg hm ?_ hdb);refine TN (h₀:=X.base) J.ok.mod.J7 hk (eN (ha pos pins s σ H _ J hq) λ us s1 hq5=>L2.ex5 hq5 λ vs H1 I1 r q=>⟨I1.oV,?_⟩) he hpl;exact HW hx (λ C H' z=>by obtain⟨C',e,y⟩:=z;cases e;exact y) Fn hr hb I1 r q
def l6 {P:#[84]}{st:Stmt}{k n m:Nat}{g:SF}(D:kP K mg x st ps)(S:aP N ps (av st))(hn:ps.length=n)(hm:N.length=m)
  (hbody:∀ (f:Addr) (cdv:Value) (A:Around) (outer:List Env) (s:Shared) (H:Hp) (E:XK),fG k #[75]->JL (mw (EV P w) P w K mg base N x (av st) f cdv A outer s H E) (OC E) ->
   lR (mw (EV P w) P w K mg base N x (av st) f cdv A outer s H E) (dR st) (iZ K (OC E) g)):vR P w K mg base (k+1) x ps (G4 K (bM n m g)):=by
 subst hn hm;obtain⟨f,fd,Fn,hmg,hb⟩:=D.ex;refine⟨f,fd,hmg,Fn.kp,hb,?_⟩;obtain⟨oc,od,kV,doc,pm,an,cdv,ct,osl,rfl,lk,hcd⟩:=Fn.ex;refine Jp lk hcd S (λ vs H Q E h=>?_) λ A outer s H vs Q E hr h=>?_
 ·obtain⟨B0,ds,_,r,h⟩:=h;rw[<-r.length];unfold bM at h;by_cases hl:ds.length=ps.length
  ·exact hl
  ·rw[PL hl]at h;exact h.elim
 ·obtain⟨B0,ds,sB,r,h⟩:=h;unfold bM at h;by_cases hl:ds.length=ps.length
  ·rw[PH hl]at h;have e:L2.start N vs=vs.map some++List.replicate (N.length-ps.length) none:=by
    unfold L2.start;rw[<-r.length,hl]
   refine⟨_,hbody f cdv A outer s H E hr HX,H,B0,B0,ds.map some++List.replicate (N.length-ps.length) none,[],⟨sB,au.refl _,au.refl _,λ a n=>.inl n,by rw[e];exact j6 _ r,Qz,(λ a m=>by cases m),λ a m=>m.elim⟩,?_⟩;cases z:g (ds.map some++List.replicate (N.length-ps.length) none) with
   |rt d=>rw[z]at h;exact λ B' H' v fp q=>h B' H' v fp q
   | nx t =>
    rw[z]at h;intro B' H' σ' P' a;exact h B' H' .a8 [] ⟨a.si.h0,a.si.b0,a.si.bh,a.si.nb,⟨rfl,rfl⟩,Qz,λ a m=>by cases m⟩
   |bk t=>rw[z]at h;exact h.elim|ct t=>rw[z]at h;exact h.elim|ex C t=>rw[z]at h;exact λ B' H' σ' P' a=>h H' a.si.h0
   |bad=>rw[z]at h;exact h.elim
  ·rw[PL hl]at h;exact h.elim
end
abbrev jL:List Value:=[.type "ValueError",.type "Exception",.type "BaseException",.type "object"]
def mroIn (K:#[0])(C:Addr):Option #[22]:=match K.lookup C with
 |some ⟨_,_,.cls cd,_⟩=>some cd.mro
 |_=>none
structure fM (K:PySem.W.Frag)(mg:Str->Option Value)(x:Str)(C:Addr)(bm:List Value):Prop where
 mg:mg x=some (.ref C)
 ex:PySem.W.excIn K C jL "ValueError.__new__" = true
 mro:mroIn K C=some (.ref C::bm)
structure Li (h:Heap)(C:Addr)(bm:List Value):Prop where
 ob:∃ N nm q bs hdct sn sub ab col dd k0 k1 k2 k3 k5 mN,h.get? C=some (excClassObj nm q C N bs bm hdct sn sub ab col dd k0 k1 k2 k3 k5 "ValueError.__new__")/\h.Ns N mN/\mN "__init__" = none/\OwnTail h jL bm
def fM.obj {K:#[0]}{bm:#[22]}{h:Heap}(c:fM K mg x C bm)(X:K.In h):Li h C bm:=by
 obtain⟨_,q,m⟩:=c;unfold PySem.W.excIn at q;split at q
 ·rename_i dd cd sl ho;split at q
  ·rename_i C' bm' k0 k1 k2 k3 n k5 hm hs;simp only[Ql,Q6,Bool.not_eq_true']at q;obtain⟨⟨⟨⟨⟨rfl,rfl⟩,hdel⟩,ht⟩,hok⟩,hni⟩:=q;obtain⟨nm,bs,mro,ns,qn,hd,sn,sub,ab,col,del⟩:=cd;dsimp only at hm hdel hok hni;subst hm hdel;have hsl:sl = #[k0,k1,k2,k3,some (.builtin "ValueError.__new__"),k5]:=by
    obtain⟨l⟩:=sl;simp only at hs;rw[hs]
   subst hsl;have e:bm'=bm:=by
    unfold mroIn at m;rw[ho]at m;simpa using m
   subst e;exact⟨ns,nm,qn,bs,hd,sn,sub,ab,col,dd,k0,k1,k2,k3,k5,_,X _ _ ho,.of_isNs (PySem.W.isNs_of_in X hok),PySem.W.nsMap_none_of_in X hok hni,PySem.W.tail_of_in X ht⟩
  ·cases q
 ·cases q
def vS (C:Addr)(τ:SD):Fl:=.ex C τ
def CW{h':Heap}{e:Addr}{vs:#[22]}(I:#[5])(m:Heap.MadeExcOf s.heap h' e (.ref C) vs):HV X pins σ H e C { s with heap:=h' }:=by
 obtain⟨t,ht,_,_⟩:=m.there;have hin:∀ env∈X.stack,∀ a,env.frame=some a->a∈frs X.stack:=λ env he a ha=>TJ.mpr ⟨env,he,ha⟩;have st:(PySem.W.hideAll s.heap (frs X.stack)).StaysIn h':=λ b o q=>m.keeps b o (TH _ q);refine⟨I.kept (t':=s.toks) m.keeps,PySem.W.hideAll s.heap (frs X.stack),st,?_,?_,λ a o q=>?_,λ b o q n nf nx=>?_,λ p hp=>Sj _ (I.pin p hp).1 (EU I hp),.inl ⟨t,ht⟩⟩
 ·cases q:(PySem.W.hideAll s.heap (frs X.stack)).get? e with
  |none=>rfl|some o=>have:=TH _ q;rw[m.new]at this;cases this
 ·exact(PySem.W.funFrames_hide I.stack hin).of_keeps λ b o q _=>⟨o,m.keeps b o q,rfl⟩
 ·refine(I.hok a o q).stay (λ b u hb z=>Sj _ z λ hm=>?_) (λ _ z=>z) λ _ _ z=>z;have f:=I.vj b hm;rcases hb with rfl|hb
  ·rw[q]at f;cases f
  ·rw[hb]at f;cases f
 ·exact Sj _ (I.base.keep b o q n nf nx) (JM I q nf)
def Bq{Y:XY}{m:Str}{bm:#[22]}{np cpos pos cp:Pos}{j:Nat}(hx:JL X Y)(c:fM X.K X.mg x C bm)(hc:X.calm=true)(hg:Gl X x)(hdb:#[2]:=by decide)
  (he:starEach [.Constant (.str m) j cp] X.env=(false,eval (.Constant (.str m) j cp) X.env)::starEach [] X.env:=by rfl) (hpl:(backTo cpos (starEach [] X.env)).any (·.1)=false:=by rfl) :
  PS X (.Raise (some (.Call (.Name x np) [.Constant (.str m) j cp] [] cpos)) none pos) (iZ X.K Y (vS C)):=by
 intro pins s σ H D I ⟨H0,B0,B,τ,P,J,h⟩;obtain⟨N,nm,q,bs,hdct,sn,sub,ab,col,dd,k0,k1,k2,k3,k5,mN,hC,hN,hni,T⟩:=(c.obj I.mod.J7).ob;have pl:(backTo cpos (starEach [.Constant (.str m) j cp] X.env)).any (·.1)=false:=by
  rw[he];show(false||(backTo cpos (starEach [] X.env)).any (·.1))=false;rw[hpl];rfl
 refine wpAny_Raise_call_subT (C:=C) (nm:=nm) (q:=q) (N:=N) (bs:=bs) (bm:=bm) (hdct:=hdct) (sn:=sn) (sub:=sub) (ab:=ab) (col:=col) (dd:=dd) (k0:=k0) (k1:=k1) (k2:=k2) (k3:=k3) (k5:=k5) F.excBase_ValueError (mN:=mN) (T.hasType F.excBase_ValueError.hasBase) (I.ok.hd hc) pl hni (lQ I hg c.mg ⟨rfl,?_⟩ hdb);rw[he];refine Calls.evalArgs_plain (Sv ?_);refine @Calls.Constant_str _ _ _ _ _ m j cp _ (SE ?_);refine⟨rfl,RG rfl,I.bk _ _ hC,hN.keeps I.bk,T.keeps I.bk,λ h' e mk=>?_⟩;exact hx pins σ H e C _ (CW (I.tok _) mk) (h B H σ P (jU.refl J))
end XF
namespace XF
open PySem
def tO:entryFor table "proto.unchain" = some Builtin.«proto.unchain» :=SY (by kernel_rfl)
section
variable {prog:#[84]}{w:World}{A:Around}{E:#[4]}{s:Shared}
def CZ {α:Type}{ea e t:Addr}{C tb:Value}{oe:Obj}{vs:#[132]}{Q:α->Shared->Prop}(hh:A.handled=some (.ref ea))(ha:s.heap.get? ea=some (eX C t tb))(ne:ea≠e)(he:s.heap.get? e=some oe)(hd:oe.data=.fields vs)(hz:2<vs.size)
  (k:E (.ref e) { s with heap:=s.heap.update e (Obj.mapFields (·.setIfInBounds 2 (.ref ea))) }):wpAny #[12] A (raiseNew (.ref e):Sem α) Q E s:=by
 unfold raiseNew;refine Ph (S8 ?_);rw[hh];have b:(Value.ref ea != Value.ref e)=true:=by simpa using ne
 dsimp only;rw[PH b];have go:wpAny #[12] A (runValue (.builtin "proto.unchain" ⟨[.ref e,.ref ea,.ref ea,.bool false],[]⟩)) (λ _ s'=>s'=s) E s:=by
  refine wpAny_runValue (Rf tO ?_);unfold Builtin.«proto.unchain»;refine Ph (Qh ha rfl (x:=.none) rfl ?_);rw[PH #[120]];exact Po rfl
 have st:wpAny #[12] A (updateField e 2 (.ref ea)) (λ _ s'=>E (.ref e) s') E s:=RC (x:=.ref ea) he hd hz k;refine Ph (QV (QS go (λ _ s' q=>?_) λ _ _ z=>z));subst q;exact Ph (QS st (λ _ _ q=>Ug q) λ _ _ z=>z)
def zM {it ea t:Addr}{x left step:Int}{C tb:Value}{Q:#[131]}(hh:A.handled=some (.ref ea))(ha:s.heap.get? ea=some (eX C t tb))(hi:IsRangeIter s.heap it x left step)(hl:left<=0)
  (k:∀ h',(∀ b o,b≠it->s.heap.get? b=some o->h'.get? b=some o)->Q none { s with heap:=h' }):wpAny #[12] A (pyNext (.ref it)) Q E s:=by
 have ty:s.TypeIs (.ref it) "range_iterator" :=⟨_,hi,rfl⟩;unfold pyNext;refine Ph (QZ (Qf (name:=Str.ofString "__next__") ty F.slot_range_iterator_next (Qg F.slot_range_iterator_next ty F.entry_range_iterator_next ?_ (F.args_range_iterator_next_1 _))));show wpAny _ _ (field (.ref it) 0 >>= _) _ _ s;refine Ph (Qh hi rfl (x:=rawInt x) rfl (Ph (Qh hi rfl (x:=rawInt left) rfl (Ph (Qh hi rfl (x:=rawInt step) rfl ?_)))));show wpAny _ _ (if left<=0 then _ else _) _ _ s;rw[PH hl];refine Ph (RP (Ph ?_));show wpAny _ _ (newExc (.type "StopIteration") [] >>= _) _ _ _;refine Ph ?_;simp only[newExc,newTuple];refine Ph (Qk ?_ (by size_fits));refine Ph (m:=firstArgMember _ _) #[96];refine Qk ?_ (by size_fits);have lt:=Px ha;refine CZ (show A.in1.handled=some (.ref ea) from hh) (Pj _ (Pj _ ha)) (PY (by rw[Qt];exact RM lt)) (Pu _ rfl) rfl (RG rfl) ?_;refine Ph (Rz (T:="StopIteration") (b:=true) ⟨_,Qu _ (Pu _ rfl) rfl,rfl⟩ TV ?_);refine Po (k _ λ b o _ q=>?_);have lb:=Px q;rw[QB _ _ (λ z=>by rw[Qt]at z;exact absurd lb (by rw[<-z];exact Nat.not_lt.mpr (Rl _)))];exact Pj _ (Pj _ q)
end
end XF
namespace XF
open PySem PySem.Spec PyProof.Rows L2 DL
variable {X:Cx}{tg:Expr}{base:Heap}{H:Hp}{σ:L2.St}{pins:#[15]}{N ps:#[116]}{P:#[84]}{scope:Scope}{s:Shared}{mg:#[11]}{w:World}
def Known (X:Cx):Prop:=∃ (ea:Addr) (C:Value) (t:Addr) (tb:Value) (u:HO),X.A.handled=some (.ref ea)/\X.H₀ ea=some (.aq (eX C t tb) u)
def Known.obj(k:Known X)(I:#[5]):∃ ea C t tb,X.A.handled=some (.ref ea)/\s.heap.get? ea=some (eX C t tb):=by
 obtain⟨ea,C,t,tb,u,h1,h2⟩:=k;obtain⟨e,_⟩:=I.hok ea _ (I.base.mq ea _ u h2);exact⟨ea,C,t,tb,h1,e⟩
def Known.comp{cs:List (Str×Addr)}{C:Addr}{s0:Shared}{H0:Hp}{fp:#[8]}(k:Known X)(I:Inv X pins σ H0 s0):Known (iK X scope cs C N s0 H0 fp):=by
 obtain⟨ea,C,t,tb,u,h1,h2⟩:=k;exact⟨ea,C,t,tb,u,h1,I.base.mq ea _ u h2⟩
def xY{K:#[0]}(it:Addr)(lo:Int)(n:Nat):AM Known P w K tg (L7 lo n) [it] it (λ i h=>IsRangeIter h it (lo+(i:Nat)*1) ((n:Int)-(i:Nat)) 1) where
 mem:=by simp
 obj:=(jY (P:=P) (w:=w) (K:=K) (tg:=tg) it lo n).obj
 keep:=(jY (P:=P) (w:=w) (K:=K) (tg:=tg) it lo n).keep
 item:=by
  intro X hP hw hK _ i pins s σ H E I hf st hg;subst hP hw hK;have hg:i<n:=hg;obtain⟨f0,f1,f2,f3,f4,f5⟩:=hf it #[25];refine wpAny_pyNext_range_item st #[1] λ h' st' sb=>?_;have I1:Inv X pins σ H { s with heap:=h',toks:=s.toks+1 }:=I.turned (λ b o hb e=>(sb.2 b hb).trans e) f0 f1 f3 f4 f5;have st2:IsRangeIter h' it (lo+((i+1:Nat):Int)*1) ((n:Int)-((i+1:Nat):Int)) 1:=by
   have e1:lo+((i+1:Nat):Int)*1=lo+(i:Int)*1+1:=by omega
   have e2:(n:Int)-((i+1:Nat):Int)=(n:Int)-(i:Int)-1:=by omega
   rw[e1,e2];exact st'
  refine⟨_,rfl,xo (s:={ s with heap:=h',toks:=s.toks+1 }) (n:="range_iterator") st2 rfl rfl #[120] ⟨.int (lo+i),H,I1,⟨s.toks,?_⟩,⟨rfl,rfl⟩,st2,λ b hb=>(hf b hb).1⟩⟩;rw[Int.mul_one]
 done:=by
  intro X hP hw hK hc i pins s σ H E I hf st hg;subst hP hw hK;have hg:n<=i:=hg;obtain⟨f0,f1,f2,f3,f4,f5⟩:=hf it #[25];obtain⟨ea,C,t,tb,hh,ho⟩:=Known.obj hc I;exact zM hh ho st #[1] λ h' eb=>⟨rfl,I.turned (t':=s.toks) (λ b o hb e=>eb b o hb e) f0 f1 f3 f4 f5⟩
 self:=(jY (P:=P) (w:=w) (K:=K) (tg:=tg) it lo n).self
section
def C1{R:It->Hp->Prop}{E:#[4]}{lo hi:Int}{t u v:Tok}{tk:Nat}(I:#[5])(h1 : -(2^62)<=lo)(h2:lo<2^62)(h3 : -(2^62)<=hi)(h4:hi<2^62)
  (q:R (L7 lo (hi-lo).toNat) H):wpAny #[13] X.A (pyIter #[42]) (MN Known X pins σ tg R) E { s with heap:=s.heap.push { cls:=.type "range",data:=.fields #[.int lo t,.int hi u,.int 1 v] },toks:=tk }:=by
 refine wpAny_pyIter_range (IsRange.new ..) (small_one h1 h2 h3 h4) ?_;have I1:Inv X pins σ H { s with heap:=s.heap.push { cls:=.type "range",data:=.fields #[.int lo t,.int hi u,.int 1 v] },toks:=tk }:=I.kept λ b o e=>Pj _ e;refine⟨#[36].objs.size,[#[36].objs.size],_,_,H,rfl,
  I1.kept (t':=tk) λ b o e=>Pj _ e,xY _ lo (hi-lo).toNat,?_,λ b hb=>?_,q⟩
 ·have e1:lo+((0:Nat):Int)*1=lo:=by simp
  have e2:(((hi-lo).toNat:Nat):Int)-((0:Nat):Int)=Builtin.Range.rangeSize lo hi 1:=by rw[rangeSize_one];split<;>omega
  show IsRangeIter _ _ (lo+((0:Nat):Int)*1) ((((hi-lo).toNat:Nat):Int)-((0:Nat):Int)) 1;rw[e1,e2];exact Pu _ rfl
 ·have e:b=#[36].objs.size:=by simpa using hb
  subst e;exact I1.qL (Py _) (I1.hok.fresh (Py _))
def zQ {a:Expr}{ta:TA}{p pos:Pos}(hg:Gl X "range")(hm:X.mg "range" = none)(ha:PA X [a] ta)(hs:starEach [a] X.env=[(false,eval a X.env)]:=by rfl):HA Known X tg (.Call (.Name "range" p) [a] [] pos) (DU ta):=by
 intro pins s σ H R I h;refine Call_ (jk I hg hm boot_range (QL #[82] hs rfl));obtain⟨j,e,q1,q2,q⟩:=q1;subst e;cases r1 with
 | cons r rr =>
  cases rr;obtain⟨t,rfl⟩:=r;exact call_range_1 (C1 I1 #[1] #[1] q1 q2 (by simpa using q))
end
section
variable {K:#[0]}{Y:XY}{elt iter:Expr}{ifs:#[92]}{pos:Pos}{own:#[116]}{cap:List (Str×Nat)}{it:SD->Res #[106]}{tgd:xg}{tt:#[66]}{fe:#[28]}
def HA.imp {cm:Cx->Prop}{t t':TI}(h:HA cm X tg iter t)(hi:∀ σ H R,t' σ H R->t σ H R):HA cm X tg iter t':=λ pins s σ H R I hw=>h pins s σ H R I (hi σ H R hw)
def zP {a:Expr}{fs:#[40]}{p:Pos}(hg:Gl X "range")(hm:X.mg "range" = none)(ha:PA X [a] (nM X.K Y fs))(hs:starEach [a] X.env=[(false,eval a X.env)]:=by rfl):HA Known X tg (.Call (.Name "range" p) [a] [] pos) (Ba X.K Y (bC fs)):=
 HA.imp (zQ hg hm ha hs) λ σ H R h=>xP h
def zN {i:Nat}{y:Str}{py spos:Pos}(hk:Known X)(hN:X.N.Nodup)(hi':X.N[i]?=some y)(hy:Loc X.env.scope y)(ok:gE X scope own cap)(hi:HA Known X tg iter (Ba X.K Y it))(Bl:#[89])
  (hsw:#[127]:=by rfl)
  (hf:#[61]:=by first|exact .inl rfl|exact .inr rfl) (hs:#[39]:=by intro _;rfl) :
  PS X (.Assign [.Name y py] #[16] spos) (iZ X.K Y (aQ i (bo it tgd tt fe own.length cap))):=by
 refine PS.imp (pX (cm:=Known) hN hi' hy ok (λ _ _ _ _ _ _ _ _ I=>hk.comp I) hi Bl hsw hf hs) λ E σ H hq=>ex7 hq λ H0 B0 B τ P I h=>?_;have key:tM X.K Y (bo it tgd tt fe own.length cap) σ H (λ x H1=>qN i x σ H1 E.nx):=lB I h λ d v H1 B1 fp _ I1 _ _ r1 k1 h1=>by
  unfold jq at h1;split at h1
  ·exact h1.elim
  ·rename_i hb;obtain⟨P',I',_⟩:=I1.set i (r1.gu (by simpa using hb)) k1;exact h1 B1 H1 _ P' ⟨I',au.refl _,mK.refl _⟩
 obtain⟨H0',B0',B',τ',P',F',I',h'⟩:=key;exact pq I' h'
end
abbrev uH (k:Nat)(A:Around):Prop:=fG k { A with handled:=none }
def JO (P:#[84])(w:World)(K:#[0])(mg:#[11])(base:Heap)(N:#[116])(qual:Str)(scope:Scope)(f:Addr)(cd:Value)(A:Around)(outer:List Env)(s:Shared)(H:Hp):Cx:=
 { mw yW P w K mg base N qual scope f cd A outer s H E0 with calm:=false,xe:=λ _ _=>False }
structure JN (P:Program)(w:World)(K:PySem.W.Frag)(mg:Str->Option Value)(base:Heap)(k:Nat)(f:Addr)(fd:FuncData)(ps:List Str)(sp:Sp):Prop where
 len:∀ vs H Q E,sp vs H Q E->vs.length=ps.length
 run:∀ (A:Around) (outer:List Env) (s:Shared) (H:Hp) (args:Args) (us:#[22]) (vs:List V) (Q:VK),uH k A->(∃ (ea:Addr) (C:Value) (t:Addr) (tb:Value) (u:HO),A.handled=some (.ref ea)/\H ea=some (.aq (eX C t tb) u)) ->
  yY P w K mg base A outer s H->BindsTo s fd args (ps.zip us)->Vals vs us->sp vs H Q E0->codeAny (model P w) A (.call (.ref f) args) (CR yW outer P w H s Q E0) s
def zO{K:#[0]}{qual:Str}{f:Addr}{cd:Value}{A:Around}{outer:List Env}{s1:Shared}{us:#[22]}{vs:List V}
  (S:aP N ps scope) (e0:yY P w K mg base A outer s H) (hl:vs.length=ps.length) (r:Vals vs us)
  (x:InCallC s s.heap.objs.size (bindL #[62].kindOf (ps.zip us) λ _=>none) (cellsFrom #[55] scope.names []) (bindC #[62].kindOf (ps.zip us) λ _=>none) s1) :
  Inv (JO P w K mg base N qual scope f cd A outer s H) [] (L2.start N vs) H s1:=by
 have e0':yY P w K mg base { A with handled:=none } outer s H:=⟨e0.frames,e0.mod,e0.bs,e0.AV,e0.jX,e0.DS,e0.hok,e0.bare⟩;have I:=tY (CX:=yW) (E:=E0) (qual:=qual) (f:=f) (cd:=cd) (A:={ A with handled:=none }) S rfl e0' hl r x;exact⟨⟨I.ok.mod,I.ok.kind,I.ok.glob,I.ok.blt,I.ok.above,I.ok.inj,I.ok.has,I.ok.GX,(λ z=>by cases z),I.ok.frames,I.ok.G5,I.ok.Jv,I.ok.bs,I.ok.AV,I.ok.tm,I.ok.tq,I.ok.jX,I.ok.DS⟩,I.os,I.bare,I.base,I.loc,I.cell,I.free,I.gn,I.pin,I.hok,I.len⟩
def Lk{K:#[0]}{k:Nat}{f:Addr}{name qual:Str}{params:Arguments}{body:List Stmt}{dV kV doc pm cdv ct oc:Value}{an od:Option Addr}
  {osl:Array (Option Value)}{sp:Sp} (lk:K.lookup f=some ⟨oc,od,.func #[107],osl⟩) (hcd:PySem.W.codeIn K cdv qual=true) (S:aP N ps scope)
  (len:∀ vs H Q E,sp vs H Q E->vs.length=ps.length)
  (hbody:∀ (A:Around) (outer:List Env) (s:Shared) (H:Hp) (vs:List V) (Q:VK),uH k (A.deeper (envOfC qual scope s.heap.objs.size f cdv))->Known #[109]->sp vs H Q E0 ->
   ∃ t,lR #[109] body t/\t { nx:=λ _ H'=>Q .a8 H',rt:=Q } (L2.start N vs) H) :
  JN P w K mg base (k+1) f #[107] ps sp:=by
 refine⟨len,λ A outer s H args us vs Q hr hkn e0 hb r hsp=>?_⟩;have hl:=len _ _ _ _ hsp;have KX:K.In s.heap:=e0.mod.J7.keeps λ b o e=>(e0.bs b o e).1;have lim:s.heap.NoLimit:=e0.mod.nolimit.keeps λ b o e=>(e0.bs b o e).1;have hkind:∀ y∈ps.zip us,scope.names.lookup y.1=some .local\/(scope.names.lookup y.1=some .cell/\((cellsFrom #[55] scope.names []).lookup y.1).isSome=true):=λ ⟨n,v⟩ hy=>by
  rcases S.par n (Ti hy).1 with q|q
  ·exact .inl q
  ·exact .inr ⟨q,Rv _ _ _ (.inl q)⟩
 refine codeAny_call_function (show A.depth<recursionLimit from hr.depth) (KX _ _ lk) rfl S.co S.gen rfl (PySem.W.codeRec_of KX hcd) (hb _ _ _ _ ?_);refine wpAny_newFunctionEnv_cells S.kind hkind λ env he s1 x=>?_;subst he;refine⟨lim.keeps x.toInCall.keep,codeAny_func ?_⟩;have kn:Known #[109]:=hkn;obtain⟨t,ht,hq⟩:=hbody A outer s H vs Q (hr.deeper _) kn hsp;have I:Inv #[109] [] (L2.start N vs) H s1:=zO S e0 hl r x;refine QS (ht [] s1 (L2.start N vs) H _ I hq) (λ fl s' hs=>?_) λ e s' hs=>hs.elim;have fin:∀ {σ':L2.St}{H':Hp}{v:V}{u:Value},Inv #[109] [] σ' H' s'->RelV v u->Q v H'->CE outer P w H s Q u s':=
  λ {σ' H' v u} J rv q=>⟨v,H',J.os,J.bare,J.base,J.hok,rv,q⟩
 cases fl with
 | ret u =>
  obtain⟨v,σ',H',J,rv,q⟩:=hs;exact fin J rv q
 | next =>
  obtain⟨σ',H',J,q⟩:=hs;exact fin (v:=V.a8) (u:=Value.none) J rfl q
 | brk =>
  obtain⟨_,_,_,q⟩:=hs;exact False.elim q
 | cont =>
  obtain⟨_,_,_,q⟩:=hs;exact False.elim q
structure HZ (P:Program)(w:World)(K:PySem.W.Frag)(mg:Str->Option Value)(base:Heap)(k:Nat)(x:Str)(ps:List Str)(sp:Sp):Prop where
 ex:∃ f fd,mg x=some (.ref f)/\PySem.W.keepIn K (.ref f)=true/\Binds K fd ps []/\JN P w K mg base k f fd ps sp
def HY{K:#[0]}{x:Str}{st:Stmt}{k n m:Nat}{g:SF}(D:kP K mg x st ps)(S:aP N ps (av st))(hn:ps.length=n)(hm:N.length=m)
  (hbody:∀ (f:Addr) (cdv:Value) (A:Around) (outer:List Env) (s:Shared) (H:Hp),uH k #[75]->Known (JO P w K mg base N x (av st) f cdv A outer s H) ->
   lR (JO P w K mg base N x (av st) f cdv A outer s H) (dR st) (iZ K xG g)):HZ P w K mg base (k+1) x ps (jy K (bM n m g)):=by
 subst hn hm;obtain⟨f,fd,Fn,hmg,hb⟩:=D.ex;refine⟨f,fd,hmg,Fn.kp,hb,?_⟩;obtain⟨oc,od,kV,doc,pm,an,cdv,ct,osl,rfl,lk,hcd⟩:=Fn.ex;refine Lk lk hcd S (λ vs H Q E h=>?_) λ A outer s H vs Q hr kn h=>?_
 ·obtain⟨B0,ds,_,r,h⟩:=h;rw[<-r.length];unfold bM at h;by_cases hl:ds.length=ps.length
  ·exact hl
  ·rw[PL hl]at h;exact h.elim
 ·obtain⟨B0,ds,sB,r,h⟩:=h;unfold bM at h;by_cases hl:ds.length=ps.length
  ·rw[PH hl]at h;have e:L2.start N vs=vs.map some++List.replicate (N.length-ps.length) none:=by
    unfold L2.start;rw[<-r.length,hl]
   refine⟨_,hbody f cdv A outer s H hr kn,H,B0,B0,ds.map some++List.replicate (N.length-ps.length) none,[],⟨sB,au.refl _,au.refl _,λ a n=>.inl n,by rw[e];exact j6 _ r,Qz,(λ a m=>by cases m),λ a m=>m.elim⟩,?_⟩;cases z:g (ds.map some++List.replicate (N.length-ps.length) none) with
   |rt d=>rw[z]at h;exact λ B' H' v fp q=>h B' H' v fp q
   | nx t =>
    rw[z]at h;intro B' H' σ' P' a;exact h B' H' .a8 [] ⟨a.si.h0,a.si.b0,a.si.bh,a.si.nb,⟨rfl,rfl⟩,Qz,λ a m=>by cases m⟩
   |bk t=>rw[z]at h;exact h.elim|ct t=>rw[z]at h;exact h.elim|ex C t=>rw[z]at h;exact h.elim|bad=>rw[z]at h;exact h.elim
  ·rw[PL hl]at h;exact h.elim
end XF
namespace XF
open PySem
def Ll (h:Heap)(C:Addr)(bm:#[22]):Prop:=∃ N nm q bs hdct sn sub ab col dd k0 k1 k2 k3 k5 newId,h.get? C=some (excClassObj nm q C N bs bm hdct sn sub ab col dd k0 k1 k2 k3 k5 newId)
section
variable {M:Model}{A:Around}{E:#[4]}{h:Heap}{g:Array GenState}{d:Drawn}{t:Nat}{os:OsState}{e C D:Addr}{oe:Obj}{bm bn:#[22]}{Q:Bool->Shared->Prop}
def takes (hC:Ll h C bm)(hD:Ll h D bn)(he:h.get? e=some oe)(hc:oe.cls=.ref C)(hb:bn.contains (.type "BaseException")=true)(hq:Q ((Value.ref C::bm).contains (.ref D)) ⟨h,g,d,t,os⟩):wpAny M A (excMatches (.ref e) (.ref D)) Q E ⟨h,g,d,t,os⟩:=by
 obtain⟨N,nm,q,bs,hdct,sn,sub,ab,col,dd,k0,k1,k2,k3,k5,newId,hC⟩:=hC;obtain⟨N',nm',q',bs',hdct',sn',sub',ab',col',dd',k0',k1',k2',k3',k5',newId',hD⟩:=hD;have hcB:(Value.ref D::bn).contains (.type "BaseException")=true:=by rw[T5,hb,Uw]
 have f:=tc_notTuple;generalize hr:(Value.ref C::bm).contains (.ref D)=r at hq;unfold excMatches
 repeat (first|(with_reducible refine wpAny_loadPart_at he ?_;rw[hc])|with_reducible refine wpAny_loadPart_at hD ?_|(with_reducible refine wpAny_isSubtype_exc hD ?_;rw[hcB])|(with_reducible refine wpAny_isSubtype_exc hC ?_;rw[hr])|wp_step)
 cases r<;>(wp_walk;exact hq)
end
end XF
namespace XF
open PySem PySem.Spec PyProof.Rows L2 DL
variable {C e:Addr}{X:Cx}{h h':Heap}{H:Hp}{σ:L2.St}{pins:#[15]}{s:Shared}
def Ln {P:#[84]}{w:World}{a:Addr}{o:HO}(x:ck P w H h a o):∃ u,h.get? a=some u:=by
 cases o with
 |lst xs=>obtain⟨_,_,_,_,e⟩:=x;exact⟨_,e⟩| tup xs=>obtain⟨_,_,_,_,e⟩:=x;exact⟨_,e⟩| dK kvs ep=>obtain⟨_,_,_,_,o,_,e,_⟩:=x;exact⟨_,e⟩| dT kvs ep=>obtain⟨_,_,_,_,o,_,e,_⟩:=x;exact⟨_,e⟩| set S n=>obtain⟨o,_,_,_,e,_⟩:=x;exact⟨_,e⟩| ins C dx fs=>obtain⟨_,_,_,e,_⟩:=x;exact⟨_,e⟩| own y=>obtain⟨_,e⟩:=x;exact⟨_,e⟩| xd fs=>obtain⟨_,⟨_,_,_,e,_⟩,_⟩:=x;exact⟨_,e⟩| Nz lo hi=>obtain⟨_,_,_,e⟩:=x;exact⟨_,e⟩| aq ob u=>obtain⟨e,_⟩:=x;exact⟨_,e⟩| Jr ps=>exact⟨_,(show h.get? a=some _ from x)⟩| met f y=>exact⟨_,(show h.get? a=some _ from x)⟩| ext φ=>obtain⟨_,⟨_,e⟩,_⟩:=x;exact⟨_,e⟩
section
variable{B:Heap}
def Bs {fs:#[8]}(u:yX fs h h'){c:Addr}{v:Option Value}(q:h.IsCell c v):h'.IsCell c v:=by
 obtain⟨o,ho,hd⟩:=q;obtain⟨sl,z⟩:=u.up c o ho λ vs y=>by rw[hd]at y;cases y
 exact⟨_,z,hd⟩
def Br{fs:#[8]}(I:#[5])(hok:jj X.prog X.w H B)(cov:∀ b o,X.s₀.heap.get? b=some o->X.H₀ b=none->b∉X.fs->b∉X.ex->B.get? b=some o)(pin:∀ p∈X.pn++pins,B.get? p.1=some p.2)
  (st:B.StaysIn h') (u:yX fs s.heap h'):Inv X pins σ H { s with heap:=h' }:=by
 refine⟨I.ok,I.os,I.bare,⟨λ b o q n hb hx=>st _ _ (cov b o q n hb hx),λ b o q n hb hx=>?_,I.base.free,λ b o q hx=>?_,I.base.tups,I.base.mq,I.base.o4⟩,?_,λ x c q=>?_,I.free,I.gn,λ p hp=>⟨st _ _ (pin p hp),(I.pin p hp).2⟩,hok.kept st,I.len⟩
 ·obtain⟨sl,z⟩:=I.base.slot b o q n hb hx;obtain⟨_,o',q',nd⟩:=I.ok.jX.mem hb;rw[q]at q';cases q';obtain⟨sl',z'⟩:=u.up b _ z nd;exact⟨sl',z'⟩
 ·obtain⟨o',z⟩:=I.base.there b o q hx;exact u.ex b o' z
 ·obtain⟨m,hn,hl⟩:=I.loc;refine⟨m,u.up.ns hn,λ i x v a1 a2 a3=>?_⟩;obtain⟨w,r,l⟩:=hl i x v a1 a2 a3;refine⟨w,r,?_⟩;rcases l with l|⟨k,c,hc,q⟩
  ·exact .inl l
  ·exact .inr ⟨k,c,hc,Bs u q⟩
 ·obtain⟨v,z⟩:=I.cell x c q;exact⟨v,Bs u z⟩
def C2 {t:Addr}{tb:Value}(I:#[5])(hok:jj X.prog X.w H B)(cov:∀ b o,X.s₀.heap.get? b=some o->X.H₀ b=none->b∉X.fs->b∉X.ex->B.get? b=some o)(pin:∀ p∈X.pn++pins,B.get? p.1=some p.2)
  (st:B.StaysIn s.heap) (new:B.get? e=none) (he:s.heap.get? e=some (eX (.ref C) t tb)) (hex:e∉X.ex):H e=none/\Inv X pins σ (upd H e (.aq (eX (.ref C) t tb) (.own e))) s:=by
 have hn:H e=none:=by
  cases q:H e with
  |none=>rfl
  | some o =>
   obtain⟨u,z⟩:=Ln (hok e o q);rw[new]at z;cases z
 have nfs:e∉X.fs:=λ m=>by
  obtain⟨_,o,q,nd⟩:=I.jX.mem m;rw[he]at q;cases q;exact nd _ rfl
 have nL:X.env.locals≠e:=λ z=>by
  obtain⟨m,⟨o,es,ep,ho,hd,_⟩,_⟩:=I.loc;rw[z,he]at ho;cases ho;cases hd
 have ne:∀ b o,H b=some o->b≠e:=λ b o q z=>by rw[z,hn]at q;cases q
 refine⟨hn,I.ok,I.os,I.bare,⟨I.base.keep,I.base.slot,λ b o q n hx=>?_,I.base.there,λ b xs q=>?_,λ b o u q=>?_,λ b ps q=>?_⟩,I.loc,I.cell,?_,λ x c q=>?_,λ p hp=>?_,λ b o q=>?_,I.len⟩
 ·by_cases z:b=e
  ·exfalso;subst z;by_cases hb:b∈X.fs
   ·exact nfs hb
   ·have:=cov b o q n hb hx;rw[new]at this;cases this
  ·rw[aH z];exact I.base.free b o q n hx
 ·have z:=I.base.tups b xs q;rw[aH (ne b _ z)];exact z
 ·have z:=I.base.mq b o u q;rw[aH (ne b _ z)];exact z
 ·obtain⟨more,z⟩:=I.base.o4 b ps q;exact⟨more,by rw[aH (ne b _ z)];exact z⟩
 ·rw[aH nL];exact I.free
 ·rw[aH λ z=>?_]
  ·exact I.gn x c q
  ·obtain⟨v,o,ho,hd⟩:=I.cell x c q;rw[z,he]at ho;cases ho;cases hd
 ·obtain⟨h1,h2,h3⟩:=I.pin p hp;refine⟨h1,?_,h3⟩;rw[aH λ z=>?_]
  ·exact h2
  ·have:=pin p hp;rw[z,new]at this;cases this
 ·by_cases z:b=e
  ·subst z;rw[aN]at q;cases q;exact⟨he,_,he⟩
  ·rw[aH z]at q;exact(I.hok b o q).stay (λ c v _ y=>y) (λ c y=>by rw[aH (ne c _ y)];exact y) λ c xs y=>by rw[aH (ne c _ y)];exact y
def zR{tk:Nat}{m':#[11]}(I:#[5])(hn:h'.Ns X.env.locals m')(sb:Heap.SameBut X.env.locals s.heap h'):Inv X pins (List.replicate X.N.length none) H { s with heap:=h',toks:=tk }:=by
 have k:∀ b o,b≠X.env.locals->s.heap.get? b=some o->h'.get? b=some o:=λ b o n q=>(sb.2 b n).trans q;have neL:∀ b o,X.s₀.heap.get? b=some o->b≠X.env.locals:=λ b o q=>PY (Qe (Px q) I.ok.above);refine⟨I.ok,I.os,I.bare,⟨λ b o q n hb hx=>k b o (neL b o q) (I.base.keep b o q n hb hx),λ b o q n hb hx=>?_,I.base.free,λ b o q hx=>?_,I.base.tups,I.base.mq,I.base.o4⟩,⟨m',hn,λ i x v a1 a2 a3=>?_⟩,λ x c q=>?_,I.free,I.gn,λ p hp=>?_,λ b o q=>?_,by simp⟩
 ·obtain⟨sl,z⟩:=I.base.slot b o q n hb hx;exact⟨sl,k b _ (neL b o q) z⟩
 ·obtain⟨o',z⟩:=I.base.there b o q hx;exact⟨o',k b o' (neL b o q) z⟩
 ·rw[List.getElem?_replicate]at a2;split at a2<;>cases a2
 ·obtain⟨v,o,ho,hd⟩:=I.cell x c q;exact⟨v,o,k c o (I.Js x c q) ho,hd⟩
 ·obtain⟨h1,h2,h3,h4⟩:=I.pin p hp;exact⟨k _ _ h3 h1,h2,h3,h4⟩
 ·refine(I.hok b o q).stay (λ c v hc y=>k c v (λ z=>?_) y) (λ _ y=>y) λ _ _ y=>y;have f:=I.free;rw[<-z]at f;rcases hc with rfl|hc
  ·rw[q]at f;cases f
  ·rw[hc]at f;cases f
end
abbrev M8 (X:Cx)(pn:#[15])(W:#[4]):Cx:={ X with pn:=pn,xe:=W }
def Lm{W:#[4]}(I:#[5]):Inv (M8 X (X.pn++pins) W) [] σ H s:=
 ⟨⟨I.ok.mod,I.ok.kind,I.ok.glob,I.ok.blt,I.ok.above,I.ok.inj,I.ok.has,I.ok.GX,I.ok.hd,I.ok.frames,I.ok.G5,I.ok.Jv,I.ok.bs,I.ok.AV,I.ok.tm,I.ok.tq,I.ok.jX,I.ok.DS⟩,I.os,I.bare,I.base,I.loc,I.cell,I.free,I.gn,λ p hp=>I.pin p (by simpa using hp),I.hok,I.len⟩
def nW{pins':#[15]}{W:#[4]}(I:Inv (M8 X (X.pn++pins) W) pins' σ H s):Inv X pins σ H s:=
 ⟨⟨I.ok.mod,I.ok.kind,I.ok.glob,I.ok.blt,I.ok.above,I.ok.inj,I.ok.has,I.ok.GX,I.ok.hd,I.ok.frames,I.ok.G5,I.ok.Jv,I.ok.bs,I.ok.AV,I.ok.tm,I.ok.tq,I.ok.jX,I.ok.DS⟩,I.os,I.bare,I.base,I.loc,I.cell,I.free,I.gn,λ p hp=>I.pin p (PD _ hp),I.hok,I.len⟩
abbrev M7 (X:Cx)(e:Addr):Cx:={ X with A:=X.A.mark (some (.ref e)),calm:=false,xe:=λ _ _=>False }
def EX(e:Addr)(I:#[5]):Inv (M7 X e) pins σ H s:=
 ⟨⟨I.ok.mod,I.ok.kind,I.ok.glob,I.ok.blt,I.ok.above,I.ok.inj,I.ok.has,I.ok.GX,(λ z=>by cases z),I.ok.frames,I.ok.G5,I.ok.Jv,I.ok.bs,I.ok.AV,I.ok.tm,I.ok.tq,I.ok.jX,I.ok.DS⟩,I.os,I.bare,I.base,I.loc,I.cell,I.free,I.gn,I.pin,I.hok,I.len⟩
def EW(ok:X.Ok)(I:Inv (M7 X e) pins σ H s):Inv X pins σ H s:=
 ⟨ok,I.os,I.bare,I.base,I.loc,I.cell,I.free,I.gn,I.pin,I.hok,I.len⟩
def lD (g:SF)(BL:Addr->Bool)(G:DF)(τ:SD):Fl:=match g τ with
 |.ex C _=>if BL C=true then (match G [.exc C] with|.ok d=>.rt d|_=>.bad) else .bad
 |r=>r
def Li.cls{bm:#[22]}(x:Li h C bm):Ll h C bm:=by
 obtain⟨N,nm,q,bs,hdct,sn,sub,ab,col,dd,k0,k1,k2,k3,k5,mN,hC,_⟩:=x.ob;exact⟨N,nm,q,bs,hdct,sn,sub,ab,col,dd,k0,k1,k2,k3,k5,_,hC⟩
def Ia{t:Addr}{tb:Value}{u:HO}{k i:Nat}{y n p:Str}{G:DF}{p1 p2 cp:Pos}(Cw:HZ X.prog X.w X.K X.mg X.base k y [p] (jy X.K G))(hr:uH k X.A)(hgy:Gl X y)(hi:X.N[i]?=some n)(hv:sX X.env.scope n)(hdb:#[113])(hd:(n == ("__debug__" : Str))=false)(hcd:(n == ("__classdict__" : Str))=false)
  (he:starEach [.Name n p2] X.env=(false,eval (.Name n p2) X.env)::starEach [] X.env) (hpl:(backTo cp (starEach [] X.env)).any (·.1)=false) :
  PE (M7 X e) (.Call (.Name y p1) [.Name n p2] [] cp) (λ σ H Q=>σ[i]?=some (some (.ref e))/\H e=some (.aq (eX (.ref C) t tb) u)/\jy X.K G [.ref e] H Q E0):=by
 obtain⟨f,fd,hm,hk,hb,Fn⟩:=Cw.ex;intro pins s σ H Q J ⟨h1,h2,h3⟩;refine QT (lQ J hgy hm ?_ hdb);have ha:PA (M7 X e) [.Name n p2] _:=bY (dH (X:=M7 X e) (i:=i) (pos:=p2) hi hv hd hcd) dQ he;refine TN (h₀:=X.base) J.ok.mod.J7 hk (eN (ha cp pins s σ H (λ vs H1=>vs=[.ref e]/\H1=H) J ⟨.ref e,h1,rfl,rfl⟩) λ us s1 hq5=>L2.ex5 hq5 λ vs H1 J1 r q=>⟨J1.oV,?_⟩) he hpl;obtain⟨rfl,rfl⟩:=q;have hl:us.length=[p].length:=by rw[<-r.length];rfl
 have hb':=hb s1 us J1.oV (by rw[Qi];exact hl);rw[Qi]at hb';refine TM (Sd (Fn.run (X.A.mark (some (.ref e))) X.stack s1 H1 ⟨us,[]⟩ us [.ref e] Q hr ⟨e,.ref C,t,tb,u,rfl,h2⟩ J1.Ku hb' r h3) λ r s' hq=>?_);cases r with
 |error e=>exact hq.elim
 | ok fl =>
  cases fl with
  |ret u=>exact J1.after hq|next=>exact False.elim hq|brk=>exact False.elim hq|cont=>exact False.elim hq
def vU{Y:XY}{body:List Stmt}{x n y p:Str}{np p1 p2 cp hpos rpos pos:Pos}{g:SF}{i k:Nat}{NE:Addr}{bn:#[22]}{BL:Addr->Bool}{G:DF}
  (hb:∀ (pn:#[15]) (W:#[4]) (y':Addr->L2.St->Hp->Prop),JL (M8 X pn W) ⟨y',false⟩->lR (M8 X pn W) body (iZ X.K ⟨y',false⟩ g))
  (c:fM X.K X.mg x NE bn) (hIn:∀ C,BL C=true->∃ nm bm,fM X.K X.mg nm C bm/\(Value.ref C::bm).contains (.ref NE)=true)
  (Cw:HZ X.prog X.w X.K X.mg X.base k y [p] (jy X.K G)) (hr:uH k X.A) (hN:X.N.Nodup) (hi:X.N[i]?=some n) (hn:X.env.scope.names.lookup n=some .local) (hgx:Gl X x:=by rfl) (hgy:Gl X y:=by rfl)
  (hst:X.stack=X.env::X.outer:=by rfl) (hfr:X.env.frame=some X.env.locals:=by rfl) (hex:X.ex=[]:=by rfl) (hkf:X.env.scope.kind=.function:=by rfl)
  (hdx:#[2]:=by decide) (hdb:#[113]:=by decide) (hd:(n == ("__debug__" : Str))=false:=by decide) (hcd:(n == ("__classdict__" : Str))=false:=by decide)
  (he:starEach [.Name n p2] X.env=(false,eval (.Name n p2) X.env)::starEach [] X.env:=by rfl) (hpl:(backTo cp (starEach [] X.env)).any (·.1)=false:=by rfl) (hl:Y.ln=false:=by rfl) :
  PS X (.Try body [.ExceptHandler (some (.Name x np)) (some n) [.Return (some (.Call (.Name y p1) [.Name n p2] [] cp)) rpos] hpos] [] [] pos) (iZ X.K Y (lD g BL G)):=by
 intro pins s σ H D I ⟨H0,B0,B,τ,P,J,h⟩;refine wpAny_Try_except ?_;have main:JL (M8 X (X.pn++pins) λ e s₁=>wpAny #[13] X.A (noteFrame e X.env) (λ _ s₂=>wpAny #[13] X.A (setFlight e none) (λ _ s₃=>wpAny #[13] X.A (handleBy e X.env [.ExceptHandler (some (.Name x np)) (some n) [.Return (some (.Call (.Name y p1) [.Name n p2] [] cp)) rpos] hpos]) (SP X pins D) X.xe s₃) X.xe s₂) X.xe s₁)
   ⟨λ C σ' H'=>∃ t B' P',jU X.K H0 B0 B H B' H' σ' t P'/\g τ=.ex C t,false⟩:=by
  rintro pins' σ' H' e C s' ⟨I',Bh,st,new,ff,hok,cov,pin,made⟩ ⟨t,B',P',aft,hg⟩;unfold lD at h;rw[hg]at h;have h:cy X.K Y H0 B0 B H D (if BL C=true then (match G [.exc C] with|.ok d=>.rt d|_=>.bad) else .bad):=h;split at h
  ·rename_i hc;cases zG:G [.exc C] with
   |eB c=>rw[zG]at h;exact h.elim|bad=>rw[zG]at h;exact h.elim
   | ok d =>
    rw[zG]at h;have Ix:=nW I';have cov':∀ b o,X.s₀.heap.get? b=some o->X.H₀ b=none->b∉X.fs->b∉X.ex->Bh.get? b=some o:=cov;have pin':∀ p∈X.pn++pins,Bh.get? p.1=some p.2:=λ p hp=>pin p (PD _ hp);have ff':s'.heap.FunFrames Bh (X.env::X.outer):=by rw[<-hst];exact ff
    have fr:X.A.frames=some (X.env::X.outer):=by rw[<-hst];exact Ix.ok.frames
    have rest:∀ h1,zJ Bh (X.env::X.outer) e (.ref C) (rawInt X.env.locals) h1->yX (G3 (X.env::X.outer)) s'.heap h1 ->
      wpAny #[13] X.A (setFlight (.ref e) none) (λ _ s₃=>wpAny #[13] X.A (handleBy (.ref e) X.env [.ExceptHandler (some (.Name x np)) (some n) [.Return (some (.Call (.Name y p1) [.Name n p2] [] cp)) rpos] hpos]) (SP X pins D) X.xe s₃) X.xe { s' with heap:=h1 }:=by
     intro h1 f1 u1;refine mark (fs:=G3 (X.env::X.outer)) (x:=none) f1 λ h2 f2 u2=>?_;have u02:=u1.trans u2;have I2:=Br Ix hok cov' pin' f2.st u02;obtain⟨ta,T,oT,ts,he2,_⟩:=f2.tr.ex;refine wpAny_handleBy_cons (codeAny_handlers_test (lQ (EX e I2) hgx c.mg ?_ hdx)) (by intro q;cases q);obtain⟨nm,bm,cC,hcon⟩:=hIn C hc;refine takes (cC.obj I2.oV).cls (c.obj I2.oV).cls he2 rfl ?_ ?_
     ·obtain⟨_,_,_,_,_,_,_,_,_,_,_,_,_,_,_,_,_,_,_,T⟩:=(c.obj I2.oV).ob;exact T.hasType F.excBase_ValueError.hasBase
     ·rw[hcon];refine codeAny_handlers_suite_as ?_;refine mark (fs:=G3 (X.env::X.outer)) (x:=none) f2 λ h3 f3 u3=>?_;have I3:=Br Ix hok cov' pin' f3.st (u02.trans u3);obtain⟨ta3,T3,oT3,ts3,he3,_⟩:=f3.tr.ex;obtain⟨hHe,I4⟩:=C2 I3 hok cov' pin' f3.st f3.new he3 (by rw[hex];exact λ z=>by cases z);generalize hH4:upd H' e (.aq (eX (.ref C) ta3 (.ref T3)) (.own e))=H4 at I4;have h4e:H4 e=some (.aq (eX (.ref C) ta3 (.ref T3)) (.own e)):=by rw[<-hH4];exact aN
      have s34:au H' H4:=by rw[<-hH4];exact du hHe
      refine qO I4 hN hi (.inl hn) (show RelV (.ref e) (.ref e) from rfl) (λ s5 I5=>?_) (.inr hn);have len5:i<σ'.length:=by rw[Ix.len];exact(Pw.mp hi).1
      have q5:(σ'.set i (some (V.ref e)))[i]?=some (some (.ref e)):=QA len5;have hsp:jy X.K G [.ref e] H4 (λ v H5=>∃ B5 fp,lA X.K H4 B' B5 H5 d v fp) E0:=by
       refine⟨B',[.exc C],aft.si.bh.trans s34,ak.one ⟨⟨e,rfl,ta3,.ref T3,.own e,h4e⟩,rfl⟩,?_⟩;rw[zG];exact λ B5 H5 v fp r=>⟨B5,fp,r⟩
      have run:=AO (oW (pos:=rpos) (Ia (e:=e) (C:=C) (t:=ta3) (tb:=.ref T3) (u:=.own e) (p1:=p1) (p2:=p2) (cp:=cp) Cw hr hgy hi (.inl hn) hdb hd hcd he hpl)) pins s5 (σ'.set i (some (.ref e))) H4 { nx:=λ _ _=>False,rt:=λ v H5=>∃ B5 fp,lA X.K H4 B' B5 H5 d v fp } (EX e I5) ⟨q5,h4e,hsp⟩;refine QS run (λ f s6 hf=>?_) λ _ _ z=>z.elim;cases f with
      |next=>obtain⟨_,_,_,z⟩:=hf;exact z.elim|brk=>obtain⟨_,_,_,z⟩:=hf;exact z.elim|cont=>obtain⟨_,_,_,z⟩:=hf;exact z.elim
      | ret u6 =>
       obtain⟨v,σ6,H6,I6,rv,B5,fp,r⟩:=hf;have I6':=EW Ix.ok I6;obtain⟨m6,hn6,_⟩:=I6'.loc;refine wpAny_nameGoes (show X.env.kindOf n=some .local from hn) hn6 (by rw[hkf];rfl) λ h7 m7 hn7 sb=>?_;refine⟨v,_,H6,zR I6' hn7 sb,rv,(cy.rt hl h) B5 H6 v fp ⟨aft.si.h0.trans (s34.trans r.h0),aft.si.b0.trans r.b0,r.bh,λ a na=>?_,r.rep,r.nd,λ a ha=>?_⟩⟩
       ·rcases r.nb a na with z|z
        ·exact aft.si.nb a z
        ·exact .inr (aft.si.h0.free (s34.free z))
       ·obtain⟨z1,z2,z3⟩:=r.own a ha;exact⟨z1,aft.si.h0.free (s34.free z2),z3⟩
    rcases made with ⟨t0,h0⟩|tr
    ·exact uG fr hfr ff' h0 st new rest
    ·exact note fr hfr ⟨st,new,ff',tr⟩ rest
  ·exact h.elim
 have go:=hb _ _ _ main [] s σ H D (Lm I) ⟨H0,B0,B,τ,P,J,by
  unfold lD at h;cases z:g τ with
  |nx t=>rw[z]at h;exact h|bk t=>rw[z]at h;exact h|ct t=>rw[z]at h;exact h|rt d=>rw[z]at h;exact λ B' H' v fp r=>cy.rt hl h B' H' v fp r
  |ex C t=>exact λ B' H' σ' P' a=>⟨t,B',P',a,rfl⟩
  |bad=>rw[z]at h;exact h⟩
 refine QS go (λ f s1 q=>?_) λ _ _ z=>z;cases f with
 |next=>obtain⟨σ',H',I',q⟩:=q;exact Sq ⟨σ',H',nW I',q⟩| brk=>obtain⟨σ',H',I',q⟩:=q;exact⟨σ',H',nW I',q⟩| cont=>obtain⟨σ',H',I',q⟩:=q;exact⟨σ',H',nW I',q⟩| ret u=>obtain⟨v,σ',H',I',r,q⟩:=q;exact⟨v,σ',H',nW I',r,q⟩
end XF
namespace XF
open PySem PySem.W PySem.Spec PyProof.Rows
structure nX (K:Frag)(C:Addr):Prop where
 ga:findIn K (.ref C) "__getattribute__" = some (some (.builtin "BaseException.__getattribute__"))
 gt:findIn K (.ref C) "__getattr__" = some none
 fo:findObj K C none "__class__" = some (.bind #[91] #[60])
 mo:PySem.W.mroIn K C (.type "object")=some true
 mb:PySem.W.mroIn K C (.type "BaseException")=some true
 cl:(clsIn K C).isSome=true
section
variable {prog:#[84]}{w:World}{A:Around}{E:#[4]}{s:Shared}{K:Frag}{x C:Addr}{ox:Obj}
def C3 (k:nX K C){Q:#[131]}(X:K.In s.heap)(I:PySem.W.InstAt s.heap x ox C none)(h:Q (some (.ref C)) { s with toks:=s.toks+1 }):wpAny #[12] A (getAttr? (.ref x) "__class__") Q E s:=by
 obtain⟨hh,g,d,t,os⟩:=s;have L0:=I.type (M:=model prog w);have L1:=looks_findIn (M:=model prog w) X k.ga;have L2:=looks_findIn (M:=model prog w) X k.gt;unfold getAttr? getAttrBy? getAttrBy;refine Ph (wpAny_mkText (Ph (QZ (QV (Ph (L0.at (Ph (L1.at ?_))))))));have hx:(onTheHeap (Value.ref C)&&Value.builtin "BaseException.__getattribute__" == Value.builtin "object.__getattribute__")=false:=by
  rw[show(Value.builtin "BaseException.__getattribute__" == Value.builtin "object.__getattribute__")=false by decide +kernel];exact UA _
 simp only[hx,Qc,RL];unfold getAttrByItsOwn hookBefore callGetattribute;rw[PH (show onTheHeap (Value.ref C)=true from rfl)];refine Ph (L2.at (Ph (QZ (QV ?_))));rw[PL #[25]];unfold boundAndCalled;rw[F.excAttr_ValueError.ga.bind (.ref x)];refine Ph (Po ?_);show wpAny _ _ (call (.builtin "BaseException.__getattribute__") [.ref x,.str (Str.ofString "__class__") t]) _ _ _;have LI:Looks #[12] hh (isInstance (.ref x) (.type "BaseException")) true:=L0.andThen (looks_mroIn X k.mb);have LF:=looks_find (M:=model prog w) X I k.fo;have hk:builtinKind "BaseException.__getattribute__" = some .slot:=by decide +kernel
 have hsplit:splitId "BaseException.__getattribute__" = some ("BaseException","__getattribute__"):=by decide +kernel
 have ha:=F.args_bexc_ga (.ref x) (.str (Str.ofString "__class__") t);refine TM (codeAny_call_builtin F.excAttr_ValueError.ga.plain F.entry_bexc_ga ?_);simp only[checkBuiltinCall,hk,hsplit];refine Ph (LI.at ?_);have get:wpAny #[12] A.in1 (Builtin.«object.__getattribute__» ⟨[.ref x,.str (Str.ofString "__class__") t],[]⟩) (λ fin s'=>fin=.done (.ret (.ref C))/\s'=⟨hh,g,d,t+1,os⟩) (λ _ _=>False) ⟨hh,g,d,t+1,os⟩:=by
  refine Ph (Po (Ph (Po (Ph (L0.at (Ph (LF.at ?_)))))));show wpAny _ _ (holding [_] (call #[91] [.builtin "object.__class__",.ref x,.ref C]) >>= ret) _ _ _;exact Ph (QV (TM (class_get (s:=⟨hh,g,d,t+1,os⟩) (od:=none) X I k.mo (Po ⟨rfl,rfl⟩))))
 rw[PL #[25]];refine Tc (a:=()) ?_ (QS get (λ fin s' z=>?_) λ _ _ z=>z.elim)
 ·unfold argsOk at ha
  revert ha
  generalize Manifest.signature? "BaseException.__getattribute__" = sg;cases sg<;>exact id
 ·obtain⟨rfl,rfl⟩:=z;exact handed_on rfl (Po h)
def xZ {t:Addr}{tb:Value}(k:nX K C):KitX K (.ref x) (.ref C) (λ h=>h.get? x=some (eX (.ref C) t tb)) where
 ty:=λ _ _ _ e=>(Looks.ld e).andThen .now
 it:=λ _ _ X _=>by
  have hc:=k.cl;unfold clsIn at hc;split at hc
  ·rename_i c' d' cd' sl' ho;intro A' Q' E' s' kk q;unfold isType loadHead;exact Ph (wpAny_loadPart (kk _ _ (X _ _ ho)) (Po q))
  ·cases hc
 ne:=λ h tp dd its n sl X htp=>by
  have hc:=k.cl;refine Bool.eq_false_iff.mpr λ q=>?_;have e:C=tp:=Value.ref.inj (Q6.mp q);subst e;unfold clsIn at hc;split at hc
  ·rename_i c' d' cd' sl' ho;have z:=(X _ _ ho).symm.trans htp;cases z
  ·cases hc
 ca:=λ X e h=>C3 k X ⟨e,rfl,rfl,trivial⟩ h
end
end XF
namespace XF
open PySem PySem.Spec PyProof.Rows L2 DL
section
variable {K:#[0]}{Y:XY}{H0 B0 B H:Hp}{σ:L2.St}{τ:SD}{P:#[8]}{F:#[17]}{X:Cx}{pos p pt:Pos}{e:Expr}{fe:#[28]}
def rH {cv:V}{c:Value}(hc:∀ u,RelV cv u->u=c):eO X (.builtin "isinstance") (λ xs H Q=>∃ a C t tb u b,xs=[.ref a,cv]/\H a=some (.aq (eX (.ref C) t tb) u)/\nX X.K C/\PySem.W.kitOne X.K (.ref C) c=some b/\Q (.bl b) H):=by
 intro pins s σ H xs us Q I r h;obtain⟨a,C,t,tb,u,b,rfl,hH,k,e,q⟩:=h;obtain⟨u1,u2,rfl,r1,r2⟩:=vals2 r;cases r1;have r2:=hc _ r2;subst r2;obtain⟨ho,_⟩:=I.hok a _ hH;exact QD (xZ k) I.oV ho e (λ z=>nomatch z) λ tk=>⟨.bl b,H,I.tok tk,rfl,q⟩
def uI:∀ {cs:#[8]}{us:#[22]},Vals (cs.map V.ref) us->us=cs.map Value.ref
 |[],us,r=>by cases r;rfl
 | c::cs,us,r=>by
  cases r with
  |cons h t=>rw[uI t];cases h;rfl
def x6 {cs:#[8]}:eO X (.builtin "isinstance") (λ xs H Q=>∃ a tp C t tb u b,xs=[.ref a,.ref tp]/\H tp=some (.tup (cs.map V.ref))/\H a=some (.aq (eX (.ref C) t tb) u)/\nX X.K C/\PySem.W.kitAny X.K (.ref C) (cs.map Value.ref)=some b/\Q (.bl b) H):=by
 intro pins s σ H xs us Q I r h;obtain⟨a,tp,C,t,tb,u,b,rfl,hT,hH,k,e,q⟩:=h;obtain⟨u1,u2,rfl,r1,r2⟩:=vals2 r;cases r1;cases r2;obtain⟨ho,_⟩:=I.hok a _ hH;obtain⟨_,its,rv,n,hits⟩:=(show ck X.prog X.w H s.heap tp (.tup (cs.map V.ref)) from I.hok tp _ hT);have:=uI rv;subst this;exact PySem.W.kia_tup (xZ k) I.oV ho hits e (λ z=>nomatch z) λ tk=>⟨.bl b,H,I.tok tk,rfl,q⟩
def cD (L:#[8])(p:Addr->Bool):D->Res D
 |.exc C=>if L.contains C=true then .ok (.bl (p C)) else .bad
 |_=>.bad
def zS {d:D}{v:V}{f:#[8]}{L:#[8]}{q:Addr->Bool}{Q:VK}(r:Rep K B (· ∈ P) H d v f)(h:Goal K Y H0 B0 B H σ τ P F Q (cD L q d)) :
  ∃ a C t tb u,v=.ref a/\H a=some (.aq (eX (.ref C) t tb) u)/\L.contains C=true/\Goal K Y H0 B0 B H σ τ P F Q (.ok (.bl (q C))):=by
 cases d with
 | exc C =>
  obtain⟨⟨a,rfl,t,tb,u,hH⟩,_⟩:=r;have h:Goal K Y H0 B0 B H σ τ P F Q (if L.contains C=true then .ok (.bl (q C)) else .bad):=h;by_cases hc:L.contains C=true
  ·rw[PH hc]at h;exact⟨a,C,t,tb,u,rfl,hH,hc,h⟩
  ·rw[PL hc]at h;exact h.elim
 |_=>exact h.elim
def iE {x:Str}{D:Addr}{L:#[8]}{q:Addr->Bool}(hL:∀ C,L.contains C=true->nX X.K C/\PySem.W.kitOne X.K (.ref C) (.ref D)=some (q C))(hg:Gl X "isinstance")(hm:X.mg "isinstance" = none)(he:#[46])(hgT:Gl X x)(hmT:X.mg x=some (.ref D))
  (hs:starEach [e,.Name x pt] X.env=(false,eval e X.env)::starEach [.Name x pt] X.env:=by rfl) (hs2:starEach [.Name x pt] X.env=(false,eval (.Name x pt) X.env)::starEach [] X.env:=by rfl) (hpl:(backTo pos (starEach [.Name x pt] X.env)).any (·.1)=false:=by rfl) (hdb:#[2]:=by decide) :
  PE X (.Call (.Name "isinstance" p) [e,.Name x pt] [] pos) (tM X.K Y (fZ (cD L q) fe)):=by
 refine PE.imp (jz (rH (cv:=.ref D) (c:=.ref D) λ u r=>r) hg hm #[30] (bY he (bY (AS hgT hmT (show RelV (.ref D) _ from rfl) hdb) dQ hs2) hs) (he:=hs) (hpl:=hpl)) λ σ H Q hq=>ex8 hq λ H0 B0 B τ P F I h=>?_;refine tM.seq (g:=cD L q) I h λ d v H1 B1 fp _ I1 s1 b1 r1 k1 h1=>?_;obtain⟨a,C,t,tb,u,rfl,hH,hc,h2⟩:=zS r1 h1;obtain⟨k,e⟩:=hL C hc;exact⟨a,C,t,tb,u,_,rfl,hH,k,e,Out.here h2 I1 ⟨rfl,rfl⟩⟩
def EZ {x:Str}{T:String}{L:#[8]}{q:Addr->Bool}(hL:∀ C,L.contains C=true->nX X.K C/\PySem.W.kitOne X.K (.ref C) (.type T)=some (q C))(hg:Gl X "isinstance")(hm:X.mg "isinstance" = none)(he:#[46])(hgT:Gl X x)(hmT:X.mg x=none)(hbT:bootBuiltins x=some (.type T))
  (hs:starEach [e,.Name x pt] X.env=(false,eval e X.env)::starEach [.Name x pt] X.env:=by rfl) (hs2:starEach [.Name x pt] X.env=(false,eval (.Name x pt) X.env)::starEach [] X.env:=by rfl) (hpl:(backTo pos (starEach [.Name x pt] X.env)).any (·.1)=false:=by rfl) (hn:x ≠ "__name__" :=by decide) (hdb:#[2]:=by decide) :
  PE X (.Call (.Name "isinstance" p) [e,.Name x pt] [] pos) (tM X.K Y (fZ (cD L q) fe)):=by
 refine PE.imp (jz (rH (cv:=.ty T) (c:=.type T) λ u r=>r) hg hm #[30] (bY he (bY (AR hgT hmT hbT (show RelV (.ty T) _ from rfl) hn hdb) dQ hs2) hs) (he:=hs) (hpl:=hpl)) λ σ H Q hq=>ex8 hq λ H0 B0 B τ P F I h=>?_;refine tM.seq (g:=cD L q) I h λ d v H1 B1 fp _ I1 s1 b1 r1 k1 h1=>?_;obtain⟨a,C,t,tb,u,rfl,hH,hc,h2⟩:=zS r1 h1;obtain⟨k,e⟩:=hL C hc;exact⟨a,C,t,tb,u,_,rfl,hH,k,e,Out.here h2 I1 ⟨rfl,rfl⟩⟩
def NP (X:Cx)(es:#[92])(cs:#[8]):Prop:=PA X es (λ σ H Q=>Q (cs.map V.ref) H)
def Ib:NP X [] []:=dQ
def jM {x:Str}{D:Addr}{np:Pos}{es:#[92]}{cs:#[8]}(hg:Gl X x)(hm:X.mg x=some (.ref D))(h:NP X es cs)(hdb:#[2]:=by decide)(hs:starEach (.Name x np::es) X.env=(false,eval (.Name x np) X.env)::starEach es X.env:=by rfl):NP X (.Name x np::es) (D::cs):=
 λ pos pins s σ H Q I hq=>bY (AS hg hm (show RelV (.ref D) _ from rfl) hdb) h hs pos pins s σ H Q I hq
def EY {es:#[92]}{cs:#[8]}{x1:Nat}{L:#[8]}{q:Addr->Bool}(hL:∀ C,L.contains C=true->nX X.K C/\PySem.W.kitAny X.K (.ref C) (cs.map Value.ref)=some (q C))(hg:Gl X "isinstance")(hm:X.mg "isinstance" = none)(he:#[46])(hc:NP X es cs)(hlen:cs.length<=100)
  (hs:starEach [e,.Tuple es x1 pt] X.env=(false,eval e X.env)::starEach [.Tuple es x1 pt] X.env:=by rfl) (hs2:starEach [.Tuple es x1 pt] X.env=(false,eval (.Tuple es x1 pt) X.env)::starEach [] X.env:=by rfl) (hpl:(backTo pos (starEach [.Tuple es x1 pt] X.env)).any (·.1)=false:=by rfl) :
  PE X (.Call (.Name "isinstance" p) [e,.Tuple es x1 pt] [] pos) (tM X.K Y (fZ (cD L q) fe)):=by
 refine PE.imp (jz (x6 (cs:=cs)) hg hm #[30] (bY he (bY (zh (x1:=x1) hc) dQ hs2) hs) (he:=hs) (hpl:=hpl)) λ σ H Q hq=>ex8 hq λ H0 B0 B τ P F I h=>?_;refine tM.seq (g:=cD L q) I h λ d v H1 B1 fp _ I1 s1 b1 r1 k1 h1=>?_;obtain⟨a,C,t,tb,u,rfl,hH,hc,h2⟩:=zS r1 h1;obtain⟨k,e⟩:=hL C hc;refine⟨by rw[Pk,Qx];omega,λ tp htp=>?_⟩;have s:=du (o:=.tup (cs.map V.ref)) htp;exact⟨a,tp,C,t,tb,u,_,rfl,aN,s _ _ hH,k,e,Out.here (Out.later h2 s #[49]) (I1.grow s) ⟨rfl,rfl⟩⟩
end
section
variable {K:#[0]}{mg:#[11]}{x y:Str}{C D NE:Addr}{bm bd:#[22]}
def fM.look (c:fM K mg x C bm):∃ dd cd sl,K.lookup C=some ⟨.type "type",dd,.cls cd,sl⟩/\cd.mro=.ref C::bm:=by
 obtain⟨_,q,m⟩:=c;unfold PySem.W.excIn at q;split at q
 ·rename_i dd cd sl ho;refine⟨dd,cd,sl,ho,?_⟩;unfold mroIn at m;rw[ho]at m;simpa using m
 ·cases q
def Bt (c:fM K mg x C bm)(v:Value):PySem.W.subIn K (.ref C) v=some ((Value.ref C::bm).contains v):=by
 obtain⟨dd,cd,sl,ho,hm⟩:=c.look;show(PySem.W.clsIn K C).bind _=_;unfold PySem.W.clsIn;rw[ho];show(if cd.mro.isEmpty=true then none else some (cd.mro.contains v))=_;rw[hm];rfl
def Bu (c:fM K mg x C bm)(d:fM K mg y D bd):PySem.W.kitOne K (.ref C) (.ref D)=some ((Value.ref C::bm).contains (.ref D)):=by
 obtain⟨dd,cd,sl,ho,hm⟩:=d.look;unfold PySem.W.kitOne;split
 ·rename_i q;rw[Q6]at q;rw[q];simp
 ·unfold PySem.W.kitCls;have h1:((PySem.W.clsIn K D).isSome&&PySem.W.typeIn K (.ref D) == some (.type "type"))=true:=by
   have e1:PySem.W.typeIn K (.ref D)=some (.type "type"):=by
    show(K.lookup D).map (·.cls)=_;rw[ho];rfl
   have e2:(PySem.W.clsIn K D).isSome=true:=by
    unfold PySem.W.clsIn;rw[ho];rfl
   rw[e1,e2];rfl
  show(if ((PySem.W.clsIn K D).isSome&&PySem.W.typeIn K (.ref D) == some (.type "type"))=true then PySem.W.subIn K (.ref C) (.ref D) else none)=_;rw[PH h1,Bt c]
def Lo (c:fM K mg x C bm)(h:bm.contains (.type "ValueError")=true):PySem.W.kitOne K (.ref C) (.type "ValueError")=some true:=by
 unfold PySem.W.kitOne;rw[PL #[25]];unfold PySem.W.kitCls;show(if PySem.W.kitMeta "ValueError" = true then PySem.W.subIn K (.ref C) (.type "ValueError") else none)=_;rw[PH (by kernel_rfl),Bt c,T5,h,Uw]
end
variable {q:Addr->Bool}{L cs:#[8]}{x:Str}
def vV {k:Nat}{A:Around}(r:fG k A):uH k A:=⟨rfl,r.dp,r.un⟩
end XF
namespace L2
open PySem PySem.Spec PyProof.Rows
section
variable {X:Cx}
def M9 (K:#[0]):V->List V->Hp->VK->Prop:=λ x vs H Q=>∃ l b xs zs,x=.ref l/\vs=[.ref b]/\H l=some (.lst xs)/\(H b=some (.lst zs)\/H b=some (.tup zs))/\xs.length+zs.length<=sizeLine/\Q .a8 (upd H l (.lst (xs++zs)))
def Ie:L8 X "list.extend" (M9 X.K):=by
 intro pins s σ H x vs v us Q I rx rv h;obtain⟨l,b,xs,zs,rfl,rfl,hH,hB,hz,q⟩:=h;rcases hB with hB|hB
 ·exact ue pins s σ H _ _ v us Q I rx rv ⟨l,b,xs,zs,rfl,rfl,hH,hB,hz,q⟩
 cases rx;obtain⟨u,rfl,ru⟩:=rv.one;cases ru;obtain⟨z,its,n,r,hl,e⟩:=I.CC hH;obtain⟨_,its2,r2,n2,e2⟩:=(show ck X.prog X.w H s.heap b (.tup zs) from I.hok b _ hB);have hl2:=r2.length;have hsz:its.toArray.size+its2.toArray.size<=sizeLine:=by rw[PK,PK];omega
 have hlong:¬ (!its.toArray.isEmpty&&Builtin.List.listTooLong (its.toArray.size+its2.toArray.size))=true:=by
  rw[xw hsz,UA];exact Pq
 refine TQ F.slot_list_extend ⟨_,e,rfl⟩ F.entry_list_extend (F.args_list_extend_2 _ _)
  (AutoSeq1.list_extend_list_tuple_0 l its.toArray n b its2.toArray n2 hlong (by rw[PK];omega) #[1]) ⟨e,e2,?_⟩
 refine⟨.a8,_,I.D8 (its':=its++its2) hH e #[25] (r.append r2) ?_,rfl,q⟩;rw[Pz];omega
end
end L2
namespace DL
open PySem PySem.Spec PyProof.Rows L2
section
variable {K:#[0]}{Y:XY}{H0 B0 B H:Hp}{σ:L2.St}{τ:SD}{P:#[8]}{F:#[17]}{X:Cx}{pos:Pos}{e:Expr}{fe:#[28]}
mutual
def D.plain:D->Bool
 |.tup xs=>lE xs
 |.lst _ _=>false
 |.dct _ _ _ _=>false
 |.exc _=>false
 |_=>true
def lE:List D->Bool
 |[]=>true
 |d::r=>d.plain&&lE r
end
mutual
def Rep.pD {B' H':Hp}{S S':#[17]}(m:mK H H'):∀ {d:D}{v:V}{f:#[8]},d.plain=true->Rep K B S H d v f->f=[]/\Rep K B' S' H' d v []
 |.a8,v,f,_,r=>by obtain⟨h1,h2⟩:=r;exact⟨h2,h1,rfl⟩
 |.bl b,v,f,_,r=>by obtain⟨h1,h2⟩:=r;exact⟨h2,h1,rfl⟩
 |.int i,v,f,_,r=>by obtain⟨h1,h2⟩:=r;exact⟨h2,h1,rfl⟩
 |.str x,v,f,_,r=>by obtain⟨h1,h2⟩:=r;exact⟨h2,h1,rfl⟩
 | .tup xs,v,f,p,r=>by
  obtain⟨a,vs,e,h,rl⟩:=r;obtain⟨e2,r2⟩:=ak.pD m (d:=xs) p rl;exact⟨e2,a,vs,e,m a _ h (λ z=>z),r2⟩
 |.lst _ _,_,_,p,_=>by cases p
 |.dct _ _ _ _,_,_,p,_=>by cases p
 |.exc _,_,_,p,_=>by cases p
def ak.pD {B' H':Hp}{S S':#[17]}(m:mK H H'):∀ {d:List D}{v:List V}{f:#[8]},lE d=true->ak K B S H d v f->f=[]/\ak K B' S' H' d v []
 |[],v,f,_,r=>by obtain⟨h1,h2⟩:=r;exact⟨h2,h1,rfl⟩
 | d::ds,v,f,p,r=>by
  obtain⟨x,w,f1,f2,e,r1,r2,ef⟩:=r;have p:(d.plain&&lE ds)=true:=p;rw[Ql]at p;obtain⟨e1,q1⟩:=Rep.pD m p.1 r1;obtain⟨e2,q2⟩:=ak.pD m p.2 r2;subst e1 e2;exact⟨ef,x,w,[],[],e,q1,q2,rfl⟩
end
def ak.dropLast {S:#[17]}{xs:List D}{vs:List V}{f:#[8]}(r:ak K B S H xs vs f):∃ g,ak K B S H xs.dropLast vs.dropLast g/\List.Sublist g f:=by
 obtain⟨g,h1,h2⟩:=r.take (xs.length-1);have hl:=r.length;rw[List.dropLast_eq_take,List.dropLast_eq_take,<-hl];exact⟨g,h1,h2⟩
def Ig (j i:Nat)(xs:List D)(τ:SD):Option D->Fl
 |some d=>if d.plain=true then .nx ((τ.set i (some (.lst .own xs.dropLast))).set j (some d)) else .bad
 |none=>.bad
def Ic (j i:Nat)(τ:SD):Fl:=match dX τ i with
 |some xs=>Ig j i xs τ xs[xs.length-1]?
 |none=>.bad
def s_pop (j i:Nat){x y:Str}{p0 p1 apos cpos:Pos}(hN:X.N.Nodup)(hj:X.N[j]?=some y)(hx:Loc X.env.scope y)(hi:#[69]:=by rfl)(hv:#[98]:=by first|exact Or.inl rfl|exact Or.inr (Or.inl rfl)|exact Or.inr (Or.inr rfl))(hd:#[2]:=by decide)(hcd:#[29]:=by decide)
  (hbase:attributeBase #[59] "pop" X.env (eval #[59] X.env)=eval #[59] X.env:=by rfl) (hline:#[47]:=by rfl)
  (hsw:swapsWith (.Call (.Attribute #[59] "pop" apos) [] [] cpos) (some (.Name y p0)) pos.line X.env=pure false:=by rfl) (hf:#[61]:=by first|exact .inl rfl|exact .inr rfl) :
  PS X (.Assign [.Name y p0] (.Call (.Attribute #[59] "pop" apos) [] [] cpos) pos) (iZ X.K Y (Ic j i)):=by
 refine PS.imp (zm hN hj hx (zp QN PySem.F.slot_list_pop PySem.F.type_list_pop D9 (dH hi hv hd hcd) hbase hline) hsw hf) λ E σ H hq=>ex7 hq λ H0 B0 B τ P I h=>?_;unfold Ic at h;cases z:dX τ i with
 |none=>rw[z]at h;exact h.elim
 | some xs =>
  rw[z]at h;replace h:cy X.K Y H0 B0 B H E (Ig j i xs τ xs[xs.length-1]?):=h;have hi:=gk z;obtain⟨a,vs,ea,ha,hl⟩:=I.listAt hi;cases hd:xs[xs.length-1]? with
  |none=>rw[hd]at h;exact h.elim
  | some d =>
   rw[hd]at h;unfold Ig at h;split at h
   ·rename_i d' hp;cases hp;split at h
    ·rename_i hpl;obtain⟨v0,f0,g1,r0,_⟩:=I.rep.get hi;obtain⟨a',ws,g,ea',q',rl,_⟩:=r0;rw[ea]at g1;cases g1;cases ea';have hw:ws=vs:=by
      rw[ha]at q';cases q';rfl
     subst hw;obtain⟨v,f,hv',rv,_⟩:=rl.get hd;have hlast:ws[ws.length-1]?=some v:=by rw[<-hl];exact hv'
     refine⟨.ref a,ea,.inl ⟨rfl,ws,eQ.of ha⟩,a,ws,v,rfl,rfl,ha,hlast,?_⟩;obtain⟨P',I'⟩:=I.CM (xs':=xs.dropLast) (vs':=ws.dropLast) (gp:=[]) hi ea gm.nil (λ f _ rl=>by
      obtain⟨g,h1,h2⟩:=rl.dropLast;exact⟨g,h1,λ b m=>.inl (h2.subset m),λ nf _=>nf.sublist h2⟩) ha
     obtain⟨_,rv'⟩:=Rep.pD (B':=B) (S':=No) I'.xE hpl rv;obtain⟨P'',I'',_⟩:=I'.si.set j rv' gm.nil;exact h B _ _ P'' ⟨I'',I'.b,I'.xE⟩
    ·exact h.elim
   ·exact h.elim
def OD:D->Res Bool
 |.bl b=>.ok b
 |.lst _ xs=>.ok (!xs.isEmpty)
 |.tup xs=>.ok (!xs.isEmpty)
 |_=>.bad
def Mg (f:#[28])(τ:SD):Res Bool:=(f τ).bind OD
def x8 {S:#[17]}{xs:List D}{vs:List V}{f:#[8]}(r:ak K B S H xs vs f):(!vs.isEmpty) = !xs.isEmpty:=by
 have:=r.length;cases xs<;>cases vs<;>simp_all
def E1 {a:Expr}{fa:#[28]}(ha:#[80])(he:∀ whole,isTrue a X.env whole=(do let v <-whole;standAt a.pos;holding [v] (truthy v)):=by intro _;rfl):PT X a (kQ X.K Y (Mg fa)):=
 PT.imp (D3 ha he) λ σ H Q hq=>ex8 hq λ H0 B0 B τ P F I h=>by
  refine⟨H0,B0,B,τ,P,F,I,?_⟩;unfold Mg at h;cases e:fa τ with
  |bad=>rw[e]at h;exact h.elim|eB C=>rw[e]at h;exact h
  | ok d =>
   rw[e]at h;intro v H' B' fp I' s b r k;cases d with
   |bl c=>obtain⟨rfl,rfl⟩:=r;exact⟨c,rfl,h H' B' I' s b⟩
   | lst t xs =>
    obtain⟨p,ws,g,rfl,q,l,_⟩:=Rep.lst I' r;exact⟨_,.inl ⟨ws,q,rfl⟩,by rw[x8 l];exact h H' B' I' s b⟩
   | tup xs =>
    obtain⟨p,ws,rfl,q,l⟩:=Rep.tp r;exact⟨_,.inr (.inl ⟨ws,q,rfl⟩),by rw[x8 l];exact h H' B' I' s b⟩
   |a8=>exact h.elim|int i=>exact h.elim|str x=>exact h.elim|dct t k2 ks vs=>exact h.elim|exc C=>exact h.elim
end
end DL
namespace SR
open PySem PySem.Spec PyProof.Rows PySem.W
variable {p:Array Nat}{n:Nat}{α:Type}
def f9 {α:Type}(n:Nat)(L:α->Prop):KasT α->Prop
 |.ret a=>L a
 |.ask i j k=>i<n/\j<n/\∀ b,f9 n L (k b)
def f9.bind {α β:Type}{n:Nat}{L:α->Prop}{L':β->Prop}{f:α->KasT β}(hf:∀ a,L a->f9 n L' (f a)):∀ {t:KasT α},f9 n L t->f9 n L' (t.bind f)
 |.ret a,x=>by unfold KasT.bind;exact hf a x
 |.ask i j k,x=>by unfold KasT.bind;exact⟨x.1,x.2.1,λ b=>f9.bind hf (x.2.2 b)⟩
def bu {α:Type}(c:Nat->Nat->Bool):KasT α->α
 |.ret a=>a
 |.ask i j k=>bu c (k (c i j))
def f9.run {α:Type}{n:Nat}{L:α->Prop}(c:Nat->Nat->Bool):∀ {t:KasT α},f9 n L t->L (bu c t)
 |.ret a,x=>x
 |.ask i j k,x=>show L (bu c (k (c i j))) from f9.run (n:=n) c (x.2.2 (c i j))
def f9.wp {α:Type}{n:Nat}{L:α->Prop}{c:Nat->Nat->Bool}{cmp:Nat->Nat->(Bool->Shared->Prop)->Shared->Prop}{Q:α->Shared->Prop}{s:Shared}(hc:∀ i j C,i<n->j<n->C (c i j) s->cmp i j C s):∀ {t:KasT α},f9 n L t->Q (bu c t) s->KasT.kasWp cmp t Q s
 |.ret a,x,h=>by unfold KasT.kasWp;exact h
 |.ask i j k,x,h=>by unfold KasT.kasWp;exact hc i j _ x.1 x.2.1 (f9.wp hc (x.2.2 (c i j)) h)
abbrev Pm (n:Nat)(p:Array Nat):Prop:=p.Perm #[57].toArray
def Pm.get(h:Pm n p)(hn:0<n)(i:Nat):p.getD i 0<n:=by
 rw[Qv];cases e:p[i]? with
 |none=>exact hn
 | some x =>
  have m:x∈p:=Array.mem_of_getElem? e;have m':x∈#[57].toArray:=h.mem_iff.mp m;have:x∈List.range n:=by simpa using m'
  exact P7.mp this
section
variable(hn:0<n)
include hn
theorem vW {p:Array Nat}(h:Pm n p):∀ f k,f9 n (λ _=>True) (kas_asc p f k)
 |0,k=>by unfold kas_asc;exact trivial
 | f+1,k=>by
  unfold kas_asc;refine⟨h.get hn _,h.get hn _,λ b=>?_⟩;cases b
  ·exact vW h f (k+1)
  ·exact trivial
theorem n5:∀ f {p:Array Nat} k a,Pm n p->f9 n (λ r=>Pm n r.1) (kas_desc f p k a)
 |0,p,k,a,h=>by unfold kas_desc;exact h
 | f+1,p,k,a,h=>by
  unfold kas_desc;refine⟨h.get hn _,h.get hn _,λ b=>?_⟩;cases b
  ·refine⟨h.get hn _,h.get hn _,λ b=>?_⟩;cases b
   ·exact n5 f _ _ h
   ·exact h
  ·show f9 n _ (if a>0 then kas_desc f (kas_rev p (k-(a+1)) k) (k+1) 0 else kas_desc f p (k+1) 0);split
   ·exact n5 f _ _ ((mirror_perm p _ _ _).trans h)
   ·exact n5 f _ _ h
theorem x9(h:Pm n p)(m r:Nat):f9 n (λ r=>Pm n r.2) (kas_tail3 m r p):=by
 have h2:Pm n (kas_rev p 0 m):=(mirror_perm p _ _ _).trans h;unfold kas_tail3;exact f9.bind (L':=λ r:Nat×Array Nat=>Pm n r.2) (λ a _=>(show f9 n _ (KasT.ret (a,kas_rev p 0 m)) from h2)) (vW hn h2 _ _)
theorem nZ(h:Pm n p)(m r:Nat):f9 n (λ r=>Pm n r.2) (kas_descPart m r p):=by
 unfold kas_descPart;refine f9.bind (λ a ha=>?_) (n5 hn _ _ _ h);split
 ·exact x9 hn ((mirror_perm a.1 _ _ _).trans ha) _ _
 ·exact x9 hn ha _ _
theorem C4(h:Pm n p)(r:Nat):f9 n (λ r=>Pm n r.2) (kas_count r p):=by
 unfold kas_count;refine f9.bind (λ a _=>?_) (vW hn h _ _);split
 ·exact h
 ·split
  ·refine⟨h.get hn _,h.get hn _,λ b=>?_⟩;cases b
   ·exact nZ hn ((mirror_perm p _ _ _).trans h) _ _
   ·exact h
  ·exact nZ hn h _ _
theorem pF {p:Array Nat}(h:Pm n p)(k:Nat):∀ f a b,f9 n (λ _=>True) (kas_place p k f a b)
 |0,a,b=>by unfold kas_place;exact trivial
 | f+1,a,b=>by
  unfold kas_place;split
  ·exact trivial
  ·refine⟨h.get hn _,h.get hn _,λ c=>?_⟩;cases c
   ·exact pF h k f _ _
   ·exact pF h k f _ _
theorem Bv:∀ f {p:Array Nat} k,Pm n p->f9 n (Pm n) (kas_bin f p k)
 |0,p,k,h=>by unfold kas_bin;exact h
 | f+1,p,k,h=>by
  unfold kas_bin;exact f9.bind (λ l _=>Bv f _ ((bubble_perm p _ _).trans h)) (pF hn h k _ _ _)
theorem nY:f9 n (Pm n) (kas_sort n):=by
 unfold kas_sort;refine f9.bind (λ r hr=>?_) (C4 hn (Array.Perm.refl _) n);split
 ·exact Bv hn _ _ hr
 ·exact hr
end
def ordered(d:α)(c:Nat->Nat->Bool)(vs:List α):List α:=if vs.length<2 then vs else (bu c (kas_sort vs.length)).toList.map λ i=>vs.getD i d
def n6(d:α)(c:Nat->Nat->Bool)(vs:List α):(ordered d c vs).Perm vs:=by
 unfold ordered;split
 ·exact QO _
 ·rename_i h;have hp:=Q8.mp (f9.run (L:=Pm vs.length) c (nY (n:=vs.length) #[1]));have hp':(bu c (kas_sort vs.length)).toList.Perm (List.range vs.length):=by simpa using hp
  refine(hp'.map _).trans ?_;have e3:(List.range vs.length).map (λ i=>vs.getD i d)=vs:=by
   refine RA #[25] λ i h1 h2=>?_;simp;rw[Pr h2];rfl
  rw[e3]
def zV(M:Model)(A:Around)(h:Heap)(t:Sem α)(r:α):Prop:=∀ (Q:α->Shared->Prop) (E:#[4]) (s:Shared),(∀ b o,h.get? b=some o->s.heap.get? b=some o)->Q r s->wpAny M A t Q E s
def zU (M:Model)(A:Around)(h:Heap)(ks:#[22])(c:Nat->Nat->Bool):Prop:=2<=ks.length->∃ κ,zV M A h (keyKind' ks.toArray) κ/\∀ i j,i<ks.length->j<ks.length->zV M A h (keyLt' κ (ks.getD i .none) (ks.getD j .none)) (c i j)
section
variable {prog:#[84]}{w:World}{A:Around}{E:#[4]}{s:Shared}{a:Addr}{vs:#[22]}{h:Heap}{P:Fin->Shared->Prop}
def tP (ho:s.heap.get? a=some (seqObj "list" vs.toArray n))(hl:vs.length<64){c:Nat->Nat->Bool}(K:zU #[12] A h vs c)(hx:∀ b o,h.get? b=some o->b≠a/\s.heap.get? b=some o)
  (hP:P (.done (.ret .none)) { s with heap:=sortedHeap s.heap a vs (ordered .none c vs).toArray }) :
  wpAny #[12] A (Builtin.«list.sort» ⟨[.ref a],[]⟩) P E s:=by
 rw[list_sort_plain];refine Ph (listItems_at ho rfl ?_);refine Ph ?_;show wpAny _ _ (updateSeq a λ _=>#[]) _ _ _;refine Tq ho rfl ?_ (by simp[Qx];omega) #[25];have ho1:=Qu (Obj.mapSeq λ _=>(#[]:#[132])) ho rfl;refine Ph (seqEpoch_at ho1 rfl ?_);refine Ph (TU ?_ (by simp[Qx];omega));refine Ph (wpAny_newList ?_ #[25]);refine QV ?_;have ho3:(#[19]).get? a=some (Obj.mapSeq (λ _=>#[]) (seqObj "list" vs.toArray n)):=Pj _ (Pj _ ho1);have hx3:∀ b o,h.get? b=some o->(#[19]).get? b=some o:=λ b o e=>by
  obtain⟨h1,h2⟩:=hx b o e;exact Pj _ (Pj _ ((QB _ _ (QK h1)).trans h2))
 dsimp only;have zs:(vs.toArray.zip vs.toArray).map (λ x=>x.2)=vs.toArray:=by
  apply Array.ext
  ·simp
  ·intro i h1 h2;simp
 have fin:∀ (st:SortSt) (k:Nat->Sem PySem.Fin),failedOf st=none->(arrOf st).map (λ x=>x.2)=(ordered Value.none c vs).toArray->(∀ Q:PySem.Fin->Shared->Prop,∀ s',Q (.done (.ret .none)) s'->wpAny #[12] A (k (if ((#[]:#[132]).size == vs.toArray.size)=true then n else n+1)) Q E s') ->
   wpAny #[12] A (do let e <-seqEpoch a;Builtin.List.listUpdate (.ref a) λ _=>(arrOf st).map (λ x=>x.2);k e) P E { s with heap:=#[19] }:=by
  intro st k hf hp hk;refine Ph (seqEpoch_at ho3 rfl ?_);refine Ph ?_;show wpAny _ _ (updateSeq a λ _=>(arrOf st).map (λ x=>x.2)) _ _ _;rw[hp];have hlen:(ordered Value.none c vs).toArray.size=vs.length:=by rw[PK,(n6 _ _ _).length_eq]
  refine Tq ho3 rfl ?_ #[25] (by simp only[hlen,Qx];omega);exact hk _ _ hP
 by_cases h2:vs.toArray.size<2
 ·rw[PH h2];refine Ph (Po ?_);rw[PH h2];refine Ph (show wpAny _ _ (pure ((),SortSt.mk' general' (vs.toArray.zip vs.toArray) #[] 7 none)) _ _ _ from Po ?_);refine fin (SortSt.mk' general' (vs.toArray.zip vs.toArray) #[] 7 none) _ rfl ?_ λ Q s' hQ=>?_
  ·show(vs.toArray.zip vs.toArray).map (λ x=>x.2)=_;rw[zs];unfold ordered;rw[PH (by simpa using h2)]
  ·show wpAny _ _ (if _ then _ else ret Value.none) _ _ _;rw[PL #[25]];exact Po hQ
 ·have h2':2<=vs.length:=by simpa using h2
  obtain⟨κ,k1,k2⟩:=K h2';rw[PL h2];refine Ph (k1 _ _ _ hx3 ?_);rw[PL h2];have hn:0<vs.length:=by omega
  have run:=kat_run (prog:=prog) (w:=w) (A:=A) (E:=E) (s:={ s with heap:=#[19] }) (κ:=κ) (ks:=vs) (vs:=vs) (Q:=λ st s'=>failedOf st=none/\s'={ s with heap:=#[19] }/\(arrOf st).map (λ x=>x.2)=(ordered Value.none c vs).toArray) (G:=λ p s'=>p=bu c (kas_sort vs.length)/\s'={ s with heap:=#[19] }) rfl h2' hl (λ p st' s' hs he hf hG=>by
   obtain⟨hp,hs'⟩:=hG;refine⟨hf,hs',?_⟩;have e1:(arrOf st').map (λ x=>x.2)=p.map λ i=>vs.getD i .none:=by
    rw[he,Array.map_map];refine Array.map_congr_left λ i hi=>?_;have:=kas_item_eq vs i;show(kas_item (vs.toArray.zip vs.toArray) i).2=_;have e:vs.toArray.zip vs.toArray=pairsOf vs:=rfl;rw[e,this]
   rw[e1,hp];unfold ordered;rw[PL #[1]];exact Array.toList_inj.mp (by rw[Array.toList_map])) (f9.wp (n:=vs.length) (c:=c) (λ i j C hi hj hC=>k2 i j hi hj _ _ _ hx3 hC) (nY hn) ⟨rfl,rfl⟩)
  refine Ph (QS run (λ r s' hr=>?_) λ _ _ x=>x);obtain⟨hf,rfl,hp⟩:=hr;refine fin r.2 _ hf hp λ Q s' hQ=>?_;rw[hf];show wpAny _ _ (if _ then _ else ret Value.none) _ _ _;rw[PL #[25]];exact Po hQ
def zT(hL:s.heap.IsList a vs.toArray)(hl:vs.length<64){c:Nat->Nat->Bool}(K:zU #[12] A.in1.in1 s.heap vs c){Q:#[4]}
  (hQ:∀ (h':Heap) (q:Addr),#[77]->s.heap.objs.size<=q->(∃ e,h'.get? q=some (seqObj "list" (ordered .none c vs).toArray e))->Q (.ref q) { s with heap:=h' }) :
  wpAny #[12] A (call (.builtin "sorted") [.ref a]) Q E s:=by
 refine Calls.call_function_entry kind_sorted plain_sorted entry_sorted (args_sorted1 _) ?_;unfold Builtin.«sorted»;refine Ph (m:=checkCount "sorted" 1 1 _) (Po ?_);refine Ph (collect_list (A:=A.in1) hL ?_ (by rw[Qx];omega));have hlt:a<s.heap.objs.size:=by obtain⟨o,ho,_⟩:=hL;exact Px ho
 generalize hh1:(s.heap.push (seqObj "list" #[] 0)).update s.heap.objs.size (Obj.mapSeq λ x=>x++vs.toArray)=h1;have kp:∀ b o,s.heap.get? b=some o->h1.get? b=some o:=λ b o e=>by
  rw[<-hh1];exact(QB _ _ (QK (PY (Px e)))).trans (Pj _ e)
 have hsz:s.heap.objs.size<=h1.objs.size:=by
  obtain⟨o,ho,_⟩:=hL;have e0:(s.heap.push (seqObj "list" #[] 0)).get? s.heap.objs.size=some (seqObj "list" #[] 0):=Pu _ rfl;have e1:=Qu (Obj.mapSeq λ x=>x++vs.toArray) e0 rfl;rw[hh1]at e1;exact RY (Px e1)
 refine Ph (wpAny_newList ?_ (by rw[Qx];omega));have hoL:(h1.push #[70]).get? h1.objs.size=some #[70]:=Pu _ rfl;show wpAny _ _ _ _ _ ({ s with heap:=h1.push #[70] }:Shared);refine Ph (QV (Qg slot_list_sort ⟨_,hoL,rfl⟩ entry_list_sort (tP (h:=s.heap) hoL hl K (λ b o e=>⟨PY (Px (kp b o e)),Pj _ (kp b o e)⟩) ⟨_,rfl,?_⟩) (args_list_sort _)));refine Po ⟨_,rfl,hQ _ h1.objs.size (λ b o e=>?_) hsz (sortedHeap_at hoL)⟩;have hlt:=Px (kp b o e);have hne:b≠h1.objs.size:=PY hlt;have sh:(sortedHeap (h1.push #[70]) h1.objs.size vs (ordered Value.none c vs).toArray).get? b=(h1.push #[70]).get? b:=sortedHeap_old hne (by rw[Qt];exact RM hlt);show(sortedHeap (h1.push #[70]) h1.objs.size vs (ordered Value.none c vs).toArray).get? b=some o;rw[sh];exact Pj _ (kp b o e)
end
section
variable {prog:#[84]}{w:World}{h:Heap}
end
end SR
namespace L2
open PySem PySem.Spec PyProof.Rows
section
variable {X:Cx}
def ya {f:Nat->V}{g:Nat->Value}:∀ {is:#[31]},(∀ i∈is,RelV (f i) (g i))->Vals (is.map f) (is.map g)
 |[],_=>.nil
 |i::r,h=>.cons (h i Pp) (ya λ j m=>h j (Pn _ m))
def Vals.getD {ws:List V}{its:#[22]}(r:Vals ws its):∀ i,i<ws.length->RelV (ws.getD i .a8) (its.getD i .none):=λ i hi=>by
 have e:ws[i]?=some (ws[i]):=Pr hi;obtain⟨u,hu,ru⟩:=r.get e;rw[P5,P5,e,hu];exact ru
def Vals.ordered {ws:List V}{its:#[22]}(r:Vals ws its)(c:Nat->Nat->Bool):Vals (SR.ordered .a8 c ws) (SR.ordered .none c its):=by
 have hl:=r.length;unfold SR.ordered;rw[<-hl];split
 ·exact r
 ·rename_i h;refine ya λ i m=>r.getD i ?_;have hp:=Q8.mp (SR.f9.run (L:=SR.Pm ws.length) c (SR.nY (n:=ws.length) #[1]));have hp':(SR.bu c (PySem.W.kas_sort ws.length)).toList.Perm (List.range ws.length):=by simpa using hp
  exact P7.mp (hp'.mem_iff.mp m)
end
end L2
namespace DL
open PySem PySem.Spec PyProof.Rows L2
section
variable {K:#[0]}{Y:XY}{H0 B0 B H:Hp}{σ:L2.St}{τ:SD}{P:#[8]}{F:#[17]}
end
end DL
namespace L2
open PySem PySem.Spec PyProof.Rows
section
variable {X:Cx}
end
end L2
namespace DL
open PySem PySem.Spec PyProof.Rows L2
section
variable {K:#[0]}{Y:XY}
end
end DL
namespace SR
open PySem PySem.Spec PyProof.Rows PySem.W
section
variable {prog:#[84]}{w:World}{A:Around}{E:#[4]}{s:Shared}{a:Addr}{vs:#[22]}{n:Nat}{f:Value}{kz:#[6]}{P:Fin->Shared->Prop}{Base:List Int->Shared->Prop}
end
section
variable {prog:#[84]}{w:World}{A:Around}{E:#[4]}{s:Shared}{vs:#[22]}{l q:Addr}
end
end SR
namespace L2
open PySem PySem.Spec PyProof.Rows
section
variable {X:Cx}{k:Nat}{f l:Addr}{fd:FuncData}{ps:#[116]}{sp:Sp}{pins:#[15]}{s:Shared}{σ:St}{H:Hp}{ws:List V}{Q:VK}
end
section
variable {X:Cx}{k:Nat}{ps:#[116]}{sp:Sp}
end
end L2
namespace DL
open PySem PySem.Spec PyProof.Rows L2
section
variable {K:#[0]}{Y:XY}{H0 B0 B H:Hp}{σ:L2.St}{τ:SD}{P:#[8]}{F:#[17]}{X:Cx}{G:DF}
end
section
variable {K:#[0]}{Y:XY}{H0 B0 B H:Hp}{σ:L2.St}{τ:SD}{P:#[8]}{F:#[17]}{X:Cx}{pos p:Pos}{e:Expr}{es:#[92]}{fs:#[40]}
end
section
variable {P:#[84]}{w:World}{K:#[0]}{mg:#[11]}{base:Heap}
end
section
variable {Y:XY}{X:Cx}{pos:Pos}{a b c:Expr}{fa fb fc:#[28]}
end
end DL
namespace L2
open PySem PySem.Spec PyProof.Rows
end L2
namespace DL
open PySem PySem.Spec PyProof.Rows L2
section
variable {X:Cx}{Y:XY}{o e:Expr}{fo fe:#[28]}{apos cpos:Pos}
end
end DL
namespace XF
open PySem PySem.Spec PyProof.Rows L2 DL
end XF
namespace L2
open PySem PySem.Spec PyProof.Rows
section
variable {X:Cx}
section
variable {prog:#[84]}{w:World}{A:Around}{R:Result->Shared->Prop}{it:Addr}{fp wr:#[8]}{n:Nat}{P:Nat->Value->Prop}{St:Nat->Heap->Prop}{d:Value}
end
def vX {ns:#[6]}{its:#[22]}(r:Vals (ns.map V.int) its){i:Nat}{v:Value}(h:its.toArray[i]?=some v):∃ t,v=.int (ns.getD i 0) t:=by
 have h:its[i]?=some v:=by simpa using h
 have hl:=r.length;rw[Pk]at hl;have hi:i<its.length:=(Pw.mp h).1;obtain⟨u,hu,ru⟩:=r.get (show(ns.map V.int)[i]?=some (.int (ns.getD i 0)) by
  rw[P0,Pr (by omega:i<ns.length),P5,Pr (by omega:i<ns.length)];rfl)
 rw[hu]at h;cases h;obtain⟨t,rfl⟩:=ru;exact⟨t,rfl⟩
def in1_units (A:Around):A.in1.units=A.units+1:=rfl
end
end L2
namespace DL
open PySem PySem.Spec PyProof.Rows L2
section
variable {K:#[0]}{Y:XY}{H0 B0 B H:Hp}{σ:L2.St}{τ:SD}{P:#[8]}{F:#[17]}{E:Ends}{X:Cx}{pos:Pos}{e c:Expr}{fe:#[28]}{gc:#[66]}
end
end DL
namespace L2
open PySem PySem.Spec PyProof.Rows
section
variable {X:Cx}
end
end L2
namespace DL
open PySem PySem.Spec PyProof.Rows L2
section
variable {K:#[0]}{Y:XY}
end
end DL
namespace L2
open PySem PySem.Spec PyProof.Rows
variable {X:Cx}
end L2
namespace DL
open PySem PySem.Spec PyProof.Rows L2
variable {F:#[17]}{X:Cx}{e elt iter tg:Expr}{B B0 H H0:Hp}{σ:L2.St}{P:#[8]}{es:#[92]}{p pos:Pos}{τ:SD}{fe:#[28]}{scope:Scope}{x:Str}{Y:XY}
variable {K:#[0]}
section
variable{fs:#[40]}
end
section
variable (K:#[0])(H0 B0 B H:Hp)(σ:L2.St)(P:#[8])(F:#[17])
end
section
variable{fs:#[40]}
end
section
variable{f:SD->Res (D×SD)}
end
section
variable{own:#[116]}{it:SD->Res #[106]}
end
section
def dG.drop:∀ {τ:SD}{σ:L2.St}{P:#[8]}{i:Nat}{d:D},dG K B H τ σ P->τ[i]?=some (some d)->∃ v A f C,σ[i]?=some (some v)/\Rep K B No H d v f/\P=A++f++C/\dG K B H (τ.set i none) σ (A++C)
 |[],_,_,i,_,_,e=>by simp at e
 |none::r,σ,P,0,d,h,e=>by simp at e
 | none::r,σ,P,i+1,d,h,e=>by
  obtain⟨o,t,rfl,h⟩:=h;obtain⟨v,A,f,C,h1,h2,h3,h4⟩:=dG.drop (i:=i) h (by simpa using e);exact⟨v,A,f,C,by simpa using h1,h2,h3,⟨o,t,rfl,h4⟩⟩
 | some d::r,σ,P,0,d',h,e=>by
  obtain⟨v,t,f,g,rfl,h1,h2,rfl⟩:=h;have e:d=d':=by simpa using e
  subst e;exact⟨v,[],f,g,rfl,h1,rfl,⟨some v,t,rfl,h2⟩⟩
 | some d::r,σ,P,i+1,d',h,e=>by
  obtain⟨v,t,f,g,rfl,h1,h2,rfl⟩:=h;obtain⟨w,A,f',C,a1,a2,a3,a4⟩:=dG.drop (i:=i) h2 (by simpa using e);subst a3;exact⟨w,f++A,f',C,by simpa using a1,a2,by simp,⟨v,t,f,A++C,rfl,h1,a4,by simp⟩⟩
def E2 (f:#[28])(i:Nat)(τ:SD):Fl:=(f τ).jo τ λ d=>if d.aD=true then .bad else match τ[i]? with|some (some u)=>.rt (.tup [d,u])|_=>.bad
def Lq (i:Nat){x1:Nat}{pos' pt:Pos}(he:#[46])(hN:#[69]:=by rfl)(hv:#[98]:=by first|exact Or.inl rfl|exact Or.inr (Or.inl rfl)|exact Or.inr (Or.inr rfl))(hd:#[2]:=by decide)
  (hcd:#[29]:=by decide) (hl:Y.ln=false:=by rfl) (hs:starEach [e,.Name x pos'] X.env=(false,eval e X.env)::starEach [.Name x pos'] X.env:=by rfl) (hs2:starEach [.Name x pos'] X.env=(false,eval (.Name x pos') X.env)::starEach [] X.env:=by rfl) :
  PS X (.Return (some (.Tuple [e,.Name x pos'] x1 pt)) pos) (iZ X.K Y (E2 fe i)):=by
 refine PS.imp (oW (zh (x1:=x1) (bY he (bY (dH hN hv hd hcd) dQ hs2) hs))) λ E σ H hq=>ex7 hq λ H0 B0 B τ P I h=>?_;refine lB I h λ d v H1 B1 fp _ I1 s1 b1 r1 k1 h1=>?_;split at h1
 ·exact h1.elim
 ·rename_i hb;split at h1
  ·rename_i u e;obtain⟨w,g,q1,q2,q3⟩:=I1.rep.get e;refine⟨w,q1,by rw[Qx];show 2<=_;decide,λ p hp=>?_⟩;have s:=du (o:=.tup [v,w]) hp;refine(cy.rt hl h1) B1 _ (.ref p) (fp++g) ⟨I1.h0.trans s,I1.b0,I1.bh.trans s,I1.nb,⟨p,[v,w],rfl,aN,v,[w],fp,g,rfl,(r1.gu (by simpa using hb)).mono s #[49] (λ _ x=>x),ak.one (q2.mono s #[49] λ _ x=>x),rfl⟩,PJ.mpr ⟨k1.nd,I1.nd.sublist q3,λ a ha b hb e=>?_⟩,λ a m=>?_⟩
   ·subst e;exact(k1.own a ha).2.2.2.1 (q3.subset hb)
   ·rcases PC.mp m with m|m
    ·obtain⟨a1,a2,a3,_⟩:=k1.own a m;exact⟨a1,a2,λ z=>a3 (s.free z)⟩
    ·obtain⟨a1,a2,_⟩:=I1.own a (q3.subset m);exact⟨a1,a2,λ z=>I1.stands (q3.subset m) (s.free z)⟩
  ·exact h1.elim
def Bw (i j:Nat)(τ:SD):Fl:=match dX τ i,dX τ j with
 |some xs,some ys=>if lE ys=true/\xs.length+ys.length<=16777216 then .nx (τ.set i (some (.lst .own (xs++ys)))) else .bad
 |_,_=>.bad
def Lp (i j:Nat){y:Str}{p1 p2 apos cpos:Pos}(hN:#[69]:=by rfl)(hM:X.N[j]?=some y:=by rfl)(hv:#[98]:=by first|exact Or.inl rfl|exact Or.inr (Or.inl rfl)|exact Or.inr (Or.inr rfl))(hw:sX X.env.scope y:=by first|exact Or.inl rfl|exact Or.inr (Or.inl rfl)|exact Or.inr (Or.inr rfl))
  (hd:#[2]:=by decide) (hcd:#[29]:=by decide) (hd':#[113]:=by decide) (hcd':(y == ("__classdict__" : Str))=false:=by decide)
  (hbase:attributeBase #[59] "extend" X.env (eval #[59] X.env)=eval #[59] X.env:=by rfl)
  (hfew:((backTo cpos (starEach [.Name y p2] X.env)).all (λ x=>!x.1)&&(backToKw cpos (keywordEach [] X.env)).all (λ x=>x.1.isSome)
   && decide (([.Name y p2]:#[92]).length+([]:List Keyword).length+(if ([]:List Keyword).isEmpty then 0 else 1)<30))=true:=by rfl)
  (hline:#[47]:=by rfl) (hs:starEach [.Name y p2] X.env=(false,eval (.Name y p2) X.env)::starEach [] X.env:=by rfl) (hplain:(backTo cpos (starEach [] X.env)).any (·.1)=false:=by rfl)
  (hsw:swapsWith (.Call (.Attribute #[59] "extend" apos) [.Name y p2] [] cpos) none pos.line X.env=pure false:=by rfl) :
  PS X (.Expr (.Call (.Attribute #[59] "extend" apos) [.Name y p2] [] cpos) pos) (iZ X.K Y (Bw i j)):=by
 refine PS.imp (j0 (qS QN PySem.F.slot_list_extend PySem.F.type_list_extend Ie (dH hN hv hd hcd) (bY (dH hM hw hd' hcd') dQ hs) hbase hfew hline hs hplain) hsw) λ E σ H hq=>ex7 hq λ H0 B0 B τ P I h=>?_;unfold Bw at h;split at h
 ·rename_i xs ys z z';split at h
  ·rename_i hc;have hi:=gk z;obtain⟨a,vs,ea,ha,hl⟩:=I.listAt hi;obtain⟨w,f,h1,r,s⟩:=I.rep.get (gk z');obtain⟨b,ws,g,rfl,hb,rl,rfl⟩:=r;have hl2:=rl.length;refine⟨.ref a,ea,.inl ⟨rfl,vs,eQ.of ha⟩,.ref b,h1,a,b,vs,ws,rfl,rfl,ha,.inl hb,by rw[<-hl,<-hl2,Qx];exact hc.2,?_⟩;obtain⟨_,rl3⟩:=ak.pD (B':=B) (S':=No) (mK.refl H) hc.1 rl;obtain⟨P',I'⟩:=I.CM (xs':=xs++ys) (vs':=vs++ws) (gp:=[]) hi ea gm.nil (λ g _ rl=>⟨g++[],rl.append rl3,λ b m=>by rw[Qi]at m;exact .inl m,λ nf _=>by rw[Qi];exact nf⟩) ha;exact h B _ σ P' I'
  ·exact h.elim
 ·exact h.elim
end
section
variable{f:SD->Res (D×SD)}
end
section
variable{ifs:#[92]}{own:#[116]}{cap:List (Str×Nat)}{it:SD->Res (D×SD)}{tgd:xg}{tt:#[66]}
end
section
variable{a b:Expr}{fa fb:#[28]}{fs:#[40]}
def kU{id:String}{r:List V->Hp->VK->Prop}{g:List D->Res D}(hc:eO X (.builtin id) r)(hgd:mH X.K Y r g)(hm:X.mg x=none)(ha:PA X (e::es) (nM X.K Y fs))(hv:bootBuiltins x=some (.builtin id):=by decide +kernel)(hg:Gl X x:=by rfl)(hn:x ≠ "__name__" :=by decide)(hdb:#[2]:=by decide)
  (he:#[9]:=by rfl) (hpl:#[45].any (·.1)=false:=by rfl):PE X #[48] (tM X.K Y (eA g fs)):=HF hc hgd hg hm hv ha hn hdb he hpl
def Ij{id:String}{r:List V->Hp->VK->Prop}{g:List D->Res D}(hc:eO X (.type id) r)(hgd:mH X.K Y r g)(hm:X.mg x=none)(ha:PA X (e::es) (nM X.K Y fs))(hv:bootBuiltins x=some (.type id):=by decide +kernel)(hg:Gl X x:=by rfl)(hn:x ≠ "__name__" :=by decide)(hdb:#[2]:=by decide)
  (he:#[9]:=by rfl) (hpl:#[45].any (·.1)=false:=by rfl):PE X #[48] (tM X.K Y (eA g fs)):=EA hc hgd hg hm hv ha hn hdb he hpl
def bD (ha:#[80])(hb:PE X b (tM X.K Y fb))(hs:vy b:=by intro _ _;rfl):PE X (.Subscript a b pos) (tM X.K Y (af bL fa fb)):=Oo KN Ou ha hb hs
def pG {op:CmpOp}{r:R2}{g:D->D->Res D}(ho:kO X (compareOp op) r)(hg:qC X.K Y r g)(ha:#[80])(hb:PE X b (tM X.K Y fb))(hm:behindInMarks op b=false:=by first|exact zk _|with_unfolding_all rfl):PE X (.Compare a [op] [b] pos) (tM X.K Y (af g fa fb)):=MO ho hg ha hb hm
def aS {op:CmpOp}{r:R2}{g:D->D->Res D}(ho:kO X (compareOp op) r)(hg:qC X.K Y r g)(ha:#[80])(hb:PE X b (tM X.K Y fb))(hm:behindInMarks op b=false:=by first|exact zk _|with_unfolding_all rfl):PT X (.Compare a [op] [b] pos) (kQ X.K Y (eT (af g fa fb))):=Eu ho hg ha hb hm
def kZ (ha:#[46])(hs:#[81]:=by rfl):PA X [e] (nM X.K Y (ae fe ao)):=az ha cR hs
def iQ (ha:#[46])(hb:PE X b (tM X.K Y fb))(hs:starEach [e,b] X.env=(false,eval e X.env)::starEach [b] X.env:=by rfl)(hs2:starEach [b] X.env=(false,eval b X.env)::starEach [] X.env:=by rfl):PA X [e,b] (nM X.K Y (ae fe (ae fb ao))):=az ha (kZ hb hs2) hs
def aM{pos':Pos}(i:Nat)(hN:X.N.Nodup)(he:#[46])(hi:#[69]:=by rfl)(hx:Loc X.env.scope x:=by first|exact Or.inl rfl|exact Or.inr rfl)(hs:swapsWith e (some (.Name x pos')) pos.line X.env=pure false:=by rfl)(hf:#[37]:=by first|exact .inl rfl|exact .inr rfl) :
  PS X (.Assign [.Name x pos'] e pos) (iZ X.K Y (aQ i fe)):=MX hN hi hx he hs hf
def cK(i:Nat)(hN:X.N.Nodup)(hi:#[69]:=by rfl)(hx:Loc X.env.scope x:=by first|exact Or.inl rfl|exact Or.inr rfl)(hf:#[37]:=by first|exact .inl rfl|exact .inr rfl):PG X (.Name x pos) (G1 X.K (gN i)):=K1 hN hi hx hf
def iF {k m:Nat}{ps:#[116]}{G:DF}(hx:XF.JL X Y)(C:XF.vR X.prog X.w X.K X.mg X.base k x ps (XF.G4 X.K G))(hr:fG m X.A)(ha:PA X (e::es) (nM X.K Y fs))(hk:k<=m:=by first|decide|omega)(hg:Gl X x:=by rfl)(hdb:#[2]:=by decide)
  (he:#[9]:=by rfl) (hpl:#[45].any (·.1)=false:=by rfl):PE X #[48] (tM X.K Y (XF.dU G fs)):=XF.Lj hx C (hr.mono hk) hg ha hdb he hpl
def bf {k m:Nat}{ps:#[116]}{G:DF}(C:mY X.prog X.w X.K X.mg X.base k x ps (jy X.K G))(hr:fG m X.A)(ha:PA X (e::es) (nM X.K Y fs))(hk:k<=m:=by first|decide|omega)(hg:Gl X x:=by rfl)(hdb:#[2]:=by decide)
  (he:#[9]:=by rfl) (hpl:#[45].any (·.1)=false:=by rfl):PE X #[48] (tM X.K Y (aE G fs)):=M0 C (hr.mono hk) hg ha hdb he hpl
end
section
variable{ifs:#[92]}{cap:List (Str×Nat)}{it:SD->Res #[106]}{tgd:xg}{tt:#[66]}{n:Nat}
def kc {y:Str}{own:#[116]}{py spos:Pos}(i:Nat)(hN:X.N.Nodup)(ok:gE X scope own cap)(hc:X.calm=true)(hi:PI X tg iter (Ba X.K Y it))(Bl:#[89])(hi':X.N[i]?=some y:=by rfl)(hy:Loc X.env.scope y:=by first|exact Or.inl rfl|exact Or.inr rfl)
  (hsw:#[127]:=by rfl)
  (hf:#[61]:=by first|exact .inl rfl|exact .inr rfl) (hs:#[39]:=by intro _;rfl) :
  PS X (.Assign [.Name y py] #[16] spos) (iZ X.K Y (aQ i (bo it tgd tt fe own.length cap))):=CO hN hi' hy ok hc hi Bl hsw hf hs
def qx (l:#[116])(h:l.Nodup:=by decide +kernel):l.Nodup:=h
end
end DL
namespace L2
open PySem
def mL {N P:#[116]}{sc:Scope}(h1:sc.kind=.function:=by rfl)(h2:sc.isCoroutine=false:=by rfl)(h3:sc.isGenerator=false:=by rfl)(h4:N.Nodup:=by decide +kernel)(h5:N.take P.length=P:=by rfl)(h6:∀ x∈P,sc.names.lookup x=some .local\/sc.names.lookup x=some .cell:=by decide +kernel)(h7:∀ y∈sc.names,y.2 ≠ .free:=by decide +kernel):aP N P sc:=⟨h1,h2,h3,h4,h5,h6,h7⟩
end L2
namespace L2
open PySem PySem.Spec PyProof.Rows
def E3:∀ {ns ms:#[6]},ns.length=ms.length->((List.range ns.length).all λ j=>ns.getD j 0 == ms.getD j 0)=decide (ns=ms):=by
 intro ns ms h;rw[Rb,RN,Sf];constructor
 ·intro a;refine RA h λ j h1 h2=>?_;have:=a j (P7.mpr h1);rw[P5,P5,Pr h1,Pr h2]at this;simpa using this
 ·intro e j _;rw[e];exact S3 _
section
variable {X:Cx}
def Nb (K:#[0])(neg:Bool):R2:=λ x y H Q=>∃ (a b:Addr) (ns ms:#[6]),x=.ref a/\y=.ref b/\eQ K H a (ns.map V.int)/\eQ K H b (ms.map V.int)/\Q (.bl (xor neg (decide (ns=ms)))) H
def Ii {s:Shared}{A:Around}{ns ms:#[6]}{i1 i2:#[22]}(r1:Vals (ns.map V.int) i1)(r2:Vals (ms.map V.int) i2)(j:Nat)(h1:j<i1.toArray.size)(h2:j<i2.toArray.size):SeqAt.EqAt A s i1.toArray[j] i2.toArray[j] (ns.getD j 0 == ms.getD j 0):=by
 obtain⟨t,e1⟩:=vX r1 (PX h1);obtain⟨t',e2⟩:=vX r2 (PX h2);rw[e1,e2];exact SeqAt.EqAt.int_int (A:=A) (s:=s) (ns.getD j 0) t (ms.getD j 0) t'
def Lr (hu:X.A.units+1<cLine):kO X (compareOp .NotEq) (Nb X.K true):=by
 intro pins s σ H x y v u Q I rx ry h;obtain⟨a,b,ns,ms,rfl,rfl,ha,hb,q⟩:=h;cases rx;cases ry;obtain⟨i1,r1,p1,_⟩:=I.list ha;obtain⟨i2,r2,p2,_⟩:=I.list hb;have l1:=r1.length;have l2:=r2.length;rw[Pk]at l1 l2;rw[Bool.true_xor]at q;by_cases hl:ns.length=ms.length
 ·have h:=SeqAt.RcNeAt.lists (A:=X.A) p1.isList p2.isList (by rw[PK,PK];omega) #[1] (Ii r1 r2);rw[PK,<-l1,E3 hl]at h;exact h _ _ _ _ ⟨.bl _,H,I,rfl,q⟩
 ·have h:=SeqAt.RcNeAt.lists_lengths (A:=X.A) p1.isList p2.isList (by rw[PK,PK,<-l1,<-l2];simpa using hl) #[1];rw[PQ λ z=>hl (Q3 List.length z)]at q;exact h _ _ _ _ ⟨.bl true,H,I,rfl,q⟩
end
end L2
namespace DL
open PySem PySem.Spec PyProof.Rows L2
def E4 (neg:Bool)(x y:D):Res D:=match x,y with
 | .lst _ xs,.lst _ ys=>match intsOf xs,intsOf ys with
  |some ns,some ms=>.ok (.bl (xor neg (decide (ns=ms))))
  |_,_=>.bad
 |_,_=>.bad
section
variable {K:#[0]}{Y:XY}{X:Cx}{pos p:Pos}{e:Expr}{fe:#[28]}
def Na (neg:Bool):qC K Y (Nb K neg) (E4 neg):=by
 intro H0 B0 B H σ τ P F d1 d2 x y f1 f2 Q I r1 r2 k h;unfold E4 at h;split at h
 ·split at h
  ·rename_i ns ms e1 e2;have ex:=iI e1;have ey:=iI e2;subst ex ey;obtain⟨a,vs,g,rfl,q,l,s⟩:=r1.lst I;obtain⟨b,us,g',rfl,q',l',s'⟩:=r2.lst I;obtain⟨rfl,rfl⟩:=iH l;obtain⟨rfl,rfl⟩:=iH l';exact⟨a,b,ns,ms,rfl,rfl,q,q',Out.here h I ⟨rfl,rfl⟩⟩
  ·exact h.elim
 ·exact h.elim
end
section
variable (K:#[0])(H0 B0 B H:Hp)(σ:L2.St)(F:#[17])
end
section
variable {K:#[0]}{Y:XY}{H0 B0 B H:Hp}{σ:L2.St}{τ:SD}{P:#[8]}{F:#[17]}{X:Cx}{pos p:Pos}{e e2:Expr}{fe fv:#[28]}{f g:SD->Res (D×SD)}
end
end DL
namespace SR
open PySem PySem.Spec PyProof.Rows
variable {a b:Addr}{xs ys:#[132]}{h:Heap}{ms ns:#[6]}
def lexLt:List Int->List Int->Bool
 |[],[]=>false
 |[],_::_=>true
 |_::_,[]=>false
 |x::r,y::q=>if x=y then lexLt r q else decide (x<y)
section
variable {prog:#[84]}{w:World}{A:Around}{E:#[4]}{s:Shared}
def entry_eq_loop:entryFor table "list.__eq__.loop" = some Builtin.«list.__eq__.loop» :=SY (by kernel_rfl)
def plain_eq_loop:plainId "list.__eq__.loop" = true:=by decide +kernel
def n9:∀ {vs:#[22]}{ns:#[6]},IntsAre vs ns->vs.length=ns.length
 |_,_,.nil=>rfl|_,_,.cons n t r=>by rw[PU,PU,n9 r]
def By(hi:IntsAre xs.toList ns){k:Nat}(hk:k<ns.length):∃ t,xs[k]?=some (.int ns[k] t):=by
 have hl:=n9 hi;rw[PZ]at hl;have hk':k<xs.size:=by omega
 obtain⟨t,e⟩:=IntsAre.int_at hi k xs[k] (by rw[Qp];exact PX hk');refine⟨t,?_⟩;rw[PX hk',e,P5,Pr hk];rfl
def Ik{n1 n2:Nat}{d1 d2:Option Addr}{s1 s2:Array (Option Value)}(i1:IntsAre xs.toList ns)(i2:IntsAre ys.toList ms)(e1:s.heap.get? a=some ⟨.type "list",d1,.seq xs n1,s1⟩)(e2:s.heap.get? b=some ⟨.type "list",d2,.seq ys n2,s2⟩){R:Result->Shared->Prop} :
  ∀ (m k:Nat),ns.length-k=m->k<=ns.length->k<=ms.length->R (.ok (.ret (.bool (lexLt (ns.drop k) (ms.drop k))))) s->codeAny #[12] A (.builtin "list.__eq__.loop" ⟨[.ref a,.ref b,rawInt k,rawInt 0],[]⟩) R s:=by
 have l1:=n9 i1;have l2:=n9 i2;rw[PZ]at l1 l2;intro m
 induction m with
 | zero =>
  intro k hk hk3 hk4 hR;refine Rf entry_eq_loop ?_;rw[Q5 plain_eq_loop _];unfold Builtin.«list.__eq__.loop»
  wp_walk
  have z1:xs[((k:Int)).toNat]?=none:=by rw[Qm];exact Rw #[1]
  simp only[z1]
  wp_walk
  have dz:ns.drop k=[]:=R1 #[1];rw[dz]at hR;have es:lexLt [] (ms.drop k)=decide (xs.size<ys.size):=by
   cases hd:ms.drop k with
   | nil =>
    have:=List.drop_eq_nil_iff.mp hd;rw[PQ #[1]];rfl
   | cons y r =>
    have:(ms.drop k).length≠0:=by rw[hd];simp
    rw[Se]at this;rw[P8 #[1]];rfl
  rw[es]at hR;exact hR
 | succ m ih =>
  intro k hk hk3 hk4 hR;have hk1:k<ns.length:=by omega
  obtain⟨t,g1⟩:=By i1 hk1;refine Rf entry_eq_loop ?_;rw[Q5 plain_eq_loop _];unfold Builtin.«list.__eq__.loop»
  wp_walk
  rw[RI hk1]at hR;by_cases hk2:k<ms.length
  ·obtain⟨u,g2⟩:=By i2 hk2;rw[RI hk2,lexLt]at hR;simp only[Qm,g1,g2];refine Ph (wpAny_eqBool_int ?_);by_cases e:ns[k]=ms[k]
   ·rw[PH e]at hR;rw[show(ns[k] == ms[k])=true by simpa using e,PH rfl];refine Po ⟨So plain_eq_loop _,?_⟩;have:=ih (k+1) #[1] #[1] #[1] hR;exact this
   ·rw[PL e]at hR;rw[show(ns[k] == ms[k])=false by simpa using e,PL Pq]
    wp_walk
    simp only[Qm,g1,g2];refine Ph (lt_int ?_);exact Po hR
  ·have z2:ys[k]?=none:=Rw #[1];simp only[Qm,g1,z2];have dz:ms.drop k=[]:=R1 #[1];rw[dz,lexLt]at hR
   wp_walk
   have es:false=decide (xs.size<ys.size):=(PQ #[1]).symm;rw[es]at hR;exact hR
def lt_meets{n1 n2:Nat}{d1 d2:Option Addr}{s1 s2:Array (Option Value)}(i1:IntsAre xs.toList ns)(i2:IntsAre ys.toList ms) :
  Meets (Builtin.«list.__lt__» ⟨[.ref a,.ref b],[]⟩) (λ _ R s=>s.heap.get? a=some ⟨.type "list",d1,.seq xs n1,s1⟩/\s.heap.get? b=some ⟨.type "list",d2,.seq ys n2,s2⟩/\R (.ok (.ret (.bool (lexLt ns ms)))) s):=by
 intro prog w A R s ⟨e1,e2,hR⟩;have sub:=AutoSeq1.sub_list_list
 wp_walk
 exact⟨So plain_eq_loop _,Ik i1 i2 e1 e2 _ 0 rfl (QY _) (QY _) hR⟩
def E5{Q:Bool->Shared->Prop}(hl:s.heap.IsList a xs)(hb:s.heap.IsList b ys)(i1:IntsAre xs.toList ns)(i2:IntsAre ys.toList ms)(hu:A.units<cLine)(hQ:Q (lexLt ns ms) s) :
  wpAny #[12] A (oneLt' true (.ref a) (.ref b)) Q E s:=by
 rw[oneLt'_eq,PH rfl];have Ta:s.TypeIs (.ref a) "list" :=hl.typeIs;refine Ph (wpAny_cRoomFor hu ?_);obtain⟨⟨c1,d1,t1,s1⟩,e1,k1,n1,q1⟩:=id hl;obtain⟨⟨c2,d2,t2,s2⟩,e2,k2,n2,q2⟩:=id hb;simp only at k1 q1 k2 q2;subst k1 q1 k2 q2;refine Ph (wpAny_callSpecialIfBound?_slot Ta F.slot_list_lt (TQ F.slot_list_lt Ta F.entry_list_lt (F.args_list_lt_2 _ _) (lt_meets i1 i2) ⟨e1,e2,?_⟩));exact Po hQ
def n8 (h:Heap)(v:Value)(ns:#[6]):Prop:=∃ a xs,v=.ref a/\h.IsList a xs/\IntsAre xs.toList ns
def n8.keep {h':Heap}{v:Value}(k:∀ b o,h.get? b=some o->h'.get? b=some o)(x:n8 h v ns):n8 h' v ns:=by
 obtain⟨a,xs,e,⟨o,ho,r⟩,i⟩:=x;exact⟨a,xs,e,⟨o,k _ _ ho,r⟩,i⟩
def zW {v:Value}{Q:#[131]}(hv:n8 s.heap v ns)(hQ:Q none s):wpAny #[12] A (firstOfTuple' v) Q E s:=by
 obtain⟨a,xs,rfl,hl,_⟩:=hv;show wpAny _ _ (typeOf (.ref a) >>= _) _ _ _;refine Ph (TF hl.typeIs ?_);exact Po hQ
def nh {α:Type}{f:Value->Sem α}{g:Value->α}:∀ (vs:#[22]) {Q:List α->Shared->Prop},(∀ v∈vs,∀ Q':α->Shared->Prop,Q' (g v) s->wpAny #[12] A (f v) Q' E s)->Q (vs.map g) s->wpAny #[12] A (vs.mapM f) Q E s
 |[],Q,_,hQ=>by rw[List.mapM_nil];exact Po hQ
 | v::vs,Q,h,hQ=>by
  rw[List.mapM_cons];exact Ph (h v Pp _ (Ph (nh vs (λ u hu=>h u (Pn _ hu)) (Po hQ))))
end
section
variable {prog:#[84]}{w:World}{A:Around}{E:#[4]}{s:Shared}
def zX {vs:#[22]}(hv:∀ v∈vs,∃ ns,n8 h v ns)(hn:vs≠[]):zV #[12] A h (keyKind' vs.toArray) oneType':=by
 intro Q E s k hQ;have hv':∀ v∈vs,∃ ns,n8 s.heap v ns:=λ v m=>let ⟨ns,x⟩:=hv v m;⟨ns,x.keep k⟩
 rw[keyKind'_eq];refine Ph ?_;rw[List.mapM_toArray];refine wpAny_map ?_;refine nh (g:=λ _=>none) vs (λ v m Q' hQ'=>let ⟨ns,x⟩:=hv' v m;zW x hQ') ?_;obtain⟨v0,vr,rfl⟩:∃ v0 vr,vs=v0::vr:=by
  cases vs with
  |nil=>exact absurd rfl hn|cons a b=>exact⟨a,b,rfl⟩
 simp;refine wpAny_map ?_;rw[oneTypeOnly'_eq,List.mapM_toArray];refine Ph (wpAny_map (nh (g:=λ _=>Value.type "list") (v0::vr) (λ v m Q' hQ'=>?_) ?_))
 ·obtain⟨ns,a,xs,rfl,hl,_⟩:=hv' v m;exact TF hl.typeIs hQ'
 ·have h0:(List.map (λ _=>Value.type "list") (v0::vr)).toArray[0]?=some (Value.type "list"):=by simp
  have ha:((List.map (λ _=>Value.type "list") (v0::vr)).toArray.all λ x=>x == Value.type "list")=true:=by
   simp only[List.all_toArray,List.all_map,Sf];intro _ _;rfl
  rw[h0];simp only[ha,RE];exact Po hQ
end
end SR
namespace SR
open PySem PySem.Spec PyProof.Rows PySem.W
variable {p:Array Nat}{n:Nat}
def iJ {α β:Type}(c:Nat->Nat->Bool)(f:α->KasT β):∀ t:KasT α,bu c (t.bind f)=bu c (f (bu c t))
 |.ret a=>rfl|.ask i j k=>iJ c f (k (c i j))
structure Ord (n:Nat)(c:Nat->Nat->Bool):Prop where
 tr:∀ i j k,c i j=true->c j k=true->c i k=true
 tot:∀ i j,i<n->j<n->i≠j->c i j=true\/c j i=true
abbrev eZ (p:Array Nat)(i:Nat):Nat:=p.getD i 0
def Up (c:Nat->Nat->Bool)(p:Array Nat)(k:Nat):Prop:=∀ i j,i<j->j<k->c (eZ p i) (eZ p j)=true
def Dn (c:Nat->Nat->Bool)(p:Array Nat)(k:Nat):Prop:=∀ i j,i<j->j<k->c (eZ p j) (eZ p i)=true
def vY {q:Array Nat}{i j:Nat}(h:p[i]?=q[j]?):eZ p i=eZ q j:=by
 unfold eZ;rw[Qv,Qv,h]
def Pm.size(h:Pm n p):p.size=n:=by
 have:=h.size_eq;simpa using this
def Pm.unlike(h:Pm n p){i j:Nat}(hi:i<n)(hj:j<n)(hn:i≠j):eZ p i≠eZ p j:=by
 have nd:p.toList.Nodup:=by
  have h':p.toList.Perm #[57]:=by simpa using Q8.mp h
  exact h'.nodup_iff.mpr S4
 have hs:=h.size;have gi:eZ p i=p.toList[i]'(by rw[PZ];omega):=by
  unfold eZ;rw[Qv,PX #[1]];rfl
 have gj:eZ p j=p.toList[j]'(by rw[PZ];omega):=by
  unfold eZ;rw[Qv,PX #[1]];rfl
 rw[gi,gj];intro e;exact hn ((List.getElem_inj nd).mp e)
section
variable{c:Nat->Nat->Bool}(o:Ord n c)(hn:0<n)
include o hn
theorem Up.more{k:Nat}(h:Pm n p)(u:Up c p k)(hk:1<=k)(hkn:k<n)(hc:c (eZ p k) (eZ p (k-1))=false):Up c p (k+1):=by
 have hl:c (eZ p (k-1)) (eZ p k)=true:=by
  rcases o.tot (eZ p (k-1)) (eZ p k) (h.get hn _) (h.get hn _) (h.unlike #[1] hkn #[1]) with z|z
  ·exact z
  ·rw[hc]at z;cases z
 intro i j hij hj;by_cases e:j=k
 ·subst e;by_cases e2:i=j-1
  ·subst e2;exact hl
  ·exact o.tr _ _ _ (u i (j-1) #[1] #[1]) hl
 ·exact u i j hij #[1]
theorem Dn.more{k:Nat}(u:Dn c p k)(hk:1<=k)(hc:c (eZ p k) (eZ p (k-1))=true):Dn c p (k+1):=by
 intro i j hij hj;by_cases e:j=k
 ·subst e;by_cases e2:i=j-1
  ·subst e2;exact hc
  ·exact o.tr _ _ _ hc (u i (j-1) #[1] #[1])
 ·exact u i j hij #[1]
theorem zY {p:Array Nat}(h:Pm n p):∀ (f k:Nat),1<=k->k+f<=n->Up c p k->k<=bu c (kas_asc p f k)/\bu c (kas_asc p f k)<=k+f/\Up c p (bu c (kas_asc p f k))/\(bu c (kas_asc p f k)<k+f->c (eZ p (bu c (kas_asc p f k))) (eZ p (bu c (kas_asc p f k)-1))=true)
 |0,k,hk,hf,u=>⟨Py _,Py _,u,λ z=>absurd z (QJ _)⟩
 | f+1,k,hk,hf,u=>by
  have e:bu c (kas_asc p (f+1) k)=bu c (if c (eZ p k) (eZ p (k-1))=true then KasT.ret k else kas_asc p f (k+1)):=rfl;rw[e];cases hc:c (eZ p k) (eZ p (k-1)) with
  | true =>
   rw[PH rfl];exact⟨Py _,Us _ _,u,λ _=>hc⟩
  | false =>
   rw[PL Pq];obtain⟨a1,a2,a3,a4⟩:=zY h f (k+1) #[1] #[1] (u.more o hn h hk #[1] hc);exact⟨by omega,by omega,a3,λ z=>a4 #[1]⟩
theorem BA {p:Array Nat}(h:Pm n p):∀ (f k:Nat),1<=k->k+f<=n->Dn c p k->∃ m,bu c (kas_desc f p k 0)=(p,m,0)/\k<=m/\m<=k+f/\Dn c p m
 |0,k,hk,hf,u=>⟨k,rfl,Py _,Py _,u⟩
 | f+1,k,hk,hf,u=>by
  have e:bu c (kas_desc (f+1) p k 0)=bu c (if c (eZ p k) (eZ p (k-1))=true then (if (0:Nat)>0 then kas_desc f (kas_rev p (k-(0+1)) k) (k+1) 0 else kas_desc f p (k+1) 0) else .ask (eZ p (k-1)) (eZ p k) λ d=>if d=true then .ret (p,k,0) else kas_desc f p (k+1) (0+1)):=rfl;rw[e];cases hc:c (eZ p k) (eZ p (k-1)) with
  | true =>
   rw[PH rfl,PL (QJ 0)];obtain⟨m,a1,a2,a3,a4⟩:=BA h f (k+1) #[1] #[1] (u.more o hn hk hc);exact⟨m,a1,by omega,by omega,a4⟩
  | false =>
   rw[PL Pq];have hl:c (eZ p (k-1)) (eZ p k)=true:=by
    rcases o.tot (eZ p (k-1)) (eZ p k) (h.get hn _) (h.get hn _) (h.unlike #[1] #[1] #[1]) with z|z
    ·exact z
    ·rw[hc]at z;cases z
   refine⟨k,?_,Py _,by omega,u⟩;show bu c (if c (eZ p (k-1)) (eZ p k)=true then KasT.ret (p,k,0) else _)=_;rw[PH hl];rfl
theorem Ls(h:Pm n p){m:Nat}(hm:m<=n)(u:Dn c p m):Pm n (kas_rev p 0 m)/\Up c (kas_rev p 0 m) m:=by
 refine⟨(mirror_perm p _ _ _).trans h,λ i j hij hj=>?_⟩;have g:∀ k,k<m->eZ (kas_rev p 0 m) k=eZ p (m-1-k):=λ k hk=>by
  refine vY ?_;unfold kas_rev;rw[getElem?_mirror_all (by rw[h.size];exact hm),PH ⟨QY _,hk⟩]
  congr 1
  omega
 rw[g i #[1],g j hj];exact u _ _ #[1] #[1]
theorem Il(h:Pm n p){m:Nat}(h1:1<=m)(hm:m<=n)(u:Dn c p m):Pm n (bu c (kas_tail3 m n p)).2/\Up c (bu c (kas_tail3 m n p)).2 (bu c (kas_tail3 m n p)).1/\1<=(bu c (kas_tail3 m n p)).1/\(bu c (kas_tail3 m n p)).1<=n:=by
 obtain⟨q1,q2⟩:=Ls o hn h hm u;obtain⟨a1,a2,a3,_⟩:=zY o hn q1 (n-m) m h1 #[1] q2;have e:bu c (kas_tail3 m n p)=(bu c (kas_asc (kas_rev p 0 m) (n-m) m),kas_rev p 0 m):=by
  unfold kas_tail3;rw[iJ];rfl
 rw[e];exact⟨q1,a3,by show 1<=bu c _;omega,by show bu c _<=n;omega⟩
theorem E6(h:Pm n p):Pm n (bu c (kas_count n p)).2/\Up c (bu c (kas_count n p)).2 (bu c (kas_count n p)).1/\1<=(bu c (kas_count n p)).1/\(bu c (kas_count n p)).1<=n:=by
 have u1:Up c p 1:=λ i j h1 h2=>by omega
 obtain⟨a1,a2,a3,a4⟩:=zY o hn h (n-1) 1 (Py _) #[1] u1;have e:bu c (kas_count n p)=bu c (if ((bu c (kas_asc p (n-1) 1)) == n)=true then .ret (bu c (kas_asc p (n-1) 1),p) else if bu c (kas_asc p (n-1) 1)>1 then .ask (eZ p 0) (eZ p (bu c (kas_asc p (n-1) 1)-1)) λ d=>if d=true then .ret (bu c (kas_asc p (n-1) 1),p) else kas_descPart (bu c (kas_asc p (n-1) 1)) n (kas_rev p 0 (bu c (kas_asc p (n-1) 1))) else kas_descPart (bu c (kas_asc p (n-1) 1)) n p):=by
  unfold kas_count;rw[iJ]
 rw[e];generalize hm:bu c (kas_asc p (n-1) 1)=m at *;by_cases e1:m=n
 ·rw[PH (by simpa using e1)];exact⟨h,a3,a1,by show m<=n;omega⟩
 ·rw[PL (by simpa using e1)];by_cases e2:m>1
  ·rw[PH e2];have hc:=a3 0 (m-1) #[1] #[1];have er:bu c (KasT.ask (eZ p 0) (eZ p (m-1)) λ d=>if d=true then KasT.ret (m,p) else kas_descPart m n (kas_rev p 0 m))=(m,p):=by
    show bu c (if c (eZ p 0) (eZ p (m-1))=true then KasT.ret (m,p) else kas_descPart m n (kas_rev p 0 m))=_;rw[PH hc];rfl
   rw[er];exact⟨h,a3,a1,by show m<=n;omega⟩
  ·rw[PL e2];have m1:m=1:=by omega
   subst m1;have hc:=a4 #[1];have d2:Dn c p 2:=λ i j h1 h2=>by
    have:i=0/\j=1:=by omega
    obtain⟨rfl,rfl⟩:=this;exact hc
   obtain⟨k,b1,b2,b3,b4⟩:=BA o hn h (n-(1+1)) (1+1) #[1] #[1] d2;have ed:bu c (kas_descPart 1 n p)=bu c (kas_tail3 k n p):=by
    unfold kas_descPart;rw[iJ,b1];rfl
   rw[ed];exact Il o hn h #[1] #[1] b4
theorem rJ {p:Array Nat}(h:Pm n p){k:Nat}(hk:k<n)(u:Up c p k):∀ (f l r:Nat),l<=r->r<=k->r-l<=f->(∀ i,i<l->c (eZ p i) (eZ p k)=true)->(∀ i,r<=i->i<k->c (eZ p k) (eZ p i)=true) ->
  bu c (kas_place p k f l r)<=k/\(∀ i,i<bu c (kas_place p k f l r)->c (eZ p i) (eZ p k)=true)/\∀ i,bu c (kas_place p k f l r)<=i->i<k->c (eZ p k) (eZ p i)=true
 |0,l,r,h1,h2,h3,hl,hr=>⟨by show l<=k;omega,hl,λ i z=>hr i (by have:l<=i:=z;omega)⟩
 | f+1,l,r,h1,h2,h3,hl,hr=>by
  rw[kas_place];by_cases e:l≥r
  ·rw[PH e];exact⟨by show l<=k;omega,hl,λ i z=>hr i (by have:l<=i:=z;omega)⟩
  ·rw[PL e];have em:bu c (KasT.ask (eZ p k) (eZ p ((l+r)/2)) λ d=>if d=true then kas_place p k f l ((l+r)/2) else kas_place p k f ((l+r)/2+1) r)=bu c (if c (eZ p k) (eZ p ((l+r)/2))=true then kas_place p k f l ((l+r)/2) else kas_place p k f ((l+r)/2+1) r):=rfl;rw[em];have hm1:l<=(l+r)/2:=by omega
   have hm2:(l+r)/2<r:=by omega
   generalize (l+r)/2=m at *;cases hc:c (eZ p k) (eZ p m) with
   | true =>
    rw[PH rfl];refine rJ h hk u f l m hm1 #[1] #[1] hl λ i z1 z2=>?_;by_cases e:i=m
    ·subst e;exact hc
    ·exact o.tr _ _ _ hc (u m i #[1] z2)
   | false =>
    rw[PL Pq];have hl':c (eZ p m) (eZ p k)=true:=by
     rcases o.tot (eZ p m) (eZ p k) (h.get hn _) (h.get hn _) (h.unlike #[1] hk #[1]) with z|z
     ·exact z
     ·rw[hc]at z;cases z
    refine rJ h hk u f (m+1) r #[1] h2 #[1] (λ i z=>?_) hr;by_cases e:i=m
    ·subst e;exact hl'
    ·exact o.tr _ _ _ (u i m #[1] #[1]) hl'
theorem E7:∀ (f:Nat) {p:Array Nat} (k:Nat),Pm n p->k+f=n->Up c p k->Pm n (bu c (kas_bin f p k))/\Up c (bu c (kas_bin f p k)) n
 |0,p,k,h,hk,u=>⟨h,(show k=n by omega)▸u⟩
 | f+1,p,k,h,hk,u=>by
  obtain⟨a1,a2,a3⟩:=rJ o hn h (k:=k) #[1] u k 0 k (QY _) (Py _) #[1] (λ i z=>absurd z (RK _)) (λ i z1 z2=>by omega);have e:bu c (kas_bin (f+1) p k)=bu c (kas_bin f (bubble p k (k-bu c (kas_place p k k 0 k))) (k+1)):=by
   rw[kas_bin,iJ]
  rw[e];generalize bu c (kas_place p k k 0 k)=l at *;have g:∀ i,eZ (bubble p k (k-l)) i=if i=l then eZ p k else if l<i/\i<=k then eZ p (i-1) else eZ p i:=λ i=>by
   have hb:=getElem?_bubble (xs:=p) (src:=k) (by rw[h.size];omega) (k-l) #[1] i;have e2:k-(k-l)=l:=by omega
   rw[e2]at hb;split
   ·rename_i z;rw[PH z]at hb;exact vY hb
   ·rename_i z;rw[PL z]at hb;split
    ·rename_i z2;rw[PH z2]at hb;exact vY hb
    ·rename_i z2;rw[PL z2]at hb;exact vY hb
  refine E7 f (k+1) ((bubble_perm p _ _).trans h) #[1] λ i j hij hj=>?_;rw[g i,g j];by_cases i1:i=l
  ·rw[PH i1,PL #[1],PH ⟨by omega,by omega⟩];exact a3 (j-1) #[1] #[1]
  ·rw[PL i1];by_cases i2:l<i/\i<=k
   ·rw[PH i2,PL #[1],PH ⟨by omega,by omega⟩];exact u _ _ #[1] #[1]
   ·rw[PL i2];by_cases j1:j=l
    ·rw[PH j1];exact a2 i #[1]
    ·rw[PL j1];by_cases j2:l<j/\j<=k
     ·rw[PH j2];by_cases e3:i=j-1
      ·omega
      ·exact u _ _ #[1] #[1]
     ·rw[PL j2];exact u _ _ hij #[1]
theorem Im:Pm n (bu c (kas_sort n))/\Up c (bu c (kas_sort n)) n:=by
 obtain⟨a1,a2,a3,a4⟩:=E6 o hn (p:=#[57].toArray) (Array.Perm.refl _);have e:bu c (kas_sort n)=bu c (if (bu c (kas_count n #[57].toArray)).1<n then kas_bin (n-max (bu c (kas_count n #[57].toArray)).1 1) (bu c (kas_count n #[57].toArray)).2 (max (bu c (kas_count n #[57].toArray)).1 1) else .ret (bu c (kas_count n #[57].toArray)).2):=by
  unfold kas_sort;rw[iJ]
 rw[e];generalize bu c (kas_count n #[57].toArray)=r at *;by_cases h:r.1<n
 ·rw[PH h];have em:max r.1 1=r.1:=Uy a3;rw[em];exact E7 o hn (n-r.1) r.1 a1 #[1] a2
 ·rw[PL h];have e2:r.1=n:=by omega
  rw[e2]at a2;exact⟨a1,a2⟩
end
end SR
namespace DL
open PySem PySem.Spec PyProof.Rows L2
section
variable {K:#[0]}{Y:XY}{H0 B0 B H:Hp}{σ:L2.St}{τ:SD}{P:#[8]}{F:#[17]}{X:Cx}{pos:Pos}
def SI.Nc {i:Nat}{d:D}(I:#[110])(h:τ[i]?=some (some d)):∃ v f P',σ[i]?=some (some v)/\Rep K B No H d v f/\SI K H0 B0 B H σ (τ.set i none) P' No/\gm H0 B H P' No f:=by
 obtain⟨v,A,f,C,h1,h2,h3,h4⟩:=I.rep.drop h;subst h3;have nd:=I.nd;have sb:List.Sublist (A++C) (A++f++C):=by
  rw[Qn];exact(QI A).append (P6 f C)
 have sf:List.Sublist f (A++f++C):=(P6 A f).trans (Qj _ _);have dis:∀ a∈f,a∉A++C:=λ a z m=>by
  rw[Qn,PJ]at nd;obtain⟨_,n2,n3⟩:=nd;rw[PJ]at n2;rcases PC.mp m with q|q
  ·exact n3 a q a (PD _ z) rfl
  ·exact n2.2.2 a z a q rfl
 refine⟨v,f,A++C,h1,h2,⟨I.bh,I.h0,I.b0,I.nb,h4,I.nd.sublist sb,λ a m=>I.own a (sb.subset m),λ a m=>m.elim⟩,I.nd.sublist sf,λ a m=>?_⟩;have q:=I.own a (sf.subset m);exact⟨q.1,q.2.1,I.stands (sf.subset m),dis a m,λ z=>z.elim⟩
def yb (i j:Nat)(τ:SD):Fl:=match dX τ i,τ[j]? with
 |some xs,some (some d)=>if i≠j/\xs.length<16777216 then .nx ((τ.set j none).set i (some (.lst .own (xs++[d])))) else .bad
 |_,_=>.bad
def Lv (i j:Nat){x y:Str}{p1 p2 apos cpos:Pos}(hN:#[69]:=by rfl)(hM:X.N[j]?=some y:=by rfl)(hv:#[98]:=by first|exact Or.inl rfl|exact Or.inr (Or.inl rfl)|exact Or.inr (Or.inr rfl))(hw:sX X.env.scope y:=by first|exact Or.inl rfl|exact Or.inr (Or.inl rfl)|exact Or.inr (Or.inr rfl))
  (hd:#[2]:=by decide) (hcd:#[29]:=by decide) (hd':#[113]:=by decide) (hcd':(y == ("__classdict__" : Str))=false:=by decide)
  (hbase:attributeBase #[59] "append" X.env (eval #[59] X.env)=eval #[59] X.env:=by rfl)
  (hfew:((backTo cpos (starEach [.Name y p2] X.env)).all (λ x=>!x.1)&&(backToKw cpos (keywordEach [] X.env)).all (λ x=>x.1.isSome)
   && decide (([.Name y p2]:#[92]).length+([]:List Keyword).length+(if ([]:List Keyword).isEmpty then 0 else 1)<30))=true:=by rfl)
  (hline:#[47]:=by rfl) (hs:starEach [.Name y p2] X.env=(false,eval (.Name y p2) X.env)::starEach [] X.env:=by rfl) (hplain:(backTo cpos (starEach [] X.env)).any (·.1)=false:=by rfl)
  (hsw:swapsWith (.Call (.Attribute #[59] "append" apos) [.Name y p2] [] cpos) none pos.line X.env=pure false:=by rfl) :
  PS X (.Expr (.Call (.Attribute #[59] "append" apos) [.Name y p2] [] cpos) pos) (iZ X.K Y (yb i j)):=by
 refine PS.imp (j0 (qS QN Sm Sn lU (dH hN hv hd hcd) (bY (dH hM hw hd' hcd') dQ hs) hbase hfew hline hs hplain) hsw) λ E σ H hq=>ex7 hq λ H0 B0 B τ P I h=>?_;unfold yb at h;split at h
 ·rename_i xs d z z';split at h
  ·rename_i hc;have hi:=gk z;obtain⟨a,vs,ea,ha,hl⟩:=I.listAt hi;obtain⟨v,f,P',e1,r1,I1,k1⟩:=I.Nc z';have hi1:(τ.set j none)[i]?=some (some (.lst .own xs)):=by rw[QH (QK hc.1)];exact hi
   refine⟨.ref a,ea,.inl ⟨rfl,vs,eQ.of ha⟩,v,e1,a,vs,v,rfl,rfl,ha,by rw[<-hl,Qx];exact hc.2,?_⟩;obtain⟨P2,I2⟩:=I1.CM (xs':=xs++[d]) (vs':=vs++[v]) hi1 ea k1 (λ g _ rl=>⟨g++f,rl.append (ak.one r1),λ b m=>PC.mp m,λ nf dis=>PJ.mpr ⟨nf,k1.nd,λ a ha b hb e=>dis b hb (e▸ha)⟩⟩) ha;exact h B _ σ P2 I2
  ·exact h.elim
 ·exact h.elim
def uJ (j i:Nat)(τ:SD):Fl:=match dX τ i with
 | some xs=>match xs[xs.length-1]? with
  |some d=>if i≠j then .nx ((τ.set i (some (.lst .own xs.dropLast))).set j (some d)) else .bad
  |none=>.bad
 |none=>.bad
def Lu (j i:Nat){x y:Str}{p0 p1 apos cpos:Pos}(hN:X.N.Nodup)(hj:X.N[j]?=some y)(hx:Loc X.env.scope y)(hi:#[69]:=by rfl)(hv:#[98]:=by first|exact Or.inl rfl|exact Or.inr (Or.inl rfl)|exact Or.inr (Or.inr rfl))(hd:#[2]:=by decide)(hcd:#[29]:=by decide)
  (hbase:attributeBase #[59] "pop" X.env (eval #[59] X.env)=eval #[59] X.env:=by rfl) (hline:#[47]:=by rfl)
  (hsw:swapsWith (.Call (.Attribute #[59] "pop" apos) [] [] cpos) (some (.Name y p0)) pos.line X.env=pure false:=by rfl) (hf:#[61]:=by first|exact .inl rfl|exact .inr rfl) :
  PS X (.Assign [.Name y p0] (.Call (.Attribute #[59] "pop" apos) [] [] cpos) pos) (iZ X.K Y (uJ j i)):=by
 refine PS.imp (zm hN hj hx (zp QN PySem.F.slot_list_pop PySem.F.type_list_pop D9 (dH hi hv hd hcd) hbase hline) hsw hf) λ E σ H hq=>ex7 hq λ H0 B0 B τ P I h=>?_;unfold uJ at h;split at h
 ·rename_i xs z;split at h
  ·rename_i d hd';split at h
   ·rename_i hij;have hi:=gk z;have hi':i<τ.length:=(Pw.mp hi).1;obtain⟨A,f,C,eP,g1,g2⟩:=I.rep.cut hi';obtain⟨v',e1,r1⟩:=g1 _ hi;obtain⟨a,vs,g,rfl,ha,rl,ef⟩:=r1;have hl:=rl.length;have hx0:xs≠[]:=λ z=>by rw[z]at hd';cases hd'
    have exs:xs=xs.dropLast++[d]:=by
     have:=List.dropLast_concat_getLast hx0;rw[List.getLast_eq_getElem,<-QC (hd'.symm.trans (Pr (by have:=Tz.mpr hx0;omega)))]at this;exact this.symm
    have rl2:=rl;rw[exs]at rl2;obtain⟨us,ws,fa,fb,evs,efg,ra,rb⟩:=rl2.split;obtain⟨v,w0,fv,f0,rfl,rv,⟨rfl,rfl⟩,efb⟩:=rb;rw[Qi]at efb;subst efb;subst evs efg ef;have nd0:=I.nd;rw[eP]at nd0;have ndf:(a::(fa++fb)).Nodup:=(nd0.sublist (Qj _ _)).sublist (P6 _ _);have hav:a∉fb:=λ m=>(PN.mp ndf).1 (PM _ m);have haf:a∉fa:=λ m=>(PN.mp ndf).1 (PD _ m);have kp:jF H (upd H a (.lst us)) [a]:=⟨λ b o h n=>by rw[aH (by simpa using n)];exact h,λ b m=>by
     have:b=a:=by simpa using m
     subst this;exact⟨_,ha,trivial⟩⟩
    have es:σ.set i (some (.ref a))=σ:=by
     refine QQ λ k=>?_;by_cases hk:k=i
     ·subst hk;rw[QA (Pw.mp e1).1,e1]
     ·rw[QH (QK hk)]
    have kpf:jF H (upd H a (.lst us)) (a::(fa++fb)):=⟨λ b o h n=>kp.keep b o h (λ z=>n (by
     have:b=a:=by simpa using z
     subst this;exact Pp)),λ b m=>I.rep.own b (by rw[eP];exact c6 _ _ _ b m)⟩
    have key:=I.put (i:=i) (H1:=upd H a (.lst us)) (d':=.lst .own xs.dropLast) (v':=.ref a) (f':=a::fa) hi' eP g2 kpf ⟨a,us,fa,rfl,aN,ra.keep kp (λ b m z=>haf ((by simpa using z:b=a)▸m)),rfl⟩ (PN.mpr ⟨haf,(PJ.mp (PN.mp ndf).2).1⟩) (λ b m=>.inl ((PB.mp m).elim (λ z=>z▸Pp) λ z=>Pn _ (PD _ z)));rw[es]at key;have rv':=rv.keep kp (λ b m z=>hav ((by simpa using z:b=a)▸m));have inP:∀ b∈fb,b∈P:=λ b m=>by rw[eP];exact c6 _ _ _ b (Pn _ (PM _ m))
    have kv:gm H0 B (upd H a (.lst us)) (A++a::fa++C) No fb:=⟨(PJ.mp (PN.mp ndf).2).2.1,λ b m=>by
     have q:=I.own b (inP b m);refine⟨q.1,q.2.1,λ z=>?_,λ z=>?_,λ z=>z.elim⟩
     ·by_cases e:b=a
      ·exact hav (e▸m)
      ·rw[aH e]at z;exact I.stands (inP b m) z
     ·have n1:=nd0;rw[Qn,PJ]at n1;obtain⟨_,n2,n3⟩:=n1;rw[PJ]at n2;have mm:b∈a::(fa++fb):=Pn _ (PM _ m);rw[Qn]at z;rcases PC.mp z with z|z
      ·exact n3 b z b (PD _ mm) rfl
      ·rcases PC.mp z with z|z
       ·rcases PB.mp z with e|e
        ·exact hav (e▸m)
        ·exact(PJ.mp (PN.mp ndf).2).2.2 b e b m rfl
       ·exact n2.2.2 b mm b z rfl⟩
    have hlast:(us++[v])[(us++[v]).length-1]?=some v:=by
     rw[Pz,P9,T6,QX (Py _),Nat.sub_self];rfl
    refine⟨.ref a,e1,.inl ⟨rfl,us++[v],eQ.of ha⟩,a,us++[v],v,rfl,rfl,ha,hlast,?_⟩;obtain⟨P2,I2,_⟩:=key.set j rv' kv;rw[Tf];exact h B _ _ P2 ⟨I2,au.refl _,λ b o h n=>kp.xE h n⟩
   ·exact h.elim
  ·exact h.elim
 ·exact h.elim
end
end DL
namespace SR
open PySem PySem.Spec PyProof.Rows
variable {h:Heap}{nss:List #[6]}{vs:#[22]}
inductive Io (h:Heap):List Value->List (List Int)->Prop
 |nil:Io h [] []
 |cons {v:Value}{ns:#[6]}{vs:#[22]}{nss:List #[6]}:n8 h v ns->Io h vs nss->Io h (v::vs) (ns::nss)
def Io.at(x:Io h vs nss):∀ i,i<vs.length->n8 h (vs.getD i .none) (nss.getD i []):=by
 induction x with
 |nil=>intro i hi;exact absurd hi (RK _)
 | cons a _ ih =>
  intro i hi;cases i with
  |zero=>exact a|succ i=>exact ih i (by rw[PU]at hi;omega)
def Io.mem(x:Io h vs nss):∀ v∈vs,∃ ns,n8 h v ns:=by
 induction x with
 |nil=>intro v m;cases m
 | cons a _ ih =>
  intro v m;rcases PB.mp m with rfl|m
  ·exact⟨_,a⟩
  ·exact ih v m
abbrev yd (nss:List #[6])(i j:Nat):Bool:=lexLt (nss.getD i []) (nss.getD j [])
def zZ {prog:#[84]}{w:World}{A:Around}(hv:Io h vs nss)(hu:A.units<cLine):zU #[12] A h vs (yd nss):=by
 intro h2;refine⟨oneType',zX hv.mem (λ z=>by rw[z]at h2;simp at h2),λ i j hi hj=>?_⟩;intro Q E s k hQ;obtain⟨a,xs,e1,l1,i1⟩:=(hv.at i hi).keep k;obtain⟨b,ys,e2,l2,i2⟩:=(hv.at j hj).keep k;rw[keyLt'_oneType,e1,e2];exact E5 l1 l2 i1 i2 hu hQ
end SR
namespace L2
open PySem PySem.Spec PyProof.Rows
section
variable {X:Cx}
def oh:∀ {ns:#[6]}{its:#[22]},Vals (ns.map V.int) its->IntsAre its ns
 |[],_,.nil=>.nil
 |n::ns,_,.cons r t=>by obtain⟨k,rfl⟩:=r;exact .cons n k (oh t)
inductive yc (K:PySem.W.Frag)(H:Hp):List V->List (List Int)->Prop
 |nil:yc K H [] []
 |cons {b:Addr}{ns:#[6]}{ws:List V}{nss:List #[6]}:eQ K H b (ns.map V.int)->yc K H ws nss->yc K H (.ref b::ws) (ns::nss)
def yc.len {K:#[0]}{H:Hp}{ws:List V}{nss:List #[6]}(x:yc K H ws nss):ws.length=nss.length:=by
 induction x with
 |nil=>rfl|cons _ _ ih=>rw[PU,PU,ih]
def Inv.Pa {pins:#[15]}{σ:St}{H:Hp}{s:Shared}(I:#[5]){ws:List V}{nss:List #[6]}(x:yc X.K H ws nss):∀ {its:#[22]},Vals ws its->SR.Io s.heap its nss:=by
 induction x with
 |nil=>intro its r;cases r;exact .nil
 | cons hq _ ih =>
  intro its r;cases r with
  | cons r1 r2 =>
   cases r1;obtain⟨is,rv,pl,_⟩:=I.list hq;exact .cons ⟨_,_,rfl,pl.isList,by simpa using oh rv⟩ (ih r2)
def vZ (hu:X.A.units+2<cLine):eO X (.builtin "sorted") (λ xs H Q=>∃ (a:Addr) (ws:List V) (nss:List #[6]),xs=[.ref a]/\eQ X.K H a ws/\yc X.K H ws nss/\nss.length<64/\∀ p:Addr,H p=none->Q (.ref p) (upd H p (.lst (SR.ordered .a8 (SR.yd nss) ws)))):=by
 intro pins s σ H xs us Q I r h;obtain⟨a,ws,nss,rfl,hq,hp,hl,q⟩:=h;obtain⟨u,rfl,ru⟩:=vals1 r;cases ru;obtain⟨its,rv,pl,hz⟩:=I.list hq;have hlen:=rv.length;have hpl:=hp.len;refine SR.zT pl.isList #[1] (SR.zZ (I.Pa hp rv) hu) λ h' p kp hsz he=>?_;obtain⟨e,he⟩:=he;refine⟨.ref p,_,I.laid (t':=s.toks) kp hsz ?_,rfl,q _ (I.hok.fresh hsz)⟩;refine⟨?_,_,e,rv.ordered (SR.yd nss),he⟩;rw[(SR.n6 _ _ _).length_eq];exact hz
end
end L2
namespace DL
open PySem PySem.Spec PyProof.Rows L2
def ye:List D->Option (List #[6])
 |[]=>some []
 |.lst _ ys::r=>(intsOf ys).bind λ ns=>(ye r).map (ns :: ·)
 |_=>none
def uK:∀ (nss:List #[6]) (t:List Int->Tg),ye (nss.map λ ns=>D.lst (t ns) (ns.map .int))=some nss
 |[],_=>rfl
 | ns::r,t=>by
  show((intsOf #[85]).bind λ ns=>(ye (r.map λ ns=>D.lst (t ns) (ns.map .int))).map (ns :: ·))=_;rw[f7,uK r t];rfl
section
variable {K:#[0]}{Y:XY}{H0 B0 B H:Hp}{σ:L2.St}{τ:SD}{P:#[8]}{F:#[17]}{X:Cx}{pos:Pos}
def E8 (I:#[21]):∀ {xs:List D}{nss:List #[6]}{vs:List V}{f:#[8]},ye xs=some nss->ak K B (· ∈ P) H xs vs f->yc K H vs nss
 | [],nss,vs,f,h,r=>by
  cases h;obtain⟨rfl,_⟩:=r;exact .nil
 | d::xs,nss,vs,f,h,r=>by
  obtain⟨v,w,f1,f2,rfl,r1,r2,rfl⟩:=r;cases d with
  | lst t ys =>
   unfold ye at h;cases e:intsOf ys with
   |none=>rw[e]at h;cases h
   | some ns =>
    rw[e]at h;cases e2:ye xs with
    |none=>rw[e2]at h;cases h
    | some mss =>
     rw[e2]at h;cases h;have ey:=iI e;subst ey;obtain⟨a,us,g,rfl,q,l,_⟩:=r1.lst I;obtain⟨rfl,rfl⟩:=iH l;exact .cons q (E8 I e2 r2)
  |_=>cases h
def ak.parts {S:#[17]}:∀ {xs:List D}{vs:List V}{f:#[8]},ak K B S H xs vs f->∃ fs:List #[8],fs.length=xs.length/\f=fs.flatten/\∀ i,i<xs.length->Rep K B S H (xs.getD i .a8) (vs.getD i .a8) (fs.getD i [])
 | [],vs,f,r=>by
  obtain⟨rfl,rfl⟩:=r;exact⟨[],rfl,rfl,λ i h=>absurd h (RK _)⟩
 | d::xs,vs,f,r=>by
  obtain⟨v,w,f1,f2,rfl,r1,r2,rfl⟩:=r;obtain⟨fs,h1,h2,h3⟩:=ak.parts r2;refine⟨f1::fs,by rw[PU,PU,h1],by rw[Rp,h2],λ i hi=>?_⟩;cases i with
  |zero=>exact r1|succ i=>exact h3 i (by rw[PU]at hi;omega)
def BB {S:#[17]}{x:Nat->D}{v:Nat->V}{g:Nat->List Addr}:∀ (q:#[31]),(∀ i∈q,Rep K B S H (x i) (v i) (g i))->ak K B S H (q.map x) (q.map v) (q.map g).flatten
 |[],_=>⟨rfl,rfl⟩
 |i::q,h=>⟨_,_,_,_,rfl,h i Pp,BB q λ j m=>h j (Pn _ m),by rw[PV,Rp]⟩
def ak.sorted {S:#[17]}{xs:List D}{vs:List V}{f:#[8]}(r:ak K B S H xs vs f)(c:Nat->Nat->Bool):∃ g,ak K B S H (SR.ordered .a8 c xs) (SR.ordered .a8 c vs) g/\g.Perm f:=by
 have hl:=r.length;unfold SR.ordered;rw[<-hl];split
 ·exact⟨f,r,QO _⟩
 ·rename_i h;obtain⟨fs,h1,h2,h3⟩:=r.parts;have hp:=Q8.mp (SR.f9.run (L:=SR.Pm xs.length) c (SR.nY (n:=xs.length) #[1]));have hp':(SR.bu c (PySem.W.kas_sort xs.length)).toList.Perm (List.range xs.length):=by simpa using hp
  refine⟨_,BB (g:=λ i=>fs.getD i []) _ λ i m=>h3 i (P7.mp (hp'.mem_iff.mp m)),?_⟩;rw[h2];refine List.Perm.flatten ((hp'.map _).trans ?_);have e3:(List.range xs.length).map (λ i=>fs.getD i [])=fs:=by
   rw[<-h1];refine RA #[25] λ i h1 h2=>?_;simp;rw[Pr h2];rfl
  rw[e3]
def lF (i:Nat)(τ:SD):Fl:=match τ[i]? with
 | some (some (.lst .own xs))=>match ye xs with
  |some nss=>if nss.length<64 then .rt (.lst .own (SR.ordered .a8 (SR.yd nss) xs)) else .bad
  |none=>.bad
 |_=>.bad
def C5 (i:Nat){x:Str}{p pn pc:Pos}(hu:X.A.units+2<cLine)(hg:Gl X "sorted")(hm:X.mg "sorted" = none)(hN:#[69]:=by rfl)(hv:#[98]:=by first|exact Or.inl rfl|exact Or.inr (Or.inl rfl)|exact Or.inr (Or.inr rfl))(hd:#[2]:=by decide)(hcd:#[29]:=by decide)(hl:Y.ln=false:=by rfl)
  (hs:starEach [.Name x pn] X.env=(false,eval (.Name x pn) X.env)::starEach [] X.env:=by rfl) (hpl:(backTo pc (starEach [] X.env)).any (·.1)=false:=by rfl) :
  PS X (.Return (some (.Call (.Name "sorted" p) [.Name x pn] [] pc)) pos) (iZ X.K Y (lF i)):=by
 refine PS.imp (oW (jz (vZ hu) hg hm #[30] (bY (dH hN hv hd hcd) dQ hs) (he:=hs) (hpl:=hpl))) λ E σ H hq=>ex7 hq λ H0 B0 B τ P I h=>?_;unfold lF at h;split at h
 ·rename_i xs e;split at h
  ·rename_i nss el;split at h
   ·rename_i hc;obtain⟨v,f,h1,h2,h3⟩:=I.rep.get e;obtain⟨a,vs,g,rfl,ha,rl,rfl⟩:=h2;have rl':ak X.K B (· ∈ P) H xs vs g:=rl.mono #[49] #[49] λ _ z=>z.elim;refine⟨.ref a,h1,a,vs,nss,rfl,eQ.of ha,E8 I el rl',hc,λ p hp=>?_⟩;obtain⟨g',r2,pg⟩:=rl.sorted (SR.yd nss);have s:=du (o:=.lst (SR.ordered .a8 (SR.yd nss) vs)) hp;have sub:∀ b∈g',b∈P:=λ b m=>h3.subset (Pn _ (pg.mem_iff.mp m));have hpn:p∉g':=λ m=>I.stands (sub p m) hp;refine(cy.rt hl h) B _ (.ref p) (p::g') ⟨I.h0.trans s,I.b0,I.bh.trans s,I.nb,⟨p,_,g',rfl,aN,r2.mono s #[49] (λ _ x=>x),rfl⟩,PN.mpr ⟨hpn,pg.nodup_iff.mpr (PN.mp (I.nd.sublist h3)).2⟩,λ b m=>?_⟩;rcases PB.mp m with e|m
    ·subst e;exact⟨I.bh.free hp,I.h0.free hp,by rw[aN];exact QW _⟩
    ·obtain⟨a1,a2,_⟩:=I.own b (sub b m);exact⟨a1,a2,λ z=>I.stands (sub b m) (s.free z)⟩
   ·exact h.elim
  ·exact h.elim
 ·exact h.elim
end
def Aa {α:Type}(d:α){c:Nat->Nat->Bool}{vs:List α}(o:SR.Ord vs.length c):∃ q:List Nat,q.Perm (List.range vs.length)/\SR.ordered d c vs=q.map (λ i=>vs.getD i d)/\q.Pairwise λ i j=>c i j=true:=by
 unfold SR.ordered;split
 ·rename_i h;refine⟨List.range vs.length,QO _,?_,?_⟩
  ·refine RA #[25] λ i h1 h2=>?_;simp;rw[Pr h1];rfl
  ·match hl:vs.length,h with
   |0,_=>exact List.Pairwise.nil|1,_=>exact List.pairwise_singleton _ _
 ·rename_i h;obtain⟨p1,p2⟩:=SR.Im o #[1];have hp':(SR.bu c (PySem.W.kas_sort vs.length)).toList.Perm (List.range vs.length):=by simpa using Q8.mp p1
  refine⟨_,hp',rfl,?_⟩;have hs:=SR.Pm.size p1;rw[Rg];intro i j hi hj hij;rw[PZ]at hi hj;have:=p2 i j hij #[1];have g:∀ k (hk:k<(SR.bu c (PySem.W.kas_sort vs.length)).size),SR.eZ (SR.bu c (PySem.W.kas_sort vs.length)) k=(SR.bu c (PySem.W.kas_sort vs.length)).toList[k]'(by rw[PZ];exact hk):=λ k hk=>by
   show(SR.bu c (PySem.W.kas_sort vs.length)).getD k 0=_;rw[Qv,PX hk];rfl
  rw[g i hi,g j hj]at this;exact this
end DL
namespace DI
open PySem
section
variable {prog:#[84]}{w:World}{K:Type}[DecidableEq K]{knd:KeyKind prog w K}{A:Around}{E:#[4]}{s:Shared}
def E9 {d:Addr}{kvs:List (K×Value)}{k:K}{key x:Value}{Q:#[4]}(hkey:knd.is k key=true)(hm:s.heap.DictOf knd d kvs)(hnot:k∉kvs.map (·.1))(hsz:kvs.length<=sizeLine)
  (h:∀ h',h'.DictOf knd d (kvs++[(k,x)])->Heap.SameBut d s.heap h'->Q x { s with heap:=h',toks:=s.toks+1 }):wpAny #[12] A (dictSetDefault d key x) Q E s:=by
 obtain⟨ob,es,e,g1,g2,g3,g4,g5,g6⟩:=hm;have hz:es.size<=sizeLine:=by
  have:=g5.length;rw[PZ]at this;omega
 have fn:kvs.findIdx? (λ kv=>decide (kv.1=k))=none:=by
  rw[Ub];intro kv m;exact PQ λ z=>hnot (PF.mpr ⟨kv,m,z⟩)
 have z:(es.findIdx? λ e=>knd.is k e.key)=none:=by
  rw[<-fn,<-g5.findIdx k];cases es;simp
 unfold dictSetDefault;refine QV (Ph (knd.pyHash hkey (Ph (wpAny_dictFind_of (s:={ s with toks:=s.toks+1 }) hkey g1 g3 g4 ?_))));rw[z];refine Ph (RP (Ph (wpAny_updateDictKeys (hz:=hz) (s:={ s with toks:=s.toks+1 }) g1 g3 (Po (h _ ⟨_,_,e+1,Qu _ g1 (Obj.isFreed_of_dict (Obj.data_mapDictKeys g3 _)),g2.mapDictKeys _,Obj.data_mapDictKeys g3 _,g4.push hkey _,?_,?_⟩ (Q9 ..))))))
 ·have q:=g5.append hkey (knd.hash k) x;cases es;simpa using q
 ·rw[PR];exact PJ.mpr ⟨g6,by simp,λ a ha b hb z=>by
   have:b=k:=by simpa using hb
   exact hnot (this▸z▸ha)⟩
end
end DI
namespace L2
open PySem PySem.Spec PyProof.Rows
section
variable {X:Cx}
def Fb:V->List V->Hp->VK->Prop:=λ x vs H Q=>∃ (a:Addr) (kvs:#[102]) (ep:Nat) (k:Key) (z:V),x=.ref a/\vs=[kV k,z]/\H a=some (.dK kvs ep)/\kvs.length<sizeLine/\(∀ v,jB kvs k=some v->Q v H)/\(jB kvs k=none->∀ en,Q z (upd H a (.dK (kvs++[(k,z)]) en)))
def rK {κ:Type}[DecidableEq κ]{k:κ}:∀ {vs:List (κ×Value)},valueAt vs k=none->k∉vs.map (·.1)
 |[],_=>by simp
 | p::r,h=>by
  unfold valueAt at h;intro m;rcases PB.mp m with e|e
  ·simp[e]at h
  ·by_cases q:p.1=k
   ·simp[q]at h
   ·refine rK (vs:=r) ?_ e;simpa[valueAt,Rc,q] using h
def Ab {P:#[84]}{w:World}{d:Addr}{k:Key}{key x:Value}{vs:List (Key×Value)}(hkey:(cE P w).is k key=true)(hd:(d == sysModules)=false)(hnot:k∉vs.map (·.1))(hsz:vs.length<=sizeLine) :
  MeetsIn P w (Builtin.«dict.setdefault» ⟨[.ref d,key,x],[]⟩) (λ _ R s=>s.heap.DictOf (cE P w) d vs/\∀ h',h'.DictOf (cE P w) d (vs++[(k,x)])->Heap.SameBut d s.heap h'->R (.ok (.ret x)) { s with heap:=h',toks:=s.toks+1 }):=
 .of_wp λ A R s ⟨hm,h⟩=>by
  unfold Builtin.«dict.setdefault» Builtin.Dict.keyAndDefault;refine Ph (Ph (wpAny_notOrdered_dict hm.typeIs ?_));show wpAny _ _ (pure (d,key,some x)) _ _ s;refine Po ?_;show wpAny _ _ (if (d == sysModules)=true then _ else (dictSetDefault d key x >>= _)) _ _ s;rw[PL (by rw[hd];exact Pq)];exact Ph (DI.E9 hkey hm hnot hsz λ h' q1 q2=>Po ⟨x,rfl,h h' q1 q2⟩)
def BC:L8 X "dict.setdefault" Fb:=by
 intro pins s σ H x vs v us Q I rx rv h;obtain⟨a,kvs,ep,k,z,rfl,rfl,hH,hl,h1,h2⟩:=h;cases rx;obtain⟨u1,u2,rfl,r1,r2⟩:=rv.two;obtain⟨zl,hd,ws,rel,dd⟩:=JC I.hok (show HK H a kvs from ⟨ep,hH⟩);have hw:ws.length<=sizeLine:=by rw[<-rel.length];exact zl
 have hv:=rel.val k;cases e:jB kvs k with
 | some y =>
  rw[e]at hv;obtain⟨w',q,rw'⟩:=qm.some_of (v:=y) (o:=valueAt ws k) hv;refine call_meetsIn Ru dd.typeIs Th (S5 _ _ _) (meets_dict_setdefault (cE X.prog X.w) a (xx r1) hd u2) ⟨_,dd.mapOf,?_,λ v' hv'=>?_,λ hn=>?_⟩
  ·intro o es q ho hdat;obtain⟨o',es',q',ho',_,hd',_,hp,_⟩:=dd;rw[ho']at ho;cases ho;rw[hd']at hdat;cases hdat;have:=hp.length;rw[PZ]at this;omega
  ·rw[q]at hv';cases hv';exact⟨y,H,I.tok _,rw',h1 y e⟩
  ·rw[q]at hn;cases hn
 | none =>
  rw[e]at hv;have hn:valueAt ws k=none:=by
   cases q:valueAt ws k with
   |none=>rfl|some _=>rw[q]at hv;exact hv.elim
  refine call_meetsIn Ru dd.typeIs Th (S5 _ _ _) (Ab (xx r1) hd (rK hn) hw) ⟨dd,λ h' d1 d2=>?_⟩;obtain⟨ep',d1'⟩:=d1.dictAt;have he:∃ q,h'.get? a=some q:=let ⟨q,_,hq,_⟩:=d1';⟨q,hq⟩
  refine⟨z,_,vA (t':=s.toks+1) I (by rw[hH];exact True.intro) d2 he (Ej (kvs:=kvs++[(k,z)]) (by rw[Pz];show _+1<=_;omega) hd (rel.snoc ⟨rfl,r2⟩) d1'),r2,h2 e ep'⟩
end
end L2
namespace DL
open PySem PySem.Spec PyProof.Rows L2
variable {a b:Addr}{kvs:#[102]}{ep:Nat}
def jN:List KT->List D->KT->D->List D
 |k::ks,d::ds,q,x=>if k=q then x::ds else d::jN ks ds q x
 |_,ds,_,_=>ds
def Ac {A g g' C:#[8]}(h:(A++g++C).Nodup)(n:g'.Nodup)(s:∀ x∈g',x∈g):(A++g'++C).Nodup:=by
 rw[Qn,PJ]at h ⊢;obtain⟨h1,h2,h3⟩:=h;rw[PJ]at h2;obtain⟨h4,h5,h6⟩:=h2;refine⟨h1,PJ.mpr ⟨n,h5,λ a ha b hb=>h6 a (s a ha) b hb⟩,λ a ha b hb=>h3 a ha b ?_⟩;rcases PC.mp hb with z|z
 ·exact PD _ (s b z)
 ·exact PM _ z
section
variable {K:#[0]}{Y:XY}{H0 B0 B H:Hp}{σ:L2.St}{τ:SD}{P:#[8]}{F:#[17]}{X:Cx}{pos:Pos}
def ak.conv {B' H':Hp}{M:#[8]}(kp:∀ d v h,Rep K B No H d v h->(∀ a∈h,a∈M)->Rep K B' No H' d v h):∀ {ds:List D}{vs:List V}{f:#[8]},ak K B No H ds vs f->(∀ a∈f,a∈M)->ak K B' No H' ds vs f
 |[],_,_,r,_=>r
 | d::ds,vs,f,r,m=>by
  obtain⟨v,w,f1,f2,rfl,r1,r2,rfl⟩:=r;exact⟨v,w,f1,f2,rfl,kp _ _ _ r1 λ a z=>m a (PD _ z),ak.conv kp r2 λ a z=>m a (PM _ z),rfl⟩
def ak.Ip:∀ {kvs:#[102]}{xs:List D}{f:#[8]}{k:Key}{din:D},ak K B No H xs (kvs.map (·.2)) f->eV #[52] xs (.inl k)=some din ->
  ∃ w A g C,jB kvs k=some w/\f=A++g++C/\Rep K B No H din w g/\∀ {B' H':Hp}{d':D}{g':#[8]},(∀ d v h,Rep K B No H d v h->(∀ a∈h,a∈A++C)->Rep K B' No H' d v h)->Rep K B' No H' d' w g'->ak K B' No H' (jN #[52] xs (.inl k) d') (kvs.map (·.2)) (A++g'++C)
 |[],xs,f,k,din,r,e=>by cases xs<;>cases e
 |p::kvs,[],f,k,din,r,e=>by cases e
 | p::kvs,d::ds,f,k,din,r,e=>by
  obtain⟨v,w,f1,f2,ev,r1,r2,rfl⟩:=r;rw[PV]at ev;cases ev;rw[PV,eV]at e;by_cases h:p.1=k
  ·rw[PH (Q3 Sum.inl h)]at e;cases e;refine⟨p.2,[],f1,f2,k9 h,rfl,r1,λ {B' H' d' g'} kp r'=>?_⟩;rw[PV,PV,jN,PH (Q3 Sum.inl h)];exact⟨p.2,_,g',f2,rfl,r',ak.conv kp r2 (λ a m=>m),rfl⟩
  ·rw[PL λ z=>h (RX z)]at e;obtain⟨w,A,g,C,h1,h2,h3,h4⟩:=ak.Ip r2 e;subst h2;refine⟨w,f1++A,g,C,by rw[jC h];exact h1,by simp,h3,λ {B' H' d' g'} kp r'=>?_⟩;rw[PV,PV,jN,PL λ z=>h (RX z)];exact⟨p.2,_,f1,A++g'++C,rfl,kp _ _ _ r1 (λ a m=>PD _ (PD _ m)),h4 (λ d v u r m=>kp d v u r λ a z=>by
    rcases PC.mp (m a z) with q|q
    ·exact PD _ (PM _ q)
    ·exact PM _ q) r',by simp⟩
def pH (i:Nat)(f1 fk fv:#[28])(τ:SD):Fl:=(fv τ).jo τ λ d=>match dB τ i with
 | some (t,false,ks,xs)=>(f1 τ).jo τ λ d1=>match fK d1 with
  | some (.inl q1)=>match eV ks xs (.inl q1) with
   | some (.dct .own false ks2 ys)=>(fk τ).jo τ λ dk=>match fK dk with
    |some (.inl q)=>if d.pure=true/\ks2.length<16777216 then .nx (τ.set i (some (.dct t false ks (jN ks xs (.inl q1) (.dct .own false (kE ks2 (.inl q)) (kD ks2 ys (.inl q) d)))))) else .bad
    |_=>.bad
   |_=>.bad
  |_=>.bad
 |_=>.bad
def rL{o:HO}(n:a≠b)(h:H a=some (.dK kvs ep)):DictAt (upd H b o) a false #[52] (kvs.map (·.2)):=.inl ⟨rfl,kvs,ep,by rw[aH n];exact h,rfl,rfl⟩
def SI.Nd {i:Nat}{t:Tg}(ht:t.lu=true){ks2:List KT}{xs ys:List D}{q1 q:Key}{d:D}{v:V}(I:#[110])(hi:τ[i]?=some (some (.dct t false #[52] xs)))(ev:σ[i]?=some (some (.ref a)))(ha:H a=some (.dK kvs ep))
  (hlk:eV #[52] xs (.inl q1)=some (.dct .own false ks2 ys)) (hb:jB kvs q1=some (.ref b)) (hp:d.pure=true) (rd:Rep K B No H d v []) :
  ∃ kvs2 ep2,H b=some (.dK kvs2 ep2)/\ks2=kvs2.map (λ p=>Sum.inl p.1)/\∀ en,∃ P',jU K H0 B0 B H B (upd H b (.dK (putK kvs2 q v) en)) σ (τ.set i (some (.dct t false #[52] (jN #[52] xs (.inl q1) (.dct .own false (kE ks2 (.inl q)) (kD ks2 ys (.inl q) d)))))) P':=by
 have hi':i<τ.length:=(Pw.mp hi).1;obtain⟨A0,f0,C0,eP,g1,g2⟩:=I.rep.cut hi';obtain⟨v',e1,r1⟩:=g1 _ hi;rw[ev]at e1;cases e1;obtain⟨a',ws,g,ea,hq,rl,ef,back'⟩:=r1.cj ht;cases ea;rcases hq with ⟨_,kvs',ep',ha',hks',hws'⟩|⟨q0,_⟩
 rotate_left
 ·cases q0
 rw[ha]at ha';cases ha';subst hws';obtain⟨w,A,gi,C,hv1,hf,rin,back⟩:=ak.Ip rl hlk;rw[hb]at hv1;cases hv1;obtain⟨b',us,gg,eb,dqb,rlb,rfl⟩:=rin;cases eb;rcases dqb with ⟨_,kvs2,ep2,hb2,hks2,hus⟩|⟨q0,_⟩
 rotate_left
 ·cases q0
 subst hf ef hus hks2;refine⟨kvs2,ep2,hb2,rfl,λ en=>?_⟩;have nd0:=I.nd;rw[eP]at nd0;have ndf:(a::(A++b::gg++C)).Nodup:=(nd0.sublist (Qj _ _)).sublist (P6 _ _);have hab:a≠b:=λ z=>by
  subst z;exact(PN.mp ndf).1 #[25]
 have hbf:b∈a::(A++b::gg++C):=by simp
 obtain⟨p1,f',p2,p3,p4⟩:=zE Sum.inl (λ a b h=>RX h) (k:=q) (kvs:=kvs2) rlb rd λ _=>hp;have ndg:(b::gg).Nodup:=(((PN.mp ndf).2.sublist (Qj _ _)).sublist (P6 _ _));have sg:∀ x∈f',x∈gg:=λ x m=>(p3 x m).resolve_right #[25];have nf':(b::f').Nodup:=PN.mpr ⟨λ m=>(PN.mp ndg).1 (sg b m),p4 (PN.mp ndg).2 Qz (λ _ m=>by cases m)⟩;have kp:jF H (upd H b (.dK (putK kvs2 q v) en)) [b]:=⟨λ x o h n=>by rw[aH (by simpa using n)];exact h,λ x m=>by
  have:x=b:=by simpa using m
  subst this;exact⟨_,hb2,trivial⟩⟩
 have es:σ.set i (some (.ref a))=σ:=by
  refine QQ λ k=>?_;by_cases hk:k=i
  ·subst hk;rw[QA (Pw.mp ev).1,ev]
  ·rw[QH (QK hk)]
 have kpf:jF H (upd H b (.dK (putK kvs2 q v) en)) (a::(A++b::gg++C)):=⟨λ x o h n=>kp.keep x o h (λ z=>n (by
  have:x=b:=by simpa using z
  subst this;exact hbf)),λ x m=>I.rep.own x (by rw[eP];exact c6 _ _ _ x m)⟩
 have nbM:∀ x∈A++C,x≠b:=λ x m z=>by
  subst z;have n:=(PN.mp ndf).2;rw[Qn,PJ]at n;obtain⟨_,n2,n3⟩:=n;rcases PC.mp m with y|y
  ·exact n3 x y x #[25] rfl
  ·rw[PJ]at n2;exact n2.2.2 x Pp x y rfl
 have rin':Rep K B No (upd H b (.dK (putK kvs2 q v) en)) (.dct .own false (kE (kvs2.map λ p=>Sum.inl p.1) (.inl q)) (kD (kvs2.map λ p=>Sum.inl p.1) ys (.inl q) d)) (.ref b) (b::f'):=
  ⟨b,_,f',rfl,.inl ⟨rfl,_,en,aN,p1,rfl⟩,p2.keep kp (λ x m z=>(PN.mp nf').1 ((by simpa using z:x=b)▸m)),rfl⟩
 have rn:=back' (rL hab ha) (back (λ d v h r m=>r.keep kp λ x z y=>nbM x (m x z) (by simpa using y)) rin');have key:=I.put (i:=i) (H1:=upd H b (.dK (putK kvs2 q v) en)) hi' eP g2 kpf rn ?_ λ x m=>.inl ?_
 ·rw[es]at key;exact⟨_,key,au.refl _,λ x o h n=>kp.xE h n⟩
 ·exact Ac (A:=a::A) ndf nf' λ x m=>(PB.mp m).elim (λ z=>z▸Pp) λ z=>Pn _ (sg x z)
 ·have:x∈a::A++b::f'++C:=m;simp only[List.cons_append,PB,PC]at this ⊢;rcases this with z|(z|z|z)|z
  ·exact .inl z
  ·exact .inr (.inl (.inl z))
  ·exact .inr (.inl (.inr (.inl z)))
  ·exact .inr (.inl (.inr (.inr (sg x z))))
  ·exact .inr (.inr z)
def BD (i:Nat){x:Str}{p1 p2 pos':Pos}{k1e ke value:Expr}{f1 fk fv:#[28]}(hu:X.A.units+1<cLine)(h1e:PE X k1e (tM X.K Y f1))(hk:PE X ke (tM X.K Y fk))(hv:PE X value (tM X.K Y fv))(hs1:Hv k1e)(hN:#[69]:=by rfl)(hvi:#[98]:=by first|exact Or.inl rfl|exact Or.inr (Or.inl rfl)|exact Or.inr (Or.inr rfl))(hd:#[2]:=by decide)(hcd:#[29]:=by decide)
  (hs:swapsWith value (some (.Subscript (.Subscript #[59] k1e p2) ke pos')) pos.line X.env=pure false:=by rfl):PS X (.Assign [.Subscript (.Subscript #[59] k1e p2) ke pos'] value pos) (iZ X.K Y (pH i f1 fk fv)):=by
 refine PS.imp (A1 hu (A2 hu (dH hN hvi hd hcd) h1e hs1) hk hv hs) λ E σ H hq=>ex7 hq λ H0 B0 B τ P I h=>?_;refine lB I h λ d v H1 B1 fp _ I1 s1 b1 r1 k1 h1=>?_;cases z:dB τ i with
 |none=>rw[z]at h1;exact h1.elim
 | some t =>
  obtain⟨t,k,ks,xs⟩:=t;rw[z]at h1;cases k with
  |true=>exact h1.elim
  | false =>
   simp only at h1;obtain⟨hi,ht⟩:=m9 z;obtain⟨w,f,e1,r2,sf⟩:=I1.rep.get hi;obtain⟨a,ws,g,rfl,dq,rl,ef,_⟩:=r2.cj ht;rcases dq with ⟨_,kvs,ep,ha,hks,hws⟩|⟨q0,_⟩
   rotate_left
   ·cases q0
   subst hks hws;refine⟨.ref a,e1,?_⟩;refine⟨H0,B0,B1,τ,P,_,I1.hold k1,?_⟩;cases y:f1 τ with
   |eB C=>rw[y]at h1;exact λ H2 B2 I2 s2 b2=>h1 B2 H2 σ P (jU.grow (I2.tE λ _ x=>x.elim) b2 s2)
   |bad=>rw[y]at h1;exact h1
   | ok d1 =>
    rw[y]at h1;intro vk1 H2 B2 fq I2 s2 b2 rk1 kk1;simp only[Res.jo]at h1;cases hk1:fK d1 with
    |none=>rw[hk1]at h1;exact h1.elim
    | some q1 =>
     rw[hk1]at h1;cases q1 with
     |inr q1=>exact h1.elim
     | inl q1 =>
      simp only at h1;have ev:=rG hk1 rk1;subst ev;have rl2:=rl.mono s2 b2 λ _ x=>x;have ha2:=s2 _ _ ha;cases hlk:eV #[52] xs (.inl q1) with
      |none=>rw[hlk]at h1;exact h1.elim
      | some din =>
       rw[hlk]at h1;split at h1
       ·rename_i ks2 ys heq;cases heq;obtain⟨w,A,gi,C,hv1,hf,⟨b,us,gg,rfl,_,_,_⟩,_⟩:=ak.Ip rl2 hlk;refine⟨a,.ref b,rfl,hv1▸nI.k ⟨ep,ha2⟩,?_⟩;refine⟨H0,B0,B2,τ,P,_,I2,?_⟩;cases y2:fk τ with
        |eB C=>rw[y2]at h1;exact λ H3 B3 I3 s3 b3=>h1 B3 H3 σ P (jU.grow (I3.tE λ _ x=>x.elim) (b2.trans b3) (s2.trans s3))
        |bad=>rw[y2]at h1;exact h1
        | ok dk =>
         rw[y2]at h1;intro vk H3 B3 fr I3 s3 b3 rk kk;have I5:SI X.K H0 B0 B3 H3 σ τ P No:=I3.tE λ _ x=>x.elim;have h2:=cy.later h1 (jU.grow I5 (b2.trans b3) (s2.trans s3));simp only at h2;split at h2
         ·rename_i q hkk;split at h2
          ·rename_i hc;obtain⟨c1,c2⟩:=hc;have ef:=nK.1 d c1 r1;subst ef;have rd:=(r1.gu (aV d c1)).mono (s2.trans s3) (b2.trans b3) λ _ x=>x;have ev:=rG hkk rk;subst ev;obtain⟨kvs2,ep2,hb2,hks2,A'⟩:=I5.Nd ht (q:=q) hi e1 (s3 _ _ ha2) hlk hv1 c1 rd;refine⟨b,rfl,.inl ⟨kvs2,q,⟨ep2,hb2⟩,rfl,?_,λ en=>?_⟩⟩
           ·rw[hks2,Pk]at c2;rw[Qx];exact c2
           ·obtain⟨P',A''⟩:=A' en;exact h2 B3 _ σ P' A''
          ·exact h2.elim
         ·exact h2.elim
       ·exact h1.elim
end
section
variable {K:#[0]}{Y:XY}{H0 B0 B H:Hp}{σ:L2.St}{τ:SD}{P:#[8]}{F:#[17]}{X:Cx}{pos:Pos}
def kg (i:Nat)(fk:#[28])(j:Nat)(τ:SD):Fl:=match dB τ i,τ[j]? with
 | some (t,false,ks,xs),some (some d)=>(fk τ).jo τ λ dk=>match fK dk with
  | some (.inl q)=>match eV ks xs (.inl q) with
   |some (.lst .own ys)=>if d.pure=true/\ks.length<16777216/\ys.length<16777216 then .nx (τ.set i (some (.dct t false ks (jN ks xs (.inl q) (.lst .own (ys++[d])))))) else .bad
   |none=>if d.pure=true/\ks.length<16777216 then .nx (τ.set i (some (.dct t false (ks++[.inl q]) (xs++[.lst .own [d]])))) else .bad
   |_=>.bad
  |_=>.bad
 |_,_=>.bad
def SI.Nf {i:Nat}{t:Tg}(ht:t.lu=true){xs ys ys':List D}{q1:Key}{us us':List V}(I:#[110])(hi:τ[i]?=some (some (.dct t false #[52] xs)))(ev:σ[i]?=some (some (.ref a)))(ha:H a=some (.dK kvs ep))
  (hlk:eV #[52] xs (.inl q1)=some (.lst .own ys)) (hb:jB kvs q1=some (.ref b)) (hbl:H b=some (.lst us)) (items:∀ f,ak K B No H ys us f->ak K B No H ys' us' f) :
  ∃ P',jU K H0 B0 B H B (upd H b (.lst us')) σ (τ.set i (some (.dct t false #[52] (jN #[52] xs (.inl q1) (.lst .own ys'))))) P':=by
 have hi':i<τ.length:=(Pw.mp hi).1;obtain⟨A0,f0,C0,eP,g1,g2⟩:=I.rep.cut hi';obtain⟨v',e1,r1⟩:=g1 _ hi;rw[ev]at e1;cases e1;obtain⟨a',ws,g,ea,hq,rl,ef,back'⟩:=r1.cj ht;cases ea;rcases hq with ⟨_,kvs',ep',ha',hks',hws'⟩|⟨q0,_⟩
 rotate_left
 ·cases q0
 rw[ha]at ha';cases ha';subst hws';obtain⟨w,A,gi,C,hv1,hf,rin,back⟩:=ak.Ip rl hlk;rw[hb]at hv1;cases hv1;obtain⟨b',us0,gg,eb,hbl',rlb,rfl⟩:=rin;cases eb;rw[hbl]at hbl';cases hbl';subst hf ef;have nd0:=I.nd;rw[eP]at nd0;have ndf:(a::(A++b::gg++C)).Nodup:=(nd0.sublist (Qj _ _)).sublist (P6 _ _);have hab:a≠b:=λ z=>by
  subst z;exact(PN.mp ndf).1 #[25]
 have hbf:b∈a::(A++b::gg++C):=by simp
 have ndg:(b::gg).Nodup:=(((PN.mp ndf).2.sublist (Qj _ _)).sublist (P6 _ _));have kp:jF H (upd H b (.lst us')) [b]:=⟨λ x o h n=>by rw[aH (by simpa using n)];exact h,λ x m=>by
  have:x=b:=by simpa using m
  subst this;exact⟨_,hbl,trivial⟩⟩
 have es:σ.set i (some (.ref a))=σ:=by
  refine QQ λ k=>?_;by_cases hk:k=i
  ·subst hk;rw[QA (Pw.mp ev).1,ev]
  ·rw[QH (QK hk)]
 have kpf:jF H (upd H b (.lst us')) (a::(A++b::gg++C)):=⟨λ x o h n=>kp.keep x o h (λ z=>n (by
  have:x=b:=by simpa using z
  subst this;exact hbf)),λ x m=>I.rep.own x (by rw[eP];exact c6 _ _ _ x m)⟩
 have nbM:∀ x∈A++C,x≠b:=λ x m z=>by
  subst z;have n:=(PN.mp ndf).2;rw[Qn,PJ]at n;obtain⟨_,n2,n3⟩:=n;rcases PC.mp m with y|y
  ·exact n3 x y x #[25] rfl
  ·rw[PJ]at n2;exact n2.2.2 x Pp x y rfl
 have rin':Rep K B No (upd H b (.lst us')) (.lst .own ys') (.ref b) (b::gg):=⟨b,us',gg,rfl,aN,(items gg rlb).keep kp (λ x m z=>(PN.mp ndg).1 ((by simpa using z:x=b)▸m)),rfl⟩;have rn:=back' (rL hab ha) (back (λ d v h r m=>r.keep kp λ x z y=>nbM x (m x z) (by simpa using y)) rin');have key:=I.put (i:=i) (H1:=upd H b (.lst us')) hi' eP g2 kpf rn ndf λ x m=>.inl m;rw[es]at key;exact⟨_,key,au.refl _,λ x o h n=>kp.xE h n⟩
def C6 {p:Addr}{o1 o2 x:HO}(n:a≠p):upd (upd (upd H p o1) a x) p o2=upd (upd H p o2) a x:=by
 funext b;by_cases h1:b=p
 ·subst h1;rw[aN,aH (QK n),aN]
 ·rw[aH h1];by_cases h2:b=a
  ·subst h2;rw[aN,aN]
  ·rw[aH h2,aH h1,aH h2,aH h1]
def Fc (i j:Nat){x y:Str}{p1 p2 p3 a1 c1 a2 c2:Pos}{ke:Expr}{fk:#[28]}(hk:PE X ke (tM X.K Y fk))(hN:#[69]:=by rfl)(hM:X.N[j]?=some y:=by rfl)(hv:#[98]:=by first|exact Or.inl rfl|exact Or.inr (Or.inl rfl)|exact Or.inr (Or.inr rfl))(hw:sX X.env.scope y:=by first|exact Or.inl rfl|exact Or.inr (Or.inl rfl)|exact Or.inr (Or.inr rfl))
  (hd:#[2]:=by decide) (hcd:#[29]:=by decide) (hd':#[113]:=by decide) (hcd':(y == ("__classdict__" : Str))=false:=by decide)
  (hin:PE X (.Call (.Attribute #[59] "setdefault" a1) [ke,.List [] p3] [] c1) (NC X.K "dict" Fb (Hf i) (qK (tM X.K Y fk) (qK (Ke ze) ze))))
  (hout:PE X #[128] (NC X.K "list" AZ (NC X.K "dict" Fb (Hf i) (qK (tM X.K Y fk) (qK (Ke ze) ze))) (qK (Hf j) ze)))
  (hsw:swapsWith #[128] none pos.line X.env=pure false:=by rfl) :
  PS X (.Expr #[128] pos) (iZ X.K Y (kg i fk j)):=by
 refine PS.imp (j0 hout hsw) λ E σ H hq=>ex7 hq λ H0 B0 B τ P I h=>?_;unfold kg at h;split at h
 ·rename_i t ks xs d z zj;obtain⟨hi,ht⟩:=m9 z;obtain⟨w0,f0,e0,r0,_⟩:=I.rep.get hi;obtain⟨a,ws0,g0,rfl,dq0,_,_,_⟩:=r0.cj ht;have tyd:ND X.K "dict" (.ref a) H:=by
   rcases dq0 with ⟨_,kvs,ep,ha,_⟩|⟨q0,_⟩
   ·exact .inr (.inr (.inl ⟨rfl,.inl ⟨kvs,ep,ha⟩⟩))
   ·cases q0
  refine⟨.ref a,e0,tyd,lB I h λ dk vk H1 B1 fp _ I1 s1 b1 rk k1 h1=>⟨by show 0<=_;exact QY _,λ p hp=>?_⟩⟩;obtain⟨w,f,e1,r1,sf⟩:=I1.rep.get hi;rw[e0]at e1;cases e1;obtain⟨a',ws,g,ea,dq,rl,ef,_⟩:=r1.cj ht;cases ea;rcases dq with ⟨_,kvs,ep,ha,hks,hws⟩|⟨q0,_⟩
  rotate_left
  ·cases q0
  subst hks hws;obtain⟨wj,fj,ej,rj,sj⟩:=I1.rep.get zj;have ne:a≠p:=λ z=>by rw[<-z,ha]at hp;cases hp
  have sP:=du (o:=.lst []) hp;split at h1
  ·rename_i q hq;have ev:=rG hq rk;subst ev;have look:=l4 Sum.inl (λ a b h=>RX h) (k:=q) rl;split at h1
   ·rename_i ys hl;rw[hl]at look;obtain⟨v,g',hv1,rv,_⟩:=look;obtain⟨b,us,gg,rfl,hbl,rlb,rfl⟩:=rv;split at h1
    ·rename_i hc;have efj:=nK.1 d hc.1 rj;subst efj;refine⟨a,kvs,ep,q,.ref p,rfl,rfl,sP _ _ ha,by rw[Qx];simpa using hc.2.1,λ v2 hv2=>?_,(λ hn=>by rw[hv1]at hn;cases hn)⟩;rw[hv1]at hv2;cases hv2;have hb2:=sP _ _ hbl;refine⟨.inl ⟨rfl,us,eQ.of hb2⟩,wj,ej,b,us,wj,rfl,rfl,hb2,by rw[<-rlb.length,Qx];exact hc.2.2,?_⟩;obtain⟨P',A'⟩:=(I1.grow sP).Nf ht (ys':=ys++[d]) (us':=us++[wj]) hi e0 (sP _ _ ha) hl hv1 hb2 λ f r=>by
      have:=r.append (ak.one (rj.mono sP #[49] λ _ x=>x));rw[Qi]at this;exact this
     exact h1 B1 _ σ P' ⟨A'.si,A'.b,(mK.of sP).trans A'.xE⟩
    ·exact h1.elim
   ·rename_i hl;rw[hl]at look;split at h1
    ·rename_i hc;have efj:=nK.1 d hc.1 rj;subst efj;refine⟨a,kvs,ep,q,.ref p,rfl,rfl,sP _ _ ha,by rw[Qx];simpa using hc.2,(λ v2 hv2=>by rw[look]at hv2;cases hv2),λ _ en=>?_⟩;have hp3:upd (upd H1 p (.lst [])) a (.dK (kvs++[(q,.ref p)]) en) p=some (.lst []):=by rw[aH (QK ne),aN]
     refine⟨.inl ⟨rfl,[],eQ.of hp3⟩,wj,ej,p,[],wj,rfl,rfl,hp3,by rw[Qx];decide,?_⟩;show E.nx σ (upd (upd (upd H1 p (.lst [])) a (.dK (kvs++[(q,.ref p)]) en)) p (.lst [wj]));rw[C6 ne];have sQ:=du (o:=.lst [wj]) hp;obtain⟨n1,n2,n3,n4⟩:=I1.A4 hp;have kv:gm H0 B1 (upd H1 p (.lst [wj])) P No [p]:=⟨by simp,λ b m=>by
      have:b=p:=by simpa using m
      subst this;exact⟨n1,n2,by rw[aN];exact QW _,n3,λ z=>z.elim⟩⟩
     obtain⟨P',A'⟩:=(I1.grow sQ).K5 ht (o':=.dK (kvs++[(q,.ref p)]) en) (ks':=#[52]++[.inl q]) (xs':=xs++[.lst .own [d]]) hi e0 kv ⟨_,sQ _ _ ha,trivial⟩ λ vs f hda hr=>by
      rcases hda with ⟨_,kvs',ep',q1,q2,q3⟩|⟨q0,_⟩
      ·rw[sQ _ _ ha]at q1;cases q1;subst q3;refine⟨_,f++[p],.inl ⟨rfl,_,en,aN,by rw[PR];rfl,rfl⟩,?_,λ b m=>PC.mp m,λ nf dis=>PJ.mpr ⟨nf,by simp,λ a ha b hb e=>dis b hb (e▸ha)⟩⟩;rw[PR];exact hr.append (ak.one ⟨p,[wj],[],rfl,aN,ak.one (rj.mono sQ #[49] λ _ x=>x),rfl⟩)
      ·cases q0
     exact h1 B1 _ σ P' ⟨A'.si,A'.b,(mK.of sQ).trans A'.xE⟩
    ·exact h1.elim
   ·exact h1.elim
  ·exact h1.elim
 ·exact h.elim
end
end DL
namespace L2
open PySem PySem.Spec PyProof.Rows
section
variable {X:Cx}{p pos apos cpos:Pos}{o:Expr}{to:TE}
def BE:∀ {kvs:#[102]}{ws:List (Key×Value)}{us:#[22]},KV kvs ws->us.length=ws.length->(∀ (i:Nat) (v:Value),us[i]?=some v->∃ k,ws[i]?=some (k,v))->Vals (kvs.map (·.2)) us
 | [],ws,us,r,hl,_=>by
  have:=KV.length r;have e:us=[]:=Rq.mp (by rw[hl,<-this];rfl);subst e;exact .nil
 | kv::kvs,w::ws,u::us,r,hl,h=>by
  cases r with
  | cons h1 h2 =>
   obtain⟨k,e⟩:=h 0 u rfl;cases e;exact .cons h1.2 (BE h2 (by simpa using hl) λ i v e=>h (i+1) v e)
 |kv::kvs,[],us,r,_,_=>by cases r
 |kv::kvs,w::ws,[],_,hl,_=>by cases hl
def yf (hc:X.calm=true)(hg:Gl X "list")(hm:X.mg "list" = none)(ho:PE X o to)(hbase:attributeBase o "values" X.env (eval o X.env)=eval o X.env:=by rfl)(hline:#[47]:=by rfl)
  (hst:starEach [.Call (.Attribute o "values" apos) [] [] cpos] X.env=(false,eval (.Call (.Attribute o "values" apos) [] [] cpos) X.env)::starEach [] X.env:=by rfl) :
  PE X (.Call (.Name "list" p) [.Call (.Attribute o "values" apos) [] [] cpos] [] pos) (λ σ H Q=>to σ H λ x H1=>∃ a kvs ep,x=.ref a/\H1 a=some (.dK kvs ep)/\∀ q,H1 q=none->Q (.ref q) (upd H1 q (.lst (kvs.map (·.2))))):=by
 intro pins s σ H Q I h;refine QT (jk I hg hm (by decide +kernel:bootBuiltins "list" = some (.type "list")) ?_);refine QL (e:=.Call (.Attribute o "values" apos) [] [] cpos) (rest:=[]) ?_ hst rfl;rw[hst];show wpAny _ _ (spliced ((false,eval (.Call (.Attribute o "values" apos) [] [] cpos) X.env)::[])) _ _ s;refine Sv ?_;refine Sz hbase hline (eN (ho pins s σ H _ I h) λ v s1 ⟨x,H1,I1,r1,a,kvs,ep,e,ha,q⟩=>?_);subst e;cases r1;obtain⟨h1,h2⟩:=vt (T:="dict") I1 (show RelV (.ref a) (.ref a) from rfl) (.inr (.inr (.inl ⟨rfl,.inl ⟨kvs,ep,ha⟩⟩)));refine⟨"dict","dict.values",RV,PySem.F.slot_dict_values,PySem.F.type_dict_values,h1,h2,RZ rfl (Tv ?_)⟩;obtain⟨z,ns,ws,r,dd⟩:=(show ck X.prog X.w H1 s1.heap a (.dK kvs ep) from I1.hok a _ ha);refine call_meetsIn PySem.F.slot_dict_values h1 PySem.F.entry_dict_values (PySem.F.args_dict_values_1 _) (meets_dict_values (cE X.prog X.w) a ns) ⟨⟨ws,dd.dictOf⟩,?_⟩;refine SE ?_;have hl:=KV.length r;refine PySem.W.kdl_call (n:=ws.length) PySem.W.kdl_values (I1.ok.hd hc) ⟨⟨_,Pu _ rfl,rfl,rfl⟩,dd.push _⟩ (by rw[<-hl];exact z) λ h' tk acc c' kp hS hi=>?_;have ge:s1.heap.objs.size<=(s1.heap.push { cls:=.type "dict_values",data:=.fields #[.ref a] }).objs.size:=by
  show _<=(s1.heap.objs.push _).size;rw[Array.size_push];exact Rl _
 refine⟨.ref (s1.heap.push { cls:=.type "dict_values",data:=.fields #[.ref a] }).objs.size,_,I1.laid (t':=tk) (λ b o e=>kp b o (Pj _ e)) ge ?_,rfl,q _ (I1.hok.fresh ge)⟩;refine⟨by rw[Pk];exact z,acc.toList,c',?_,by rw[Td];exact hS⟩;obtain⟨i1,i2⟩:=hi;exact BE r (by rw[PZ];exact i1) λ i v e=>i2 i v (by rw[<-Qp];exact e)
end
end L2
namespace DL
open PySem PySem.Spec PyProof.Rows L2
def Lw {A:Around}{k:Nat}(hr:fG k A):A.units+2<cLine:=Nat.lt_of_le_of_lt (Nat.add_le_add_left (by decide:2<=64) _) hr.units
def rM (i:Nat)(τ:SD):Fl:=match τ[i]? with
 |some (some (.dct .own false _ xs))=>.rt (.lst .own xs)
 |_=>.bad
section
variable {K:#[0]}{Y:XY}{H0 B0 B H:Hp}{σ:L2.St}{τ:SD}{P:#[8]}{F:#[17]}{X:Cx}{pos:Pos}
def C7 (i:Nat){x:Str}{p pn pa pc pl:Pos}(hc:X.calm=true)(hg:Gl X "list")(hm:X.mg "list" = none)(hN:#[69]:=by rfl)(hv:#[98]:=by first|exact Or.inl rfl|exact Or.inr (Or.inl rfl)|exact Or.inr (Or.inr rfl))(hd:#[2]:=by decide)(hcd:#[29]:=by decide)(hl:Y.ln=false:=by rfl)
  (hbase:attributeBase (.Name x pn) "values" X.env (eval (.Name x pn) X.env)=eval (.Name x pn) X.env:=by rfl) (hline:(pa.endLine == pc.line)=true:=by rfl)
  (hst:starEach [.Call (.Attribute (.Name x pn) "values" pa) [] [] pc] X.env=(false,eval (.Call (.Attribute (.Name x pn) "values" pa) [] [] pc) X.env)::starEach [] X.env:=by rfl) :
  PS X (.Return (some (.Call (.Name "list" p) [.Call (.Attribute (.Name x pn) "values" pa) [] [] pc] [] pl)) pos) (iZ X.K Y (rM i)):=by
 refine PS.imp (oW (yf hc hg hm (dH hN hv hd hcd) hbase hline hst)) λ E σ H hq=>ex7 hq λ H0 B0 B τ P I h=>?_;unfold rM at h;split at h
 ·rename_i ks xs e;obtain⟨v,f,h1,h2,h3⟩:=I.rep.get e;obtain⟨a,vs,g,rfl,hq,rl,rfl⟩:=h2;rcases hq with ⟨_,kvs,ep,ha,hks,hws⟩|⟨q0,_⟩
  rotate_left
  ·cases q0
  subst hws;refine⟨.ref a,h1,a,kvs,ep,rfl,ha,λ p hp=>?_⟩;have s:=du (o:=.lst (kvs.map (·.2))) hp;have sub:∀ b∈g,b∈P:=λ b m=>h3.subset (Pn _ m);have hpn:p∉g:=λ m=>I.stands (sub p m) hp;refine(cy.rt hl h) B _ (.ref p) (p::g) ⟨I.h0.trans s,I.b0,I.bh.trans s,I.nb,⟨p,_,g,rfl,aN,rl.mono s #[49] (λ _ x=>x),rfl⟩,PN.mpr ⟨hpn,(PN.mp (I.nd.sublist h3)).2⟩,λ b m=>?_⟩;rcases PB.mp m with e|m
  ·subst e;exact⟨I.bh.free hp,I.h0.free hp,by rw[aN];exact QW _⟩
  ·obtain⟨a1,a2,_⟩:=I.own b (sub b m);exact⟨a1,a2,λ z=>I.stands (sub b m) (s.free z)⟩
 ·exact h.elim
end
end DL
namespace L2
open PySem PySem.Spec PyProof.Rows
open PySem.AutoSeq1 PySem.MeetsSeq PySem.MeetsSeq2 PySem.MeetsSeq3
section
variable {X:Cx}
end
end L2
namespace DL
open PySem PySem.Spec PyProof.Rows L2
section
variable {K:#[0]}{Y:XY}{H0 B0 B H:Hp}{σ:L2.St}{τ:SD}{P:#[8]}{F:#[17]}{X:Cx}{pos:Pos}{e:Expr}{fe:#[28]}
end
end DL
namespace L2
open PySem PySem.Spec PyProof.Rows
def OF (a:Addr)(kvs:#[102])(ep:Nat):It:=
 ⟨λ i H=>H a=some (.dK kvs ep)/\i<kvs.length,λ i H x H'=>H'=H/\∃ p,kvs[i]?=some p/\x=kV p.1,λ i H=>H a=some (.dK kvs ep)/\kvs.length<=i⟩
def Ng {P:#[84]}{w:World}{k:Key}{u:Value}(h:(cE P w).is k u=true):RelV (kV k) u:=by
 rcases cY (show qP k u=true from h) with ⟨i,t,rfl,rfl⟩|⟨x,t,rfl,rfl⟩
 ·exact⟨t,rfl⟩
 ·exact⟨t,rfl⟩
def Fe:∀ {kvs:#[102]}{vs:List (Key×Value)},KV kvs vs->∀ {i:Nat}{p:Key×V},kvs[i]?=some p->∃ v,vs[i]?=some (p.1,v)
 |_,_,.nil,i,p,h=>by simp at h
 |_,_,.cons (b:=q) r t,0,p,h=>by cases h;exact⟨q.2,by simp[r.1]⟩
 |_,_,.cons r t,i+1,p,h=>Fe t (i:=i) h
def C8 {P:#[84]}{w:World}{K:#[0]}{tg:Expr}(a it:Addr)(kvs:#[102])(ep:Nat):Turn P w K tg (OF a kvs ep) [it] it (λ i h=>h.IsKeyIter it a i kvs.length ep) where
 mem:=by simp
 obj:=λ i h st b hb=>by
  have e:b=it:=by simpa using hb
  subst e;obtain⟨o,e,c,d⟩:=st;exact⟨o,e,λ v z=>by rw[d]at z;cases z⟩
 keep:=λ i h h' st k=>by
  obtain⟨o,e,c,d⟩:=st;exact⟨o,k it #[25] o e,c,d⟩
 item:=by
  intro X hP hw hK hc i pins s σ H E I hf st hg;subst hP hw hK;obtain⟨ha,hi⟩:=hg;obtain⟨z,y,vs,r,dd⟩:=(show ck X.prog X.w H s.heap a (.dK kvs ep) from I.hok a _ ha);have hl:kvs.length=vs.length:=Ri r;obtain⟨v,hv⟩:=Fe r (Pr hi);obtain⟨f0,f1,f2,f3,f4,f5⟩:=hf it #[25];rw[hl]at st;refine wpAny_pyNext_dict_item st dd hv λ key h' hk st' sb=>?_;have I1:Inv X pins σ H { s with heap:=h' }:=I.turned (t':=s.toks) (λ b o hb e=>(sb.2 b hb).trans e) f0 f1 f3 f4 f5;obtain⟨o,e,c,d⟩:=id st';rw[<-hl]at st';exact⟨key,rfl,xo (s:={ s with heap:=h' }) e c d #[120] ⟨kV kvs[i].1,H,I1,Ng hk,⟨rfl,_,Pr hi,rfl⟩,st',λ b hb=>(hf b hb).1⟩⟩
 done:=by
  intro X hP hw hK hc i pins s σ H E I hf st hg;subst hP hw hK;obtain⟨ha,hi⟩:=hg;obtain⟨z,y,vs,r,dd⟩:=(show ck X.prog X.w H s.heap a (.dK kvs ep) from I.hok a _ ha);have hl:kvs.length=vs.length:=Ri r;obtain⟨f0,f1,f2,f3,f4,f5⟩:=hf it #[25];rw[hl]at st;exact wpAny_pyNext_dict_end (I.ok.hd hc) st dd (Qy #[1]) λ h' eb=>⟨rfl,I.turned (t':=s.toks) (λ b o hb e=>eb b o hb e) f0 f1 f3 f4 f5⟩
 self:=λ _ _ _ _ _ st h=>wpAny_pyIter_keyiter st h
section
variable {X:Cx}{tg:Expr}
def Iq {l:Expr}{tl:TE}(hl:PE X l tl):PI X tg l (λ σ H R=>tl σ H λ x H1=>∃ a kvs ep,x=.ref a/\H1 a=some (.dK kvs ep)/\R (OF a kvs ep) H1):=by
 intro pins s σ H R I h;refine eN (hl pins s σ H _ I h) λ v s1 ⟨x,H1,I1,r1,a,kvs,ep,e,ha,q⟩=>?_;subst e;cases r1;obtain⟨z,y,vs,r,dd⟩:=(show ck X.prog X.w H1 s1.heap a (.dK kvs ep) from I1.hok a _ ha);have hl:kvs.length=vs.length:=Ri r;refine wpAny_pyIter_dict y dd ?_;refine⟨s1.heap.objs.size,[s1.heap.objs.size],_,_,H1,rfl,I1.kept (t':=s1.toks) λ b o e=>Pj _ e,C8 a _ kvs ep,⟨_,Pu _ rfl,rfl,by rw[hl];rfl⟩,λ b hb=>?_,q⟩;have e:b=s1.heap.objs.size:=by simpa using hb
 subst e;exact I1.qL (Py _) (I1.hok.fresh (Py _))
end
end L2
namespace DL
open PySem PySem.Spec PyProof.Rows L2
def yg:KT->D
 |.inl (.inl i)=>.int i
 |.inl (.inr x)=>.str x
 |.inr _=>.a8
def Ad (ks:List KT):aT (ks.map yg)=true:=bK λ d m=>by
 obtain⟨k,_,rfl⟩:=PF.mp m
 match k with
 |.inl (.inl i)=>rfl|.inl (.inr x)=>rfl|.inr _=>rfl
def Ae:D->Res #[106]
 |.dct t false ks vs=>.ok ((D.dct t false ks vs).aD,ks.map yg)
 |_=>.bad
def kG (f:#[28])(τ:SD):Res #[106]:=(f τ).bind Ae
section
variable {K:#[0]}{Y:XY}{B H:Hp}{X:Cx}{e:Expr}{fe:#[28]}
def Fd {a:Addr}{kvs:#[102]}{ep:Nat}(hb:B a=some (.dK kvs ep)):HG K (OF a kvs ep) ((kvs.map λ p=>(Sum.inl p.1:KT)).map yg) B H where
 go:=λ B' H' i d s1 s2 im e=>by
  have:=(Pw.mp e).1;exact⟨s2 _ _ (s1 _ _ hb),by simpa using this⟩
 zb:=λ B' H' i d x H'' s1 s2 im e y=>by
  obtain⟨rfl,p,hp,rfl⟩:=y;rw[P0,P0,hp]at e;cases e;refine⟨au.refl _,?_⟩;obtain⟨k,v⟩:=p
  match k with
  |.inl i=>exact⟨rfl,rfl⟩| .inr x=>exact⟨rfl,rfl⟩
 stop:=λ B' H' s1 s2 im=>⟨s2 _ _ (s1 _ _ hb),by rw[Pk,Pk];exact Py _⟩
def BF {tg:Expr}(he:#[46]):PI X tg e (Ba X.K Y (kG fe)):=by
 refine PI.imp (Iq he) λ σ H R hq=>ex8 hq λ H0 B0 B τ P F I h=>⟨H0,B0,B,τ,P,F,I,?_⟩;cases z:fe τ with
 |eB C=>simp only[kG,z,Res.jE]at h;exact h|bad=>simp only[kG,z,Res.jD]at h
 | ok d =>
  simp only[kG,z,Res.aK]at h;intro v H1 B1 fp I1 s1 b1 r1 k1;cases d with
  | dct t k ks xs =>
   cases k with
   |true=>exact h.elim
   | false =>
    simp only[Ae]at h;obtain⟨a,vs,g,rfl,q,_⟩:=r1.dc I1;rcases q with ⟨_,kvs,ep,ha,hks,hvs⟩|⟨q0,_⟩
    ·refine⟨a,kvs,ep,rfl,ha,h _ H1 _ fp I1 s1 b1 k1 λ Bx sB sH h1 h2=>?_⟩;obtain⟨a',ws,ea,q',rl,_⟩:Rep X.K Bx No H1 (D.dct .aq false ks (aG xs)) (.ref a) []:=ja r1 sB h1 h2;cases ea;rw[d9 _ (Ad ks),hks];rcases q' with ⟨_,kvs',ep',hb,_⟩|⟨q0,_⟩
     ·have e1:=sH _ _ hb;rw[ha]at e1;cases e1;exact Fd hb
     ·cases q0
    ·cases q0
  |_=>exact h.elim
end
end DL
namespace DI
open PySem
variable {d it:Addr}{es:Array DictEntry}{ep i:Nat}{o:Obj}{x y:Value}{Q:#[4]}
variable {prog:#[84]}{w:World}{A:Around}{E:#[4]}{s:Shared}
def Ag{n:Nat}{u v:Value}(ht:IsItemIter s.heap it d i n ep x y)
  (h:∀ h',IsItemIterOut h' it d i n ep u v s.heap.objs.size->h'.get? s.heap.objs.size=some { cls:=.type "tuple",data:=.seq #[u,v] }->(∀ b o,b≠it->s.heap.get? b=some o->h'.get? b=some o)->Q #[42] { s with heap:=h' }) :
  wpAny #[12] A (Builtin.Dict_items.pairFromOwner (.ref it) 6 u v) Q E s:=by
 unfold Builtin.Dict_items.pairFromOwner Builtin.Dict_items.ownedTupleIsFree;have lt:it<s.heap.objs.size:=Px ht;refine Ph (TU ?_);generalize hk:s.heap.push { cls:=.type "tuple",data:=.seq #[u,v] }=k;have tk:k.get? s.heap.objs.size=some { cls:=.type "tuple",data:=.seq #[u,v] }:=by rw[<-hk];exact Pu _ rfl
 have ks:∀ b o,s.heap.get? b=some o->k.get? b=some o:=λ b o e=>by rw[<-hk];exact Pj _ e
 have r0:IsItemIter k it d i n ep x y:=ks _ _ ht;refine Ph (Ph (Qh r0 rfl (x:=.none) rfl (Po ?_)));simp only[RE];refine Ph (Qh r0 rfl (x:=x) rfl (Ph (Qh r0 rfl (x:=y) rfl (Ph ?_))));refine Qa r0 #[25] λ k1 r1 q1=>Ph (Qa r1 #[25] λ k2 r2 q2=>Ph (Qa r2 #[25] λ k3 r3 q3=>Ph (Qa r3 #[25] λ k4 r4 q4=>?_)));have ex:∀ b o,b≠it->k.get? b=some o->k4.get? b=some o:=λ b o nb e=>RT q4 b o nb (RT q3 b o nb (RT q2 b o nb (RT q1 b o nb e)));exact Ph (Uh (Po (h k4 r4 (ex _ _ (Rj lt) tk) λ b o nb e=>ex b o nb (ks b o e))))
def Af{Q:#[131]}(hi:i<es.size)(ho:s.heap.get? d=some o)(hdat:o.data=.dict es ep)(ht:IsItemIter s.heap it d i es.size ep x y)
  (h:∀ h',IsItemIterOut h' it d (i+1) es.size ep es[i].key es[i].val s.heap.objs.size->h'.get? s.heap.objs.size=some { cls:=.type "tuple",data:=.seq #[es[i].key,es[i].val] } ->
   (∀ b o,b≠it->s.heap.get? b=some o->h'.get? b=some o)->Q (some #[42]) { s with heap:=h' }) :
  wpAny #[12] A (pyNext (.ref it)) Q E s:=by
 have hT:s.TypeIs (.ref it) "dict_itemiterator" :=⟨_,ht,rfl⟩;obtain⟨cl,dd,dt,sl⟩:=o;simp only at hdat;subst hdat;have hw:Builtin.Dict_items.ownsTuple "dict_itemiterator" = true:=by decide
 have n0:¬ ((i:Int)<0):=by omega
 have e0:es[((i:Int)).toNat]?=some es[i]:=by rw[Qm];exact PX hi
 unfold pyNext;refine Ph (QZ (Qf hT Rn (Qg Rn hT F.entry_dict_itemiterator_next ?_ (SN _))))
 wp_walk using QP hT,Q0 hT
 rw[PL #[25]]
 wp_walk using QP hT,Q0 hT
 simp only[e0];refine Ph (Ph (QP hT (Po (Ph (Q0 hT (Ph ?_))))));refine Qa ht (by rw[hw];simp) λ k1 a1 b1=>?_;replace b1:Heap.SameBut it s.heap k1:=b1;have f1:IsItemIter k1 it d (i+1) es.size ep x y:=by
  have e:((i+1:Nat):Int)=(i:Int)+1:=by omega
  unfold IsItemIter;rw[e];exact a1
 have T1:Shared.TypeIs ⟨k1,s.gens,s.drawn,s.toks,s.os⟩ (.ref it) "dict_itemiterator" :=⟨_,f1,rfl⟩;clear a1;have z1:k1.objs.size=s.heap.objs.size:=b1.1;have lt:it<s.heap.objs.size:=Px ht;refine Ph (QV (Ph (Q0 T1 (Ph (Q0 T1 ?_)))));rw[PL #[120]];refine Ag f1 λ k2 p1 p2 p3=>Po ⟨_,rfl,Po ?_⟩;rw[z1]at p1 p2 ⊢;exact h k2 p1 p2 λ b o nb e=>p3 b o nb (RT b1 b o nb e)
def C9{Q:#[131]}(hh:A.handled=none)(hi:es.size<=i)(ho:s.heap.get? d=some o)(hdat:o.data=.dict es ep)(ht:IsItemIter s.heap it d i es.size ep x y)
  (h:∀ h',Heap.ExtBut it s.heap h'->Q none { s with heap:=h' }):wpAny #[12] A (pyNext (.ref it)) Q E s:=by
 have hT:s.TypeIs (.ref it) "dict_itemiterator" :=⟨_,ht,rfl⟩;obtain⟨cl,dd,dt,sl⟩:=o;simp only at hdat;subst hdat;have e0:es[((i:Int)).toNat]?=none:=by rw[Qm];exact Rw hi
 unfold pyNext;refine Ph (QZ (Qf hT Rn (Qg Rn hT F.entry_dict_itemiterator_next ?_ (SN _))))
 wp_walk using QP hT,Q0 hT
 rw[PL #[25]]
 wp_walk using QP hT,Q0 hT
 simp only[e0];refine Ph (Ph (QP hT (Po (Ph ?_))));refine Qa ht (by rw[show Builtin.Dict_items.ownsTuple "dict_itemiterator" = true by decide];simp) λ k1 r1 q1=>?_;replace q1:Heap.SameBut it s.heap k1:=q1
 wp_walk
 unfold raiseNew;refine Ph (S8 ?_);rw[show A.in1.handled=none from hh];refine Ph (Po (Ug ?_));refine Ph (Rz (T:="StopIteration") (b:=true) ⟨_,Pu _ rfl,rfl⟩ TV (Po ?_));exact h _ ((q1.extBut.push _).push _)
def Dc(hn:(d == sysModules)=false)(ho:s.heap.get? d=some o)(hx:o.ExactDict)
  (h:Q #[42] { s with heap:=s.heap.push { cls:=.type "dict_items",data:=.fields #[.ref d] } }):wpAny #[12] A (call (.builtin "dict.items") [.ref d]) Q E s:=by
 have hT:s.TypeIs (.ref d) "dict" :=⟨o,ho,hx.1⟩;refine Qg F.slot_dict_items hT F.entry_dict_items ?_ (F.args_dict_items_1 _)
 wp_walk
 rw[PL (by rw[hx.1];decide)]
 wp_walk
 exact⟨_,rfl,h⟩
def De {v:Addr}(hv:s.heap.IsItemsView v d)(ho:s.heap.get? d=some o)(hdat:o.data=.dict es ep)
  (h:∀ h',IsItemIter h' s.heap.objs.size d 0 es.size ep .none .none->#[77]->Q #[42] { s with heap:=h' }):wpAny #[12] A (pyIter (.ref v)) Q E s:=by
 obtain⟨⟨c1,d1,t1,l1⟩,h1,h2,h3⟩:=id hv;obtain⟨c2,d2,t2,l2⟩:=o;simp only at h2 h3 hdat;subst h2 h3 hdat;refine SJ hv.typeIs F.slot_dict_items_iter (Qg F.slot_dict_items_iter hv.typeIs F.entry_dict_items_iter ?_ (F.args_dict_items_iter_1 _))
 wp_walk
 exact⟨_,rfl,"dict_itemiterator",_,⟨_,Pu _ rfl,rfl⟩,F.slot_dict_itemiterator_next.lookup,h _ (Pu _ rfl) λ b o e=>Pj _ e⟩
def entry_self:entryFor table "dict_itemiterator.__iter__" = some Builtin.«dict_keyiterator.__iter__» :=by
 first|exact entryFor_alias (id':="dict_keyiterator.__iter__") (by kernel_rfl) rfl #[30] (by kernel_rfl)|exact SY (by kernel_rfl)
def Dd{n:Nat}(ht:IsItemIter s.heap it d i n ep x y)(h:Q (.ref it) s):wpAny #[12] A (pyIter (.ref it)) Q E s:=by
 have hT:s.TypeIs (.ref it) "dict_itemiterator" :=⟨_,ht,rfl⟩;refine SJ hT F.slot_dict_itemiterator_iter (Qg F.slot_dict_itemiterator_iter hT entry_self ?_ (F.args_dict_itemiterator_iter_1 _))
 wp_walk
 exact⟨_,rfl,"dict_itemiterator",_,hT,F.slot_dict_itemiterator_next.lookup,h⟩
end DI
namespace L2
open PySem PySem.Spec PyProof.Rows
def OG (a:Addr)(kvs:List (List Key×V))(ep:Nat):It:=
 ⟨λ i H=>H a=some (.dT kvs ep)/\i<kvs.length,λ i H x H'=>∃ p b q,kvs[i]?=some q/\H b=some (.tup (q.1.map kV))/\H p=none/\x=.ref p/\H'=upd H p (.tup [.ref b,q.2]),λ i H=>H a=some (.dT kvs ep)/\kvs.length<=i⟩
def uL {α β:Type}{R:α->β->Prop}:∀ {l:List α}{m:List β},Paired R l m->∀ {i:Nat},i<l.length->∃ p q,l[i]?=some p/\m[i]?=some q/\R p q
 |_,_,.nil,i,h=>absurd h (RK _)
 |_,_,.cons r t,0,h=>⟨_,_,rfl,rfl,r⟩
 |_,_,.cons r t,i+1,h=>uL t (i:=i) (by simpa using h)
def Ah {P:#[84]}{w:World}{K:#[0]}{elts:#[92]}{x1:Nat}{tp:Pos}(a it:Addr)(kvs:List (List Key×V))(ep:Nat):Turn P w K (.Tuple elts x1 tp) (OG a kvs ep) [it] it (λ i h=>∃ x y,IsItemIter h it a i kvs.length ep x y) where
 mem:=by simp
 obj:=λ i h st b hb=>by
  have e:b=it:=by simpa using hb
  subst e;obtain⟨x,y,q⟩:=st;exact⟨_,q,λ v z=>by cases z⟩
 keep:=λ i h h' st k=>by
  obtain⟨x,y,q⟩:=st;exact⟨x,y,k it #[25] _ q⟩
 item:=by
  intro X hP hw hK hc i pins s σ H E I hf st hg;obtain⟨ha,hi⟩:=hg;obtain⟨x,y,st⟩:=st;subst hP hw hK;obtain⟨z,ns,xs,r,o,es,ho,hx,hd,he,_⟩:=(show ck X.prog X.w H s.heap a (.dT kvs ep) from I.hok a _ ha);have hl:kvs.length=xs.length:=Ri r;have hs:es.size=kvs.length:=by rw[<-PZ,he,Pk,hl]
  have hi':i<es.size:=by omega
  obtain⟨f0,f1,f2,f3,f4,f5⟩:=hf it #[25];obtain⟨q,u,hq,hu,e1,hb,rv⟩:=uL r hi;have hes:es[i]=entryOfKey (tupleKind (cE X.prog X.w)) u:=by
   have e2:es[i]?=some (entryOfKey (tupleKind (cE X.prog X.w)) u):=by rw[<-Qp,he,P0,hu];rfl
   rw[PX hi']at e2;exact QC e2
  rw[<-hs]at st;have lt:it<s.heap.objs.size:=Px st;refine DI.Af hi' ho hd st λ h1 k1 k2 k3=>⟨_,rfl,wpAny_letOwnedTupleGo_items k1 λ h2 m1 m2=>?_⟩;have m2:Heap.SameBut it h1 h2:=m2;rw[hes]at k2 m1;have fr:H s.heap.objs.size=none:=I.fresh;have kp:∀ b o,b≠it->s.heap.get? b=some o->h2.get? b=some o:=λ b o nb e=>(m2.2 b nb).trans (k3 b o nb e);have tk:h2.get? s.heap.objs.size=some { cls:=.type "tuple",data:=.seq #[.ref u.2.1,u.2.2] }:=(m2.2 _ (Rj lt)).trans k2;have ok1:jj X.prog X.w H h2:=λ b o hb=>(I.hok b o hb).stay (λ c v hcb q=>kp c v (λ z=>by
    subst z;rcases hcb with z|z
    ·subst z;rw[f0]at hb;cases hb
    ·rw[f0]at z;cases z) q) (λ _ z=>z) λ _ _ z=>z
  have ok2:jj X.prog X.w (upd H s.heap.objs.size (.tup [.ref u.2.1,q.2])) h2:=vB ok1 fr ⟨by show 2<=sizeLine;decide,[.ref u.2.1,u.2.2],.cons rfl (.cons rv .nil),⟨_,tk⟩⟩;have I2:Inv X pins σ (upd H s.heap.objs.size (.tup [.ref u.2.1,q.2])) { s with heap:=h2 }:=by
   refine I.step (g':=s.gens) (d':=s.drawn) (ch:=[it]) (λ b hb=>?_) (λ b o _ _ hb q _=>kp b o #[137] q) (λ b o _ _ hb q _=>⟨o.slots,kp b o #[137] q⟩)
    (λ b o _ q n=>by rw[aH (PY (Px q))];exact n) (λ b o hb q=>⟨o,kp b o #[137] q⟩)
    (λ b ys q=>by rw[aH (bF q fr)];exact q) (λ b o v q=>by rw[aH (bF q fr)];exact q) (λ b ps q=>⟨#[],by rw[aH (bF q fr),Sx];exact q⟩)
    (λ m hm=>hm.at λ o q=>kp _ o (QK f1) q) ok2 I.bare
   have z:b=it:=by simpa using hb
   subst z;exact⟨f3,f1,f4,f5⟩
  refine⟨.ref s.heap.objs.size,_,I2,rfl,⟨_,u.2.1,q,hq,hb,fr,rfl,rfl⟩,⟨.ref u.2.1,u.2.2,?_⟩,λ b hb=>?_⟩
  ·rw[<-hs];exact m1
  ·have z:b=it:=by simpa using hb
   subst z;rw[aH (PY lt)];exact f0
 done:=by
  intro X hP hw hK hc i pins s σ H E I hf st hg;obtain⟨ha,hi⟩:=hg;obtain⟨x,y,st⟩:=st;subst hP hw hK;obtain⟨z,ns,xs,r,o,es,ho,hx,hd,he,_⟩:=(show ck X.prog X.w H s.heap a (.dT kvs ep) from I.hok a _ ha);have hl:kvs.length=xs.length:=Ri r;have hs:es.size=kvs.length:=by rw[<-PZ,he,Pk,hl]
  obtain⟨f0,f1,f2,f3,f4,f5⟩:=hf it #[25];rw[<-hs]at st;exact DI.C9 (I.ok.hd hc) #[1] ho hd st λ h' eb=>⟨rfl,I.turned (t':=s.toks) (λ b o hb e=>eb b o hb e) f0 f1 f3 f4 f5⟩
 self:=λ _ _ _ _ _ ⟨_,_,st⟩ h=>DI.Dd st h
section
variable {X:Cx}{elts:#[92]}{x1:Nat}{tp apos cpos:Pos}
def Fi {o:Expr}{to:TE}(ho:PE X o to)(hbase:attributeBase o "items" X.env (eval o X.env)=eval o X.env:=by rfl)(hline:#[47]:=by rfl) :
  PI X (.Tuple elts x1 tp) (.Call (.Attribute o "items" apos) [] [] cpos) (λ σ H R=>to σ H λ x H1=>∃ a kvs ep,x=.ref a/\H1 a=some (.dT kvs ep)/\R (OG a kvs ep) H1):=by
 intro pins s σ H R I h;refine Sz hbase hline (eN (ho pins s σ H _ I h) λ v s1 ⟨x,H1,I1,r1,a,kvs,ep,e,ha,q⟩=>?_);subst e;cases r1;obtain⟨h1,h2⟩:=vt (T:="dict") I1 (show RelV (.ref a) (.ref a) from rfl) (.inr (.inr (.inl ⟨rfl,.inr ⟨kvs,ep,ha⟩⟩)));refine⟨"dict","dict.items",RV,PySem.F.slot_dict_items,PySem.F.type_dict_items,h1,h2,RZ rfl (Tv ?_)⟩;obtain⟨z,ns,xs,r,o,es,hob,hx,hd,he,_⟩:=(show ck X.prog X.w H1 s1.heap a (.dT kvs ep) from I1.hok a _ ha);have hl:kvs.length=xs.length:=Ri r;have hs:es.size=kvs.length:=by rw[<-PZ,he,Pk,hl]
 refine DI.Dc ns hob hx ?_;refine DI.De (v:=s1.heap.objs.size) ⟨_,Pu _ rfl,rfl,rfl⟩ (Pj _ hob) hd λ h' k1 k2=>?_;have I2:Inv X pins σ H1 { s1 with heap:=s1.heap.push { cls:=.type "dict_items",data:=.fields #[.ref a] } }:=I1.kept (t':=s1.toks) λ b o e=>Pj _ e;have I3:Inv X pins σ H1 { s1 with heap:=h' }:=I2.kept (t':=s1.toks) λ b o e=>k2 b o e;refine⟨_,[_],_,_,H1,rfl,I3,Ah a _ kvs ep,⟨_,_,by rw[<-hs];exact k1⟩,λ b hb=>?_,q⟩;have e:=Qw.mp hb;subst e;exact I2.qL (Py _) (I2.hok.fresh (Py _))
end
end L2
namespace DL
open PySem PySem.Spec PyProof.Rows L2
def BG:Key->D|.inl i=>.int i|.inr x=>.str x
def BH:KT->D|.inr ks=>.tup (ks.map BG)|.inl _=>.a8
def ic:List KT->List D->List D
 |k::ks,d::ds=>.tup [BH k,d]::ic ks ds
 |_,_=>[]
def Fg:D->Res #[106]
 |.dct t true ks vs=>if aT vs=true then .ok ((D.dct t true ks vs).aD,ic ks vs) else .bad
 |_=>.bad
def lG (f:#[28])(τ:SD):Res #[106]:=(f τ).bind Fg
section
variable {K:#[0]}{Y:XY}{B H:Hp}{X:Cx}{e:Expr}{fe:#[28]}
def rN {S:#[17]}:∀ (ks:List Key),ak K B S H (ks.map BG) (ks.map kV) []
 |[]=>⟨rfl,rfl⟩
 |.inl i::ks=>⟨_,_,[],[],rfl,⟨rfl,rfl⟩,rN ks,rfl⟩
 |.inr x::ks=>⟨_,_,[],[],rfl,⟨rfl,rfl⟩,rN ks,rfl⟩
def Ai (ks:List Key):aT (ks.map BG)=true:=bK λ d m=>by
 obtain⟨k,_,rfl⟩:=PF.mp m;cases k<;>rfl
def Aj (k:KT):(BH k).pure=true:=by
 cases k with
 |inl k=>rfl|inr k=>exact Ai k
def p5:∀ (ks:List KT) (vs:List D),aT vs=true->aT (ic ks vs)=true
 |[],vs,_=>by cases vs<;>rfl
 |k::ks,[],_=>rfl
 | k::ks,d::ds,h=>by
  have h:(d.pure&&aT ds)=true:=h;rw[Ql]at h;show((BH k).pure&&(d.pure&&true)&&aT (ic ks ds))=true;rw[Aj,h.1,p5 ks ds h.2];rfl
def l7 {S:#[17]}:∀ {kvs:List (List Key×V)}{vs:List D}{f:#[8]},ak K B S H vs (kvs.map (·.2)) f->(ic (kvs.map λ p=>Sum.inr p.1) vs).length=kvs.length/\∀ {i:Nat}{d:D}{q:List Key×V},(ic (kvs.map λ p=>Sum.inr p.1) vs)[i]?=some d->kvs[i]?=some q->∃ x g,vs[i]?=some x/\d=.tup [.tup (q.1.map BG),x]/\Rep K B S H x q.2 g
 | [],vs,f,r=>by
  cases vs with
  |nil=>exact⟨rfl,λ h=>by simp[ic]at h⟩| cons v vs=>obtain⟨_,_,_,_,e,_⟩:=r;cases e
 |p::kvs,[],f,r=>by obtain⟨e,_⟩:=r;cases e
 | p::kvs,x::vs,f,r=>by
  obtain⟨v,w,f1,f2,e,r1,r2,rfl⟩:=r;rw[PV]at e;cases e;obtain⟨h1,h2⟩:=l7 r2;refine⟨by rw[PV,ic,PU,PU,h1],λ {i d q} hd hq=>?_⟩;cases i with
  |zero=>cases hd;cases hq;exact⟨x,f1,rfl,rfl,r1⟩| succ i=>exact h2 (i:=i) hd hq
def Df {a:Addr}{kvs:List (List Key×V)}{ep:Nat}{vs:List D}(hb:B a=some (.dT kvs ep))(r:ak K B No H vs (kvs.map (·.2)) [])(hp:aT vs=true):HG K (OG a kvs ep) (ic (kvs.map λ p=>Sum.inr p.1) vs) B H where
 go:=λ B' H' i d s1 s2 im e=>by
  have:=(Pw.mp e).1;rw[(l7 r).1]at this;exact⟨s2 _ _ (s1 _ _ hb),this⟩
 zb:=λ B' H' i d x H'' s1 s2 im e y=>by
  obtain⟨p,b,q,hq,hbt,hpn,rfl,rfl⟩:=y;obtain⟨x,g,hx,rfl,rx⟩:=(l7 r).2 e hq;have sm:au H' (upd H' p (.tup [.ref b,q.2])):=du hpn;have px:x.pure=true:=uo hp x (S9 hx);have eg:=nK.1 x px rx;subst eg;refine⟨sm,p,_,rfl,aN,.ref b,[q.2],[],[],rfl,⟨b,_,rfl,sm _ _ hbt,rN _⟩,ak.one ((rx.stay s1 im rfl).mono sm #[49] λ _ x=>x),rfl⟩
 stop:=λ B' H' s1 s2 im=>⟨s2 _ _ (s1 _ _ hb),by rw[(l7 r).1];exact Py _⟩
def Ff {elts:#[92]}{x1:Nat}{tp apos cpos:Pos}(he:#[46])(hbase:attributeBase e "items" X.env (eval e X.env)=eval e X.env:=by rfl)(hline:#[47]:=by rfl) :
  PI X (.Tuple elts x1 tp) (.Call (.Attribute e "items" apos) [] [] cpos) (Ba X.K Y (lG fe)):=by
 refine PI.imp (Fi he hbase hline) λ σ H R hq=>ex8 hq λ H0 B0 B τ P F I h=>⟨H0,B0,B,τ,P,F,I,?_⟩;cases z:fe τ with
 |eB C=>simp only[lG,z,Res.jE]at h;exact h|bad=>simp only[lG,z,Res.jD]at h
 | ok d =>
  simp only[lG,z,Res.aK]at h;intro v H1 B1 fp I1 s1 b1 r1 k1;cases d with
  | dct t k ks xs =>
   cases k with
   |false=>exact h.elim
   | true =>
    simp only[Fg]at h;by_cases hp:aT xs=true
    ·rw[PH hp]at h;obtain⟨a,vs,g,rfl,q,_⟩:=r1.dc I1;rcases q with ⟨q0,_⟩|⟨_,kvs,ep,ha,hks,hvs⟩
     ·cases q0
     ·refine⟨a,kvs,ep,rfl,ha,h _ H1 _ fp I1 s1 b1 k1 λ Bx sB sH h1 h2=>?_⟩;obtain⟨a',ws,ea,q',rl,_⟩:Rep X.K Bx No H1 (D.dct .aq true ks (aG xs)) (.ref a) []:=ja r1 sB h1 h2;cases ea;rw[d9 _ hp]at rl;rw[d9 _ (p5 ks xs hp),hks];rcases q' with ⟨q0,_⟩|⟨_,kvs',ep',hb,_,hvs'⟩
      ·cases q0
      ·have e1:=sH _ _ hb;rw[ha]at e1;cases e1;subst hvs';exact Df hb (rl.mono #[49] #[49] λ _ x=>x) hp
    ·rw[PL hp]at h;exact h.elim
  |_=>exact h.elim
end
end DL
namespace SR
open PySem
variable {xs:Array Nat}{led:Bool}{j:Nat}
abbrev wb (xs:Array Nat):Prop:=xs.toList.Pairwise (· < ·)
def qD(h:wb xs){i:Nat}{a b:Nat}(hi:xs[i]?=some a)(hj:xs[j]?=some b)(hij:i<j):a<b:=by
 rw[<-Qp]at hi hj;obtain⟨h1,e1⟩:=Pw.mp hi;obtain⟨h2,e2⟩:=Pw.mp hj;rw[<-e1,<-e2];exact Rg.mp h i j h1 h2 hij
def wa {xs:Array Nat}{j:Nat}(hr:wb xs):∀ (fuel lo hi:Nat),lo<=hi->hi<=xs.size->hi-lo<=fuel->(∀ (i a:Nat),xs[i]?=some a->i<lo->a<j)->(∀ (i a:Nat),xs[i]?=some a->hi<=i->j<=a) ->
  SetTable.below.go xs j fuel lo hi<=xs.size/\(∀ (i a:Nat),xs[i]?=some a->i<SetTable.below.go xs j fuel lo hi->a<j)/\(∀ (i a:Nat),xs[i]?=some a->SetTable.below.go xs j fuel lo hi<=i->j<=a)
 | 0,lo,hi,h1,h2,h3,h4,h5=>by
  have e:lo=hi:=by omega
  subst e;exact⟨h2,h4,h5⟩
 | fuel+1,lo,hi,h1,h2,h3,h4,h5=>by
  unfold SetTable.below.go;by_cases hlt:lo<hi
  ·rw[PH hlt];have hm:(lo+hi)/2<hi:=by omega
   have hm2:lo<=(lo+hi)/2:=by omega
   have hs:(lo+hi)/2<xs.size:=by omega
   have hg:xs[(lo+hi)/2]?=some xs[(lo+hi)/2]:=PX hs;have hd:xs.getD ((lo+hi)/2) j=xs[(lo+hi)/2]:=by rw[Qv,hg];rfl
   show(if xs.getD ((lo+hi)/2) j<j then SetTable.below.go xs j fuel ((lo+hi)/2+1) hi else SetTable.below.go xs j fuel lo ((lo+hi)/2))<=_/\_;by_cases hc:xs.getD ((lo+hi)/2) j<j
   ·simp only[PH hc];refine wa hr fuel _ _ #[1] h2 #[1] (λ i a ha hi'=>?_) h5;rcases Nat.lt_or_ge i ((lo+hi)/2) with q|q
    ·have:=qD hr ha hg q;rw[hd]at hc;omega
    ·have e:i=(lo+hi)/2:=by omega
     subst e;rw[hg]at ha;cases ha;rw[hd]at hc;exact hc
   ·simp only[PL hc];refine wa hr fuel _ _ hm2 #[1] #[1] h4 (λ i a ha hi'=>?_);rw[hd]at hc;rcases Nat.lt_or_ge ((lo+hi)/2) i with q|q
    ·have:=qD hr hg ha q;omega
    ·have e:i=(lo+hi)/2:=by omega
     subst e;rw[hg]at ha;cases ha;omega
  ·rw[PL hlt];have e:lo=hi:=by omega
   subst e;exact⟨h2,h4,h5⟩
def nj(hr:wb xs)(j:Nat):SetTable.below xs j<=xs.size/\(∀ (i a:Nat),xs[i]?=some a->i<SetTable.below xs j->a<j)/\(∀ (i a:Nat),xs[i]?=some a->SetTable.below xs j<=i->j<=a):=
 wa hr xs.size 0 xs.size (QY _) (Py _) (Py _) (λ _ _ _ h=>absurd h (RK _)) λ i a ha h=>by
  have:=(Sb.mp ha).1;omega
def Fo(hr:wb xs)(hn:xs[SetTable.below xs j]?≠some j):wb (SetTable.insertAt xs (SetTable.below xs j) j):=by
 obtain⟨h1,h2,h3⟩:=nj hr j;unfold wb;rw[SetTable.toList_insertAt];have hr':xs.toList.Pairwise (· < ·):=hr;rw[<-List.take_append_drop (SetTable.below xs j) xs.toList]at hr';obtain⟨p1,p2,p3⟩:=List.pairwise_append.mp hr';have lo:∀ a∈xs.toList.take (SetTable.below xs j),a<j:=λ a ha=>by
  obtain⟨i,hi,e⟩:=Sk ha;rw[Ry]at hi;rw[List.getElem_take]at e;exact h2 i a (by rw[<-Qp,<-e];exact Pr #[1]) #[1]
 have hi:∀ a∈xs.toList.drop (SetTable.below xs j),j<a:=λ a ha=>by
  obtain⟨i,hi,e⟩:=Sk ha;rw[Se]at hi;rw[List.getElem_drop]at e;have hg:xs[SetTable.below xs j+i]?=some a:=by rw[<-Qp,<-e];exact Pr #[1]
  have g:=h3 _ a hg (Us _ _);rcases Nat.lt_or_eq_of_le g with g|g
  ·exact g
  ·subst g;rcases Nat.eq_zero_or_pos i with z|z
   ·subst z;exact absurd hg hn
   ·have hg0:xs[SetTable.below xs j]?=some (xs[SetTable.below xs j]'(by simp at hi;omega)):=PX _;have l:=qD hr hg0 hg #[1];have g0:=h3 _ _ hg0 (Py _);omega
 refine List.pairwise_append.mpr ⟨p1,T4.mpr ⟨hi,p2⟩,λ a ha b hb=>?_⟩;rcases PB.mp hb with rfl|hb
 ·exact lo a ha
 ·exact Uv (lo a ha) (hi b hb)
structure Good (led:Bool)(t:SetTable):Prop where
 led:t.led=led
 rise:wb t.place
 OH:t.dummies = #[]
def Ak (led:Bool):Good led (SetTable.fresh 0 0 led):=⟨rfl,List.Pairwise.nil,rfl⟩
def kh{t:SetTable}(g:Good led t)(n:Nat):Good led (t.standIn n):=⟨g.led,by
 show(Array.range n).toList.Pairwise (· < ·);rw[Array.toList_range];exact List.pairwise_lt_range,rfl⟩
def Am{t:SetTable}(g:Good led t):Good led { t with plain:=false }:=⟨g.led,g.rise,g.OH⟩
def BI (j:Nat):SetTable.has #[] j=false:=by
 unfold SetTable.has;simp
def tQ{t:SetTable}(g:Good led t)(j:Nat):t.slot j ≠ .dummy:=by
 unfold SetTable.slot;rw[g.OH,BI];simp only[Qc,RL];split<;>simp
def An {t:SetTable}(h:t.slot j=.empty):t.place[SetTable.below t.place j]?≠some j:=λ e=>by
 unfold SetTable.slot at h;simp only[e,S3,RE]at h;cases h
def rO {led:Bool}{t:SetTable}(g:Good led t){h:Int}:∀ (fuel:Nat) (p:SetTable.Probe) (j:Nat) (d:Option Nat),p.dummy=none->SetTable.probe.go t (λ _=>h+1) h fuel p=some (.empty j d)->d=none/\t.slot j=.empty
 |0,p,j,d,_,e=>by unfold SetTable.probe.go at e;cases e
 | fuel+1,p,j,d,hp,e=>by
  unfold SetTable.probe.go at e;cases z:t.slot p.j with
  | empty =>
   rw[z]at e;simp only[SK,SetTable.Met.empty.injEq]at e;exact⟨e.2.symm.trans hp,e.1▸z⟩
  |dummy=>exact absurd z (tQ g p.j)
  | live i =>
   rw[z]at e;have hne:(h+1 == h)=false:=by
    rw[RQ];omega
   simp only[hne,Qc,RL]at e;refine rO g fuel (t.advance p) j d ?_ e;unfold SetTable.advance;split
   ·exact hp
   ·exact hp
def Dg{t:SetTable}(g:Good led t){h:Int}{b:Bool}(e:t.freeSlot h=some (j,b)):t.slot j=.empty:=by
 unfold SetTable.freeSlot at e;split at e
 ·rename_i j' d hp;obtain⟨rfl,hs⟩:=rO g _ _ j' d rfl hp;simp only[Uq,Option.isSome_none,SK,Prod.mk.injEq]at e;exact e.1▸hs
 ·cases e
def Fj{t:SetTable}(g:Good led t)(h:t.slot j=.empty):Good led (t.put j).1:=by
 refine⟨g.led,Fo g.rise (An h),?_⟩;show(if SetTable.has t.dummies j=true then SetTable.eraseAt t.dummies (SetTable.below t.dummies j) else t.dummies) = #[];rw[g.OH,BI];rfl
def Fp{t:SetTable}(g:Good led t)(es:Array (Int×Value))(h:Int)(x:Value):Good led (layNew t es h x).2.1:=by
 unfold layNew;split
 ·rename_i slot b e;show Good led ((t.put slot).1.orStandIn _);have gp:=Fj g (Dg g e);unfold SetTable.orStandIn;split
  ·exact gp
  ·exact kh gp _
 ·exact kh g _
def Dh (n:Nat)(f:Nat->Option Nat):((#[57].filterMap λ j=>(f j).map (j,·)).map (·.1)).Pairwise (· < ·):=by
 have hs:((#[57].filterMap λ j=>(f j).map (j,·)).map (·.1)).Sublist #[57]:=by
  induction List.range n with
  |nil=>exact List.Sublist.slnil
  | cons a r ih =>
   cases e:f a with
   |none=>rw[List.filterMap_cons_none (by rw[e];rfl)];exact ih.cons a|some b=>rw[List.filterMap_cons_some (b:=(a,b)) (by rw[e];rfl)];exact ih.cons₂ a
 exact List.pairwise_lt_range.sublist hs
def Al{t:SetTable}(g:Good led t)(es:Array (Int×Value))(w:Nat):Good led (relayAll t es w).2.1:=by
 unfold relayAll;split
 ·rename_i t' order e;dsimp only;split
  ·unfold SetTable.relaid SetTable.laid at e;simp only[Option.bind_eq_bind,Option.bind_eq_some_iff]at e;obtain⟨owner,_,e⟩:=e;simp only[Option.pure_def,SK,Prod.mk.injEq]at e;obtain⟨e,_⟩:=e;subst e;exact⟨g.led,by simpa[wb] using Dh _ λ j=>owner.getD j none,rfl⟩
  ·exact kh g _
 ·exact kh g _
end SR
namespace SR
open PySem PySem.Spec PyProof.Rows
section
variable {prog:#[84]}{w:World}{A:Around}{E:#[4]}{s:Shared}{led:Bool}
def jr (prog:#[84])(w:World)(led:Bool)(h:Heap)(a:Addr)(S:Int->Bool)(n:Nat):Prop:=
 ∃ o es ep t,h.get? a=some o/\o.ExactSet/\o.data=.set es ep t/\ElemsOf (intKind prog w) es.toList/\(∀ k,S k=true↔∃ e∈es.toList,(intKind prog w).is k e.2=true)
  /\ es.size<scanBound/\t.fits es.size=true/\es.size=n/\Good led t
def jr.store {h:Heap}{a:Addr}{o:Obj}{es es':Array (Int×Value)}{ep:Nat}{t t':SetTable}{S':Int->Bool}(ho:h.get? a=some o)(hex:o.ExactSet)(hd:#[101])
  (hel:ElemsOf (intKind prog w) es'.toList) (hmem:∀ k,S' k=true↔∃ e∈es'.toList,(intKind prog w).is k e.2=true) (hb:es'.size<scanBound) (hf:t'.fits es'.size=true) (g:Good led t') :
  (h.update a (Obj.putSet es' t')).get? a=some { o with data:=.set es' (ep+1) t' }/\jr prog w led (h.update a (Obj.putSet es' t')) a S' es'.size:=by
 obtain⟨hg,_⟩:=SetOf_store (knd:=intKind prog w) ho hex hd hel hmem hb hf;exact⟨hg,_,es',ep+1,t',hg,hex,rfl,hel,hmem,hb,hf,rfl,g⟩
def Fq {gw:Bool->Sem Unit}(hg:∀ (b:Bool) (s₁:Shared) (Q':Unit->Shared->Prop),Q' () s₁->wpAny #[12] A (gw b) Q' E s₁)
  {a:Addr}{o:Obj}{es es1:Array (Int×Value)}{ep:Nat}{t t2:SetTable}{S':Int->Bool} (ho:s.heap.get? a=some o) (hex:o.ExactSet) (hd:#[101])
  (hel1:ElemsOf (intKind prog w) es1.toList) (hmem1:∀ k',S' k'=true↔∃ e∈es1.toList,(intKind prog w).is k' e.2=true)
  (hb1:es1.size<scanBound) (hf2:t2.fits es1.size=true) (g2:Good led t2) {wasDummy:Bool}{R:Option Bool->Shared->Prop}
  (h:∀ h',Heap.SameBut a s.heap h'->jr prog w led h' a S' es1.size->R (some true) { s with heap:=h' }) :
  wpAny #[12] A (do
    storeSet a es1 t2
    if (!wasDummy&&t2.tooFull)=true then do
      gw (relayAll t2 es1 (SetTable.grown es1.size)).2.2
      storeSet a (relayAll t2 es1 (SetTable.grown es1.size)).1 (relayAll t2 es1 (SetTable.grown es1.size)).2.1
      pure (some true)
     else pure (some true)) R E s:=by
 refine Ph (wpAny_storeSet_of ho hd ?_ (Uk hb1));obtain⟨ho1,hS1⟩:=jr.store (prog:=prog) (w:=w) (led:=led) ho hex hd hel1 hmem1 hb1 hf2 g2;have hsb1:=Q9 s.heap a (Obj.putSet es1 t2);split
 ·have hp:=relayAll_perm t2 es1 (SetTable.grown es1.size);have hfr:=relayAll_fits t2 es1 (SetTable.grown es1.size);have gr:=Al g2 es1 (SetTable.grown es1.size);have hsz:(relayAll t2 es1 (SetTable.grown es1.size)).1.size=es1.size:=by rw[<-PZ,hp.length_eq,PZ]
  have hb2:(relayAll t2 es1 (SetTable.grown es1.size)).1.size<scanBound:=by rw[hsz];exact hb1
  refine Ph (hg _ _ _ (Ph (wpAny_storeSet_of ho1 rfl ?_ (Uk hb2))));obtain⟨_,hS2⟩:=jr.store (prog:=prog) (w:=w) (led:=led) ho1 hex rfl (hel1.perm hp) (λ k'=>(hmem1 k').trans ⟨λ ⟨e,he,q⟩=>⟨e,hp.mem_iff.mpr he,q⟩,λ ⟨e,he,q⟩=>⟨e,hp.mem_iff.mp he,q⟩⟩) hb2 hfr gr;rw[hsz]at hS2;exact Po (h _ (hsb1.trans (Q9 _ a _)) hS2)
 ·exact Po (h _ hsb1 hS1)
def Nh {a:Addr}{S:Int->Bool}{n:Nat}{k:Int}{x:Value}{Q:Bool->Shared->Prop}(hkey:(intKind prog w).is k x=true)(hsc:x.scannable=true)(hS:jr prog w led s.heap a S n)(hroom:n+1<scanBound)
  (h:∀ h',Heap.SameBut a s.heap h'->jr prog w led h' a (λ k'=>S k'||decide (k'=k)) (if S k then n else n+1)->Q (!S k) { s with heap:=h' }) :
  wpAny #[12] A (setAddHashed a x ((intKind prog w).hash k)) Q E s:=by
 obtain⟨o,es,ep,t,ho,hex,hd,hel,hmem,hb,hf,hn,g⟩:=hS;have hb1:es.size+1<scanBound:=by rw[hn];exact hroom
 unfold setAddHashed setAddHashedIn;refine QV (Ph (Rr ho hd hf ?_));dsimp only;rw[byScan_of hsc hb hel];simp only[↓reduceIte];unfold setAddByScan;refine Ph (Ph (RP (Ph (wpAny_setScan_of hkey ho hd hf hel ?_))));cases hr:List.findIdx? (λ e=>(intKind prog w).is k e.2) es.toList with
 | some j =>
  dsimp only;obtain⟨hj,hpj,_⟩:=List.findIdx?_eq_some_iff_getElem.mp hr;have hSk:S k=true:=(hmem k).mpr ⟨es.toList[j],Sg hj,hpj⟩;refine Po (Po ?_);have e:s={ s with heap:=s.heap }:=by cases s;rfl
  have:=h s.heap (Heap.SameBut.refl a s.heap) ⟨o,es,ep,t,ho,hex,hd,hel,λ k'=>by
   rw[Bool.or_eq_true,RN,<-hmem k'];exact⟨λ hk=>hk.elim id (λ e=>e▸hSk),.inl⟩,hb,hf,by rw[hSk];exact hn,g⟩
  rw[hSk]at this;rw[e];exact this
 | none =>
  dsimp only;have hSk:S k=false:=by
   cases hk:S k with
   |false=>rfl|true=>obtain⟨e,he,hp⟩:=(hmem k).mp hk;have:=Ub.mp hr e he;rw[hp]at this;exact Bool.noConfusion this
  have hgw:∀ (b:Bool) {s₁:Shared}{Q':Unit->Shared->Prop},Q' () s₁->wpAny #[12] A (match b with|true=>rule "set.scan.the-table-gave-way" |false=>pure ()) Q' E s₁:=
   λ b s₁ Q' hq=>by cases b<;>first|exact Po hq|exact RP hq
  have hperm:=layNew_perm t es ((intKind prog w).hash k) x;have hfits:=layNew_fits t es ((intKind prog w).hash k) x;have g1:=Fp g es ((intKind prog w).hash k) x;generalize hL:layNew t es ((intKind prog w).hash k) x=L at hperm hfits g1 ⊢;obtain⟨es1,t1,wasDummy,gave⟩:=L;dsimp only at hperm hfits g1 ⊢;rw[Array.toList_push]at hperm;have hel1:ElemsOf (intKind prog w) es1.toList:=(hel.push hkey hsc).perm hperm;have hmem1:∀ k',(S k'||decide (k'=k))=true↔∃ e∈es1.toList,(intKind prog w).is k' e.2=true:=mem_push_iff hkey hmem hperm;have hsz1:es1.size=n+1:=by rw[<-PZ,hperm.length_eq,Pz,PZ,hn];rfl
  have hb1':es1.size<scanBound:=by rw[hsz1];exact hroom
  refine Ph (hgw _ ?_);have hend:∀ h',Heap.SameBut a s.heap h'->jr prog w led h' a (λ k'=>S k'||decide (k'=k)) es1.size->Q true { s with heap:=h' }:=by
   intro h' hsb hS';have:=h h' hsb;rw[hSk]at this;rw[hsz1]at hS';exact this hS'
  split
  ·refine Ph ?_;rw[hashByValue_scannable 8 hsc];refine Po ?_;refine Fq (led:=led) ?_ ho hex hd hel1 hmem1 hb1' ?_ ?_ ?_
   ·intro b s₁ Q' hq;cases b<;>first|exact Po hq|exact RP hq
   ·split
    ·exact hfits
    ·exact SetTable.fits_plain_off hfits
   ·split
    ·exact g1
    ·exact Am g1
   ·intro h' hsb hS';dsimp only;exact Po (hend h' hsb hS')
  ·refine Ph (Po ?_);simp only[↓reduceIte];refine Fq (led:=led) ?_ ho hex hd hel1 hmem1 hb1' hfits g1 ?_
   ·intro b s₁ Q' hq;cases b<;>first|exact Po hq|exact RP hq
   ·intro h' hsb hS';dsimp only;exact Po (hend h' hsb hS')
def jr.congr {h:Heap}{a:Addr}{S S':Int->Bool}{n n':Nat}(hS:jr prog w led h a S n)(e:∀ k,S k=S' k)(en:n=n'):jr prog w led h a S' n':=by
 have:S=S':=funext e;subst this en;exact hS
def jr.keep {h h':Heap}{a:Addr}{S:Int->Bool}{n:Nat}(hS:jr prog w led h a S n)(hk:∀ o,h.get? a=some o->h'.get? a=some o):jr prog w led h' a S n:=by
 obtain⟨o,es,ep,t,ho,rest⟩:=hS;exact⟨o,es,ep,t,hk o ho,rest⟩
def Ir (led:Bool){h:Heap}{a:Addr}(ho:h.get? a=some { cls:=.type "set",dict:=none,data:=.set #[] 0 (.fresh 0 0 led) }):jr prog w led h a (λ _=>false) 0:=
 ⟨_,#[],0,_,ho,⟨rfl,rfl,rfl⟩,rfl,λ e he=>by simp at he,λ k=>by simp,by decide,rfl,rfl,Ak led⟩
end
section
variable {prog:#[84]}{w:World}{A:Around}{R:Result->Shared->Prop}{I:Addr}{fp wr:#[8]}{G:Array GenState->Array GenState->Prop}{n:Nat}{P:Nat->Value->Prop}{St:Nat->Shared->Prop}{led:Bool}
def Lx (W:WalksS prog w A.in1 I fp wr G n P St)(S:Addr)(hSf:S∉fp)(val:Nat->Int)(hval:∀ i v,P i v->∃ t,v=.int (val i) t)(hb:n+1<scanBound) :
  ∀ (k i:Nat) (s:Shared),n-i=k->i<=n->St i s->jr prog w led s.heap S (λ k'=>(firstMet val i).any (· == k')) (firstMet val i).length ->
   (∀ s',Moved (S::wr) G s s'->jr prog w led s'.heap S (λ k'=>(firstMet val n).any (· == k')) (firstMet val n).length->R (.ok (.ret .none)) s') ->
   codeAny #[12] A (.builtin "set.update.loop" ⟨[.ref S,.ref I],[]⟩) R s:=by
 have hSw:S∉wr:=λ h=>hSf (W.sub _ h);have hsub:∀ b∈wr,b∈S::wr:=λ b hb=>Pn _ hb;intro k
 induction k with
 | zero =>
  intro i s hk hi hst hS hR;have hin:i=n:=by omega
  subst hin;refine Rf F.entry_set_update_loop ?_;rw[Q5 SA _];show wpAny _ A.in1 (pyNext (.ref I) >>= _) _ _ s;refine Ph (W.done s _ _ hst λ s' hm=>?_);exact Po (hR s' (hm.mono hsub) (hS.keep λ o ho=>hm.heap S _ hSw ho))
 | succ k ih =>
  intro i s hk hi hst hS hR;have hlt:i<n:=by omega
  refine Rf F.entry_set_update_loop ?_;rw[Q5 SA _];show wpAny _ A.in1 (pyNext (.ref I) >>= _) _ _ s;refine Ph (W.item i s _ _ hlt hst λ v s' hP hst' hm=>?_);obtain⟨t,rfl⟩:=hval i v hP;have hS':=hS.keep (h':=s'.heap) λ o ho=>hm.heap S _ hSw ho;show wpAny _ A.in1 (holding [Value.int (val i) t] (setAdd S (.int (val i) t)) >>= _) _ _ s';refine Ph (QV ?_);unfold setAdd;refine QV (Ph ((intKind prog w).pyHash (k:=val i) (intKind_is _ _ _ _) ?_));have hroom:(firstMet val i).length+1<scanBound:=by have:=firstMet_length_le val i;omega
  refine Nh (s:={ s' with toks:=s'.toks+1 }) (intKind_is _ _ _ _) rfl hS' hroom λ h' hsb hS2=>?_;have hSi:jr prog w led h' S (λ k'=>(firstMet val (i+1)).any (· == k')) (firstMet val (i+1)).length:=hS2.congr (λ k'=>by rw[firstMet_succ,step_any]) (by rw[firstMet_succ,step_length]);refine Po ⟨So SA _,ih (i+1) _ #[1] hlt (W.frame _ s' _ _ hst' (Rl _) λ b hb o e=>?_) hSi λ s'' hm'' hS''=>?_⟩
  ·rw[hsb.2 b (λ h:b=S=>hSf (by rw[<-h];exact hb))];exact e
  ·refine hR s'' (Moved.trans W.gtrans ((hm.mono hsub).then_heap (Rl _) λ b o hb e=>?_) hm'') hS'';rw[hsb.2 b (λ h:b=S=>hb (by rw[h];exact Pp))];exact e
end
variable {T a:Addr}{A:Around}{es:Array (Int×Value)}{h:Heap}{S':Int->Bool}{ep i n slot:Nat}{o:Obj}{Q:#[131]}{prog:#[84]}{s:Shared}{x:Value}{E:#[4]}{w:World}
def tR (w:World):Bool:=!w.params.followText "set-order"
abbrev Di (w:World):Obj:=⟨.type "set",none,.set #[] 0 (.fresh 0 0 (tR w)),#[]⟩
section
def Ni (a:Value){R:#[4]}(h:R #[42] { s with heap:=s.heap.push (Di w) }):codeAny #[12] A (.call (.builtin "set.__new__") ⟨[.type "set",a],[]⟩) (wants R E) s:=by
 have self:=sub_set_self;refine codeAny_of_tree (Ph (Tc (F.newCall_set_1 a) (Po ⟨So F.plain_set_new _,Rf F.entry_set_new ?_⟩)));rw[Q5 F.plain_set_new _];unfold Builtin.«set.__new__» Builtin.Frozenset.newClass;cases s;dsimp only
 wp_walk
 exact wpAny_askSetting (Po (Ph (wpAny_alloc (Po (Po h)))))
abbrev Made (prog:#[84])(w:World)(s:Shared)(ns:#[6])(n:Nat)(S:Addr)(s':Shared):Prop:=∃ h' tk,s'={ s with heap:=h',toks:=tk }/\jr prog w (tR w) h' S (λ k=>(firstMet (λ i=>ns.getD i 0) n).any (· == k)) (firstMet (λ i=>ns.getD i 0) n).length/\∀ b o,b≠S->s.heap.get? b=some o->h'.get? b=some o
def Ly {l S:Addr}{items:#[132]}{ns:#[6]}(hh:A.handled=none)(hl:s.heap.IsList l items)(hi:IntsAre items.toList ns)(hb:items.size+1<scanBound)(hS:s.heap.get? S=some (Di w))(ne:l≠S) :
  codeAny #[12] A (.call (.builtin "set.__init__") ⟨[.ref S,.ref l],[]⟩) (wants (λ r s'=>r=.none/\Made prog w s ns items.size S s') E) s:=by
 have hT:s.TypeIs (.ref S) "set" :=⟨_,hS,rfl⟩;refine codeAny_call_builtin F.called_set.init.plain F.entry_set_init (check_set_init_1 hT ?_);obtain⟨⟨c,dc,dt,sl⟩,g1,g2,n,g3⟩:=id hl;simp only at g2 g3;subst g2 g3;have x1:=F.sub_list_set;have x2:=F.sub_list_frozenset;have x3:(Value.type "list" == Value.type "dict")=false:=by decide
 unfold Builtin.«set.__init__» noKeywords Builtin.Frozenset.updateFrom;generalize hI:pyIter=It
 wp_walk
 subst hI;refine Uj hl (Ph (wpAny_runValue ?_));have lS:S<s.heap.objs.size:=Px hS;have ll:l<s.heap.objs.size:=Px g1;refine Lx (led:=tR w) ((Walks.list (by simp[hh]) _ l (PY ll) items).toS) S (by simp[PY lS,ne.symm]) (λ i=>ns.getD i 0) (λ i v e=>IntsAre.int_at hi i v (by rw[Qp];exact e)) hb (items.size-0) 0 _ #[1] (QY _)
  ⟨⟨_,Pu _ rfl,rfl,rfl⟩,hl.push _⟩ ((Ir (tR w) (Pj _ hS)).congr (λ _=>rfl) rfl) ?_
 rintro⟨h',g',d',tk',os'⟩ hm hG;have e1:g'=s.gens:=hm.gens;have e2:d'=s.drawn:=hm.drawn;have e3:os'=s.os:=hm.os;subst e1 e2 e3;refine Po (Po ⟨rfl,h',tk',rfl,hG,λ b o nb e=>hm.heap b o ?_ (Pj _ e)⟩);simp[nb,PY (Px e)]
def Ao {l:Addr}{items:#[132]}{ns:#[6]}{Q:#[4]}(hh:A.handled=none)(hl:s.heap.IsList l items)(hi:IntsAre items.toList ns)(hb:items.size+1<scanBound)
  (h:∀ (h':Heap) (tk:Nat),jr prog w (tR w) h' s.heap.objs.size (λ k=>(firstMet (λ i=>ns.getD i 0) items.size).any (· == k)) (firstMet (λ i=>ns.getD i 0) items.size).length->(∀ b o,b<s.heap.objs.size->s.heap.get? b=some o->h'.get? b=some o)->Q #[42] { s with heap:=h',toks:=tk }) :
  wpAny #[12] A (call (.type "set") [.ref l]) Q E s:=by
 have T:=F.called_set;obtain⟨m1,m2,m3⟩:=T.mro;have m4:=T.made;have m5:=T.sub;have m6:=T.notType;have m7:=T.canCreate;have m8:=F.typeCall_set_1 (.ref l);refine TM (codeAny_of_tree (Po ⟨Code.quiet_builtin _ #[30],Rf F.entry_type_call ?_⟩));rw[Around.under_plain (weight_type_call_type "set" [.ref l] []) rfl]
 repeat (any_goals (first|assumption|wp_step))
 refine Sd (Ni (.ref l) (E:=E) (R:=λ x s'=>x=.ref s.heap.objs.size/\s'={ s with heap:=s.heap.push (Di w) }) ⟨rfl,rfl⟩) λ r1 s1 q1=>?_;rcases r1 with e|fl
 ·exact q1
 cases fl with
 | ret x =>
  obtain⟨rfl,rfl⟩:=q1;have gS:(s.heap.push (Di w)).get? s.heap.objs.size=some (Di w):=Pu _ rfl;have y1:=T.init.lookup;have y2:=T.init.bind #[42];have y3:Shared.TypeIs { s with heap:=s.heap.push (Di w) } #[42] "set" :=⟨_,gS,rfl⟩
  repeat (any_goals (first|assumption|wp_step))
  obtain⟨ol,g1,_⟩:=id hl;refine Sd (Ly (E:=E) (ns:=ns) (by simp[hh]) (hl.push _) hi hb gS (PY (Px g1))) λ r2 s2 q2=>?_;rcases r2 with e|fl
  ·exact q2
  cases fl with
  | ret x =>
   obtain⟨rfl,h',tk,rfl,hG,hk⟩:=q2
   repeat (any_goals (first|assumption|wp_step))
   exact h _ _ hG λ b o lb e=>hk b o (PY lb) (Pj _ e)
  |_=>exact q2.elim
 |_=>exact q1.elim
end
def rQ:entryFor table "set.__iter__" = some Builtin.«frozenset.__iter__» :=
 entryFor_alias (id':="frozenset.__iter__") (by kernel_rfl) rfl #[30] (by kernel_rfl)
def bT:Slot "set_iterator" "__next__" "set_iterator.__next__" :=
 .of (owner:="set_iterator") (n:="__next__") (by rw[typeLookup_type,SQ];kernel_rfl) #[30] #[30] #[30]
  (by first|exact .inl #[30]|exact .inr #[30]) (by rw[T7];kernel_rfl)
def gO:entryFor table "set_iterator.__next__" = some Builtin.«set_iterator.__next__» :=SY (by kernel_rfl)
def iG (a:Value):argsOk "set_iterator.__next__" ⟨[a],[]⟩:=by unfold argsOk;kernel_rfl
section
def iR {α:Type}:∀ (l:List α) (i:Nat) (h:i<l.length),(l[i]::l.eraseIdx i).Perm l
 |[],i,h=>absurd h (RK _)
 |a::l,0,_=>QO _
 | a::l,i+1,h=>by
  have hi:i<l.length:=by simpa using h
  have ih:=iR l i hi;show(l[i]::a::l.eraseIdx i).Perm (a::l);exact(List.Perm.swap a l[i] _).trans (List.Perm.cons a ih)
def Aq {M:Model}{src:Source}{Q:Nat->Shared->Prop}(hn:n≠0)(h:∀ (i:Nat) d,i<n->Q i { s with drawn:=d }):wpAny M A (choose src n) Q E s:=λ Γ p hΓ=>
 ⟨hn,h _ _ (Nat.mod_lt _ (Nat.pos_of_ne_zero hn))⟩
def yh {M:Model}{α:Type}:∀ (n:Nat) (xs:List α) (s:Shared) (Q:List α->Shared->Prop),xs.length=n->(∀ ys d,ys.Perm xs->Q ys { s with drawn:=d })->wpAny M A (drawOrder n xs) Q E s
 | 0,xs,s,Q,hl,h=>by
  have e:xs=[]:=Rq.mp hl;subst e;unfold drawOrder;have:=h [] s.drawn (QO _);exact Po this
 |n+1,[],s,Q,hl,h=>by simp at hl
 | n+1,x::r,s,Q,hl,h=>by
  unfold drawOrder;refine Ph (Aq #[25] λ i d hi=>?_);have hg:(x::r)[i]?=some ((x::r)[i]):=Pr hi;simp only[hg];refine Ph (yh n ((x::r).eraseIdx i) _ _ (by rw[T8 hi,hl];rfl) λ ys d' hp=>?_);exact Po (h _ d' ((List.Perm.cons _ hp).trans (iR _ _ hi)))
def BJ {α:Type}(next:Nat->Nat):∀ (fuel k:Nat) (left:List α) (out:Array α),left.length=fuel->∃ l:List α,l.Perm left/\(pickOrder.go next fuel k left out).toList=out.toList++l
 | 0,k,left,out,hl=>by
  have e:left=[]:=Rq.mp hl;subst e;exact⟨[],QO _,by unfold pickOrder.go;simp⟩
 | fuel+1,k,left,out,hl=>by
  have hpos:0<left.length:=by omega
  have hi:next k%left.length<left.length:=Nat.mod_lt _ hpos
  have hg:left[next k%left.length]?=some (left[next k%left.length]):=Pr hi;obtain⟨l,hp,e⟩:=BJ next fuel (k+1) (left.eraseIdx (next k%left.length)) (out.push (left[next k%left.length])) (by rw[T8 hi,hl];rfl)
  refine⟨left[next k%left.length]::l,(List.Perm.cons _ hp).trans (iR _ _ hi),?_⟩;unfold pickOrder.go;rw[hg];show(pickOrder.go next fuel (k+1) (left.eraseIdx (next k%left.length)) (out.push (left[next k%left.length]))).toList=_;rw[e,Array.toList_push,Qn];rfl
def pI {α:Type}(next:Nat->Nat)(xs:Array α):(pickOrder next xs).toList.Perm xs.toList:=by
 obtain⟨l,hp,e⟩:=BJ next xs.size 0 xs.toList #[] #[25]
 unfold pickOrder;rw[e];simpa using hp
variable {it:Addr}{t:SetTable}
def oj {M:Model}{Q:Bool->Shared->Prop}(h:Q (M.w.params.followText "set-order") s):wpAny M A setsByText Q E s:=by
 unfold setsByText;exact Ph (wpAny_askSetting (Po h))
def Ft (hby:w.params.followText "set-order" = true)(ho:s.heap.get? a=some o)(hd:#[101])(hf:t.fits es.size=true){Q:Option (Value×Nat)->Shared->Prop}
  (h:Q (((pickOrder (w.params.setOrder a ep) es)[i]?).map λ e=>(e.2,slot)) s):wpAny #[12] A (setNext a slot i ep) Q E s:=by
 unfold setNext;refine Ph (Rr ho hd hf ?_);dsimp only;refine Ph (oj ?_);rw[show#[12].w.params.followText "set-order" = true from hby];simp only[↓reduceIte,QR,Qc];refine Ph ?_;unfold setWalk;refine Ph (Rr ho hd hf ?_);dsimp only;refine Ph (oj ?_);rw[show#[12].w.params.followText "set-order" = true from hby];simp only[↓reduceIte];exact Ph (wpAny_askSetting (Po (Po h)))
def Fv (hby:w.params.followText "set-order" = false)(hdr:(!t.plain&&decide (es.size>1))=false)(hled:t.led=true)(ho:s.heap.get? a=some o)(hd:#[101])(hf:t.fits es.size=true){Q:Option (Value×Nat)->Shared->Prop}
  (h:Q (match es[SetTable.below t.place slot]?,t.place[SetTable.below t.place slot]? with|some (_,x),some j=>some (x,j+1)|_,_=>none) s):wpAny #[12] A (setNext a slot i ep) Q E s:=by
 unfold setNext;refine Ph (Rr ho hd hf ?_);dsimp only;refine Ph (oj ?_);rw[show#[12].w.params.followText "set-order" = false from hby];simp only[Qc,↓reduceIte];split
 ·rename_i hx;have hx':(!t.plain&&decide (es.size>1))=true:=hx;rw[hdr]at hx';cases hx'
 ·refine Ph ?_;show wpAny _ _ (if (!t.led && !es.isEmpty)=true then unsupported "set:maker-not-led" else pure ()) _ _ _;rw[hled,PL #[25]];exact Po (Po h)
abbrev rP (first:Value)(i:Nat)(a:Addr)(n ep:Nat):Obj:={ cls:=.type "set_iterator",dict:=none,data:=.fields #[first,.int i 0,.ref a,.int n 0,.int ep 0],slots:=#[] }
def uN {nx:Nat}(hit:s.heap.get? it=some (rP (.int slot 0) i a es.size ep))(ho:s.heap.get? a=some o)(hd:#[101])(hf:t.fits es.size=true)
  (hn:∀ (A':Around) (E':#[4]) (Q':Option (Value×Nat)->Shared->Prop),Q' (some (x,nx)) s->wpAny #[12] A' (setNext a slot i ep) Q' E' s)
  (hQ:∀ h',h'.get? it=some (rP (.int nx 0) (i+1) a es.size ep)->Heap.SameBut it s.heap h'->Q (some x) { s with heap:=h' }):wpAny #[12] A (pyNext (.ref it)) Q E s:=by
 have hT:s.TypeIs (.ref it) "set_iterator" :=⟨_,hit,rfl⟩;unfold pyNext;refine Ph #[93];unfold Builtin.«set_iterator.__next__» slotArgs;simp only[Si,R4,Qc,↓reduceIte,Q2,QR];refine Ph (Po ?_);dsimp only;refine Ph (T9 hit rfl ?_);dsimp only;refine Ph (RU ho hd hf ?_);simp only[QR,Qc,↓reduceIte];rw[Qm,Qm,Qm];refine Ph (hn _ _ _ ?_);dsimp only;refine Ph (Qa hit #[25] λ h1 e1 sb1=>?_);refine Ph (Qa (s:={ s with heap:=h1 }) e1 #[25] λ h2 e2 sb2=>?_);refine Po ⟨_,rfl,Po (hQ h2 ?_ (sb1.trans sb2))⟩;rw[e2];simp[rawInt,rP]
def kH:isSubtype (.type "StopIteration") (.type "StopIteration")=pure true:=by rw[T7];kernel_rfl
def uM(hh:A.handled=none)(hit:s.heap.get? it=some (rP (.int slot 0) i a es.size ep))(ho:s.heap.get? a=some o)(hd:#[101])(hf:t.fits es.size=true)
  (hn:∀ (A':Around) (E':#[4]) (Q':Option (Value×Nat)->Shared->Prop),Q' none s->wpAny #[12] A' (setNext a slot i ep) Q' E' s)
  (hQ:∀ h',Heap.ExtBut it s.heap h'->Q none { s with heap:=h' }):wpAny #[12] A (pyNext (.ref it)) Q E s:=by
 have hT:s.TypeIs (.ref it) "set_iterator" :=⟨_,hit,rfl⟩;unfold pyNext;refine Ph #[93];unfold Builtin.«set_iterator.__next__» slotArgs;simp only[Si,R4,Qc,↓reduceIte,Q2,QR];refine Ph (Po ?_);dsimp only;refine Ph (T9 hit rfl ?_);dsimp only;refine Ph (RU ho hd hf ?_);simp only[QR,Qc,↓reduceIte];rw[Qm,Qm,Qm];refine Ph (hn _ _ _ ?_);dsimp only;refine Ph (RC hit rfl #[25] ?_);show wpAny _ _ (newExc (.type "StopIteration") [] >>= _) _ _ _;refine Ph ?_;simp only[newExc,newTuple];refine Ph (Qk ?_ (by size_fits));refine Ph (m:=firstArgMember _ _) #[96];refine Qk ?_ (by size_fits);simp only[raiseNew];refine Ph (S8 ?_);rw[show A.in1.handled=none from hh];refine Ph (Po (Ug ?_));refine Ph (Rz (T:="StopIteration") (b:=true) ⟨_,Pu _ rfl,rfl⟩ kH ?_);exact Po (hQ _ (((Q9 ..).extBut.push _).push _))
def Dj {p:Nat}{ps:#[132]}(hit:s.heap.get? it=some (rP (.ref T) i a es.size ep))(ho:s.heap.get? a=some o)(hd:#[101])(hf:t.fits es.size=true)
  (hp:s.heap.IsTuple T ps) (hpi:ps[i]?=some (.int p 0)) (hx:(es[p]?).map (·.2)=some x)
  (hQ:∀ h',h'.get? it=some (rP (.ref T) (i+1) a es.size ep)->Heap.SameBut it s.heap h'->Q (some x) { s with heap:=h' }):wpAny #[12] A (pyNext (.ref it)) Q E s:=by
 have hT:s.TypeIs (.ref it) "set_iterator" :=⟨_,hit,rfl⟩;obtain⟨ot,hot,_,nt,hdt⟩:=hp;unfold pyNext;refine Ph #[93];unfold Builtin.«set_iterator.__next__» slotArgs;simp only[Si,R4,Qc,↓reduceIte,Q2,QR];refine Ph (Po ?_);dsimp only;refine Ph (T9 hit rfl ?_);dsimp only;refine Ph (RU ho hd hf ?_);simp only[QR,Qc,↓reduceIte];refine Ph (Q7 hot hdt ?_);dsimp only;rw[Qm,hpi];dsimp only;rw[Qm,Qm];refine Ph ?_;unfold setNextDrawn;refine Ph (Rr ho hd hf ?_);simp only[QR,Qc,↓reduceIte];cases he:es[p]? with
 |none=>rw[he]at hx;cases hx
 | some e =>
  rw[he]at hx;simp only[Ss,SK]at hx;subst hx;dsimp only;refine Po ?_;refine Ph (Qa hit #[25] λ h1 e1 sb1=>?_);refine Po ⟨_,rfl,Po (hQ h1 ?_ sb1)⟩;rw[e1];simp[rawInt,rP]
def Dk{ps:#[132]}(hh:A.handled=none)(hit:s.heap.get? it=some (rP (.ref T) i a es.size ep))(ho:s.heap.get? a=some o)(hd:#[101])(hf:t.fits es.size=true)
  (hp:s.heap.IsTuple T ps) (hpi:ps[i]?=none)
  (hQ:∀ h',Heap.ExtBut it s.heap h'->Q none { s with heap:=h' }):wpAny #[12] A (pyNext (.ref it)) Q E s:=by
 have hT:s.TypeIs (.ref it) "set_iterator" :=⟨_,hit,rfl⟩;obtain⟨ot,hot,_,nt,hdt⟩:=hp;unfold pyNext;refine Ph #[93];unfold Builtin.«set_iterator.__next__» slotArgs;simp only[Si,R4,Qc,↓reduceIte,Q2,QR];refine Ph (Po ?_);dsimp only;refine Ph (T9 hit rfl ?_);dsimp only;refine Ph (RU ho hd hf ?_);simp only[QR,Qc,↓reduceIte];refine Ph (Q7 hot hdt ?_);dsimp only;rw[Qm,hpi];dsimp only;refine Ph (Qa hit #[25] λ h1 e1 sb1=>?_);refine Ph (RC (s:={ s with heap:=h1 }) e1 rfl #[25] ?_);show wpAny _ _ (newExc (.type "StopIteration") [] >>= _) _ _ _;refine Ph ?_;simp only[newExc,newTuple];refine Ph (Qk ?_ (by size_fits));refine Ph (m:=firstArgMember _ _) #[96];refine Qk ?_ (by size_fits);simp only[raiseNew];refine Ph (S8 ?_);rw[show A.in1.handled=none from hh];refine Ph (Po (Ug ?_));refine Ph (Rz (T:="StopIteration") (b:=true) ⟨_,Pu _ rfl,rfl⟩ kH ?_);exact Po (hQ _ (((sb1.trans (Q9 ..)).extBut.push _).push _))
end
def om:Slot "set_iterator" "__iter__" "set_iterator.__iter__" :=
 .of (owner:="set_iterator") (n:="__iter__") (by rw[typeLookup_type,SQ];kernel_rfl) #[30] #[30] #[30]
  (by first|exact .inl #[30]|exact .inr #[30]) (by rw[T7];kernel_rfl)
def tS:entryFor table "set_iterator.__iter__" = some Builtin.«dict_keyiterator.__iter__» :=entryFor_alias (id':="dict_keyiterator.__iter__") (by kernel_rfl) rfl #[30] (by kernel_rfl)
def we (a:Value):argsOk "set_iterator.__iter__" ⟨[a],[]⟩:=by unfold argsOk;kernel_rfl
section
variable{I:Addr}{t:SetTable}
def wc {h:s.TypeIs (.ref I) "set_iterator"}{Q:#[4]}(hQ:Q (.ref I) s):wpAny #[12] A (pyIter (.ref I)) Q E s:=by
 refine SJ h om (Qg om h tS ?_ (we _));show wpAny _ _ (ret (.ref I)) _ _ s;exact Po ⟨_,rfl,"set_iterator",_,h,bT.lookup,hQ⟩
def LB (hby:w.params.followText "set-order" = true)(hh:A.handled=none)(hne:a≠I)(hd:#[101])(hf:t.fits es.size=true) :
  Walks prog w A I [I,a] [I] es.size (λ i v=>((pickOrder (w.params.setOrder a ep) es).toList.map (·.2))[i]?=some v) (λ i h=>h.get? I=some (rP (.int (0:Nat) 0) i a es.size ep)/\h.get? a=some o) where
 sub:=λ b hb=>by simp at hb;simp[hb]
 frame:=λ _ _ _ st hk=>⟨hk I #[25] _ st.1,hk a #[25] _ st.2⟩
 item:=λ i s Q E hi st hQ=>by
  have hl:=(pI (w.params.setOrder a ep) es).length_eq;simp only[PZ]at hl;have hg:(pickOrder (w.params.setOrder a ep) es)[i]?=some ((pickOrder (w.params.setOrder a ep) es)[i]'#[1]):=PX _;refine uN (slot:=0) (nx:=0) (x:=((pickOrder (w.params.setOrder a ep) es)[i]'#[1]).2) st.1 st.2 hd hf (λ A' E' Q' q=>Ft hby st.2 hd hf (by rw[hg];exact q)) λ h' e1 sb=>?_;refine hQ _ h' s.toks ?_ ⟨e1,?_⟩ λ b o' hb e=>?_
  ·rw[P0,Qp,hg];rfl
  ·rw[sb.2 a hne];exact st.2
  ·rw[sb.2 b #[137]];exact e
 done:=λ s Q E st hQ=>by
  have hl:=(pI (w.params.setOrder a ep) es).length_eq;simp only[PZ]at hl;refine uM (slot:=0) hh st.1 st.2 hd hf (λ A' E' Q' q=>Ft hby st.2 hd hf (by rw[Rw #[1]];exact q)) λ h' he=>?_;exact hQ h' s.toks λ b o hb e=>he b o (λ h=>hb (by simp[h])) e
 self:=λ _ s _ _ st hQ=>wc (h:=⟨_,st.1,rfl⟩) hQ
def p6 (t:SetTable):Nat->Nat
 |0=>0
 |i+1=>t.place.getD i 0+1
def rR (hr:wb t.place):∀ i,i<=t.place.size->SetTable.below t.place (p6 t i)=i
 | 0,_=>by
  obtain⟨h1,h2,h3⟩:=nj hr 0;show SetTable.below t.place 0=0;rcases Nat.eq_zero_or_pos (SetTable.below t.place 0) with z|z
  ·exact z
  ·have:=h2 0 _ (PX #[1]) z;omega
 | i+1,hi=>by
  have hg:t.place[i]?=some (t.place[i]'#[1]):=PX _;have hgd:t.place.getD i 0=t.place[i]'#[1]:=by rw[Qv,hg];rfl
  obtain⟨h1,h2,h3⟩:=nj hr (p6 t (i+1));have es:p6 t (i+1)=t.place[i]'#[1]+1:=by show t.place.getD i 0+1=_;rw[hgd]
  rw[es]at h1 h2 h3 ⊢;rcases RO (SetTable.below t.place (t.place[i]'#[1]+1)) (i+1) with z|z|z
  ·have:=h3 i _ hg #[1];omega
  ·exact z
  ·have hg':t.place[i+1]?=some (t.place[i+1]'#[1]):=PX _;have l:=h2 (i+1) _ hg' z;have r:=qD hr hg hg' #[1];omega
def Lz (hby:w.params.followText "set-order" = false)(hdr:(!t.plain&&decide (es.size>1))=false)(g:Good true t)(hh:A.handled=none)(hne:a≠I)(hd:#[101])(hf:t.fits es.size=true) :
  Walks prog w A I [I,a] [I] es.size (λ i v=>(es.toList.map (·.2))[i]?=some v) (λ i h=>i<=es.size/\h.get? I=some (rP (.int (p6 t i:Nat) 0) i a es.size ep)/\h.get? a=some o) where
 sub:=λ b hb=>by simp at hb;simp[hb]
 frame:=λ _ _ _ st hk=>⟨st.1,hk I #[25] _ st.2.1,hk a #[25] _ st.2.2⟩
 item:=λ i s Q E hi st hQ=>by
  have hp:t.place.size=es.size:=by
   unfold SetTable.fits at hf;simp only[Ql,Q6]at hf;exact hf.1
  have hb:=rR g.rise i #[1];have hg:es[i]?=some (es[i]'hi):=PX _;have hgp:t.place[i]?=some (t.place[i]'#[1]):=PX _;have hgd:t.place.getD i 0=t.place[i]'#[1]:=by rw[Qv,hgp];rfl
  refine uN (slot:=p6 t i) (nx:=p6 t (i+1)) (x:=(es[i]'hi).2) st.2.1 st.2.2 hd hf (λ A' E' Q' q=>Fv hby hdr g.led st.2.2 hd hf (by
   rw[hb,hg,hgp];have:p6 t (i+1)=t.place[i]'#[1]+1:=by show t.place.getD i 0+1=_;rw[hgd]
   rw[this]at q;exact q)) λ h' e1 sb=>?_
  refine hQ _ h' s.toks ?_ ⟨hi,e1,?_⟩ λ b o' hb e=>?_
  ·rw[P0,Qp,hg];rfl
  ·rw[sb.2 a hne];exact st.2.2
  ·rw[sb.2 b #[137]];exact e
 done:=λ s Q E st hQ=>by
  have hp:t.place.size=es.size:=by
   unfold SetTable.fits at hf;simp only[Ql,Q6]at hf;exact hf.1
  have hb:=rR g.rise es.size #[1];refine uM (slot:=p6 t es.size) hh st.2.1 st.2.2 hd hf (λ A' E' Q' q=>Fv hby hdr g.led st.2.2 hd hf (by rw[hb,Rw (Py _)];exact q)) λ h' he=>?_;exact hQ h' s.toks λ b o hb e=>he b o (λ h=>hb (by simp[h])) e
 self:=λ _ s _ _ st hQ=>wc (h:=⟨_,st.2.1,rfl⟩) hQ
def Iu (es:Array (Int×Value))(ps:#[31]):List Value:=ps.map λ p=>((es[p]?).map (·.2)).getD .none
def LA{ps:#[31]}(hps:ps.Perm (List.range es.size))(hh:A.handled=none)(hne:a≠I)(hnT:T≠I)(hd:#[101])(hf:t.fits es.size=true) :
  Walks prog w A I [I,a,T] [I] es.size (λ i v=>(Iu es ps)[i]?=some v) (λ i h=>h.get? I=some (rP (.ref T) i a es.size ep)/\h.get? a=some o/\h.IsTuple T (ps.map λ p:Nat=>Value.int p 0).toArray) where
 sub:=λ b hb=>by simp at hb;simp[hb]
 frame:=λ _ _ _ st hk=>⟨hk I #[25] _ st.1,hk a #[25] _ st.2.1,st.2.2.at λ o e=>hk T #[25] o e⟩
 item:=λ i s Q E hi st hQ=>by
  have hl:ps.length=es.size:=by rw[hps.length_eq,Qd]
  have hpi:ps[i]?=some (ps[i]'#[1]):=Pr _;have hpm:ps[i]'#[1]<es.size:=P7.mp (hps.mem_iff.mp (Sg _));have hg:es[ps[i]'#[1]]?=some (es[ps[i]'#[1]]'hpm):=PX _;refine Dj (p:=ps[i]'#[1]) (x:=(es[ps[i]'#[1]]'hpm).2) st.1 st.2.1 hd hf st.2.2 (by rw[<-Qp,List.toList_toArray,P0,hpi];rfl) (by rw[hg];rfl) λ h' e1 sb=>?_;refine hQ _ h' s.toks ?_ ⟨e1,?_,?_⟩ λ b o' hb e=>?_
  ·unfold Iu;rw[P0,hpi,Ss,hg];rfl
  ·rw[sb.2 a hne];exact st.2.1
  ·exact st.2.2.at λ o e=>by rw[sb.2 T hnT];exact e
  ·rw[sb.2 b #[137]];exact e
 done:=λ s Q E st hQ=>by
  have hl:ps.length=es.size:=by rw[hps.length_eq,Qd]
  refine Dk hh st.1 st.2.1 hd hf st.2.2 (by rw[<-Qp,List.toList_toArray,Qy (by rw[Pk];omega)]) λ h' he=>?_;exact hQ h' s.toks λ b o hb e=>he b o (λ h=>hb (by simp[h])) e
 self:=λ _ s _ _ st hQ=>wc (h:=⟨_,st.1,rfl⟩) hQ
def Dl {ps:#[31]}(hps:ps.Perm (List.range es.size)):(Iu es ps).Perm (es.toList.map (·.2)):=by
 unfold Iu;refine(hps.map _).trans ?_;refine List.Perm.of_eq ?_;refine RA #[25] λ i h1 h2=>?_;have hi:i<es.size:=by simpa using h1
 simp[hi]
end
def Iv:typeLookup (.type "set") "__len__" = pure (some (.builtin "set.__len__")):=by rw[typeLookup_type,SQ];kernel_rfl
section
variable{t:SetTable}
def LC (ho:s.heap.get? a=some o)(hex:o.ExactSet)(hd:#[101])(hf:t.fits es.size=true)(g:Good (tR w) t)(hb:es.size<scanBound){Q:#[4]}
  (hQ:∀ (I:Addr) (fp:#[8]) (ord:#[22]) (St:Nat->Heap->Prop) (h':Heap) d,(∀ A':Around,A'.handled=none->Walks prog w A' I fp [I] es.size (λ i v=>ord[i]?=some v) St)->ord.Perm (es.toList.map (·.2))->St 0 h' ->
   (∀ b∈fp,b=a\/s.heap.objs.size<=b)->s.heap.objs.size<=I->#[77]->Q (.ref I) { s with heap:=h',drawn:=d }):wpAny (model prog w) A (pyIter (.ref a)) Q E s:=by
 have hT:s.TypeIs (.ref a) "set" :=⟨o,ho,hex.1⟩;have hal:a<s.heap.objs.size:=Px ho;have hsl:sizeLine=16777216:=Qx;refine SJ hT F.slot_set_iter (Qg F.slot_set_iter hT rQ ?_ (F.args_set_iter_1 _));unfold Builtin.«frozenset.__iter__» Builtin.Frozenset.slot0 slotArgs;simp only[Si,R4,Qc,↓reduceIte,bind_assoc,Q2,QR];unfold Builtin.Frozenset.addrOf Builtin.Frozenset.sizeOf;refine Ph (Po ?_);dsimp only;refine Ph (Po ?_);refine Ph (Ph (RU ho hd hf (Po ?_)));refine Ph ?_;unfold setDrawn;refine Ph (Rr ho hd hf ?_);dsimp only;refine Ph (oj (Po ?_));have ep_any:∀ (s1:Shared) (Q':Nat->Shared->Prop),s1.heap.get? a=some o->Q' ep s1->wpAny #[12] A.in1 (setEpoch a) Q' E s1:=λ s1 Q' h1 q=>by
  unfold setEpoch;exact Ph (Rr h1 hd hf (Po q))
 cases hby:w.params.followText "set-order" with
 | true =>
  rw[show#[12].w.params.followText "set-order" = true from hby];simp only[R4,Bool.false_and,Qc,↓reduceIte];refine Ph (Po ?_);refine Ph (ep_any _ _ ho ?_);refine Ph (Qk (Po ⟨_,rfl,"set_iterator",_,⟨_,Pu _ rfl,rfl⟩,bT.lookup,?_⟩));refine hQ s.heap.objs.size [s.heap.objs.size,a] _ _ _ s.drawn (λ A' hh=>LB (prog:=prog) (I:=s.heap.objs.size) (o:=o) hby hh (PY hal) hd hf) ((pI _ es).map _) ⟨Pu _ rfl,Pj _ ho⟩ (λ b hbm=>?_) (Py _) λ b o e=>Pj _ e;rcases PB.mp hbm with rfl|hbm
  ·exact .inr (Py _)
  ·rcases PB.mp hbm with rfl|hbm
   ·exact .inl rfl
   ·cases hbm
 | false =>
  rw[show#[12].w.params.followText "set-order" = false from hby];have gl:Good true t:=by
   have e:tR w=true:=by unfold tR;rw[hby];rfl
   rw[e]at g;exact g
  cases hdr:(!t.plain&&decide (es.size>1)) with
  | false =>
   refine Su (λ hc=>?_) (λ _=>?_)
   ·have hc':(!false&&(!t.plain&&decide (es.size>1)))=true:=hc;rw[hdr]at hc';cases hc'
   refine Ph (Po ?_);refine Ph (ep_any _ _ ho ?_);refine Ph (Qk (Po ⟨_,rfl,"set_iterator",_,⟨_,Pu _ rfl,rfl⟩,bT.lookup,?_⟩));refine hQ s.heap.objs.size [s.heap.objs.size,a] _ _ _ s.drawn (λ A' hh=>Lz (prog:=prog) (I:=s.heap.objs.size) (o:=o) hby hdr gl hh (PY hal) hd hf) (QO _) ⟨QY _,Pu _ rfl,Pj _ ho⟩ (λ b hbm=>?_) (Py _) λ b o e=>Pj _ e;rcases PB.mp hbm with rfl|hbm
   ·exact .inr (Py _)
   ·rcases PB.mp hbm with rfl|hbm
    ·exact .inl rfl
    ·cases hbm
  | true =>
   refine Su (λ _=>?_) (λ hc=>?_)
   ·refine Ph (yh es.size (List.range es.size) s _ (Qd) λ ps d hps=>?_);have hpl:ps.length=es.size:=by rw[hps.length_eq,Qd]
    simp only[newTuple];refine Ph (Qk ?_ ?_)
    ·refine Ph (ep_any _ _ (Pj _ ho) ?_);refine Ph (Qk (Po ⟨_,rfl,"set_iterator",_,⟨_,Pu _ rfl,rfl⟩,bT.lookup,?_⟩));refine hQ _ [_,a,s.heap.objs.size] _ _ _ d (λ A' hh=>LA (prog:=prog) (w:=w) (o:=o) (T:=s.heap.objs.size) hps hh ?_ ?_ hd hf) (Dl hps) ⟨Pu _ rfl,Pj _ (Pj _ ho),?_⟩ (λ b hbm=>?_) ?_ λ b o e=>Pj _ (Pj _ e)
     ·rw[Qt];exact PY (RM hal)
     ·rw[Qt];exact PY (SX _)
     ·exact⟨_,Pj _ (Pu _ rfl),rfl,0,rfl⟩
     ·rcases PB.mp hbm with rfl|hbm
      ·right;rw[Qt];exact Rl _
      ·rcases PB.mp hbm with rfl|hbm
       ·exact .inl rfl
       ·rcases PB.mp hbm with rfl|hbm
        ·exact .inr (Py _)
        ·cases hbm
     ·rw[Qt];exact Rl _
    ·show(ps.map λ (i:Nat)=>rawInt i).toArray.size<=sizeLine;rw[PK,Pk,hpl];unfold scanBound at hb;omega
   ·exact absurd (show(!false&&(!t.plain&&decide (es.size>1)))=true by rw[hdr];rfl) hc
def Fx (hT:s.TypeIs (.ref a) "set"){Q:Bool->Shared->Prop}(h:Q false s):wpAny #[12] A (Builtin.List.listLengthHint (.ref a)) Q E s:=by
 unfold Builtin.List.listLengthHint;refine Ph (wpAny_specialOf hT Iv ?_);generalize hid:("set.__len__" : String)=id0
 wp_delta
 rw[show splitId id0=some ("set","__len__") from by subst hid;decide +kernel];subst hid;refine Ph (Rz (T:="set") (b:=true) hT (by rw[T7];kernel_rfl) ?_);refine Su (λ hab=>absurd hab #[120]) (λ _=>?_);refine Su (λ _=>?_) (λ hab=>absurd #[30] hab);refine Ph (TF hT ?_);exact Po h
def Fw {ord:#[22]}{acc:#[132]}(h:ItemsOf (λ i v=>ord[i]?=some v) acc n)(hn:ord.length=n):acc.toList=ord:=by
 refine QQ λ i=>?_;rcases Nat.lt_or_ge i n with q|q
 ·have hi:i<acc.size:=by rw[h.1];exact q
  have e:acc[i]?=some acc[i]:=PX hi;rw[Qp,e,h.2 i _ e]
 ·rw[Qy (by rw[PZ,h.1];exact q),Qy #[1]]
def Dm (hh:A.handled=none)(ho:s.heap.get? a=some o)(hex:o.ExactSet)(hd:#[101])(hf:t.fits es.size=true)(g:Good (tR w) t)(hb:es.size<scanBound){Q:List Value->Shared->Prop}
  (hQ:∀ (vs:#[22]) (h':Heap) (tk:Nat) d,vs.Perm (es.toList.map (·.2))->#[77]->s.heap.objs.size<=h'.objs.size->Q vs { s with heap:=h',toks:=tk,drawn:=d }):wpAny #[12] A (collect (.ref a)) Q E s:=by
 have hal:a<s.heap.objs.size:=Px ho;have hn:es.size<=sizeLine:=Uk hb;unfold collect;refine Ph (wpAny_runValue (Rf F.entry_proto_collect ?_));rw[Q5 F.plain_proto_collect _];show wpAny _ A.in1 (newList [] >>= λ l=>again (.builtin "list.__iadd__" ⟨[l,.ref a],[]⟩)) _ _ s;refine Ph (Qk ?_);refine Po ⟨So F.plain_list_iadd _,Rf F.entry_list_iadd ?_⟩;rw[Q5 F.plain_list_iadd _];have ho1:(s.heap.push { cls:=.type "list",data:=.seq ([]:#[22]).toArray }).get? a=some o:=Pj _ ho;show wpAny _ A.in1 (Builtin.List.listExtendWith #[42] (.ref a) #[42]) _ _ _;unfold Builtin.List.listExtendWith;refine Ph (TF (T:="set") ⟨o,ho1,hex.1⟩ ?_);have h1:Builtin.List.listSameRef #[42] (.ref a)=false:=by simp[Builtin.List.listSameRef,Rj hal]
 have h2:(Value.type "set" == Value.type "list")=false:=by decide
 have h3:(Value.type "set" == Value.type "tuple")=false:=by decide
 simp only[h1,h2,h3,Bool.or_false,Qc,RL];refine Ph (LC (s:={ s with heap:=s.heap.push { cls:=.type "list",data:=.seq ([]:#[22]).toArray } }) ho1 hex hd hf g hb λ I fp ord St hp d W hord hst hfp hI kp=>?_);have hS0:hp.get? s.heap.objs.size=some { cls:=.type "list",data:=.seq ([]:#[22]).toArray }:=kp _ _ (Pu _ rfl);have hsz:s.heap.objs.size+1<=I:=by
  have:(s.heap.push { cls:=.type "list",data:=.seq ([]:#[22]).toArray }).objs.size<=I:=hI;rw[Qt]at this;exact this
 refine Ph (QV (Fx ⟨o,kp _ _ ho1,hex.1⟩ ?_));refine Su (λ _=>?_) (λ hc=>absurd #[30] hc);refine Ph (RP ?_);refine Ph ?_;show wpAny _ _ (updateSeq s.heap.objs.size (·.push .none) >>= λ _=>updateSeq s.heap.objs.size (·.pop)) _ _ _;refine Ph (Tq hS0 rfl ?_);have hS₂:=Qu (Obj.mapSeq (·.push Value.none)) hS0 rfl;refine Tq hS₂ rfl ?_;have hS₃:=Qu (Obj.mapSeq (·.pop)) hS₂ rfl;have oth:∀ b o,b≠s.heap.objs.size->hp.get? b=some o->((hp.update s.heap.objs.size (Obj.mapSeq (·.push Value.none))).update s.heap.objs.size (Obj.mapSeq (·.pop))).get? b=some o:=
  λ b o hb e=>(QB _ _ (QK hb)).trans ((QB _ _ (QK hb)).trans e)
 have WS:=(W A.in1 hh).toS;have hSf:s.heap.objs.size∉fp:=λ hm=>by
  rcases hfp _ hm with z|z
  ·exact absurd z (Rj hal)
  ·have z:(s.heap.push { cls:=.type "list",data:=.seq ([]:#[22]).toArray }).objs.size<=s.heap.objs.size:=z;rw[Qt]at z;exact absurd z (Nat.not_succ_le_self _)
 have hol:ord.length=es.size:=by rw[hord.length_eq,Pk,PZ]
 refine Po ⟨So F.plain_extend_loop _,codeAny_extend_loopS WS hn _ hSf _ es.size 0 _ _ _ rfl (QY _)
  (WS.frame 0 ({ s with heap:=hp,drawn:=d }:Shared) _ s.toks hst (Py _) λ b hb o e=>oth b o (λ h=>hSf (h▸hb)) e) hS₃ (ItemsOf.nil _) λ s' acc' c' hm hS' hacc=>?_⟩
 show wpAny _ A (load s.heap.objs.size >>= _) _ _ s';refine Ph (wpAny_load hS' ?_);refine Po ?_;rw[Fw hacc hol];obtain⟨h',g',d',tk',os'⟩:=s';have eg:g'=s.gens:=hm.gens;have ed:d'=d:=hm.drawn;have eo:os'=s.os:=hm.os;subst eg ed eo;refine hQ ord h' tk' _ hord (λ b o' e=>hm.heap b o' (λ z=>?_) (oth b o' (PY (Px e)) (kp b o' (Pj _ e)))) (RY (Px hS'));rcases PB.mp z with z|z
 ·exact absurd z (PY (Px e))
 ·have z:b=I:=by simpa using z
  have l:=Qe (Px e) (R9 hsz);rw[z]at l;exact absurd l (QJ _)
end
def oh:∀ (vs:#[22]),(∀ v∈vs,∃ k t,v=.int k t)->∃ ns:List Int,IntsAre vs ns/\ns.length=vs.length/\∀ k,k∈ns↔∃ t,Value.int k t∈vs
 |[],_=>⟨[],.nil,rfl,λ k=>by simp⟩
 | v::vs,h=>by
  obtain⟨k,t,rfl⟩:=h v Pp;obtain⟨ns,h1,h2,h3⟩:=oh vs λ v hv=>h v (Pn _ hv);refine⟨k::ns,.cons k t h1,by rw[PU,PU,h2],λ k'=>?_⟩;constructor
  ·intro m;rcases PB.mp m with rfl|m
   ·exact⟨t,Pp⟩
   ·obtain⟨t',q⟩:=(h3 k').mp m;exact⟨t',Pn _ q⟩
  ·rintro⟨t',m⟩;rcases PB.mp m with e|m
   ·cases e;exact Pp
   ·exact Pn _ ((h3 k').mpr ⟨t',m⟩)
section
def Fz (hh:A.handled=none){S:Int->Bool}(hS:jr prog w (tR w) s.heap a S n)(h64:n<64){Q:#[4]}
  (h:∀ (out:#[132]) (ns':#[6]) (h':Heap) (tk:Nat) d (q:Addr),IntsAre out.toList ns'->ns'.Pairwise (· <= ·)->(∀ k,k∈ns'↔S k=true)->ns'.length=n->#[77]->s.heap.objs.size<=q ->
   (∃ e,h'.get? q=some (seqObj "list" out e))->Q (.ref q) { s with heap:=h',toks:=tk,drawn:=d }) :
  wpAny #[12] A (call (.builtin "sorted") [.ref a]) Q E s:=by
 obtain⟨o,es,ep,t,ho,hex,hd,hel,hmem,hb,hf,hn,g⟩:=hS;refine Calls.call_function_entry kind_sorted plain_sorted entry_sorted (args_sorted1 _) ?_;unfold Builtin.«sorted»;refine Ph (m:=checkCount "sorted" 1 1 _) (Po ?_);refine Ph (Dm (A:=A.in1) hh ho hex hd hf g hb λ vs h1 tk d hp kp hsz=>?_);have hvl:vs.length=n:=by rw[hp.length_eq,Pk,PZ,hn]
 obtain⟨ns,hI,hnl,hnm⟩:=oh vs λ v hv=>by
  obtain⟨e,he,rfl⟩:=PF.mp (hp.mem_iff.mp hv);obtain⟨⟨k,hk,_⟩,_⟩:=hel e he;obtain⟨t',q⟩:=Ud hk;exact⟨k,t',q⟩
 refine Ph (wpAny_newList ?_ (by rw[hvl,Qx];omega));have hoL:(h1.push #[70]).get? h1.objs.size=some #[70]:=Pu _ rfl;show wpAny _ _ _ _ _ ({ s with heap:=h1.push #[70],toks:=tk,drawn:=d }:Shared);refine Ph (QV (Qg slot_list_sort ⟨_,hoL,rfl⟩ entry_list_sort (list_sort_tree hoL hI #[1] λ out ns' a1 a2 a3=>⟨_,rfl,?_⟩) (args_list_sort _)));have ge:∀ b o,s.heap.get? b=some o->b<h1.objs.size:=λ b o e=>Px (kp b o e);refine Po ⟨_,rfl,h out ns' _ tk d h1.objs.size a1 a3 (λ k=>?_) (by rw[a2.length_eq,hnl,hvl]) (λ b o e=>?_) ?_ (sortedHeap_at hoL)⟩
 ·rw[a2.mem_iff,hnm,hmem];constructor
  ·rintro⟨t',m⟩;obtain⟨e,he,q⟩:=PF.mp (hp.mem_iff.mp m);exact⟨e,he,by rw[q];exact intKind_is _ _ _ _⟩
  ·rintro⟨e,he,q⟩;obtain⟨t',q⟩:=Ud q;exact⟨t',hp.mem_iff.mpr (PF.mpr ⟨e,he,q⟩)⟩
 ·have hlt:=ge b o e;have hne:b≠h1.objs.size:=PY hlt;have sh:(sortedHeap (h1.push #[70]) h1.objs.size vs out).get? b=(h1.push #[70]).get? b:=sortedHeap_old hne (by rw[size_push'];exact RM hlt);show(sortedHeap (h1.push #[70]) h1.objs.size vs out).get? b=some o;rw[sh];exact Pj _ (kp b o e)
 ·exact hsz
end
end SR
namespace L2
open PySem PySem.Spec PyProof.Rows
def yj:∀ (ns acc:#[6]),acc.Nodup->(ns.foldl step_dedup acc).Nodup
 |[],acc,h=>h
 | x::r,acc,h=>by
  rw[Ux];refine yj r _ ?_;unfold step_dedup;split
  ·exact h
  ·rename_i hx;rw[PJ];refine⟨h,PN.mpr ⟨QE,Qz⟩,λ a ha b hb z=>hx ?_⟩;have e:b=x:=by simpa using hb
   rw[RW];exact⟨a,ha,by rw[z,e];simp⟩
def LD (ns:#[6])(k:Int):(dd ns).any (· == k)=true↔k∈dd ns:=by
 rw[RW];constructor
 ·rintro⟨x,hx,e⟩;have e:x=k:=by simpa using e
  exact e▸hx
 ·intro h;exact⟨k,h,by simp⟩
def BK:∀ (d ks:#[6]),d.Nodup->(∀ k∈d,k∈ks)->ks.length<=d.length->ks.Perm d
 | [],ks,_,_,hl=>by
  have e:ks=[]:=Rq.mp (Nat.le_zero.mp hl);subst e;exact QO _
 | x::r,ks,hn,hm,hl=>by
  have hx:=hm x Pp;have hp:=List.perm_cons_erase hx;have hn':=PN.mp hn;have ih:=BK r (ks.erase x) hn'.2 (λ k hk=>(List.mem_erase_of_ne (λ z:k=x=>hn'.1 (z▸hk))).mpr (hm k (Pn _ hk))) (by
   have:=hp.length_eq;rw[PU]at this hl;omega)
  exact hp.trans (List.Perm.cons x ih)
def Inv.Fy {X:Cx}{pins:#[15]}{σ:L2.St}{H:Hp}{s:Shared}(I:#[5])(d):Inv X pins σ H { s with drawn:=d }:=
 ⟨I.ok,I.os,I.bare,I.base,I.loc,I.cell,I.free,I.gn,I.pin,I.hok,I.len⟩
section
variable {X:Cx}{x y:Str}{p p2 pos pos2:Pos}{e:Expr}{te:TE}
def wg (hc:X.calm=true)(hg:Gl X x)(hm:X.mg x=none)(hv:bootBuiltins x=some (.builtin "sorted"))(hg2:Gl X y)(hm2:X.mg y=none)(hv2:bootBuiltins y=some (.type "set"))(he:PE X e te)
  (hn:x ≠ "__name__" :=by decide) (hdb:#[2]:=by decide) (hn2:y ≠ "__name__" :=by decide) (hdb2:#[113]:=by decide)
  (hst:starEach [.Call (.Name y p2) [e] [] pos2] X.env=(false,eval (.Call (.Name y p2) [e] [] pos2) X.env)::starEach [] X.env:=by rfl) (hst2:#[81]:=by rfl) :
  PE X (.Call (.Name x p) [.Call (.Name y p2) [e] [] pos2] [] pos) (λ σ H Q=>qK te ze σ H λ vs H1=>∃ a ns,vs=[.ref a]/\eQ X.K H1 a (ns.map V.int)/\ns.length<64 /\
   ∀ (q:Addr) (ns':#[6]),H1 q=none->ns'.Perm (dd ns)->ns'.Pairwise (· <= ·)->Q (.ref q) (upd H1 q (.lst (ns'.map V.int)))):=by
 intro pins s σ H Q I h;refine QT (jk I hg hm hv ?_ hn hdb);refine SW (e:=.Call (.Name y p2) [e] [] pos2) (rest:=[]) ?_ hst rfl;rw[hst];show wpAny _ _ (spliced ((false,eval (.Call (.Name y p2) [e] [] pos2) X.env)::[])) _ _ s;refine Sv ?_;refine QT (jk I hg2 hm2 hv2 ?_ hn2 hdb2);refine QL (e:=e) (rest:=[]) (eN (bY he dQ hst2 pos2 pins s σ H _ I h) λ us s1 hq5=>L2.ex5 hq5 λ vs H1 I1 r1 q1=>?_) hst2 rfl;obtain⟨a,ns,rfl,hq,hl,q⟩:=q1;obtain⟨u,rfl,ru⟩:=r1.one;cases ru;obtain⟨its,rv,pl,hz⟩:=I1.list hq;have hlen:=rv.length;rw[Pk]at hlen;have hsz:its.toArray.size=ns.length:=by rw[PK,hlen]
 refine SR.Ao (I1.ok.hd hc) pl.isList (by simpa using intsAre_of rv) (by show its.toArray.size+1<4096;omega) λ h2 tk2 hs2 kp2=>?_;rw[hsz]at hs2;refine SE ?_;have hdl:(dd ns).length<=ns.length:=PyProof.Rows.firstMet_length_le _ _;refine SR.Fz (s:={ s1 with heap:=h2,toks:=tk2 }) (I1.ok.hd hc) hs2 (show(dd ns).length<64 by omega) λ out ns' h3 tk3 d q' a1 a2 a3 a4 k3 g3 a5=>?_;obtain⟨ep,e5⟩:=a5;have hpm:ns'.Perm (dd ns):=BK (dd ns) ns' (yj _ [] Qz) (λ k hk=>(a3 k).mpr ((LD ns k).mpr hk)) (by rw[a4];exact Py _);have hge:s1.heap.objs.size<=q':=by
  obtain⟨o,es,ep',t,ho,_⟩:=hs2;exact QG (RY (Px ho)) g3
 refine⟨.ref q',_,(I1.laid (t':=tk3) (λ b o z=>k3 b o (kp2 b o (Px z) z)) hge ?_).Fy d,rfl,q q' ns' (I1.hok.fresh hge) hpm a2⟩;refine⟨?_,out.toList,ep,lV a1,by rw[Td];exact e5⟩;rw[Pk,a4];exact QG (RY (show(dd ns).length<64 by omega)) #[120]
end
end L2
namespace DL
open PySem PySem.Spec PyProof.Rows L2
section
variable {K:#[0]}{Y:XY}{X:Cx}{pos pos2 p p2:Pos}{e:Expr}{fe:#[28]}{x y:Str}
def rS:D->Res D
 |.lst _ xs=>match intsOf xs with|some ns=>if ns.length<64 then .ok (.lst .own ((sortI (dd ns)).map D.int)) else .bad|none=>.bad
 |_=>.bad
def yi (hc:X.calm=true)(hg:Gl X x)(hm:X.mg x=none)(hv:bootBuiltins x=some (.builtin "sorted"))(hg2:Gl X y)(hm2:X.mg y=none)(hv2:bootBuiltins y=some (.type "set"))(he:#[46])
  (hn:x ≠ "__name__" :=by decide) (hdb:#[2]:=by decide) (hn2:y ≠ "__name__" :=by decide) (hdb2:#[113]:=by decide)
  (hst:starEach [.Call (.Name y p2) [e] [] pos2] X.env=(false,eval (.Call (.Name y p2) [e] [] pos2) X.env)::starEach [] X.env:=by rfl) (hst2:#[81]:=by rfl) :
  PE X (.Call (.Name x p) [.Call (.Name y p2) [e] [] pos2] [] pos) (tM X.K Y (fZ rS fe)):=
 PE.imp (wg hc hg hm hv hg2 hm2 hv2 he hn hdb hn2 hdb2 hst hst2) λ σ H Q hq=>ex8 hq λ H0 B0 B τ P F I h=>tM.seq I h λ d v H1 B1 f _ I1 _ _ r1 k h1=>by
  cases d with
  | lst t xs =>
   obtain⟨a,ws,g,rfl,q,l,s⟩:=r1.lst I1;have h3:Goal X.K Y H0 B0 B1 H1 σ τ P F Q (match intsOf xs with|some ns=>if ns.length<64 then .ok (.lst .own ((sortI (dd ns)).map D.int)) else .bad|none=>.bad):=h1;cases e:intsOf xs with
   |none=>rw[e]at h3;exact h3.elim
   | some ns =>
    rw[e]at h3;simp only at h3;split at h3
    ·rename_i hl;have ex:=iI e;subst ex;obtain⟨rfl,rfl⟩:=iH l;refine⟨a,ns,rfl,gy q,hl,λ p ns' hp h1 h2=>?_⟩;have e2:ns'=sortI (dd ns):=ez (h1.trans (sortI_perm (dd ns)).symm) h2 (fg (dd ns));subst e2;exact Out.zA h3 I1 (lZ _) gm.nil hp
    ·exact h3.elim
  |_=>exact h1.elim
end
end DL
namespace KL
open PySem PySem.Spec PyProof.Rows L2 DL XF
def top (i:Nat):Stmt:=PySem.Challenge.pw_modulewood_k06_tellers.main.body.getD i (.Pass ⟨0,0,0,0⟩)
structure Txt (K:PySem.W.Frag)(mg:Str->Option Value)(ca:Str->Addr):Prop where
 wt:mg "ValueError" = none
 Ar:mg "bool" = none
 yu:mg "enumerate" = none
 JP:mg "int" = none
 aL:mg "isinstance" = none
 mV:mg "len" = none
 wu:mg "list" = none
 FG:mg "max" = none
 JQ:mg "min" = none
 jd:mg "range" = none
 Nj:mg "set" = none
 lI:mg "sorted" = none
 FD:mg "str" = none
 oG:mg "tuple" = none
 JR:mg "zip" = none
 ko:fM K mg "NetError" (ca "NetError") jL
 BP:fM K mg "NoNet" (ca "NoNet") #[50]
 mf:fM K mg "NoPlace" (ca "NoPlace") #[50]
 Ds:nX K (ca "NoPlace")
 qf:fM K mg "SamePlace" (ca "SamePlace") #[50]
 BS:fM K mg "Twice" (ca "Twice") #[50]
 BR:fM K mg "Taken" (ca "Taken") #[50]
 qa:fM K mg "NoColours" (ca "NoColours") #[50]
 qE:fM K mg "NoSet" (ca "NoSet") #[50]
 IB:nX K (ca "NoSet")
 qj:fM K mg "NoParting" (ca "NoParting") #[50]
 uP:fM K mg "NoGroup" (ca "NoGroup") #[50]
 uQ:fM K mg "TooMany" (ca "TooMany") #[50]
 yn:fM K mg "NoDeed" (ca "NoDeed") #[50]
 yq:fM K mg "Unlike" (ca "Unlike") #[50]
 yt:fM K mg "NoText" (ca "NoText") #[50]
 BO:fM K mg "NoRow" (ca "NoRow") #[50]
 yr:fM K mg "NoName" (ca "NoName") #[50]
def leaf (ca:#[87]):List Addr:=[ca "NoPlace",ca "NoSet"]
def k7 (ca:#[87])(x:Str)(C:Addr):Bool:=(Value.ref C :: .ref (ca "NetError")::jL).contains (.ref (ca x))
def yk (ca:#[87])(xs:#[116])(C:Addr):Bool:=xs.any λ x=>k7 ca x C
def BL (ca:#[87])(C:Addr):Bool:=(leaf ca).contains C
section
variable {K:#[0]}{mg:#[11]}{ca:#[87]}
def BN (T:Txt K mg ca):∀ C,(leaf ca).contains C=true->∃ x,fM K mg x C #[50]/\nX K C:=by
 intro C h;unfold leaf at h;simp only[T5,List.contains_nil,Bool.or_false,Bool.or_eq_true,Q6]at h;rcases h with rfl|rfl
 ·exact⟨_,T.mf,T.Ds⟩
 ·exact⟨_,T.qE,T.IB⟩
def hin (T:Txt K mg ca):∀ C,BL ca C=true->∃ nm bm,fM K mg nm C bm/\(Value.ref C::bm).contains (.ref (ca "NetError"))=true:=λ C h=>by
 obtain⟨x,c,_⟩:=BN T C h;exact⟨x,_,c,by simp⟩
def IC (T:Txt K mg ca){y:Str}{D:Addr}{bd:#[22]}(d:fM K mg y D bd):∀ C,(leaf ca).contains C=true->nX K C/\PySem.W.kitOne K (.ref C) (.ref D)=some ((Value.ref C :: .ref (ca "NetError")::jL).contains (.ref D)):=λ C h=>by
 obtain⟨x,c,k⟩:=BN T C h;exact⟨k,Bu c d⟩
def Pc (T:Txt K mg ca):∀ C,(leaf ca).contains C=true->nX K C/\PySem.W.kitOne K (.ref C) (.type "ValueError")=some true:=λ C h=>by
 obtain⟨x,c,k⟩:=BN T C h;exact⟨k,Lo c (by simp[jL])⟩
def Pe (T:Txt K mg ca)(xs:#[116])(hx:∀ x∈xs,∃ bd,fM K mg x (ca x) bd):∀ C,(leaf ca).contains C=true->nX K C/\PySem.W.kitAny K (.ref C) ((xs.map ca).map Value.ref)=some (yk ca xs C):=λ C h=>by
 obtain⟨x,c,k⟩:=BN T C h;refine⟨k,?_⟩
 induction xs with
 |nil=>rfl
 | cons y r ih =>
  obtain⟨bd,d⟩:=hx y Pp;have ih:=ih λ z hz=>hx z (Pn _ hz);have e:=Bu c d;show(match PySem.W.kitOne K (.ref C) (.ref (ca y)) with|some true=>some true|some false=>PySem.W.kitAny K (.ref C) ((r.map ca).map Value.ref)|none=>none)=some (k7 ca y C||yk ca r C);rw[e];cases q:(Value.ref C :: .ref (ca "NetError")::jL).contains (.ref (ca y)) with
  |true=>show some true=some (k7 ca y C||yk ca r C);rw[show k7 ca y C=true from q,Bool.true_or]|false=>show PySem.W.kitAny K (.ref C) ((r.map ca).map Value.ref)=some (k7 ca y C||yk ca r C);rw[show k7 ca y C=false from q,Um,ih]
end
structure Bd where
 P:Program
 w:World
 K:PySem.W.Frag
 mg:Str->Option Value
 base:Heap
 ca:Str->Addr
abbrev TX (b:Bd):=Txt b.K b.mg b.ca
section
variable {b:Bd}
abbrev kL:Stmt:=top 18
def jO:aP ["places","place"] ["places","place"] (av kL):=mL
abbrev kK (K:#[0])(mg:#[11]):=kP K mg "require_place" kL ["places","place"]
def dm (ca:#[87]):SF:=dD (eT (af (inD true) (aa 1) (aa 0))) (vS (ca "NoPlace")) aR
def cS (ca:#[87]):DF:=bM 2 2 (dm ca)
abbrev kJ (b:Bd):=vR b.P b.w b.K b.mg b.base 1 "require_place" ["places","place"] (G4 b.K (cS b.ca))
def pJ (T:TX b)  (F:kK b.K b.mg):kJ b:=l6 (k:=0) (g:=dm b.ca) F jO rfl rfl λ f cdv A outer s H E hr hx=>by
 have nd:=jO.nd;have hu:=cZ hr;exact aw (eE (aS gq (Eg true) (qv 1) (qv 0))
   (aw (Bq hx T.mf rfl rfl))
   (bE))
abbrev mQ:Stmt:=top 19
def lL:aP ["places","some","place"] ["places","some"] (av mQ):=mL
def cH (ca:#[87]):SF:=eG (dU (cS ca) (ae (aa 0) (ae (aa 2) ao)))
abbrev mR (K:#[0])(mg:#[11]):=kP K mg "checked_set" mQ ["places","some"]
def fN (ca:#[87]):SF:=aA (cV [1] (gD (aa 1)) (gN 2) ((cH ca))) (aA (dD (eT (af gW (eA dJ #[74]) #[129])) (vS (ca "NoSet")) aR) (bA (fZ rS (aa 1))))
def aW (ca:#[87]):DF:=bM 2 3 (fN ca)
abbrev gP (b:Bd):=vR b.P b.w b.K b.mg b.base 2 "checked_set" ["places","some"] (G4 b.K (aW b.ca))
def rT (T:TX b)(C_require_place:kJ b)(F:mR b.K b.mg):gP b:=l6 (k:=1) (g:=fN b.ca) F lL rfl rfl λ f cdv A outer s H E hr hx=>by
 have nd:=lL.nd;have hu:=cZ hr;exact ai (jI [1] PassesOwn.leaving rfl (iN (qv 1)) (cK 2 nd)
   (aw (zD (iF hx C_require_place hr (iQ (qv 0) (qv 2))))))
   (ai (eE (aS fu iX (kU eu mF T.mV (kZ (qv 1))) aj)
   (aw (Bq hx T.qE rfl rfl))
   (bE))
   (aw (bV (yi rfl rfl T.lI #[30] rfl T.Nj #[30] (qv 1)))))
abbrev FH:Stmt:=top 21
def BQ:aP ["one","other"] ["one","other"] (av FH):=mL
abbrev FA (K:#[0])(mg:#[11]):=kP K mg "pair" FH ["one","other"]
def FF:SF:=bA (vE (eT (af Ma (aa 0) (aa 1))) (eA gG (ae (aa 0) #[74])) (eA gG (ae (aa 1) (ae (aa 0) ao))))
def wk:DF:=bM 2 2 (FF)
abbrev FE (b:Bd):=mY b.P b.w b.K b.mg b.base 1 "pair" ["one","other"] (jy b.K (wk))
def IA (T:TX b)  (F:FA b.K b.mg):FE b:=bZ (k:=0) (g:=FF) F BQ rfl rfl λ f cdv A outer s H hr=>by
 have nd:=BQ.nd;have hu:=cZ hr;exact aw (bV (Ot (aS Jt MQ (qv 0) (qv 1)) (rA (iQ (qv 0) (qv 1))) (rA (iQ (qv 1) (qv 0)))))
abbrev oB:Stmt:=top 22
def mT:aP ["net","colours","place","row","ahead","tint"] ["net"] (av oB):=mL
def fV:SF:=fL 1 (aE wk (ae (aa 2) (ae (aa 4) ao))) (aa 5)
def dZ:SF:=cV [0,3] (vQ (ae #[35] (ae (aa 3) ao))) (gT 2 (bc 4 (bc 5 dw))) fV
abbrev oE (K:#[0])(mg:#[11]):=kP K mg "colours_of" oB ["net"]
def kj:SF:=aA (aQ 1 (fB true)) (aA (cV [0] (vQ (ae #[35] (ae (af bL (aa 0) #[118]) ao))) (gT 2 (bc 2 (bc 3 dw))) dZ) (c9 1))
def dW:DF:=bM 1 6 (kj)
abbrev oA (b:Bd):=mY b.P b.w b.K b.mg b.base 2 "colours_of" ["net"] (jy b.K (dW))
def tT (T:TX b)(C_pair:FE b)(F:oE b.K b.mg):oA b:=bZ (k:=1) (g:=kj) F mT rfl rfl λ f cdv A outer s H hr=>by
 have nd:=mT.nd;have hu:=cZ hr;exact ai (aM 1 nd HP)
   (ai (jI [0] QF rfl (ES rfl T.JR (iQ (bD (qv 0) aj) (bD (qv 0) aj))) (Bb rfl (i9 (i:=2) nd rfl (by walk_at "l") (i9 (i:=3) nd rfl (by walk_at "l") vH)))
   (aw (jI [0,3] QF rfl (ES rfl T.JR (iQ (bD (qv 0) aj) (qv 3))) (Bb rfl (i9 (i:=4) nd rfl (by walk_at "l") (i9 (i:=5) nd rfl (by walk_at "l") vH)))
   (aw (EI 1 hu (bf C_pair hr (iQ (qv 2) (qv 4))) (qv 5))))))
   (aw (jn 1)))
abbrev qg:Stmt:=top 24
def oJ:aP ["net","sights","place","ends","tint"] ["net"] (av qg):=mL
def eW:SF:=aA (pH 1 (af bL (aa 3) #[129]) (af bL (aa 3) #[118]) (aa 4)) (pH 1 (af bL (aa 3) #[118]) (af bL (aa 3) #[129]) (aa 4))
def iU:SF:=fL 1 (aa 2) (fB false)
abbrev qh (K:#[0])(mg:#[11]):=kP K mg "sights_of" qg ["net"]
def lO:SF:=aA (aQ 1 (fB false)) (aA (cV [0] (gD #[35]) (gN 2) iU) (aA (cV [0] (lG (aE dW (ae (aa 0) ao))) (gT 2 (bc 3 (bc 4 dw))) eW) (c9 1)))
def cz:DF:=bM 1 5 (lO)
abbrev jf (b:Bd):=mY b.P b.w b.K b.mg b.base 3 "sights_of" ["net"] (jy b.K (cz))
def wo (T:TX b)(C_colours_of:oA b)(F:qh b.K b.mg):jf b:=bZ (k:=2) (g:=lO) F oJ rfl rfl λ f cdv A outer s H hr=>by
 have nd:=oJ.nd;have hu:=cZ hr;exact ai (aM 1 nd vL)
   (ai (jI [0] QF rfl (iN (bD (qv 0) aj)) (cK 2 nd)
   (aw (EI 1 hu (qv 2) vL)))
   (ai (jI [0] QF rfl (Ff (bf C_colours_of hr (kZ (qv 0)))) (Bb rfl (i9 (i:=3) nd rfl (by walk_at "l") (i9 (i:=4) nd rfl (by walk_at "l") vH)))
   (ai (BD 1 hu (bD (qv 3) aj) (bD (qv 3) aj) (qv 4) #[111])
   (aw (BD 1 hu (bD (qv 3) aj) (bD (qv 3) aj) (qv 4) #[111]))))
   (aw (jn 1))))
abbrev mU:Stmt:=top 25
def lK:aP ["sight","members","member"] ["sight","members"] (av mU):=mL
def bx:SF:=dD (eT (af mJ (af cQ (aa 0) (aa 2)) (af cQ (aa 0) #[56]))) (c9 2) aR
abbrev mS (K:#[0])(mg:#[11]):=kP K mg "first_apart" mU ["sight","members"]
def gQ:SF:=aA (cV [1] (gD (aa 1)) (gN 2) bx) (bA (eC .a8))
def dF:DF:=bM 2 3 (gQ)
abbrev mP (b:Bd):=mY b.P b.w b.K b.mg b.base 1 "first_apart" ["sight","members"] (jy b.K (dF))
def rZ (T:TX b)  (F:mS b.K b.mg):mP b:=bZ (k:=0) (g:=gQ) F lK rfl rfl λ f cdv A outer s H hr=>by
 have nd:=lK.nd;have hu:=cZ hr;exact ai (jI [1] QF rfl (iN (qv 1)) (cK 2 nd)
   (aw (eE (aS mD tN (iP hu (qv 0) (qv 2) #[111]) (iP hu (qv 0) (bD (qv 1) aj) #[111]))
   (aw (jn 2))
   (bE))))
   (aw (bV kB))
abbrev lN:Stmt:=top 26
def kM:aP ["sights","members","place","other"] ["sights","members"] (av lN):=mL
def bj:SF:=dD (eT (af (inD true) (aa 2) (aa 1))) (aA (aQ 3 (aE dF (ae (af cQ (aa 0) (aa 2)) #[74]))) (dD (eT (af (f6 true) (aa 3) (eC .a8))) (bA (eA gG (ae (aa 2) (ae #[56] (ae (aa 3) ao))))) aR)) aR
abbrev lJ (K:#[0])(mg:#[11]):=kP K mg "teller_among" lN ["sights","members"]
def gA:SF:=aA (cV [0] (kG (aa 0)) (gN 2) bj) (bA (eC .a8))
def a6:DF:=bM 2 4 (gA)
abbrev iS (b:Bd):=mY b.P b.w b.K b.mg b.base 2 "teller_among" ["sights","members"] (jy b.K (a6))
def qy (T:TX b)(C_first_apart:mP b)(F:lJ b.K b.mg):iS b:=bZ (k:=1) (g:=gA) F kM rfl rfl λ f cdv A outer s H hr=>by
 have nd:=kM.nd;have hu:=cZ hr;exact ai (jI [0] QF rfl (BF (qv 0)) (cK 2 nd)
   (aw (eE (aS gq (Eg true) (qv 2) (qv 1))
   (ai (aM 3 nd (bf C_first_apart hr (iQ (iP hu (qv 0) (qv 2) #[111]) (qv 1))))
   (aw (eE (aS vg zB (qv 3) kB)
   (aw (bV (rA (az (qv 2) (az (bD (qv 1) aj) (az (qv 3) cR))))))
   (bE))))
   (bE))))
   (aw (bV kB))
abbrev oz:Stmt:=top 27
def mO:aP ["sights","members","first","outside","waiting","pulls","newcomer","came"] ["sights","members"] (av oz):=mL
def ie:SD->Res D:=eA gG (ae (aa 0) (ae (aa 1) (ae (aa 2) ao)))
def ik:SD->Res Bool:=eT (af (inD true) (aa 0) (aa 1))
def ig:SD->Res D:=aa 0
def fW:SD->Res Bool:=eT (af mJ (af cQ (af cQ (aa 1) (aa 0)) (aa 2)) (af cQ (af cQ (aa 1) (aa 0)) (aa 3)))
def iq:SD->Res D:=aa 0
def cB:SD->Res Bool:=Mg (aa 4)
def bU:SF:=aA (Ic 6 4) (aA (aQ 7 (bo (gD (aa 3)) (gN 0) fW iq 1 [("sights",0),("newcomer",6),("first",2)])) (aA (aQ 3 (bo (gD (aa 3)) (gN 0) ik ig 1 [("came",7)])) (aA (zI 5 (bo (gD (aa 7)) (gN 0) cT ie 1 [("first",2),("newcomer",6)])) (Bw 4 7))))
def il:SD->Res Bool:=eT (af (inD true) (aa 0) (aa 1))
def ir:SD->Res D:=aa 0
abbrev oK (K:#[0])(mg:#[11]):=kP K mg "pulls_from" oz ["sights","members"]
def ki:SF:=aA (aQ 2 #[56]) (aA (aQ 3 (bo (kG (aa 0)) (gN 0) il ir 1 [("members",1)])) (aA (aQ 4 (c8 (aa 1) (eP #[118]) ly)) (aA (aQ 5 (eA cM ao)) (aA (iO cB bU) (c9 5)))))
def gz:DF:=bM 2 8 (ki)
abbrev ou (b:Bd):=mY b.P b.w b.K b.mg b.base 1 "pulls_from" ["sights","members"] (jy b.K (gz))
def tU (T:TX b)  (F:oK b.K b.mg):ou b:=bZ (k:=0) (g:=ki) F mO rfl rfl λ f cdv A outer s H hr=>by
 have nd:=mO.nd;have hu:=cZ hr;exact ai (aM 2 nd (bD (qv 1) aj))
   (ai (kc 3 nd (own:=["place"]) (cap:=[("members",1)]) #[58] rfl (BF (qv 0)) ⟨λ _ _ _ _ _=>cK 0 (qx ["place","members"]),λ _ _ _ _ _=>j7 (aS gq (Eg true) (qv 0) (qv 1)),λ _ _ _ _ _=>qv 0⟩)
   (ai (aM 4 nd (i8 (qv 1) (iB aj) j5))
   (ai (aM 5 nd (iy cR))
   (ai (vG QF (E1 (qv 4))
   (ai (s_pop 6 4 nd rfl (by walk_at "l"))
   (ai (aM 7 nd (mZ (own:=["place"]) (cap:=[("sights",0),("newcomer",6),("first",2)]) #[58] rfl (iN (qv 3)) ⟨λ _ _ _ _ _=>cK 0 (qx ["place","sights","newcomer","first"]),λ _ _ _ _ _=>j7 (aS mD tN (iP hu (iP hu (qv 1) (qv 0) #[111]) (qv 2) #[111]) (iP hu (iP hu (qv 1) (qv 0) #[111]) (qv 3) #[111])),λ _ _ _ _ _=>qv 0⟩))
   (ai (kc 3 nd (own:=["place"]) (cap:=[("came",7)]) #[58] rfl (iN (qv 3)) ⟨λ _ _ _ _ _=>cK 0 (qx ["place","came"]),λ _ _ _ _ _=>j7 (aS gq (Eg true) (qv 0) (qv 1)),λ _ _ _ _ _=>qv 0⟩)
   (ai (JK 5 (mZ (own:=["place"]) (cap:=[("first",2),("newcomer",6)]) #[58] rfl (iN (qv 7)) ⟨λ _ _ _ _ _=>cK 0 (qx ["place","first","newcomer"]),λ _ _ _ _ _=>nS,λ _ _ _ _ _=>rA (az (qv 0) (az (qv 1) (az (qv 2) cR)))⟩))
   (aw (Lp 4 7)))))))
   (aw (jn 5))))))
abbrev qi:Stmt:=top 28
def ow:aP ["sight","members","shares","member"] ["sight","members"] (av qi):=mL
def cO:SF:=kg 2 (af cQ (aa 0) (aa 3)) 3
abbrev qb (K:#[0])(mg:#[11]):=kP K mg "shares_by" qi ["sight","members"]
def lM:SF:=aA (aQ 2 (fB false)) (aA (cV [1] (gD (aa 1)) (gN 3) cO) (rM 2))
def g9:DF:=bM 2 4 (lM)
abbrev p7 (b:Bd):=mY b.P b.w b.K b.mg b.base 1 "shares_by" ["sight","members"] (jy b.K (g9))
def wm (T:TX b)  (F:qb b.K b.mg):p7 b:=bZ (k:=0) (g:=lM) F ow rfl rfl λ f cdv A outer s H hr=>by
 have nd:=ow.nd;have hu:=cZ hr;exact ai (aM 2 nd vL)
   (ai (jI [1] QF rfl (iN (qv 1)) (cK 3 nd)
   (aw (Fc 2 3 (iP hu (qv 0) (qv 3) #[111]) (hin:=qS RV Ru Tt BC (dH (i:=2) rfl (by first|exact Or.inl rfl|exact Or.inr (Or.inl rfl)|exact Or.inr (Or.inr rfl))) (bY (iP hu (qv 0) (qv 3) #[111]) (bY (zo dQ) dQ))) (hout:=qS QN Sm Sn lU (qS RV Ru Tt BC (dH (i:=2) rfl (by first|exact Or.inl rfl|exact Or.inr (Or.inl rfl)|exact Or.inr (Or.inr rfl))) (bY (iP hu (qv 0) (qv 3) #[111]) (bY (zo dQ) dQ))) (bY (dH (i:=3) rfl (by first|exact Or.inl rfl|exact Or.inr (Or.inl rfl)|exact Or.inr (Or.inr rfl))) dQ)))))
   (aw (C7 2 rfl rfl T.wu)))
abbrev yo:Stmt:=top 29
def uR:aP ["net","some","members"] ["net","some"] (av yo):=mL
abbrev yx (K:#[0])(mg:#[11]):=kP K mg "teller" yo ["net","some"]
def oH (ca:#[87]):SF:=aA (aQ 2 (dU (aW ca) (ae #[35] #[74]))) (bA (aE a6 (ae (aE cz (ae (aa 0) ao)) (ae (aa 2) ao))))
def gZ (ca:#[87]):DF:=bM 2 3 (oH ca)
abbrev rX (b:Bd):=vR b.P b.w b.K b.mg b.base 4 "teller" ["net","some"] (G4 b.K (gZ b.ca))
def Dq (T:TX b)(C_checked_set:gP b)(C_sights_of:jf b)(C_teller_among:iS b)(F:yx b.K b.mg):rX b:=l6 (k:=3) (g:=oH b.ca) F uR rfl rfl λ f cdv A outer s H E hr hx=>by
 have nd:=uR.nd;have hu:=cZ hr;exact ai (aM 2 nd (iF hx C_checked_set hr (iQ (bD (qv 0) aj) (qv 1))))
   (aw (bV (bf C_teller_among hr (iQ (bf C_sights_of hr (kZ (qv 0))) (qv 2)))))
abbrev rV:Stmt:=top 30
def qd:aP ["net","some"] ["net","some"] (av rV):=mL
abbrev rW (K:#[0])(mg:#[11]):=kP K mg "is_group" rV ["net","some"]
def km (ca:#[87]):SF:=bA (af (f6 false) (dU (gZ ca) (ae (aa 0) #[74])) (eC .a8))
def iT (ca:#[87]):DF:=bM 2 2 (km ca)
abbrev rY (b:Bd):=vR b.P b.w b.K b.mg b.base 5 "is_group" ["net","some"] (G4 b.K (iT b.ca))
def yw (T:TX b)(C_teller:rX b)(F:rW b.K b.mg):rY b:=l6 (k:=4) (g:=km b.ca) F qd rfl rfl λ f cdv A outer s H E hr hx=>by
 have nd:=qd.nd;have hu:=cZ hr;exact aw (bV (pG qR xK (iF hx C_teller hr (iQ (qv 0) (qv 1))) kB))
abbrev yv:Stmt:=top 31
def uO:aP ["net","some","members","pulls"] ["net","some"] (av yv):=mL
def ia (ca:#[87]):SD->Res D:=af bL (aa 0) #[129]
abbrev yl (K:#[0])(mg:#[11]):=kP K mg "pulled" yv ["net","some"]
def oq (ca:#[87]):SF:=aA (aQ 2 (dU (aW ca) (ae #[35] #[74]))) (aA (aQ 3 (aE gz (ae (aE cz (ae (aa 0) ao)) (ae (aa 2) ao)))) (E2 (eA bJ (ae (af ba (aa 2) (bo (gD (aa 3)) (gN 0) cT ((ia ca)) 1 [])) ao)) 3))
def lH (ca:#[87]):DF:=bM 2 4 (oq ca)
abbrev yp (b:Bd):=vR b.P b.w b.K b.mg b.base 4 "pulled" ["net","some"] (G4 b.K (lH b.ca))
def Dp (T:TX b)(C_checked_set:gP b)(C_sights_of:jf b)(C_pulls_from:ou b)(F:yl b.K b.mg):yp b:=l6 (k:=3) (g:=oq b.ca) F uO rfl rfl λ f cdv A outer s H E hr hx=>by
 have nd:=uO.nd;have hu:=cZ hr;exact ai (aM 2 nd (iF hx C_checked_set hr (iQ (bD (qv 0) aj) (qv 1))))
   (ai (aM 3 nd (bf C_pulls_from hr (iQ (bf C_sights_of hr (kZ (qv 0))) (qv 2))))
   (aw (Lq 3 (kU lq rD T.lI (kZ (aJ aU cu (qv 2) (mZ (own:=["pull"]) (cap:=[]) #[58] rfl (iN (qv 3)) ⟨λ _ _ _ _ _=>cK 0 (qx ["pull"]),λ _ _ _ _ _=>nS,λ _ _ _ _ _=>bD (qv 0) aj⟩)))))))
abbrev je:Stmt:=top 32
def iV:aP ["net","some","waiting","sights","told","part","found"] ["net","some"] (av je):=mL
def bH (ca:#[87]):SD->Res Bool:=Mg (aa 2)
def bq (ca:#[87]):SF:=aA (uJ 5 2) (aA (aQ 6 (aE a6 (ae (aa 3) (ae (aa 5) ao)))) (dD (eT (af (f6 false) (aa 6) (eC .a8))) (yb 4 5) (zI 2 (aE g9 (ae (af cQ (aa 3) (af bL (aa 6) #[129])) (ae (aa 5) ao))))))
abbrev jc (K:#[0])(mg:#[11]):=kP K mg "greatest_within" je ["net","some"]
def eL (ca:#[87]):SF:=aA (aQ 2 (eA cM (ae (dU (aW ca) (ae #[35] #[74])) ao))) (aA (aQ 3 (aE cz (ae (aa 0) ao))) (aA (iY [3] (aQ 4 (eA cM ao))) (aA (iO ((bH ca)) ((bq ca))) (lF 4))))
def dC (ca:#[87]):DF:=bM 2 7 (eL ca)
abbrev jb (b:Bd):=vR b.P b.w b.K b.mg b.base 4 "greatest_within" ["net","some"] (G4 b.K (dC b.ca))
def nu (T:TX b)(C_checked_set:gP b)(C_sights_of:jf b)(C_teller_among:iS b)(C_shares_by:p7 b)(F:jc b.K b.mg):jb b:=l6 (k:=3) (g:=eL b.ca) F iV rfl rfl λ f cdv A outer s H E hr hx=>by
 have nd:=iV.nd;have hu:=cZ hr;exact ai (aM 2 nd (iy (kZ (iF hx C_checked_set hr (iQ (bD (qv 0) aj) (qv 1))))))
   (ai (aM 3 nd (bf C_sights_of hr (kZ (qv 0))))
   (ai (JF [3] (aM 4 nd (iy cR)))
   (ai (vG PassesOwn.leaving (E1 (qv 2))
   (ai (Lu 5 2 nd rfl (by walk_at "l"))
   (ai (aM 6 nd (bf C_teller_among hr (iQ (qv 3) (qv 5))))
   (aw (eE (aS qR xK (qv 6) kB)
   (aw (Lv 4 5))
   (aw (JK 2 (bf C_shares_by hr (iQ (iP hu (qv 3) (bD (qv 6) aj) #[111]) (qv 5))))))))))
   (aw (C5 4 (Lw hr) rfl T.lI)))))
abbrev s_Lcell:Stmt:=top 34
def sc_Lcell:aP ["_law_script","_law_k"] ["_law_script","_law_k"] (av s_Lcell):=mL
abbrev E_Lcell (K:#[0])(mg:#[11]):=kP K mg "_law_cell" s_Lcell ["_law_script","_law_k"]
def g_Lcell:SF:=aA (dD (eT (af NI (aa 1) (eA dJ (ae (aa 0) ao)))) (bA (af bL (aa 0) (aa 1))) aR) (bA #[129])
def G_Lcell:DF:=bM 2 2 (g_Lcell)
abbrev Q_Lcell (b:Bd):=mY b.P b.w b.K b.mg b.base 1 "_law_cell" ["_law_script","_law_k"] (jy b.K (G_Lcell))
def ok_Lcell (T:TX b)  (F:E_Lcell b.K b.mg):Q_Lcell b:=bZ (k:=0) (g:=g_Lcell) F sc_Lcell rfl rfl λ f cdv A outer s H hr=>by
 have nd:=sc_Lcell.nd;have hu:=cZ hr;exact ai (eE (aS Jq MS (qv 1) (kU eu mF T.mV (kZ (qv 0))))
   (aw (bV (bD (qv 0) (qv 1))))
   (bE))
   (aw (bV aj))
abbrev s_Llike:Stmt:=top 35
def sc_Llike:aP ["_law_found","_law_due","_law_k"] ["_law_found","_law_due"] (av s_Llike):=mL
def g_Llike_b1 (R_Llike:DF):SF:=dD (gC (eT (aE R_Llike (ae (af bL (aa 0) (aa 2)) (ae (af bL (aa 1) (aa 2)) ao))))) (bA (eC (.bl false))) aR
abbrev E_Llike (K:#[0])(mg:#[11]):=kP K mg "_law_like" s_Llike ["_law_found","_law_due"]
def g_Llike (R_Llike:DF):SF:=aA (dD (eT (af (f6 false) (aa 1) (eC .a8))) (bA (af (f6 false) (aa 0) (eC .a8))) aR) (aA (dD (eT (fZ (cU uA) (aa 1))) (bA (iM (fZ (cU uA) (aa 0)) (af gW (aa 0) (aa 1)))) aR) (aA (dD (eT (fZ (cU vK) (aa 1))) (bA (iM (fZ (cU vK) (aa 0)) (iM (kR (fZ (cU uA) (aa 0))) (af gW (aa 0) (aa 1))))) aR) (aA (dD (eT (fZ (cU sY) (aa 1))) (bA (iM (fZ (cU sY) (aa 0)) (af gW (aa 0) (aa 1)))) aR) (aA (dD (gU (eT (fZ (cU vI) (aa 1))) (gC (eT (fZ (cU vI) (aa 0))))) (bA (eC (.bl false))) aR) (aA (dD (gU (eT (fZ (cU j9) (aa 1))) (gC (eT (fZ (cU j9) (aa 0))))) (bA (eC (.bl false))) aR) (aA (dD (eT (af mJ (eA dJ (ae (aa 0) ao)) (eA dJ #[74]))) (bA (eC (.bl false))) aR) (aA (cV [] (bC (ae (eA dJ #[74]) ao)) (gN 2) ((g_Llike_b1 R_Llike))) (bA (eC (.bl true))))))))))
def G_Llike:Nat->DF
 |0=>λ _=>.bad
 |n+1=>bM 2 3 (g_Llike (G_Llike n))
abbrev Q_Llike (b:Bd):=mY b.P b.w b.K b.mg b.base 3 "_law_like" ["_law_found","_law_due"] (jy b.K (G_Llike 2))
def ok_Llike (T:TX b)  (F:E_Llike b.K b.mg):∀ n:Nat,mY b.P b.w b.K b.mg b.base (n+1) "_law_like" ["_law_found","_law_due"] (jy b.K (G_Llike n))
 |0=>HQ F
 | n+1=>bZ (k:=n+1) (n:=2) (m:=3) (g:=g_Llike (G_Llike n)) F sc_Llike rfl rfl λ f cdv A outer s H hr=>by
  have C_Llike:=ok_Llike T  F n;have nd:=sc_Llike.nd;have hu:=cZ hr;exact ai (eE (aS qR xK (qv 1) kB)
   (aw (bV (pG qR xK (qv 0) kB)))
   (bE))
   (ai (eE (gx (ib (ty:=.Name "bool" ⟨0,0,0,0⟩) pB rfl T.aL (qv 1) rfl T.Ar #[30]))
   (aw (bV (A8 (ib (ty:=.Name "bool" ⟨0,0,0,0⟩) pB rfl T.aL (qv 0) rfl T.Ar #[30]) (EB (pG fu iX (qv 0) (qv 1))))))
   (bE))
   (ai (eE (gx (ib (ty:=.Name "int" ⟨0,0,0,0⟩) xR rfl T.aL (qv 1) rfl T.JP #[30]))
   (aw (bV (A8 (ib (ty:=.Name "int" ⟨0,0,0,0⟩) xR rfl T.aL (qv 0) rfl T.JP #[30]) (A8 (MU (ib (ty:=.Name "bool" ⟨0,0,0,0⟩) pB rfl T.aL (qv 0) rfl T.Ar #[30])) (EB (pG fu iX (qv 0) (qv 1)))))))
   (bE))
   (ai (eE (gx (ib (ty:=.Name "str" ⟨0,0,0,0⟩) rE rfl T.aL (qv 1) rfl T.FD #[30]))
   (aw (bV (A8 (ib (ty:=.Name "str" ⟨0,0,0,0⟩) rE rfl T.aL (qv 0) rfl T.FD #[30]) (EB (pG fu iX (qv 0) (qv 1))))))
   (bE))
   (ai (eE (L2.PW.pt (rm (gx (ib (ty:=.Name "list" ⟨0,0,0,0⟩) uB rfl T.aL (qv 1) rfl T.wu #[30])) (nO (o9 (gx (ib (ty:=.Name "list" ⟨0,0,0,0⟩) uB rfl T.aL (qv 0) rfl T.wu #[30]))))))
   (aw (bV vC))
   (bE))
   (ai (eE (L2.PW.pt (rm (gx (ib (ty:=.Name "tuple" ⟨0,0,0,0⟩) rF rfl T.aL (qv 1) rfl T.oG #[30])) (nO (o9 (gx (ib (ty:=.Name "tuple" ⟨0,0,0,0⟩) rF rfl T.aL (qv 0) rfl T.oG #[30]))))))
   (aw (bV vC))
   (bE))
   (ai (eE (aS mD tN (kU eu mF T.mV (kZ (qv 0))) (kU eu mF T.mV (kZ (qv 1))))
   (aw (bV vC))
   (bE))
   (ai (jI [] QF rfl (gH rfl T.jd (kZ (kU eu mF T.mV (kZ (qv 1))))) (cK 2 nd)
   (aw (eE (o9 (gx (bf C_Llike hr (iQ (bD (qv 0) (qv 2)) (bD (qv 1) (qv 2))))))
   (aw (bV vC))
   (bE))))
   (aw (bV vC)))))))))
abbrev s_Lmany:Stmt:=top 36
def sc_Lmany:aP ["_law_cell_here"] ["_law_cell_here"] (av s_Lmany):=mL
abbrev E_Lmany (K:#[0])(mg:#[11]):=kP K mg "_law_many" s_Lmany ["_law_cell_here"]
def g_Lmany:SF:=aA (dD (eT (af gW (af br (af bw (aa 0) (eC (.int 9))) (eC (.int 8))) #[118])) (bA (af ba #[118] (af br (af bw (aa 0) (eC (.int 72))) (eC (.int 24))))) aR) (bA (af ba #[118] (af br (aa 0) (eC (.int 9)))))
def G_Lmany:DF:=bM 1 1 (g_Lmany)
abbrev Q_Lmany (b:Bd):=mY b.P b.w b.K b.mg b.base 1 "_law_many" ["_law_cell_here"] (jy b.K (G_Lmany))
def ok_Lmany (T:TX b)  (F:E_Lmany b.K b.mg):Q_Lmany b:=bZ (k:=0) (g:=g_Lmany) F sc_Lmany rfl rfl λ f cdv A outer s H hr=>by
 have nd:=sc_Lmany.nd;have hu:=cZ hr;exact ai (eE (aS fu iX (aJ a9 bX (aJ bO cL (qv 0) aj) aj) aj)
   (aw (bV (aJ aU cu aj (aJ a9 bX (aJ bO cL (qv 0) aj) aj))))
   (bE))
   (aw (bV (aJ aU cu aj (aJ a9 bX (qv 0) aj))))
abbrev s_Lmix:Stmt:=top 37
def sc_Lmix:aP ["_law_script","_law_at","_law_k","_law_many_here"] ["_law_script","_law_at","_law_k"] (av s_Lmix):=mL
abbrev E_Lmix (K:#[0])(mg:#[11]):=kP K mg "_law_mix" s_Lmix ["_law_script","_law_at","_law_k"]
def g_Lmix:SF:=aA (aQ 3 (eA fJ (ae #[118] (ae (af xJ (eA dJ (ae (aa 0) ao)) (aa 1)) ao)))) (bA (af br (af ba (af ba (af rf (aE G_Lcell (ae (aa 0) (ae (af ba (aa 1) (af br (aa 2) (aa 3))) ao))) (eC (.int 48271))) (af rf (aa 2) (eC (.int 16807)))) (eC (.int 11))) (eC (.int 2147483647))))
def G_Lmix:DF:=bM 3 4 (g_Lmix)
abbrev Q_Lmix (b:Bd):=mY b.P b.w b.K b.mg b.base 2 "_law_mix" ["_law_script","_law_at","_law_k"] (jy b.K (G_Lmix))
def ok_Lmix (T:TX b)(C_Lcell:Q_Lcell b)(F:E_Lmix b.K b.mg):Q_Lmix b:=bZ (k:=1) (g:=g_Lmix) F sc_Lmix rfl rfl λ f cdv A outer s H hr=>by
 have nd:=sc_Lmix.nd;have hu:=cZ hr;exact ai (aM 3 nd (kU (o5 rfl) zC T.FG (iQ aj (aJ vf A6 (kU eu mF T.mV (kZ (qv 0))) (qv 1)))))
   (aw (bV (aJ a9 bX (aJ aU cu (aJ aU cu (aJ j4 rh (bf C_Lcell hr (iQ (qv 0) (aJ aU cu (qv 1) (aJ a9 bX (qv 2) (qv 3))))) aj) (aJ j4 rh (qv 2) aj)) aj) aj)))
abbrev s_Lplaces:Stmt:=top 38
def sc_Lplaces:aP ["_law_script","_law_at","_law_many_here","_law_head","_law_step","_law_number","_law_places_here","_law_k"] ["_law_script","_law_at","_law_many_here"] (av s_Lplaces):=mL
def g_Lplaces_b1:SF:=aA (i0 6 (aa 5)) (aQ 5 (af ba (af ba (aa 5) #[118]) (af br (af bw (aa 4) (af ba (aa 7) #[118])) (af bL (eA cM (ae #[118] (ae (eC (.int 3)) (ae (af tK (eC (.int 10)) (eC (.int 29))) ao)))) (af br (aa 4) (eC (.int 3)))))))
abbrev E_Lplaces (K:#[0])(mg:#[11]):=kP K mg "_law_places" s_Lplaces ["_law_script","_law_at","_law_many_here"]
def g_Lplaces:SF:=aA (aQ 3 (aE G_Lcell (ae (aa 0) #[74]))) (aA (aQ 4 (aE G_Lcell (ae (aa 0) (ae (af ba (aa 1) #[118]) ao)))) (aA (aQ 5 (af br (af bw (aa 3) (eC (.int 2))) (eC (.int 4)))) (aA (dD (eT (af gW (af br (aa 3) (eC (.int 2))) #[118])) (aQ 5 (af br (af bw (aa 3) (eC (.int 2))) (af tK (eC (.int 10)) (eC (.int 30))))) aR) (aA (aQ 6 (eA cM ao)) (aA (cV [] (bC (ae (aa 2) ao)) (gN 7) g_Lplaces_b1) (c9 6))))))
def G_Lplaces:DF:=bM 3 8 (g_Lplaces)
abbrev Q_Lplaces (b:Bd):=mY b.P b.w b.K b.mg b.base 2 "_law_places" ["_law_script","_law_at","_law_many_here"] (jy b.K (G_Lplaces))
def ok_Lplaces (T:TX b)(C_Lcell:Q_Lcell b)(F:E_Lplaces b.K b.mg):Q_Lplaces b:=bZ (k:=1) (g:=g_Lplaces) F sc_Lplaces rfl rfl λ f cdv A outer s H hr=>by
 have nd:=sc_Lplaces.nd;have hu:=cZ hr;exact ai (aM 3 nd (bf C_Lcell hr (iQ (qv 0) (qv 1))))
   (ai (aM 4 nd (bf C_Lcell hr (iQ (qv 0) (aJ aU cu (qv 1) aj))))
   (ai (aM 5 nd (aJ a9 bX (aJ bO cL (qv 3) aj) aj))
   (ai (eE (aS fu iX (aJ a9 bX (qv 3) aj) aj)
   (aw (aM 5 nd (aJ a9 bX (aJ bO cL (qv 3) aj) (aJ vh A7 aj aj))))
   (bE))
   (ai (aM 6 nd (iy cR))
   (ai (jI [] QF rfl (gH rfl T.jd (kZ (qv 2))) (cK 7 nd)
   (ai (JG 6 (qv 5))
   (aw (aM 5 nd (aJ aU cu (aJ aU cu (qv 5) aj) (aJ a9 bX (aJ bO cL (qv 4) (aJ aU cu (qv 7) aj)) (bD (iy (az aj (az aj (az (aJ vh A7 aj aj) cR)))) (aJ a9 bX (qv 4) aj))))))))
   (aw (jn 6)))))))
abbrev s_Lshade:Stmt:=top 39
def sc_Lshade:aP ["_law_script","_law_at","_law_k","_law_j","_law_head","_law_blocks","_law_one","_law_other","_law_number","_law_shades"] ["_law_script","_law_at","_law_k","_law_j"] (av s_Lshade):=mL
abbrev E_Lshade (K:#[0])(mg:#[11]):=kP K mg "_law_shade" s_Lshade ["_law_script","_law_at","_law_k","_law_j"]
def g_Lshade:SF:=aA (aQ 4 (aE G_Lcell (ae (aa 0) (ae (af ba (aa 1) (eC (.int 2))) ao)))) (aA (aQ 5 (af ba #[118] (af br (af bw (aa 4) (eC (.int 4))) (eC (.int 4))))) (aA (aQ 6 (af br (af bw (aE G_Lmix (ae (aa 0) (ae (af ba (aa 1) (eC (.int 4))) (ae (af ba (eC (.int 300)) (aa 2)) ao)))) (eC (.int 3))) (aa 5))) (aA (aQ 7 (af br (af bw (aE G_Lmix (ae (aa 0) (ae (af ba (aa 1) (eC (.int 4))) (ae (af ba (eC (.int 300)) (aa 3)) ao)))) (eC (.int 3))) (aa 5))) (aA (aQ 8 (af bw (aE G_Lmix (ae (aa 0) (ae (af ba (aa 1) (eC (.int 4))) (ae (af ba (af bw (af rf (aa 2) (af xJ (aa 2) #[118])) (eC (.int 2))) (aa 3)) ao)))) (eC (.int 5)))) (aA (dD (gU (eT (af NI (af br (aa 4) (eC (.int 4))) (eC (.int 2)))) (eT (af mJ (aa 6) (aa 7)))) (aQ 8 (af bw (aE G_Lmix (ae (aa 0) (ae (af ba (aa 1) (eC (.int 4))) (ae (af ba (af ba (eC (.int 400)) (af rf (eC (.int 4)) (eA fJ (ae (aa 6) (ae (aa 7) ao))))) (eA gh (ae (aa 6) (ae (aa 7) ao)))) ao)))) (eC (.int 5)))) aR) (aA (dD (gU (eT (af gW (af br (aa 4) (eC (.int 4))) #[118])) (eT (af gW (af ba (af bw (af rf (aa 2) (af xJ (aa 2) #[118])) (eC (.int 2))) (aa 3)) (af br (af bw (aa 4) (eC (.int 32))) (eC (.int 36)))))) (aQ 8 (af ba (aa 8) #[118])) aR) (aA (dD (gU (eT (af gW (af br (aa 4) (eC (.int 4))) (eC (.int 2)))) (eT (af gW (af br (af bw (aa 4) (eC (.int 4))) (eC (.int 2))) #[118]))) (bA (af br (aa 8) (af tK (eC (.int 10)) (eC (.int 8))))) aR) (aA (aQ 9 (eA cM (ae #[129] (ae (af ba #[118] (af br (aE G_Lcell (ae (aa 0) (ae (af ba (aa 1) (eC (.int 3))) ao))) (af tK (eC (.int 10)) (eC (.int 30))))) (ae (af br (af bw (aE G_Lcell (ae (aa 0) (ae (af ba (aa 1) (eC (.int 3))) ao))) (eC (.int 9))) (eC (.int 5))) ao))))) (bA (af bL (aa 9) (af br (aa 8) (af ba (eC (.int 2)) (af br (af bw (aa 4) (eC (.int 16))) (eC (.int 2)))))))))))))))
def G_Lshade:DF:=bM 4 10 (g_Lshade)
abbrev Q_Lshade (b:Bd):=mY b.P b.w b.K b.mg b.base 3 "_law_shade" ["_law_script","_law_at","_law_k","_law_j"] (jy b.K (G_Lshade))
def ok_Lshade (T:TX b)(C_Lcell:Q_Lcell b)(C_Lmix:Q_Lmix b)(F:E_Lshade b.K b.mg):Q_Lshade b:=bZ (k:=2) (g:=g_Lshade) F sc_Lshade rfl rfl λ f cdv A outer s H hr=>by
 have nd:=sc_Lshade.nd;have hu:=cZ hr;exact ai (aM 4 nd (bf C_Lcell hr (iQ (qv 0) (aJ aU cu (qv 1) aj))))
   (ai (aM 5 nd (aJ aU cu aj (aJ a9 bX (aJ bO cL (qv 4) aj) aj)))
   (ai (aM 6 nd (aJ a9 bX (aJ bO cL (bf C_Lmix hr (az (qv 0) (az (aJ aU cu (qv 1) aj) (az (aJ aU cu aj (qv 2)) cR)))) aj) (qv 5)))
   (ai (aM 7 nd (aJ a9 bX (aJ bO cL (bf C_Lmix hr (az (qv 0) (az (aJ aU cu (qv 1) aj) (az (aJ aU cu aj (qv 3)) cR)))) aj) (qv 5)))
   (ai (aM 8 nd (aJ bO cL (bf C_Lmix hr (az (qv 0) (az (aJ aU cu (qv 1) aj) (az (aJ aU cu (aJ bO cL (aJ j4 rh (qv 2) (aJ vf A6 (qv 2) aj)) aj) (qv 3)) cR)))) aj))
   (ai (eE (L2.PW.pt (rm (aS Jq MS (aJ a9 bX (qv 4) aj) aj) (nO (aS mD tN (qv 6) (qv 7)))))
   (aw (aM 8 nd (aJ bO cL (bf C_Lmix hr (az (qv 0) (az (aJ aU cu (qv 1) aj) (az (aJ aU cu (aJ aU cu aj (aJ j4 rh aj (kU (o5 rfl) zC T.FG (iQ (qv 6) (qv 7))))) (kU (ud rfl) Ez T.JQ (iQ (qv 6) (qv 7)))) cR)))) aj)))
   (bE))
   (ai (eE (L2.PW.pt (rm (aS fu iX (aJ a9 bX (qv 4) aj) aj) (nO (aS fu iX (aJ aU cu (aJ bO cL (aJ j4 rh (qv 2) (aJ vf A6 (qv 2) aj)) aj) (qv 3)) (aJ a9 bX (aJ bO cL (qv 4) aj) aj)))))
   (aw (aM 8 nd (aJ aU cu (qv 8) aj)))
   (bE))
   (ai (eE (L2.PW.pt (rm (aS fu iX (aJ a9 bX (qv 4) aj) aj) (nO (aS fu iX (aJ a9 bX (aJ bO cL (qv 4) aj) aj) aj))))
   (aw (bV (aJ a9 bX (qv 8) (aJ vh A7 aj aj))))
   (bE))
   (ai (aM 9 nd (iy (az aj (az (aJ aU cu aj (aJ a9 bX (bf C_Lcell hr (iQ (qv 0) (aJ aU cu (qv 1) aj))) (aJ vh A7 aj aj))) (az (aJ a9 bX (aJ bO cL (bf C_Lcell hr (iQ (qv 0) (aJ aU cu (qv 1) aj))) aj) aj) cR)))))
   (aw (bV (bD (qv 9) (aJ a9 bX (qv 8) (aJ aU cu aj (aJ a9 bX (aJ bO cL (qv 4) aj) aj))))))))))))))
abbrev s_Lnet:Stmt:=top 40
def sc_Lnet:aP ["_law_script","_law_at","_law_many_here","_law_rows"] ["_law_script","_law_at","_law_many_here"] (av s_Lnet):=mL
def g_Lnet_e1:SD->Res D:=aE G_Lshade (ae (aa 1) (ae (aa 2) (ae (aa 3) (ae (aa 0) ao))))
def g_Lnet_e2:SD->Res D:=eA dh (ae (bo (bC (ae (aa 0) ao)) (gN 0) cT g_Lnet_e1 1 [("_law_script",1),("_law_at",2),("_law_k",0)]) ao)
abbrev E_Lnet (K:#[0])(mg:#[11]):=kP K mg "_law_net" s_Lnet ["_law_script","_law_at","_law_many_here"]
def g_Lnet:SF:=aA (aQ 3 (bo (bC (ae (aa 2) ao)) (gN 0) cT g_Lnet_e2 1 [("_law_script",0),("_law_at",1)])) (bA (eA gG (ae (eA dh (ae (aE G_Lplaces (ae (aa 0) (ae (aa 1) (ae (aa 2) ao)))) ao)) (ae (eA dh (ae (aa 3) ao)) ao))))
def G_Lnet:DF:=bM 3 4 (g_Lnet)
abbrev Q_Lnet (b:Bd):=mY b.P b.w b.K b.mg b.base 4 "_law_net" ["_law_script","_law_at","_law_many_here"] (jy b.K (G_Lnet))
def ok_Lnet (T:TX b)(C_Lplaces:Q_Lplaces b)(C_Lshade:Q_Lshade b)(F:E_Lnet b.K b.mg):Q_Lnet b:=bZ (k:=3) (g:=g_Lnet) F sc_Lnet rfl rfl λ f cdv A outer s H hr=>by
 have nd:=sc_Lnet.nd;have hu:=cZ hr;exact ai (kc 3 nd (own:=["_law_k"]) (cap:=[("_law_script",0),("_law_at",1)]) #[58] rfl (gH rfl T.jd (kZ (qv 2))) ⟨λ _ _ _ _ _=>cK 0 (qx ["_law_k","_law_script","_law_at"]),λ _ _ _ _ _=>nS,λ _ _ _ _ _=>Ij jm vF T.oG (kZ (mZ (own:=["_law_j"]) (cap:=[("_law_script",1),("_law_at",2),("_law_k",0)]) #[58] rfl (gH rfl T.jd (kZ (qv 0))) ⟨λ _ _ _ _ _=>cK 0 (qx ["_law_j","_law_script","_law_at","_law_k"]),λ _ _ _ _ _=>nS,λ _ _ _ _ _=>bf C_Lshade hr (az (qv 1) (az (qv 2) (az (qv 3) (az (qv 0) cR))))⟩))⟩)
   (aw (bV (rA (iQ (Ij jm vF T.oG (kZ (bf C_Lplaces hr (az (qv 0) (az (qv 1) (az (qv 2) cR)))))) (Ij jm vF T.oG (kZ (qv 3)))))))
abbrev s_Lword:Stmt:=top 41
def sc_Lword:aP ["_law_e","_law_named","_law_others","_law_words","_law_some"] ["_law_e"] (av s_Lword):=mL
def g_Lword_c1 (ca:#[87]):SD->Res Bool:=eT (af bL (aa 2) (aa 0))
def g_Lword_e2 (ca:#[87]):SD->Res D:=af bL (aa 1) (aa 0)
abbrev E_Lword (K:#[0])(mg:#[11]):=kP K mg "_law_word" s_Lword ["_law_e"]
def g_Lword (ca:#[87]):SF:=aA (aQ 1 (eA cM #[97])) (aA (aQ 1 (af ba (aa 1) #[90])) (aA (i0 1 (fZ (cD (leaf ca) (k7 ca "NoGroup")) (aa 0))) (aA (aQ 2 (fZ (cD (leaf ca) (yk ca ["TooMany","NoDeed","Unlike","NoText","NoRow","NoName"])) (aa 0))) (aA (aQ 3 (eA cM (ae (eC (.str "NoNet")) (ae (eC (.str "NoPlace")) (ae (eC (.str "SamePlace")) (ae (eC (.str "Twice")) (ae (eC (.str "Taken")) (ae (eC (.str "NoColours")) (ae (eC (.str "NoSet")) (ae (eC (.str "NoParting")) (ae (eC (.str "NoGroup")) ao))))))))))) (aA (aQ 4 (bo (bC (ae (eC (.int 9)) ao)) (gN 0) ((g_Lword_c1 ca)) ((g_Lword_e2 ca)) 1 [("_law_words",3),("_law_named",1)])) (aA (dD (nP (eT (aa 2)) (nP (eT (af mJ (eA dJ (ae (aa 4) ao)) #[118])) (gC (eT (fZ (cD (leaf ca) (λ _=>true)) (aa 0)))))) (bA (eC (.str "else"))) aR) (bA (af bL (aa 4) #[129]))))))))
def G_Lword (ca:#[87]):DF:=bM 1 5 (g_Lword ca)
abbrev Q_Lword (b:Bd):=HZ b.P b.w b.K b.mg b.base 1 "_law_word" ["_law_e"] (jy b.K (G_Lword b.ca))
def ok_Lword (T:TX b)  (F:E_Lword b.K b.mg):Q_Lword b:=HY (k:=0) (g:=g_Lword b.ca) F sc_Lword rfl rfl λ f cdv A outer s H hr hk=>by
 have nd:=sc_Lword.nd;have hu:=cZ hr;exact ai (aM 1 nd (iy (az (iE (IC T T.BP) rfl T.aL (qv 0) rfl T.BP.mg) (az (iE (IC T T.mf) rfl T.aL (qv 0) rfl T.mf.mg) (az (iE (IC T T.qf) rfl T.aL (qv 0) rfl T.qf.mg) (az (iE (IC T T.BS) rfl T.aL (qv 0) rfl T.BS.mg) cR))))))
   (ai (aM 1 nd (aJ aU cu (qv 1) (iy (az (iE (IC T T.BR) rfl T.aL (qv 0) rfl T.BR.mg) (az (iE (IC T T.qa) rfl T.aL (qv 0) rfl T.qa.mg) (az (iE (IC T T.qE) rfl T.aL (qv 0) rfl T.qE.mg) (az (iE (IC T T.qj) rfl T.aL (qv 0) rfl T.qj.mg) cR)))))))
   (ai (JG 1 (iE (IC T T.uP) rfl T.aL (qv 0) rfl T.uP.mg))
   (ai (aM 2 nd (EY (cs:=[b.ca "TooMany",b.ca "NoDeed",b.ca "Unlike",b.ca "NoText",b.ca "NoRow",b.ca "NoName"]) (Pe T ["TooMany","NoDeed","Unlike","NoText","NoRow","NoName"] (Ro.mpr ⟨⟨_,T.uQ⟩,Ro.mpr ⟨⟨_,T.yn⟩,Ro.mpr ⟨⟨_,T.yq⟩,Ro.mpr ⟨⟨_,T.yt⟩,Ro.mpr ⟨⟨_,T.BO⟩,Ro.mpr ⟨⟨_,T.yr⟩,λ _ h=>absurd h QE⟩⟩⟩⟩⟩⟩)) rfl T.aL (qv 0) (jM rfl T.uQ.mg (jM rfl T.yn.mg (jM rfl T.yq.mg (jM rfl T.yt.mg (jM rfl T.BO.mg (jM rfl T.yr.mg Ib)))))) (RG rfl)))
   (ai (aM 3 nd (iy (az iL (az iL (az iL (az iL (az iL (az iL (az iL (az iL (az iL cR)))))))))))
   (ai (zN (i:=4) hk nd rfl (by walk_at "l") (own:=["_law_k"]) (cap:=[("_law_words",3),("_law_named",1)]) #[58] (zP rfl T.jd (kZ aj)) ⟨λ _ _ _ _ _=>cK 0 (qx ["_law_k","_law_words","_law_named"]),λ _ _ _ _ _=>j7 (gx (bD (qv 2) (qv 0))),λ _ _ _ _ _=>bD (qv 1) (qv 0)⟩)
   (ai (eE (L2.PW.pt (rB (gx (qv 2)) (rB (aS mD tN (kU eu mF T.mV (kZ (qv 4))) aj) (pe (o9 (gx (EZ (Pc T) rfl T.aL (qv 0) rfl T.wt #[30])))))))
   (aw (bV iL))
   (bE))
   (aw (bV (bD (qv 4) aj)))))))))
abbrev s_Lshown:Stmt:=top 42
def sc_Lshown:aP ["_law_net_here","_law_k","_law_j"] ["_law_net_here","_law_k","_law_j"] (av s_Lshown):=mL
abbrev E_Lshown (K:#[0])(mg:#[11]):=kP K mg "_law_shown" s_Lshown ["_law_net_here","_law_k","_law_j"]
def g_Lshown:SF:=bA (af bL (af bL (af bL (aa 0) #[118]) (eA fJ (ae (aa 1) (ae (aa 2) ao)))) (eA gh (ae (aa 1) (ae (aa 2) ao))))
def G_Lshown:DF:=bM 3 3 (g_Lshown)
abbrev Q_Lshown (b:Bd):=mY b.P b.w b.K b.mg b.base 1 "_law_shown" ["_law_net_here","_law_k","_law_j"] (jy b.K (G_Lshown))
def ok_Lshown (T:TX b)  (F:E_Lshown b.K b.mg):Q_Lshown b:=bZ (k:=0) (g:=g_Lshown) F sc_Lshown rfl rfl λ f cdv A outer s H hr=>by
 have nd:=sc_Lshown.nd;have hu:=cZ hr;exact aw (bV (bD (bD (bD (qv 0) aj) (kU (o5 rfl) zC T.FG (iQ (qv 1) (qv 2)))) (kU (ud rfl) Ez T.JQ (iQ (qv 1) (qv 2)))))
abbrev s_Lteller:Stmt:=top 43
def sc_Lteller:aP ["_law_net_here","_law_inside_here","_law_k","_law_j"] ["_law_net_here","_law_inside_here"] (av s_Lteller):=mL
def g_Lteller_b1:SF:=dD (eT (af mJ (aE G_Lshown (ae (aa 0) (ae (aa 2) (ae (aa 3) ao)))) (aE G_Lshown (ae (aa 0) (ae (aa 2) (ae #[56] ao)))))) (bA (eA gG (ae (aa 2) (ae #[56] (ae (aa 3) ao))))) aR
def g_Lteller_b2:SF:=dD (eT (af (inD true) (aa 2) (aa 1))) (cV [1] (gD (c8 (aa 1) (eP #[118]) ly)) (gN 3) g_Lteller_b1) aR
abbrev E_Lteller (K:#[0])(mg:#[11]):=kP K mg "_law_teller" s_Lteller ["_law_net_here","_law_inside_here"]
def g_Lteller:SF:=aA (cV [] (bC (ae (eA dJ (ae #[35] ao)) ao)) (gN 2) g_Lteller_b2) (bA (eC .a8))
def G_Lteller:DF:=bM 2 4 (g_Lteller)
abbrev Q_Lteller (b:Bd):=mY b.P b.w b.K b.mg b.base 2 "_law_teller" ["_law_net_here","_law_inside_here"] (jy b.K (G_Lteller))
def ok_Lteller (T:TX b)(C_Lshown:Q_Lshown b)(F:E_Lteller b.K b.mg):Q_Lteller b:=bZ (k:=1) (g:=g_Lteller) F sc_Lteller rfl rfl λ f cdv A outer s H hr=>by
 have nd:=sc_Lteller.nd;have hu:=cZ hr;exact ai (jI [] QF rfl (gH rfl T.jd (kZ (kU eu mF T.mV (kZ (bD (qv 0) aj))))) (cK 2 nd)
   (aw (eE (aS gq (Eg true) (qv 2) (qv 1))
   (aw (jI [1] QF rfl (iN (i8 (qv 1) (iB aj) j5)) (cK 3 nd)
   (aw (eE (aS mD tN (bf C_Lshown hr (az (qv 0) (az (qv 2) (az (qv 3) cR)))) (bf C_Lshown hr (az (qv 0) (az (qv 2) (az (bD (qv 1) aj) cR)))))
   (aw (bV (rA (az (qv 2) (az (bD (qv 1) aj) (az (qv 3) cR))))))
   (bE)))))
   (bE))))
   (aw (bV kB))
abbrev s_Lclosed:Stmt:=top 44
def sc_Lclosed:aP ["_law_net_here","_law_inside_here","_law_found"] ["_law_net_here","_law_inside_here"] (av s_Lclosed):=mL
def g_Lclosed_w1:SD->Res Bool:=eT (af (f6 true) (aa 2) (eC .a8))
def g_Lclosed_b2:SF:=aA (aQ 1 (eA bJ (ae (af ba (aa 1) (eA cM (ae (af bL (aa 2) #[129]) ao))) ao))) (aQ 2 (aE G_Lteller (ae (aa 0) #[74])))
abbrev E_Lclosed (K:#[0])(mg:#[11]):=kP K mg "_law_closed" s_Lclosed ["_law_net_here","_law_inside_here"]
def g_Lclosed:SF:=aA (aQ 2 (aE G_Lteller (ae (aa 0) #[74]))) (aA (iO g_Lclosed_w1 g_Lclosed_b2) (c9 1))
def G_Lclosed:DF:=bM 2 3 (g_Lclosed)
abbrev Q_Lclosed (b:Bd):=mY b.P b.w b.K b.mg b.base 3 "_law_closed" ["_law_net_here","_law_inside_here"] (jy b.K (G_Lclosed))
def ok_Lclosed (T:TX b)(C_Lteller:Q_Lteller b)(F:E_Lclosed b.K b.mg):Q_Lclosed b:=bZ (k:=2) (g:=g_Lclosed) F sc_Lclosed rfl rfl λ f cdv A outer s H hr=>by
 have nd:=sc_Lclosed.nd;have hu:=cZ hr;exact ai (aM 2 nd (bf C_Lteller hr (iQ (qv 0) (qv 1))))
   (ai (vG QF (aS vg zB (qv 2) kB)
   (ai (aM 1 nd (kU lq rD T.lI (kZ (aJ aU cu (qv 1) (iy (kZ (bD (qv 2) aj)))))))
   (aw (aM 2 nd (bf C_Lteller hr (iQ (qv 0) (qv 1)))))))
   (aw (jn 1)))
abbrev s_Linside:Stmt:=top 45
def sc_Linside:aP ["_law_net_here","_law_number","_law_many_here","_law_way","_law_rest","_law_pair"] ["_law_net_here","_law_number"] (av s_Linside):=mL
def g_Linside_c1:SD->Res Bool:=eT (af mJ (aa 0) #[56])
def g_Linside_e2:SD->Res D:=aa 0
def g_Linside_c3:SD->Res Bool:=nP (eT (af mJ (aa 0) (af br (aa 1) (aa 2)))) (eT (af gW (aa 2) #[118]))
def g_Linside_e4:SD->Res D:=aa 0
def g_Linside_c5:SD->Res Bool:=nP (eT (af gW (af br (af KW (aa 1) (af br (aa 0) (eC (.int 20)))) (eC (.int 2))) #[118])) (eT (af gW (aa 0) (af br (aa 1) (aa 2))))
def g_Linside_e6:SD->Res D:=aa 0
abbrev E_Linside (K:#[0])(mg:#[11]):=kP K mg "_law_inside" s_Linside ["_law_net_here","_law_number"]
def g_Linside:SF:=aA (aQ 2 (eA dJ (ae #[35] ao))) (aA (aQ 3 (af br (aa 1) (eC (.int 5)))) (aA (aQ 4 (af bw (aa 1) (eC (.int 5)))) #[10]))
def G_Linside:DF:=bM 2 6 (g_Linside)
abbrev Q_Linside (b:Bd):=mY b.P b.w b.K b.mg b.base 4 "_law_inside" ["_law_net_here","_law_number"] (jy b.K (G_Linside))
def ok_Linside (T:TX b)(C_Lclosed:Q_Lclosed b)(F:E_Linside b.K b.mg):Q_Linside b:=bZ (k:=3) (g:=g_Linside) F sc_Linside rfl rfl λ f cdv A outer s H hr=>by
 have nd:=sc_Linside.nd;have hu:=cZ hr;exact ai (aM 2 nd (kU eu mF T.mV (kZ (bD (qv 0) aj))))
   (ai (aM 3 nd (aJ a9 bX (qv 1) aj))
   (ai (aM 4 nd (aJ bO cL (qv 1) aj))
   (ai (eE (aS fu iX (qv 3) aj)
   (aw (bV (iy (kZ (aJ a9 bX (qv 4) (qv 2))))))
   (bE))
   (ai (eE (aS fu iX (qv 3) aj)
   (aw (bV (mZ (own:=["_law_k"]) (cap:=[("_law_rest",4),("_law_many_here",2)]) #[58] rfl (gH rfl T.jd (kZ (qv 2))) ⟨λ _ _ _ _ _=>cK 0 (qx ["_law_k","_law_rest","_law_many_here"]),λ _ _ _ _ _=>j7 (L2.PW.pt (rB (aS fu iX (aJ a9 bX (aJ Kw MR (qv 1) (aJ a9 bX (qv 0) aj)) aj) aj) (pe (aS fu iX (qv 0) (aJ a9 bX (qv 1) (qv 2)))))),λ _ _ _ _ _=>qv 0⟩)))
   (bE))
   (ai (eE (aS fu iX (qv 3) aj)
   (aw (bV (mZ (own:=["_law_k"]) (cap:=[("_law_rest",4),("_law_many_here",2)]) #[58] rfl (gH rfl T.jd (kZ (qv 2))) ⟨λ _ _ _ _ _=>cK 0 (qx ["_law_k","_law_rest","_law_many_here"]),λ _ _ _ _ _=>j7 (L2.PW.pt (rB (aS mD tN (qv 0) (aJ a9 bX (qv 1) (qv 2))) (pe (aS fu iX (qv 2) aj)))),λ _ _ _ _ _=>qv 0⟩)))
   (bE))
   (ai (aM 5 nd (kU lq rD T.lI (kZ (iy (iQ (aJ a9 bX (qv 4) (qv 2)) (aJ a9 bX (aJ bO cL (qv 4) aj) (qv 2)))))))
   (ai (eE (L2.PW.pt (rB (aS fu iX (qv 3) aj) (pe (aS fu iX (bD (qv 5) aj) (bD (qv 5) aj)))))
   (aw (bV (aJ aU cu (i8 (qv 5) j5 (iB aj)) (mZ (own:=["_law_k"]) (cap:=[("_law_pair",5)]) #[58] rfl (iN (i8 (qv 5) (iB aj) j5)) ⟨λ _ _ _ _ _=>cK 0 (qx ["_law_k","_law_pair"]),λ _ _ _ _ _=>j7 (aS mD tN (qv 0) (bD (qv 1) aj)),λ _ _ _ _ _=>qv 0⟩))))
   (bE))
   (aw (JF [5] (bV (bf C_Lclosed hr (iQ (qv 0) (qv 5)))))))))))))
abbrev s_Lhanded:Stmt:=top 46
def sc_Lhanded:aP ["_law_net_here","_law_inside_here","_law_number","_law_some"] ["_law_net_here","_law_inside_here","_law_number"] (av s_Lhanded):=mL
def g_Lhanded_e1:SD->Res D:=af bL #[56] (aa 0)
abbrev E_Lhanded (K:#[0])(mg:#[11]):=kP K mg "_law_handed" s_Lhanded ["_law_net_here","_law_inside_here","_law_number"]
def g_Lhanded:SF:=aA (aQ 3 (bo (gD (aa 1)) (gN 0) cT g_Lhanded_e1 1 [("_law_net_here",0)])) (aA (dD (eT (af gW (af br (aa 2) (eC (.int 3))) #[118])) (aQ 3 (af ba (aa 3) (c8 (aa 3) ly (eP #[68])))) aR) (aA (dD (eT (af gW (af br (af bw (aa 2) (eC (.int 9))) (eC (.int 2))) #[118])) (jJ 3) aR) (c9 3)))
def G_Lhanded:DF:=bM 3 4 (g_Lhanded)
abbrev Q_Lhanded (b:Bd):=mY b.P b.w b.K b.mg b.base 1 "_law_handed" ["_law_net_here","_law_inside_here","_law_number"] (jy b.K (G_Lhanded))
def ok_Lhanded (T:TX b)  (F:E_Lhanded b.K b.mg):Q_Lhanded b:=bZ (k:=0) (g:=g_Lhanded) F sc_Lhanded rfl rfl λ f cdv A outer s H hr=>by
 have nd:=sc_Lhanded.nd;have hu:=cZ hr;exact ai (kc 3 nd (own:=["_law_k"]) (cap:=[("_law_net_here",0)]) #[58] rfl (iN (qv 1)) ⟨λ _ _ _ _ _=>cK 0 (qx ["_law_k","_law_net_here"]),λ _ _ _ _ _=>nS,λ _ _ _ _ _=>bD (bD (qv 1) aj) (qv 0)⟩)
   (ai (eE (aS fu iX (aJ a9 bX (qv 2) aj) aj)
   (aw (aM 3 nd (aJ aU cu (qv 3) (i8 (qv 3) j5 (iB (aJ aU cu aj (aJ a9 bX (aJ bO cL (qv 2) aj) aj)))))))
   (bE))
   (ai (eE (aS fu iX (aJ a9 bX (aJ bO cL (qv 2) aj) aj) aj)
   (aw (MZ 3))
   (bE))
   (aw (jn 3))))
abbrev s_Lasked:Stmt:=top 47
def sc_Lasked:aP ["_law_net_here","_law_some","_law_found","_law_e"] ["_law_net_here","_law_some"] (av s_Lasked):=mL
abbrev E_Lasked (K:#[0])(mg:#[11]):=kP K mg "_law_asked" s_Lasked ["_law_net_here","_law_some"]
def g_Lasked (ca:#[87]):SF:=aA (lD (aQ 2 (dU (gZ ca) (ae (aa 0) #[74]))) (BL ca) (G_Lword ca)) (c9 2)
def G_Lasked (ca:#[87]):DF:=bM 2 4 (g_Lasked ca)
abbrev Q_Lasked (b:Bd):=mY b.P b.w b.K b.mg b.base 5 "_law_asked" ["_law_net_here","_law_some"] (jy b.K (G_Lasked b.ca))
def ok_Lasked (T:TX b)(C_teller:rX b)(C_Lword:Q_Lword b)(F:E_Lasked b.K b.mg):Q_Lasked b:=bZ (k:=4) (g:=g_Lasked b.ca) F sc_Lasked rfl rfl λ f cdv A outer s H hr=>by
 have nd:=sc_Lasked.nd;have hu:=cZ hr;exact ai (vU (i:=3) (λ pn W Y' hx=>
   (aw (aM 2 nd (iF hx C_teller hr (iQ (qv 0) (qv 1))))))
 T.ko (hin T) C_Lword (vV (hr.mono #[120])) nd rfl rfl)
   (aw (jn 2))
abbrev s_Ltruth:Stmt:=top 48
def sc_Ltruth:aP ["_law_net_here","_law_some","_law_found","_law_e"] ["_law_net_here","_law_some"] (av s_Ltruth):=mL
abbrev E_Ltruth (K:#[0])(mg:#[11]):=kP K mg "_law_truth" s_Ltruth ["_law_net_here","_law_some"]
def g_Ltruth (ca:#[87]):SF:=aA (lD (aQ 2 (dU (iT ca) (ae (aa 0) #[74]))) (BL ca) (G_Lword ca)) (c9 2)
def G_Ltruth (ca:#[87]):DF:=bM 2 4 (g_Ltruth ca)
abbrev Q_Ltruth (b:Bd):=mY b.P b.w b.K b.mg b.base 6 "_law_truth" ["_law_net_here","_law_some"] (jy b.K (G_Ltruth b.ca))
def ok_Ltruth (T:TX b)(C_is_group:rY b)(C_Lword:Q_Lword b)(F:E_Ltruth b.K b.mg):Q_Ltruth b:=bZ (k:=5) (g:=g_Ltruth b.ca) F sc_Ltruth rfl rfl λ f cdv A outer s H hr=>by
 have nd:=sc_Ltruth.nd;have hu:=cZ hr;exact ai (vU (i:=3) (λ pn W Y' hx=>
   (aw (aM 2 nd (iF hx C_is_group hr (iQ (qv 0) (qv 1))))))
 T.ko (hin T) C_Lword (vV (hr.mono #[120])) nd rfl rfl)
   (aw (jn 2))
abbrev s_Lleast:Stmt:=top 49
def sc_Lleast:aP ["_law_net_here","_law_some","_law_e"] ["_law_net_here","_law_some"] (av s_Lleast):=mL
abbrev E_Lleast (K:#[0])(mg:#[11]):=kP K mg "_law_least" s_Lleast ["_law_net_here","_law_some"]
def g_Lleast (ca:#[87]):SF:=aA (lD (eG (dU (lH ca) (ae (aa 0) #[74]))) (BL ca) (G_Lword ca)) (bA (eC (.str "good")))
def G_Lleast (ca:#[87]):DF:=bM 2 3 (g_Lleast ca)
abbrev Q_Lleast (b:Bd):=mY b.P b.w b.K b.mg b.base 5 "_law_least" ["_law_net_here","_law_some"] (jy b.K (G_Lleast b.ca))
def ok_Lleast (T:TX b)(C_pulled:yp b)(C_Lword:Q_Lword b)(F:E_Lleast b.K b.mg):Q_Lleast b:=bZ (k:=4) (g:=g_Lleast b.ca) F sc_Lleast rfl rfl λ f cdv A outer s H hr=>by
 have nd:=sc_Lleast.nd;have hu:=cZ hr;exact ai (vU (i:=2) (λ pn W Y' hx=>
   (aw (zD (iF hx C_pulled hr (iQ (qv 0) (qv 1))))))
 T.ko (hin T) C_Lword (vV (hr.mono #[120])) nd rfl rfl)
   (aw (bV iL))
abbrev s_Lparts:Stmt:=top 50
def sc_Lparts:aP ["_law_net_here","_law_some","_law_e"] ["_law_net_here","_law_some"] (av s_Lparts):=mL
abbrev E_Lparts (K:#[0])(mg:#[11]):=kP K mg "_law_parts" s_Lparts ["_law_net_here","_law_some"]
def g_Lparts (ca:#[87]):SF:=aA (lD (eG (dU (dC ca) (ae (aa 0) #[74]))) (BL ca) (G_Lword ca)) (bA (eC (.str "good")))
def G_Lparts (ca:#[87]):DF:=bM 2 3 (g_Lparts ca)
abbrev Q_Lparts (b:Bd):=mY b.P b.w b.K b.mg b.base 5 "_law_parts" ["_law_net_here","_law_some"] (jy b.K (G_Lparts b.ca))
def ok_Lparts (T:TX b)(C_greatest_within:jb b)(C_Lword:Q_Lword b)(F:E_Lparts b.K b.mg):Q_Lparts b:=bZ (k:=4) (g:=g_Lparts b.ca) F sc_Lparts rfl rfl λ f cdv A outer s H hr=>by
 have nd:=sc_Lparts.nd;have hu:=cZ hr;exact ai (vU (i:=2) (λ pn W Y' hx=>
   (aw (zD (iF hx C_greatest_within hr (iQ (qv 0) (qv 1))))))
 T.ko (hin T) C_Lword (vV (hr.mono #[120])) nd rfl rfl)
   (aw (bV iL))
abbrev s_Lspoilt:Stmt:=top 51
def sc_Lspoilt:aP ["_law_net_here","_law_some","_law_number","_law_at"] ["_law_net_here","_law_some","_law_number"] (av s_Lspoilt):=mL
abbrev E_Lspoilt (K:#[0])(mg:#[11]):=kP K mg "_law_spoilt" s_Lspoilt ["_law_net_here","_law_some","_law_number"]
def g_Lspoilt:SF:=aA (dD (eT (af gW (af br (aa 2) (eC (.int 9))) (eC (.int 7)))) (bA (eA cM ao)) aR) (aA (dD (eT (af gW (af br (aa 2) (eC (.int 9))) (eC (.int 8)))) (aA (aQ 3 (af br (af bw (aa 2) (eC (.int 9))) (af ba (eA dJ #[74]) #[118]))) (bA (af ba (af ba (c8 (aa 1) ly (eP (aa 3))) (eA cM (ae (af ba (af ba (af bL #[35] (fZ jG #[118])) #[118]) (af br (af bw (aa 2) (eC (.int 9))) (eC (.int 4)))) ao))) (c8 (aa 1) (eP (aa 3)) ly)))) aR) (c9 1))
def G_Lspoilt:DF:=bM 3 4 (g_Lspoilt)
abbrev Q_Lspoilt (b:Bd):=mY b.P b.w b.K b.mg b.base 1 "_law_spoilt" ["_law_net_here","_law_some","_law_number"] (jy b.K (G_Lspoilt))
def ok_Lspoilt (T:TX b)  (F:E_Lspoilt b.K b.mg):Q_Lspoilt b:=bZ (k:=0) (g:=g_Lspoilt) F sc_Lspoilt rfl rfl λ f cdv A outer s H hr=>by
 have nd:=sc_Lspoilt.nd;have hu:=cZ hr;exact ai (eE (aS fu iX (aJ a9 bX (qv 2) aj) aj)
   (aw (bV (iy cR)))
   (bE))
   (ai (eE (aS fu iX (aJ a9 bX (qv 2) aj) aj)
   (ai (aM 3 nd (aJ a9 bX (aJ bO cL (qv 2) aj) (aJ aU cu (kU eu mF T.mV (kZ (qv 1))) aj)))
   (aw (bV (aJ aU cu (aJ aU cu (i8 (qv 1) j5 (iB (qv 3))) (iy (kZ (aJ aU cu (aJ aU cu (bD (bD (qv 0) aj) (MT aj)) aj) (aJ a9 bX (aJ bO cL (qv 2) aj) aj))))) (i8 (qv 1) (iB (qv 3)) j5)))))
   (bE))
   (aw (jn 1)))
abbrev oF:Stmt:=top 52
def FI:aP ["_law_script","_law_net_here","_law_k","_law_cell_here","_law_number","_law_inside_here","_law_some","_law_found","_law_due","_law_truth_here","_law_handed_here","_law_word_here"] ["_law_script"] (av oF):=mL
def jP (ca:#[87]):SF:=aA (aQ 4 (af br (af ba (af rf (aa 3) (eC (.int 48271))) (af rf (aa 2) (eC (.int 16807)))) (eC (.int 2147483647)))) (aA (aQ 5 (aE G_Linside (ae (aa 1) (ae (aa 4) ao)))) (aA (aQ 6 (aE G_Lspoilt (ae (aa 1) (ae (aE G_Lhanded (ae (aa 1) (ae (aa 5) (ae (af bw (aa 4) (eC (.int 7))) ao)))) (ae (af bw (aa 4) (eC (.int 11))) ao))))) (aA (aQ 7 (aE G_Lteller (ae (aa 1) (ae (aa 5) ao)))) (aA (aQ 8 (eC .a8)) (aA (dD (eT (af (f6 true) (aa 7) (eC .a8))) (aQ 8 (eA gG (ae (af bL #[56] (af bL (aa 7) #[129])) (ae (af bL #[56] (af bL (aa 7) #[118])) (ae (af bL #[56] (af bL (aa 7) (eC (.int 2)))) ao))))) aR) (aA (aQ 9 (af (f6 false) (aa 7) (eC .a8))) (aA (dD (eT (af Ma #[136] (eC (.int 6)))) #[44] aR) (aA (aQ 10 (eA fH (ae (aa 6) ao))) #[23]))))))))
def FJ (ca:#[87]):SF:=aA (aQ 1 (aE G_Lnet (ae (aa 0) (ae #[118] (ae (aE G_Lmany (ae (aE G_Lcell (ae (aa 0) (ae #[129] ao))) ao)) ao))))) (aA (cV [0] (eK #[79]) (gT 2 (bc 2 (bc 3 dw))) ((jP ca))) (bA (eC (.bl true))))
def ym (ca:#[87]):DF:=bM 1 12 (FJ ca)
def LG {f:Addr}{fd:FuncData}(T:TX b)(C_Lcell:Q_Lcell b)(C_Llike:Q_Llike b)(C_Lmany:Q_Lmany b)(C_Lnet:Q_Lnet b)(C_Lteller:Q_Lteller b)(C_Linside:Q_Linside b)(C_Lhanded:Q_Lhanded b)(C_Lasked:Q_Lasked b)(C_Ltruth:Q_Ltruth b)(C_Lleast:Q_Lleast b)(C_Lparts:Q_Lparts b)(C_Lspoilt:Q_Lspoilt b)(F:Hw b.K "law" "law" oF f fd):oY b.P b.w b.K b.mg b.base yW 7 f fd ["_law_script"] (jy b.K (ym b.ca)):=EK (k:=6) (n:=1) (m:=12) (g:=FJ b.ca) F FI rfl rfl λ f cdv A outer s H hr=>by
 have nd:=FI.nd;have hu:=cZ hr;exact ai (aM 1 nd (bf C_Lnet hr (az (qv 0) (az aj (az (bf C_Lmany hr (kZ (bf C_Lcell hr (iQ (qv 0) aj)))) cR)))))
   (ai (jI [0] QF rfl (HH rfl T.yu (kZ (aJ aU cu (iy (iQ aj aj)) (i8 (qv 0) (iB aj) (iB aj))))) (Bb rfl (i9 (i:=2) nd rfl (by walk_at "l") (i9 (i:=3) nd rfl (by walk_at "l") vH)))
   (ai (aM 4 nd (aJ a9 bX (aJ aU cu (aJ j4 rh (qv 3) aj) (aJ j4 rh (qv 2) aj)) aj))
   (ai (aM 5 nd (bf C_Linside hr (iQ (qv 1) (qv 4))))
   (ai (aM 6 nd (bf C_Lspoilt hr (az (qv 1) (az (bf C_Lhanded hr (az (qv 1) (az (qv 5) (az (aJ bO cL (qv 4) aj) cR)))) (az (aJ bO cL (qv 4) aj) cR)))))
   (ai (aM 7 nd (bf C_Lteller hr (iQ (qv 1) (qv 5))))
   (ai (aM 8 nd kB)
   (ai (eE (aS vg zB (qv 7) kB)
   (aw (aM 8 nd (rA (az (bD (bD (qv 1) aj) (bD (qv 7) aj)) (az (bD (bD (qv 1) aj) (bD (qv 7) aj)) (az (bD (bD (qv 1) aj) (bD (qv 7) aj)) cR))))))
   (bE))
   (ai (aM 9 nd (pG qR xK (qv 7) kB))
   (ai (eE (aS Jt MQ (aJ a9 bX (aJ bO cL (qv 4) aj) aj) aj)
   (ai (aM 8 nd (bD (iy (iQ iL iL)) (aJ vf A6 (aJ a9 bX (aJ bO cL (qv 4) aj) aj) aj)))
   (aw (aM 9 nd (qv 8))))
   (bE))
   (ai (aM 10 nd (Ij vv KZ T.wu (kZ (qv 6))))
   (ai (eE (L2.PW.pt (rB (o9 (gx (bf C_Llike hr (iQ (bf C_Lasked hr (iQ (qv 1) (qv 10))) (qv 8))))) (pe (o9 (gx (bf C_Llike hr (iQ (bf C_Ltruth hr (iQ (qv 1) (qv 10))) (qv 9))))))))
   (aw (bV vC))
   (bE))
   (ai (aM 11 nd iL)
   (ai (eE (gx (ib (ty:=.Name "str" ⟨0,0,0,0⟩) rE rfl T.aL (qv 9) rfl T.FD #[30]))
   (aw (aM 11 nd (qv 9)))
   (bE))
   (ai (eE (L2.PW.pt (rB (aS mD tN (bf C_Lleast hr (iQ (qv 1) (qv 10))) (qv 11)) (pe (aS mD tN (bf C_Lparts hr (iQ (qv 1) (qv 10))) (qv 11)))))
   (aw (bV vC))
   (bE))
   (aw (eE (Eu (Lr hu) (Na true) (qv 10) (qv 6) (zk _))
   (aw (bV vC))
   (bE)))))))))))))))))
   (aw (bV vC)))
end
end KL
namespace M
def cell (ns:#[6])(k:Int):Int:=ns.getD k.toNat 0
def many (c:Int):Int:=if c/9%8=1 then 1+c/72%24 else 1+c%9
def yy (c:Int):1<=many c/\many c<=24:=by
 unfold many;split<;>omega
def As (i j:Int):Int:=if j>i then j else i
def mix (ns:#[6])(at_ k:Int):Int:=(cell ns (at_+k%As 1 ((ns.length:Int)-at_))*48271+k*16807+11)%2147483647
def FN (ns:#[6])(a k:Int):0<=mix ns a k:=QU _ #[120]
def OI (big:Int)(ns:#[6])(a:Int):Int:=if cell ns a%2=1 then cell ns a/2%big else cell ns a/2%4
def gap (ns:#[6])(a:Int):Int:=([1,3,100000000000000000000000000000]:#[6]).getD (cell ns (a+1)%3).toNat 0
def place (big:Int)(ns:#[6])(a:Int):Nat->Int
 |0=>OI big ns a
 |k+1=>place big ns a k+1+cell ns (a+1)/((k:Int)+1)%gap ns a
def Au (big:Int)(ns:#[6])(a:Int):place big ns a 0=if cell ns a%2=1 then cell ns a/2%big else cell ns a/2%4:=rfl
def places (big:Int)(ns:#[6])(a:Int)(n:Nat):List Int:=#[57].map (place big ns a)
def BU (ns:#[6])(a:Int):0<gap ns a:=by
 unfold gap;have h1:0<=cell ns (a+1)%3:=QU _ #[120];have h2:cell ns (a+1)%3<3:=Sy _ #[120];have h:cell ns (a+1)%3=0\/cell ns (a+1)%3=1\/cell ns (a+1)%3=2:=by omega
 rcases h with h|h|h<;>rw[h]<;>decide
def place_lt {big:Int}(ns:#[6])(a:Int)(k:Nat):place big ns a k<place big ns a (k+1):=by
 show place big ns a k<place big ns a k+1+cell ns (a+1)/((k:Int)+1)%gap ns a;have h:0<=cell ns (a+1)/((k:Int)+1)%gap ns a:=QU _ (by have:=BU ns a;omega);omega
def r6 {big:Int}(ns:#[6])(a:Int):∀ {j k:Nat},j<k->place big ns a j<place big ns a k
 | j,k+1,h=>by
  have h2:=place_lt (big:=big) ns a k;by_cases e:j=k
  ·subst e;exact h2
  ·exact Int.lt_trans (r6 ns a #[1]) h2
def places_len (big:Int)(ns:#[6])(a:Int)(n:Nat):(places big ns a n).length=n:=by simp[places]
end M
namespace N2
def keyOf (o t:Int):Int×Int:=if o>t then (o,t) else (t,o)
abbrev FL:=Int×Int×Int
def wx (t:FL):Int×Int:=keyOf t.1 t.2.1
structure Dr where
 pl:Nat->Int
 sh:Nat->Nat->Int
 dr:Nat->Nat->Int
 mono:∀ {j k:Nat},j<k->pl j<pl k
 nn:∀ k j:Nat,0<=sh k j
def places (d:Dr)(n:Nat):List Int:=#[57].map d.pl
def rows (d:Dr)(n:Nat):List #[6]:=#[57].map λ k=>(List.range k).map λ j=>d.sh k j
def places_len (d:Dr)(n:Nat):(places d n).length=n:=by simp[places]
def tV (d:Dr)(n:Nat):(places d n).Pairwise (· < ·):=by
 unfold places;rw[Sa];exact List.pairwise_lt_range.imp λ h=>d.mono h
end N2
namespace KL
open DL XF
variable {d x:D}{a b i:Int}{ds r xs:List D}{ps:#[6]}{N j n:Nat}{τ τ':SD}{c:#[66]}{f g:#[28]}{body:SF}{tg:xg}
def mul_r {j:Int}(h : -(2^64)<j/\j<2^64):kC i j:=.inl (.inr h)
def JS {j:Int}(h : -(2^64)<i/\i<2^64):kC i j:=.inl (.inl h)
def big:Int:=10^30
def BW:0<big:=by decide
def Nn:tK (.int 10) (.int 30)=.ok (.int big):=by rfl
def Nl (τ:SD):af tK (eC (.int 10)) (eC (.int 30)) τ=.ok (.int big):=by
 simp only[af,eC,Res.aK,Nn]
def Aw (ps:#[6])(rows:List #[6]):D:=.tup [.tup (ps.map .int),.tup (rows.map λ r=>.tup (r.map .int))]
def uT (rows:List #[6]):aT (rows.map λ r=>D.tup (r.map .int))=true:=bK λ d m=>by obtain⟨r,_,rfl⟩:=PF.mp m;exact ah r
def yD (ps:#[6])(rows:List #[6]):(Aw ps rows).pure=true:=by
 simp[Aw,D.pure,aT,ah,uT]
def fF(h:f τ=.ok (.int a))(hb:0<b):af br f (eC (.int b)) τ=.ok (.int (a%b)):=by
 rw[aZ h (show eC (.int b) τ=.ok (.int b) from rfl)];simp[qr,hb]
def fm(h:f τ=.ok (.int a))(hb:0<b/\b<1073741824):af bw f (eC (.int b)) τ=.ok (.int (a/b)):=by
 rw[aZ h (show eC (.int b) τ=.ok (.int b) from rfl)];simp[qr,L2.jl,hb]
def iu(h:f τ=.ok (.int a))(h2:g τ=.ok (.int b)):eT (af gW f g) τ=.ok (decide (a=b)):=by
 unfold eT;rw[aZ h h2];show Res.ok (xor false (decide (a=b)))=_;rw[Bool.false_xor]
def pK(h:f τ=.ok (.int a))(h2:g τ=.ok (.int b)):eT (af mJ f g) τ=.ok (!decide (a=b)):=by
 unfold eT;rw[aZ h h2];show Res.ok (xor true (decide (a=b)))=_;rw[Bool.true_xor]
def FP(h:f τ=.ok (.int a))(h2:g τ=.ok (.int b)):eT (af Ma f g) τ=.ok (decide (b<a)):=by
 unfold eT;rw[aZ h h2];rfl
def LJ(h:f τ=.ok (.int a))(h2:g τ=.ok (.int b)):eT (af NI f g) τ=.ok (decide (a<b)):=by
 unfold eT;rw[aZ h h2];rfl
def uS {i:Nat}(h:τ[i]?=some (some d))(hp:d.pure=true):c9 i τ=.rt d:=by
 unfold c9;rw[h]
def sq {f g:#[66]}{a b:Bool}(h:f τ=.ok a)(h2:g τ=.ok b):nP f g τ=.ok (a||b):=by
 unfold nP;rw[h];cases a
 ·exact h2
 ·rfl
def bg{g:SF}(hl:ds.length=n)(ht:ds.map some++List.replicate (N-n) none=τ)(h:g τ=.rt d):bM n N g ds=.ok d:=by
 unfold bM;rw[PH hl,ht,h];rfl
def fD{y:D}{r:Res D}(h1:f τ=.ok x)(h2:g τ=.ok y)(h3:bL x y=r):af bL f g τ=r:=(aZ h1 h2).trans h3
def fY(hi:i=j)(h:xs[j]?=some d):bL (.tup xs) (.int i)=.ok d:=by
 simp[bL,EL hi h]
def sr {t:Tg}(hi:i=j)(h:xs[j]?=some d):bL (.lst t xs) (.int i)=.ok d:=by
 simp[bL,EL hi h]
def FO {i:Nat}(h1:#[108])(h2:f τ=.ok d)(hp:d.aD=false)(hl:xs.length<16777216):i0 i f τ=.nx (τ.set i (some (.lst .own (xs++[d])))):=by
 unfold i0;have e:dX τ i=some xs:=by unfold dX;rw[h1]
 rw[e];simp[h2,hp,hl]
def wy{t:Tg}(h:f τ=.ok (.lst t xs)):eA dJ (ae f ao) τ=.ok (.int xs.length):=by
 rw[fC (cG h)];rfl
def LH{g:SF}{t:SD}(hl:ds.length=n)(ht:ds.map some++List.replicate (N-n) none=τ)(h:g τ=.nx t):bM n N g ds=.ok .a8:=by
 unfold bM;rw[PH hl,ht,h];rfl
def sd{b:Bool}(h:f τ=.ok (.bl b)):eT f τ=.ok b:=by
 unfold eT;rw[h];rfl
def mz{a b:SF}(h:c τ=.ok false):dD c a b τ=b τ:=by rw[JI h];rfl
def nv{a b:SF}(h:c τ=.ok true):dD c a b τ=a τ:=by rw[JI h];rfl
def wG(h:f τ=.ok d):eG f τ=.nx τ:=by
 unfold eG;rw[h];rfl
def Nm {f g:#[66]}(h:f τ=.ok false):gU f g τ=.ok false:=by unfold gU;rw[h];rfl
def Nk {f g:#[66]}{b:Bool}(h:f τ=.ok true)(h2:g τ=.ok b):gU f g τ=.ok b:=by unfold gU;rw[h,Res.aK,PH rfl,h2]
def wB {f:#[66]}{b:Bool}(h:f τ=.ok b):gC f τ=.ok (!b):=by unfold gC;rw[h];rfl
def kN{a b s:SF}(h:c τ=.ok true)(h2:a τ=.rt d):aA (dD c a b) s τ=.rt d:=by
 unfold aA;rw[nv h,h2];rfl
def dM{a s:SF}(h:c τ=.ok false):aA (dD c a aR) s τ=s τ:=by
 refine aC ?_;rw[mz h];rfl
def Av(h:f τ=.ok (.bl true)):iM f g τ=g τ:=by unfold iM;rw[h];rfl
def wC{C:PySem.Addr}(h:f τ=.eB C):eG f τ=.ex C τ:=by
 unfold eG;rw[h];rfl
def se {i:Nat}{C:PySem.Addr}(h:f τ=.eB C):aQ i f τ=.ex C τ:=by
 unfold aQ;rw[h];rfl
def oM {a b:SF}{t:SD}{C:PySem.Addr}(h:a τ=.ex C t):aA a b τ=.ex C t:=by
 unfold aA;rw[h];rfl
def ny {a b:SF}(h:a τ=.rt d):aA a b τ=.rt d:=by
 unfold aA;rw[h];rfl
def nz{g:SF}{t:SD}{C:PySem.Addr}(hl:ds.length=n)(ht:ds.map some++List.replicate (N-n) none=τ)(h:g τ=.ex C t):bM n N g ds=.eB C:=by
 unfold bM;rw[PH hl,ht,h];rfl
def wD {g:SF}{p:PySem.Addr->Bool}{G:DF}{t:SD}{C:PySem.Addr}(h:g τ=.ex C t)(hc:p C=true)(hG:G [.exc C]=.ok d):lD g p G τ=.rt d:=by
 unfold lD;rw[h];show(if p C=true then (match G [.exc C] with|.ok d=>Fl.rt d|_=>.bad) else .bad)=_;rw[PH hc,hG]
def wA {g:SF}{p:PySem.Addr->Bool}{G:DF}{t:SD}(h:g τ=.nx t):lD g p G τ=.nx t:=by
 unfold lD;rw[h]
def Apart (ca:#[76])(NM:List PySem.Str):Prop:=∀ x y,x∈NM->y∈NM->ca x=ca y->x=y
def iW(h:f τ=.ok (.int a))(h2:g τ=.ok (.int b)):af ba f g τ=.ok (.int (a+b)):=by rw[aZ h h2];rfl
def wz (xs:#[6])(a b:Option Int):DL.cut (xs.map D.int) a b=(DL.cut xs a b).map D.int:=by
 unfold DL.cut;simp[List.map_drop,List.map_take]
def wF {j:Int}(h:0<j):br (.int i) (.int j)=.ok (.int (i%j)):=by
 show(if (0:Int)<j then _ else _)=_;exact PH h
def BV (i:Int):br (.int i) (.int big)=.ok (.int (i%big)):=wF BW
def eq_self (i:Int):gW (.int i) (.int i)=.ok (.bl true):=by
 show Res.ok (D.bl (xor false (decide (i=i))))=_;rw[P8 rfl];rfl
def IE (o t:Int):wk [.int o,.int t]=.ok (.tup [.int (N2.keyOf o t).1,.int (N2.keyOf o t).2]):=by
 unfold N2.keyOf;refine bg rfl rfl (dS ?_ rfl);unfold vE;rw[FP (a:=o) (b:=t) rfl rfl];by_cases h:o>t
 ·rw[P8 h,PH h];rfl
 ·rw[PQ h,PL h];rfl
def FT (n:Nat)(i:Int):G_Llike (n+1) [.int i,.int i]=.ok (.bl true):=by
 refine bg (τ:=[some (.int i),some (.int i),none]) rfl rfl ?_;unfold g_Llike;rw[dM rfl,dM rfl];refine kN rfl (dS ?_ rfl);rw[Av rfl,Av rfl,aZ (x:=.int i) (y:=.int i) rfl rfl];exact eq_self i
def oO (n:Nat)(s:PySem.Str):G_Llike (n+1) [.str s,.str s]=.ok (.bl true):=by
 refine bg (τ:=[some (.str s),some (.str s),none]) rfl rfl ?_;unfold g_Llike;rw[dM rfl,dM rfl,dM rfl];refine kN rfl (dS ?_ rfl);rw[Av rfl,aZ (x:=.str s) (y:=.str s) rfl rfl];have e:(s == s)=true:=S3 s
 first
  |(show Res.ok (D.bl (xor false (decide (s=s))))=_;rw[P8 rfl];rfl)
  |(show Res.ok (D.bl (xor false (s == s)))=_;rw[e];rfl)
  |simp[gW,dg,vD]
abbrev S (ns:#[6]):D:=.lst .aq #[85]
def cell_out {ns:#[6]}{k:Int}(h1:¬ k<ns.length):M.cell ns k=0:=by
 unfold M.cell;rw[P5,Qy #[1]];rfl
def BX {ns:#[6]}{i:Nat}(h:i<ns.length):#[85][i]?=some (.int (ns.getD i 0)):=by
 rw[P0,Pr h,P5,Pr h];rfl
def oN (ns:#[6]){k:Int}(h:0<=k):G_Lcell [S ns,.int k]=.ok (.int (M.cell ns k)):=by
 refine bg (τ:=[some (S ns),some (.int k)]) rfl rfl ?_;have v0:aa 0 [some (S ns),some (.int k)]=.ok (S ns):=cf rfl (ah ns);have l0:=wy v0;rw[Pk]at l0;have t:=LJ (f:=aa 1) (a:=k) rfl l0;unfold g_Lcell;by_cases h1:k<ns.length
 ·rw[P8 h1]at t;exact kN t (dS (fD v0 (y:=.int k) rfl (sr (j:=k.toNat) #[1] (BX #[1]))) rfl)
 ·rw[PQ h1]at t;rw[dM t,cell_out h1];rfl
def ID (c:Int):G_Lmany [.int c]=.ok (.int (M.many c)):=by
 refine bg (τ:=[some (.int c)]) rfl rfl ?_;have t:=iu (τ:=[some (.int c)]) (fF (fm (f:=aa 0) (a:=c) rfl (by decide:(0:Int)<9/\(9:Int)<1073741824)) (by decide:(0:Int)<8)) (g:=eC (.int 1)) (b:=1) rfl;unfold g_Lmany M.many;by_cases h1:c/9%8=1
 ·rw[P8 h1]at t;rw[PH h1];exact kN t (dS (iW (f:=eC (.int 1)) (a:=1) rfl (fF (fm (f:=aa 0) (a:=c) rfl (by decide:(0:Int)<72/\(72:Int)<1073741824)) (by decide:(0:Int)<24))) rfl)
 ·rw[PQ h1]at t;rw[dM t,PL h1];exact dS (iW (f:=eC (.int 1)) (a:=1) rfl (fF (f:=aa 0) (a:=c) rfl (by decide:(0:Int)<9))) rfl
def FQ (ns:#[6])(a:Int)(n i:Nat):SD:=[some (S ns),some (.int a),some (.int n),some (.int (M.cell ns a)),some (.int (M.cell ns (a+1))),some (.int (M.place big ns a i)),some (.lst .own ((M.places big ns a i).map D.int)),if i=0 then none else some (.int ((i:Int)-1))]
def yE (ns:#[6])(a:Int)(i:Nat):M.places big ns a (i+1)=M.places big ns a i++[M.place big ns a i]:=by
 unfold M.places;rw[Uz,PR];rfl
def LK (ns:#[6])(a:Int):bL (.lst .own [.int 1,.int 3,.int (10^29)]) (.int (M.cell ns (a+1)%3))=.ok (.int (M.gap ns a)):=by
 unfold M.gap;have h:M.cell ns (a+1)%3=0\/M.cell ns (a+1)%3=1\/M.cell ns (a+1)%3=2:=by omega
 rcases h with h|h|h<;>rw[h]<;>rfl
def yC (ns:#[6]){i:Nat}(hi:i<64)(o:#[95]):g_Lplaces_b1 [some (S ns),some (.int a),some (.int n),some (.int (M.cell ns a)),some (.int (M.cell ns (a+1))),some (.int (M.place big ns a i)),some (.lst .own ((M.places big ns a i).map D.int)),some (.int (i:Int))]=.nx (FQ ns a n (i+1)):=by
 unfold g_Lplaces_b1;rw[aC (FO (i:=6) (xs:=(M.places big ns a i).map D.int) (d:=.int (M.place big ns a i)) rfl rfl rfl (by rw[Pk,M.places_len];omega))];show aQ 5 _ [some (S ns),some (.int a),some (.int n),some (.int (M.cell ns a)),some (.int (M.cell ns (a+1))),some (.int (M.place big ns a i)),some (.lst .own ((M.places big ns a i).map D.int++[.int (M.place big ns a i)])),some (.int (i:Int))]=_;generalize hτ:[some (S ns),some (.int a),some (.int n),some (.int (M.cell ns a)),some (.int (M.cell ns (a+1))),some (.int (M.place big ns a i)),some (.lst .own ((M.places big ns a i).map D.int++[.int (M.place big ns a i)])),some (.int (i:Int))]=τ;have v4:aa 4 τ=.ok (.int (M.cell ns (a+1))):=by rw[<-hτ];rfl
 have v5:aa 5 τ=.ok (.int (M.place big ns a i)):=by rw[<-hτ];rfl
 have v7:aa 7 τ=.ok (.int (i:Int)):=by rw[<-hτ];rfl
 have q1:af bw (aa 4) (af ba (aa 7) #[118]) τ=.ok (.int (M.cell ns (a+1)/((i:Int)+1))):=by
  rw[aZ v4 (iW v7 (g:=eC (.int 1)) (b:=1) rfl)];show(if (0:Int)<(i:Int)+1/\(i:Int)+1<1073741824 then _ else _)=_;exact PH #[1]
 have q2:af bL (eA cM (ae #[118] (ae (eC (.int 3)) (ae (af tK (eC (.int 10)) (eC (.int 29))) ao)))) (af br (aa 4) (eC (.int 3))) τ=.ok (.int (M.gap ns a)):=
  fD (x:=.lst .own [.int 1,.int 3,.int (10^29)]) rfl (fF v4 (by decide:(0:Int)<3)) (LK ns a)
 rw[aO (iW (iW v5 (g:=eC (.int 1)) (b:=1) rfl) ((aZ q1 q2).trans (wF (M.BU ns a)))) rfl,<-hτ];unfold FQ;rw[yE,PR,PL (Nat.succ_ne_zero i)];have e:(((i+1:Nat):Int)-1)=i:=by omega
 rw[e];rfl
def yz (ns:#[6])(hn:n<=64):cg (gN 7) g_Lplaces_b1 (#[57].map λ k:Nat=>D.int (k:Int)) (FQ ns a n 0)=.nx (FQ ns a n n):=by
 have key:=Bg (tg:=gN 7) (body:=g_Lplaces_b1) (FQ ns a n) (ds:=#[57].map λ k:Nat=>D.int (k:Int)) 0 λ j d hd=>by
  have hj:j<n:=by
   have:=(Pw.mp hd).1;simpa using this
  have ed:d=.int (j:Int):=by
   rw[P0,QM hj]at hd;exact(QC hd).symm
  subst ed;rw[R3];exact⟨_,rfl,yC ns #[1] none⟩
 rw[Pk,Qd,R3]at key;exact key
def Du (ns:#[6]):(dD (eT (af gW (af br (aa 3) (eC (.int 2))) #[118])) (aQ 5 (af br (af bw (aa 3) (eC (.int 2))) (af tK (eC (.int 10)) (eC (.int 30))))) aR) [some (S ns),some (.int a),some (.int n),some (.int (M.cell ns a)),some (.int (M.cell ns (a+1))),some (.int (M.cell ns a/2%4)),none,none]=.nx [some (S ns),some (.int a),some (.int n),some (.int (M.cell ns a)),some (.int (M.cell ns (a+1))),some (.int (M.place big ns a 0)),none,none]:=by
 have e3:=M.Au big ns a;rw[e3];have t:=iu (τ:=[some (S ns),some (.int a),some (.int n),some (.int (M.cell ns a)),some (.int (M.cell ns (a+1))),some (.int (M.cell ns a/2%4)),none,none]) (fF (f:=aa 3) (a:=M.cell ns a) rfl (by decide:(0:Int)<2)) (g:=eC (.int 1)) (b:=1) rfl;by_cases h1:M.cell ns a%2=1
 ·rw[P8 h1]at t;rw[PH h1,nv t];exact aO ((aZ (fm (f:=aa 3) (a:=M.cell ns a) rfl (by decide:(0:Int)<2/\(2:Int)<1073741824)) (Nl _)).trans (BV _)) rfl
 ·rw[PQ h1]at t;rw[PL h1,mz t];rfl
def Dt (ns:#[6])(hn:n<=64):cV [] (bC (ae (aa 2) ao)) (gN 7) g_Lplaces_b1 (FQ ns a n 0)=.nx (FQ ns a n n):=by
 have hi:bC (ae (aa 2) ao) (FQ ns a n 0)=.ok (false,#[57].map λ k:Nat=>D.int (k:Int)):=by
  unfold bC;rw[cG (d:=.int n) rfl,Res.aK,gI #[1]]
 unfold cV;rw[show cI [] (FQ ns a n 0)=FQ ns a n 0 from rfl,hi];have:aG (#[57].map λ k:Nat=>D.int (k:Int))=#[57].map λ k:Nat=>D.int (k:Int):=bb _ _;simp only[this];exact yz ns (a:=a) hn
def places_eq (ns:#[6])(ha:0<=a)(hn:n<=64):G_Lplaces [S ns,.int a,.int n]=.ok (.lst .own ((M.places big ns a n).map D.int)):=by
 refine bg (τ:=[some (S ns),some (.int a),some (.int n),none,none,none,none,none]) rfl rfl ?_;have cc:∀ {τ:SD}{f:#[28]}{k:Int},τ[0]?=some (some (S ns))->f τ=.ok (.int k)->0<=k->aE G_Lcell (ae (aa 0) (ae f ao)) τ=.ok (.int (M.cell ns k)):=λ h hf hk=>
  dj (ds:=[S ns,.int _]) (aI (cf h (ah ns)) (cG hf)) (by simpa[aG,D.aq] using oN ns hk) (by simp[aB,D.aD])
 unfold g_Lplaces;rw[aC (aO (cc (f:=aa 1) rfl rfl ha) rfl)];rw[aC (aO (cc rfl (iW (f:=aa 1) (a:=a) rfl (g:=eC (.int 1)) (b:=1) rfl) #[1]) rfl)];rw[aC (aO (fF (fm (f:=aa 3) (a:=M.cell ns a) rfl (by decide:(0:Int)<2/\(2:Int)<1073741824)) (by decide:(0:Int)<4)) rfl)];show aA _ _ [some (S ns),some (.int a),some (.int n),some (.int (M.cell ns a)),some (.int (M.cell ns (a+1))),some (.int (M.cell ns a/2%4)),none,none]=_;rw[aC (Du ns)];rw[aC (aO (d:=.lst .own []) rfl rfl)];show aA _ _ (FQ ns a n 0)=_;exact(aC (Dt ns (a:=a) hn)).trans rfl
def FU (x:Int):0<M.As 1 x:=by
 unfold M.As;split<;>omega
def wH (ns:#[6]){k:Int}(ha:0<=a)(hk:0<=k):G_Lmix [S ns,.int a,.int k]=.ok (.int (M.mix ns a k)):=by
 have h1:=FU ((ns.length:Int)-a);have h2:0<=a+k%M.As 1 ((ns.length:Int)-a):=Int.add_nonneg ha (QU _ #[1]);have c1:kC (M.cell ns (a+k%M.As 1 ((ns.length:Int)-a))) 48271:=mul_r #[120];have c2:kC k 16807:=mul_r #[120];have e:=oN ns h2;unfold M.As at *;simp[G_Lmix,g_Lmix,bM,aA,dD,aQ,bA,c9,aR,eG,i0,jJ,iY,fL,cV,eT,af,aa,eC,eA,fZ,iM,kR,vE,c8,eP,ly,gD,bC,eK,aE,eU,fB,bo,ae,ao,gC,gU,nP,cT,dJ,fJ,gh,fH,dh,gG,cM,bI,df,tL,qr,L2.jl,L2.jA,ba,gW,mJ,vD,dg,f6,tG,jG,D.view,c5,Tg.view,D.aq,aG,D.aD,aB,D.cN,bR,D.aX,bW,Tg.aX,jq,D.a7,cF,Tg.a7,D.pure,aT,dX,dB,gN,gT,bc,dw,cU,D.isExc,uA,vK,sY,vI,j9,cI,fE,cW,bJ,cutD,cQ,fK,kT,dY,KT.kind,bL,bb,h1,e,c1,c2,M.mix,M.As]
def FW {x y z:Int}(h0:0<=i)(h1:i<3)(hx:0<=x)(hy:0<=y)(hz:0<=z):∃ v,0<=v/\L2.tw [D.int x,D.int y,D.int z] i=some (.int v):=by
 have h:i=0\/i=1\/i=2:=by omega
 rcases h with h|h|h
 ·exact⟨x,hx,by rw[h];rfl⟩
 ·exact⟨y,hy,by rw[h];rfl⟩
 ·exact⟨z,hz,by rw[h];rfl⟩
def OZ (d:D):Prop:=∃ v:Int,0<=v/\d=.int v
def tW (r:Fl):Prop:=∃ v:Int,0<=v/\r=.rt (.int v)
def su (ns:#[6]){k j:Int}(ha:0<=a)(hk:0<=k)(hk2:k<=24)(hj:0<=j)(hj2:j<=24):∃ v,0<=v/\G_Lshade [S ns,.int a,.int k,.int j]=.ok (.int v):=by
 have e2:=oN ns (show 0<=a+2 by omega);have e3:=oN ns (show 0<=a+3 by omega);have ha4:0<=a+4:=by omega
 have m1:=wH ns ha4 (show 0<=300+k by omega);have m2:=wH ns ha4 (show 0<=300+j by omega);have hkk:0<=k*(k-1)/2:=by
  have:0<=k*(k-1):=by
   by_cases h:k=0
   ·rw[h];decide
   ·exact Int.mul_nonneg hk #[1]
  omega
 have m3:=wH ns ha4 (show 0<=k*(k-1)/2+j by omega);have n3:=M.FN ns (a+4) (k*(k-1)/2+j);have c1:kC k (k-1):=JS #[1];have m4:=λ {x:Int} (h:0<=x)=>wH ns ha4 h;have n4:=M.FN ns (a+4);generalize hcell:M.cell ns (a+2)=hd at *;generalize M.cell ns (a+3)=c3 at *;generalize M.mix ns (a+4) (300+k)=x1 at *;generalize M.mix ns (a+4) (300+j)=x2 at *;generalize M.mix ns (a+4) (k*(k-1)/2+j)=x3 at *;have hb:0<1+hd/4%4:=by omega
 have ho0:0<=x1/3%(1+hd/4%4):=QU _ #[1];have ht0:0<=x2/3%(1+hd/4%4):=QU _ #[1]
 suffices h:tW (g_Lshade [some (S ns),some (.int a),some (.int k),some (.int j),none,none,none,none,none,none]) by
  obtain⟨v,hv,e⟩:=h;refine⟨v,hv,?_⟩;simp[G_Lshade,bM,List.replicate,e]
 unfold g_Lshade;refine l5 tW (.int hd) (by simp[bM,aA,dD,aQ,bA,c9,aR,eG,i0,jJ,iY,fL,cV,eT,af,aa,eC,eA,fZ,iM,kR,vE,c8,eP,ly,gD,bC,eK,aE,eU,fB,bo,ae,ao,gC,gU,nP,cT,dJ,fJ,gh,fH,dh,gG,cM,bI,df,tL,qr,L2.jl,L2.jA,ba,gW,mJ,vD,dg,f6,tG,jG,D.view,c5,Tg.view,D.aq,aG,D.aD,aB,D.cN,bR,D.aX,bW,Tg.aX,jq,D.a7,cF,Tg.a7,D.pure,aT,dX,dB,gN,gT,bc,dw,cU,D.isExc,uA,vK,sY,vI,j9,cI,fE,cW,bJ,cutD,cQ,fK,kT,dY,KT.kind,bL,bb,e2]) rfl ?_;refine l5 tW (.int (1+hd/4%4)) (by simp[bM,aA,dD,aQ,bA,c9,aR,eG,i0,jJ,iY,fL,cV,eT,af,aa,eC,eA,fZ,iM,kR,vE,c8,eP,ly,gD,bC,eK,aE,eU,fB,bo,ae,ao,gC,gU,nP,cT,dJ,fJ,gh,fH,dh,gG,cM,bI,df,tL,qr,L2.jl,L2.jA,ba,gW,mJ,vD,dg,f6,tG,jG,D.view,c5,Tg.view,D.aq,aG,D.aD,aB,D.cN,bR,D.aX,bW,Tg.aX,jq,D.a7,cF,Tg.a7,D.pure,aT,dX,dB,gN,gT,bc,dw,cU,D.isExc,uA,vK,sY,vI,j9,cI,fE,cW,bJ,cutD,cQ,fK,kT,dY,KT.kind,bL,bb]) rfl ?_;refine l5 tW (.int (x1/3%(1+hd/4%4))) (by simp[bM,aA,dD,aQ,bA,c9,aR,eG,i0,jJ,iY,fL,cV,eT,af,aa,eC,eA,fZ,iM,kR,vE,c8,eP,ly,gD,bC,eK,aE,eU,fB,bo,ae,ao,gC,gU,nP,cT,dJ,fJ,gh,fH,dh,gG,cM,bI,df,tL,qr,L2.jl,L2.jA,ba,gW,mJ,vD,dg,f6,tG,jG,D.view,c5,Tg.view,D.aq,aG,D.aD,aB,D.cN,bR,D.aX,bW,Tg.aX,jq,D.a7,cF,Tg.a7,D.pure,aT,dX,dB,gN,gT,bc,dw,cU,D.isExc,uA,vK,sY,vI,j9,cI,fE,cW,bJ,cutD,cQ,fK,kT,dY,KT.kind,bL,bb,m1,hb]) rfl ?_;refine l5 tW (.int (x2/3%(1+hd/4%4))) (by simp[bM,aA,dD,aQ,bA,c9,aR,eG,i0,jJ,iY,fL,cV,eT,af,aa,eC,eA,fZ,iM,kR,vE,c8,eP,ly,gD,bC,eK,aE,eU,fB,bo,ae,ao,gC,gU,nP,cT,dJ,fJ,gh,fH,dh,gG,cM,bI,df,tL,qr,L2.jl,L2.jA,ba,gW,mJ,vD,dg,f6,tG,jG,D.view,c5,Tg.view,D.aq,aG,D.aD,aB,D.cN,bR,D.aX,bW,Tg.aX,jq,D.a7,cF,Tg.a7,D.pure,aT,dX,dB,gN,gT,bc,dw,cU,D.isExc,uA,vK,sY,vI,j9,cI,fE,cW,bJ,cutD,cQ,fK,kT,dY,KT.kind,bL,bb,m2,hb]) rfl ?_;generalize x1/3%(1+hd/4%4)=one at *;generalize x2/3%(1+hd/4%4)=other at *;refine l5 tW (.int (x3/5)) (by simp[bM,aA,dD,aQ,bA,c9,aR,eG,i0,jJ,iY,fL,cV,eT,af,aa,eC,eA,fZ,iM,kR,vE,c8,eP,ly,gD,bC,eK,aE,eU,fB,bo,ae,ao,gC,gU,nP,cT,dJ,fJ,gh,fH,dh,gG,cM,bI,df,tL,qr,L2.jl,L2.jA,ba,gW,mJ,vD,dg,f6,tG,jG,D.view,c5,Tg.view,D.aq,aG,D.aD,aB,D.cN,bR,D.aX,bW,Tg.aX,jq,D.a7,cF,Tg.a7,D.pure,aT,dX,dB,gN,gT,bc,dw,cU,D.isExc,uA,vK,sY,vI,j9,cI,fE,cW,bJ,cutD,cQ,fK,kT,dY,KT.kind,bL,bb,m3,c1]) rfl ?_;refine uD tW OZ ⟨decide (hd%4<2) && !decide (one=other),by by_cases q:hd%4<2<;>simp[bM,aA,dD,aQ,bA,c9,aR,eG,i0,jJ,iY,fL,cV,eT,af,aa,eC,eA,fZ,iM,kR,vE,c8,eP,ly,gD,bC,eK,aE,eU,fB,bo,ae,ao,gC,gU,nP,cT,dJ,fJ,gh,fH,dh,gG,cM,bI,df,tL,qr,L2.jl,L2.jA,ba,gW,mJ,vD,dg,f6,tG,jG,D.view,c5,Tg.view,D.aq,aG,D.aD,aB,D.cN,bR,D.aX,bW,Tg.aX,jq,D.a7,cF,Tg.a7,D.pure,aT,dX,dB,gN,gT,bc,dw,cU,D.isExc,uA,vK,sY,vI,j9,cI,fE,cW,bJ,cutD,cQ,fK,kT,dY,KT.kind,bL,bb,q],λ _=>?_⟩ ⟨.int (x3/5),rfl,_,by omega,rfl⟩ ?_
 ·have hx:0<=400+4*(if other>one then other else one)+(if other<one then other else one):=by split<;>split<;>omega
  have c2:kC 4 (if other>one then other else one):=JS #[120];refine⟨.int (M.mix ns (a+4) (400+4*(if other>one then other else one)+(if other<one then other else one))/5),by simp[bM,aA,dD,aQ,bA,c9,aR,eG,i0,jJ,iY,fL,cV,eT,af,aa,eC,eA,fZ,iM,kR,vE,c8,eP,ly,gD,bC,eK,aE,eU,fB,bo,ae,ao,gC,gU,nP,cT,dJ,fJ,gh,fH,dh,gG,cM,bI,df,tL,qr,L2.jl,L2.jA,ba,gW,mJ,vD,dg,f6,tG,jG,D.view,c5,Tg.view,D.aq,aG,D.aD,aB,D.cN,bR,D.aX,bW,Tg.aX,jq,D.a7,cF,Tg.a7,D.pure,aT,dX,dB,gN,gT,bc,dw,cU,D.isExc,uA,vK,sY,vI,j9,cI,fE,cW,bJ,cutD,cQ,fK,kT,dY,KT.kind,bL,bb,m4 hx,c2],rfl,_,?_,rfl⟩;have:=n4 (400+4*(if other>one then other else one)+(if other<one then other else one));omega
 ·rintro _ ⟨v1,hv1,rfl⟩;refine uD tW OZ ⟨decide (hd%4=1)&&decide (k*(k-1)/2+j=hd/32%36),by by_cases q:hd%4=1<;>simp[bM,aA,dD,aQ,bA,c9,aR,eG,i0,jJ,iY,fL,cV,eT,af,aa,eC,eA,fZ,iM,kR,vE,c8,eP,ly,gD,bC,eK,aE,eU,fB,bo,ae,ao,gC,gU,nP,cT,dJ,fJ,gh,fH,dh,gG,cM,bI,df,tL,qr,L2.jl,L2.jA,ba,gW,mJ,vD,dg,f6,tG,jG,D.view,c5,Tg.view,D.aq,aG,D.aD,aB,D.cN,bR,D.aX,bW,Tg.aX,jq,D.a7,cF,Tg.a7,D.pure,aT,dX,dB,gN,gT,bc,dw,cU,D.isExc,uA,vK,sY,vI,j9,cI,fE,cW,bJ,cutD,cQ,fK,kT,dY,KT.kind,bL,bb,q,c1],λ _=>⟨.int (v1+1),by simp[bM,aA,dD,aQ,bA,c9,aR,eG,i0,jJ,iY,fL,cV,eT,af,aa,eC,eA,fZ,iM,kR,vE,c8,eP,ly,gD,bC,eK,aE,eU,fB,bo,ae,ao,gC,gU,nP,cT,dJ,fJ,gh,fH,dh,gG,cM,bI,df,tL,qr,L2.jl,L2.jA,ba,gW,mJ,vD,dg,f6,tG,jG,D.view,c5,Tg.view,D.aq,aG,D.aD,aB,D.cN,bR,D.aX,bW,Tg.aX,jq,D.a7,cF,Tg.a7,D.pure,aT,dX,dB,gN,gT,bc,dw,cU,D.isExc,uA,vK,sY,vI,j9,cI,fE,cW,bJ,cutD,cQ,fK,kT,dY,KT.kind,bL,bb],rfl,_,by omega,rfl⟩⟩ ⟨.int v1,rfl,_,hv1,rfl⟩ ?_;rintro _ ⟨v2,hv2,rfl⟩;refine CS tW ⟨decide (hd%4=2)&&decide (hd/4%2=1),by by_cases q:hd%4=2<;>simp[bM,aA,dD,aQ,bA,c9,aR,eG,i0,jJ,iY,fL,cV,eT,af,aa,eC,eA,fZ,iM,kR,vE,c8,eP,ly,gD,bC,eK,aE,eU,fB,bo,ae,ao,gC,gU,nP,cT,dJ,fJ,gh,fH,dh,gG,cM,bI,df,tL,qr,L2.jl,L2.jA,ba,gW,mJ,vD,dg,f6,tG,jG,D.view,c5,Tg.view,D.aq,aG,D.aD,aB,D.cN,bR,D.aX,bW,Tg.aX,jq,D.a7,cF,Tg.a7,D.pure,aT,dX,dB,gN,gT,bc,dw,cU,D.isExc,uA,vK,sY,vI,j9,cI,fE,cW,bJ,cutD,cQ,fK,kT,dY,KT.kind,bL,bb,q],λ _=>⟨.int (v2%100000000),by simp[bM,aA,dD,aQ,bA,c9,aR,eG,i0,jJ,iY,fL,cV,eT,af,aa,eC,eA,fZ,iM,kR,vE,c8,eP,ly,gD,bC,eK,aE,eU,fB,bo,ae,ao,gC,gU,nP,cT,dJ,fJ,gh,fH,dh,gG,cM,bI,df,tL,qr,L2.jl,L2.jA,ba,gW,mJ,vD,dg,f6,tG,jG,D.view,c5,Tg.view,D.aq,aG,D.aD,aB,D.cN,bR,D.aX,bW,Tg.aX,jq,D.a7,cF,Tg.a7,D.pure,aT,dX,dB,gN,gT,bc,dw,cU,D.isExc,uA,vK,sY,vI,j9,cI,fE,cW,bJ,cutD,cQ,fK,kT,dY,KT.kind,bL,bb],_,QU _ #[120],rfl⟩,λ _=>?_⟩;have big0:0<=c3%big:=QU _ (by have:=BW;omega);refine l5 tW (.lst .own [.int 0,.int (1+c3%big),.int (c3/9%5)]) ?_ rfl ?_
  ·have q1:af ba #[118] (af br (aE G_Lcell (ae (aa 0) (ae (af ba (aa 1) (eC (.int 3))) ao))) (af tK (eC (.int 10)) (eC (.int 30)))) [some (S ns),some (.int a),some (.int k),some (.int j),some (.int hd),some (.int (1+hd/4%4)),some (.int one),some (.int other),some (.int v2),none]=.ok (.int (1+c3%big)):=
    aZ (x:=.int 1) rfl ((aZ (x:=.int c3) (by simp[bM,aA,dD,aQ,bA,c9,aR,eG,i0,jJ,iY,fL,cV,eT,af,aa,eC,eA,fZ,iM,kR,vE,c8,eP,ly,gD,bC,eK,aE,eU,fB,bo,ae,ao,gC,gU,nP,cT,dJ,fJ,gh,fH,dh,gG,cM,bI,df,tL,qr,L2.jl,L2.jA,ba,gW,mJ,vD,dg,f6,tG,jG,D.view,c5,Tg.view,D.aq,aG,D.aD,aB,D.cN,bR,D.aX,bW,Tg.aX,jq,D.a7,cF,Tg.a7,D.pure,aT,dX,dB,gN,gT,bc,dw,cU,D.isExc,uA,vK,sY,vI,j9,cI,fE,cW,bJ,cutD,cQ,fK,kT,dY,KT.kind,bL,bb,e3]) (Nl _)).trans (BV _))
   simp only[eA,ae,List.set_cons_succ,List.set_cons_zero];rw[q1];simp[bM,aA,dD,aQ,bA,c9,aR,eG,i0,jJ,iY,fL,cV,eT,af,aa,eC,eA,fZ,iM,kR,vE,c8,eP,ly,gD,bC,eK,aE,eU,fB,bo,ae,ao,gC,gU,nP,cT,dJ,fJ,gh,fH,dh,gG,cM,bI,df,tL,qr,L2.jl,L2.jA,ba,gW,mJ,vD,dg,f6,tG,jG,D.view,c5,Tg.view,D.aq,aG,D.aD,aB,D.cN,bR,D.aX,bW,Tg.aX,jq,D.a7,cF,Tg.a7,D.pure,aT,dX,dB,gN,gT,bc,dw,cU,D.isExc,uA,vK,sY,vI,j9,cI,fE,cW,bJ,cutD,cQ,fK,kT,dY,KT.kind,bL,bb,e3]
  ·have hm:0<2+hd/16%2:=by omega
   obtain⟨v,hv,e⟩:=FW (x:=0) (y:=1+c3%big) (z:=c3/9%5) (i:=v2%(2+hd/16%2)) (QU _ #[1]) (by have:=Sy v2 hm;omega) #[120] #[1] #[1];exact⟨v,hv,by simp[bM,aA,dD,aQ,bA,c9,aR,eG,i0,jJ,iY,fL,cV,eT,af,aa,eC,eA,fZ,iM,kR,vE,c8,eP,ly,gD,bC,eK,aE,eU,fB,bo,ae,ao,gC,gU,nP,cT,dJ,fJ,gh,fH,dh,gG,cM,bI,df,tL,qr,L2.jl,L2.jA,ba,gW,mJ,vD,dg,f6,tG,jG,D.view,c5,Tg.view,D.aq,aG,D.aD,aB,D.cN,bR,D.aX,bW,Tg.aX,jq,D.a7,cF,Tg.a7,D.pure,aT,dX,dB,gN,gT,bc,dw,cU,D.isExc,uA,vK,sY,vI,j9,cI,fE,cW,bJ,cutD,cQ,fK,kT,dY,KT.kind,bL,bb,hm,e]⟩
def sh (ns:#[6])(k j:Nat):Int:=by
 classical
 exact if h:k<=24/\j<=24 then (su ns (a:=1) (k:=k) (j:=j) #[120] #[1] #[1] #[1] #[1]).choose else 0
def Np (ns:#[6])(k j:Nat):0<=sh ns k j:=by
 unfold sh;split
 ·rename_i h;exact(su ns (a:=1) (k:=k) (j:=j) #[120] #[1] #[1] #[1] #[1]).choose_spec.1
 ·exact Int.le_refl 0
def Nq (ns:#[6]){k:Nat}(hk:k<=24)(hj:j<=24):G_Lshade [S ns,.int 1,.int k,.int j]=.ok (.int (sh ns k j)):=by
 unfold sh;rw[dif_pos ⟨hk,hj⟩];exact(su ns (a:=1) (k:=k) (j:=j) #[120] #[1] #[1] #[1] #[1]).choose_spec.2
def dN (ns:#[6]):N2.Dr where
 pl:=M.place big ns 1
 sh:=sh ns
 dr:=λ k j=>M.mix ns 1 ((k:Int)*24+(j:Int))
 mono:=λ h=>M.r6 ns 1 h
 nn:=Np ns
def yF(h:d∈#[57].map λ k:Nat=>D.int (k:Int)):∃ k:Nat,k<n/\d=.int k:=by
 obtain⟨k,hk,rfl⟩:=PF.mp h;exact⟨k,P7.mp hk,rfl⟩
def natOf:D->Nat|.int i=>i.toNat|_=>0
def IF (ns:#[6]){k:Nat}(hk:k<24):g_Lnet_e2 [some (.int k),some (S ns),some (.int 1)]=.ok (.tup (((List.range k).map λ j=>(dN ns).sh k j).map D.int)):=by
 have hr:=gI (n:=k) #[1];have hc:=uF (it:=bC (ae (aa 0) ao)) (elt:=g_Lnet_e1) (cap:=[("_law_script",1),("_law_at",2),("_law_k",0)]) (τ:=[some (.int k),some (S ns),some (.int 1)]) (fl:=false) (ds:=(List.range k).map λ k:Nat=>D.int (k:Int)) (λ d=>.int ((dN ns).sh k (natOf d)))
  (by simp [bC,ae,ao,aa,D.view,hr]) (λ d hd=>by
   rw[bb]at hd;obtain⟨j,hj,rfl⟩:=yF hd;refine⟨?_,rfl⟩;have e:=Nq ns (k:=k) (j:=j) #[1] #[1];simp[g_Lnet_e1,bM,aA,dD,aQ,bA,c9,aR,eG,i0,jJ,iY,fL,cV,eT,af,aa,eC,eA,fZ,iM,kR,vE,c8,eP,ly,gD,bC,eK,aE,eU,fB,bo,ae,ao,gC,gU,nP,cT,dJ,fJ,gh,fH,dh,gG,cM,bI,df,tL,qr,L2.jl,L2.jA,ba,gW,mJ,vD,dg,f6,tG,jG,D.view,c5,Tg.view,D.aq,aG,D.aD,aB,D.cN,bR,D.aX,bW,Tg.aX,jq,D.a7,cF,Tg.a7,D.pure,aT,dX,dB,gN,gT,bc,dw,cU,D.isExc,uA,vK,sY,vI,j9,cI,fE,cW,bJ,cutD,cQ,fK,kT,dY,KT.kind,bL,bb,e,natOf,dN]) (by simp;omega)
 unfold g_Lnet_e2;simp only[eA,ae,ao,hc,Res.aK,dh,bb];simp[natOf]
def LL (ns:#[6])(hn:n<=24):G_Lnet [S ns,.int 1,.int n]=.ok (Aw (N2.places (dN ns) n) (N2.rows (dN ns) n)):=by
 have hr:=gI (n:=n) #[1];have hp:=places_eq ns (a:=1) (n:=n) #[120] #[1];have hc:=uF (it:=bC (ae (aa 2) ao)) (elt:=g_Lnet_e2) (cap:=[("_law_script",0),("_law_at",1)]) (τ:=[some (S ns),some (.int 1),some (.int n),none]) (fl:=false) (ds:=#[57].map λ k:Nat=>D.int (k:Int)) (λ d=>.tup #[99])
  (by simp [bC,ae,ao,aa,D.view,hr]) (λ d hd=>by
   rw[bb]at hd;obtain⟨k,hk,rfl⟩:=yF hd;refine⟨?_,ah _⟩;have e:=IF ns (k:=k) #[1];simpa[fE,D.aq,natOf] using e) (by simp;omega)
 rw[bb]at hc;have hpu:aT ((#[57].map λ k:Nat=>D.int (k:Int)).map λ d=>D.tup #[99])=true:=bK λ d m=>by
  obtain⟨x,_,rfl⟩:=PF.mp m;exact ah _
 suffices h:g_Lnet [some (S ns),some (.int 1),some (.int n),none]=.rt (Aw (N2.places (dN ns) n) (N2.rows (dN ns) n)) by
  simp[G_Lnet,bM,List.replicate,h]
 unfold g_Lnet;have z:Aw (N2.places (dN ns) n) (N2.rows (dN ns) n)=.tup [.tup ((M.places big ns 1 n).map D.int),.tup ((#[57].map λ k:Nat=>D.int (k:Int)).map λ d=>D.tup #[99])]:=by
  unfold Aw N2.rows;simp[Qq,natOf,Function.comp_def];rfl
 have hnp:=yD (N2.places (dN ns) n) (N2.rows (dN ns) n);rw[z]at hnp ⊢;generalize ((#[57].map λ k:Nat=>D.int (k:Int)).map λ d=>D.tup #[99])=R at *;rw[aC (aO hc (cJ hpu))];have q1:aE G_Lplaces (ae (aa 0) (ae (aa 1) (ae (aa 2) ao))) [some (S ns),some (.int 1),some (.int n),some (.lst .own R)]=.ok (.lst .own ((M.places big ns 1 n).map D.int)):=dj (ds:=[S ns,.int 1,.int n]) (by simp[ae,ao,aa,D.view,Tg.view]) (by simpa[aG,D.aq] using hp) (by simp[aB,D.aD]);have q2:aa 3 [some (S ns),some (.int 1),some (.int n),some (.lst .own R)]=.ok (.lst .bor R):=fU rfl hpu;exact dS ((fC (aI ((fC (cG q1)).trans rfl) (cG ((fC (cG q2)).trans rfl)))).trans (by simp[gG])) (aV _ hnp)
def kt (k:Int×Int):KT:=.inr [.inl k.1,.inl k.2]
def LN {a b:Int×Int}:kt a=kt b↔a=b:=by
 constructor
 ·intro h;cases a;cases b;simp only[kt,Sum.inr.injEq,List.cons.injEq,Sum.inl.injEq,and_true]at h;obtain⟨h1,h2⟩:=h;subst h1 h2;rfl
 ·intro h;rw[h]
def sC (ts:List N2.FL):List KT:=ts.map λ t=>kt (N2.wx t)
def sA (ts:List N2.FL):List D:=ts.map λ t=>D.int t.2.2
def BY (ts:List N2.FL):aT (sA ts)=true:=bK λ d m=>by obtain⟨t,_,rfl⟩:=PF.mp m;rfl
def has_none {ts:List N2.FL}{k:Int×Int}(h:k∉ts.map N2.wx):qt (sC ts) (kt k)=false:=by
 unfold qt sC;rw[R8];intro x hx z;obtain⟨t,ht,rfl⟩:=PF.mp hx;exact h (PF.mpr ⟨t,ht,LN.mp (by simpa using z)⟩)
def Mh (a b:Int):fK (.tup [.int a,.int b])=some (kt (a,b)):=rfl
def FY {i:Nat}{fk fv:#[28]}{k:Bool}{ks:List KT}{dk:D}{q:KT}(hv:fv τ=.ok d)(ho:τ[i]?=some (some (.dct .own k ks xs)))(hk:fk τ=.ok dk)(hq:fK dk=some q)(hc:q.kind=k/\d.aD=false/\ks.length<16777216)(hn:qt ks q=false) :
  fL i fk fv τ=.nx (τ.set i (some (.dct .own k (ks++[q]) (xs++[d])))):=by
 unfold fL;have e:dB τ i=some (.own,k,ks,xs):=by unfold dB;rw[ho];rfl
 rw[hv,iD,e];show(fk τ).jo τ _=_;rw[hk,iD,hq];show(if q.kind=k/\d.aD=false/\ks.length<16777216/\(qt ks q=true->d.pure=true) then _ else _)=_;rw[PH ⟨hc.1,hc.2.1,hc.2.2,λ z=>absurd (hn.symm.trans z) Pq⟩];unfold kE kD;rw[hn];rfl
def kq{t:SD}(h1:tg x τ=some τ')(h2:body τ'=.nx t):cg tg body (x::r) τ=cg tg body r t:=by
 show(match tg x τ with|none=>Fl.bad|some τ'=>match body τ' with|.nx t=>cg tg body r t|.ct t=>cg tg body r t|.bk t=>.nx t|o=>o)=_;rw[h1];show(match body τ' with|.nx t=>cg tg body r t|.ct t=>cg tg body r t|.bk t=>Fl.nx t|o=>o)=_;rw[h2]
def IG{t:SD}{C:PySem.Addr}(h1:tg x τ=some τ')(h2:body τ'=.ex C t):cg tg body (x::r) τ=.ex C t:=by
 show(match tg x τ with|none=>Fl.bad|some τ'=>match body τ' with|.nx t=>cg tg body r t|.ct t=>cg tg body r t|.bk t=>.nx t|o=>o)=_;rw[h1];show(match body τ' with|.nx t=>cg tg body r t|.ct t=>cg tg body r t|.bk t=>Fl.nx t|o=>o)=_;rw[h2]
def qF(h1:tg x τ=some τ')(h2:body τ'=.rt d):cg tg body (x::r) τ=.rt d:=by
 show(match tg x τ with|none=>Fl.bad|some τ'=>match body τ' with|.nx t=>cg tg body r t|.ct t=>cg tg body r t|.bk t=>.nx t|o=>o)=_;rw[h1];show(match body τ' with|.nx t=>cg tg body r t|.ct t=>cg tg body r t|.bk t=>Fl.nx t|o=>o)=_;rw[h2]
def LM (b:Bool)(x:Int)(t:Tg)(qs:#[6]):inD b (.int x) (.lst t #[117])=.ok (.bl (if b then !decide (x∈qs) else decide (x∈qs))):=by
 have h1:(qs.map D.int).all D.flat=true:=Sf.mpr λ d m=>by
  obtain⟨q,_,rfl⟩:=PF.mp m;rfl
 have h2:lX (.int x) (qs.map D.int)=decide (x∈qs):=by
  unfold lX;rw[Rb,RW,RN];constructor
  ·rintro⟨y,hy,e⟩;obtain⟨z,hz,rfl⟩:=PF.mp hy;have e:z=x:=by first|exact of_decide_eq_true e|exact eq_of_beq e|simpa[KY] using e
   rw[<-e];exact hz
  ·intro h;exact⟨.int x,PF.mpr ⟨x,h,rfl⟩,by first|exact P8 rfl|exact S3 x|simp[KY]⟩
 show(if (D.int x).flat=true/\(qs.map D.int).all D.flat=true then Res.ok (D.bl (if b then !lX (.int x) #[117] else lX (.int x) #[117])) else .bad)=_;rw[PH ⟨rfl,h1⟩,h2]
def mh{x:Int}{t:Tg}{qs:#[6]}(h1:f τ=.ok (.int x))(h2:g τ=.ok (.lst t #[117])):eT (af (inD true) f g) τ=.ok (!decide (x∈qs)):=sd ((aZ h1 h2).trans (LM true x t qs))
def ju (f:#[20])(k:Nat):List Int:=(List.range k).map λ j=>f k j
def uU (f:#[20])(n:Nat):List #[6]:=#[57].map (ju f)
def nF (ps:#[6])(f:#[20]):D:=Aw ps (uU f ps.length)
def aY (ps:#[6])(f:#[20]):#[32].pure=true:=yD _ _
abbrev aF (ps:#[6])(k:Nat):Int:=ps.getD k 0
def pL (ps:#[6])(f:#[20])(k m:Nat):List N2.FL:=(List.range m).map λ j=>(aF ps k,aF ps j,f k j)
def dO (ps:#[6])(f:#[20]):Nat->List N2.FL
 |0=>[]
 |n+1=>dO ps f n++pL ps f n n
def Dv (ps:#[6])(f:#[20])(k m:Nat):pL ps f k (m+1)=pL ps f k m++[(aF ps k,aF ps m,f k m)]:=by
 unfold pL;rw[Uz,PR];rfl
def yG (ps:#[6])(f:#[20])(k m:Nat):(pL ps f k m).length=m:=by unfold pL;rw[Pk,Qd]
def uW (ps:#[6])(f:#[20]):∀ n,(dO ps f n).length<=n*n
 |0=>Py _
 | n+1=>by
  have:=uW ps f n;show(dO ps f n++pL ps f n n).length<=_;rw[Pz,yG,Nat.add_mul,Nat.mul_add];omega
def iw(hs:ps.Pairwise (· < ·)){k:Nat}(h:j<k)(hk:k<ps.length):aF ps j<aF ps k:=by
 have:=Rg.mp hs j k #[1] hk h;unfold aF;rw[P5,P5,Pr hk,Pr #[1]];exact this
def wI(h:b<a):N2.keyOf a b=(a,b):=by unfold N2.keyOf;rw[PH h]
def uV {ps:#[6]}{f:#[20]}{t:N2.FL}:∀ {n:Nat},t∈dO ps f n↔∃ k j,j<k/\k<n/\t=(aF ps k,aF ps j,f k j)
 | 0=>by
  constructor
  ·intro h;cases h
  ·rintro⟨k,j,_,h,_⟩;omega
 | n+1=>by
  show t∈dO ps f n++pL ps f n n↔_;rw[PC,uV];constructor
  ·rintro (⟨k,j,h1,h2,e⟩|h)
   ·exact⟨k,j,h1,by omega,e⟩
   ·obtain⟨j,hj,e⟩:=PF.mp h;exact⟨n,j,P7.mp hj,by omega,e.symm⟩
  ·rintro⟨k,j,h1,h2,e⟩;by_cases h:k=n
   ·subst h;exact .inr (PF.mpr ⟨j,P7.mpr h1,e.symm⟩)
   ·exact .inl ⟨k,j,h1,by omega,e⟩
def IL(hs:ps.Pairwise (· < ·))(f:#[20]){k:Nat}(hj:j<k)(hk:k<ps.length):N2.keyOf (aF ps k) (aF ps j)∉(dO ps f k++pL ps f k j).map N2.wx:=by
 rw[wI (iw hs hj hk)];intro h;obtain⟨t,ht,e⟩:=PF.mp h;rcases PC.mp ht with ht|ht
 ·obtain⟨k',j',h1,h2,rfl⟩:=uV.mp ht;unfold N2.wx at e;simp only at e;rw[wI (iw hs h1 #[1])]at e;have e1:aF ps k'=aF ps k:=Q3 Prod.fst e;have:=iw hs h2 hk;omega
 ·obtain⟨j',hj',rfl⟩:=PF.mp ht;have hj':=P7.mp hj';unfold N2.wx at e;simp only at e;rw[wI (iw hs (Uv hj' hj) hk)]at e;have e1:aF ps j'=aF ps j:=Q3 Prod.snd e;have:=iw hs hj' (Uv hj hk);omega
def wJ{f:#[20]}{e:#[28]}(h:e τ=.ok #[32]):af bL e #[129] τ=.ok (.tup (ps.map .int)):=fD h (y:=.int 0) rfl (fY (j:=0) rfl rfl)
def Nr{f:#[20]}{e:#[28]}(h:e τ=.ok #[32]):af bL e #[118] τ=.ok (.tup ((uU f ps.length).map λ r=>.tup (r.map .int))):=fD h (y:=.int 1) rfl (fY (j:=1) rfl rfl)
def nA(h:j<ps.length):(ps.map D.int)[j]?=some (.int (aF ps j)):=BX h
def F2 {f:#[20]}{k:Nat}(h:k<n):((uU f n).map λ r=>D.tup (r.map .int))[k]?=some (.tup #[86]):=by
 unfold uU;rw[P0,P0,QM h];rfl
def F0 {f:#[20]}{k:Nat}(h:j<k):((ju f k).map D.int)[j]?=some (.int (f k j)):=by
 unfold ju;rw[P0,P0,QM h];rfl
def kW (ps:#[6])(f:#[20])(ts:List N2.FL)(a b c d:#[95]):SD:=[some #[32],some (.dct .own true (sC ts) (sA ts)),a,b,c,d]
def IK{f:#[20]}{ts:List N2.FL}{x y z:Int}{b:#[95]}(hk:N2.keyOf x y∉ts.map N2.wx)(hl:ts.length<=1000) :
  fV (kW ps f ts #[67] b (some (.int y)) (some (.int z)))=.nx (kW ps f (ts++[(x,y,z)]) #[67] b (some (.int y)) (some (.int z))):=by
 unfold fV;have c2:aE wk (ae (aa 2) (ae (aa 4) ao)) (kW ps f ts #[67] b (some (.int y)) (some (.int z)))=.ok (.tup [.int (N2.keyOf x y).1,.int (N2.keyOf x y).2]):=dj (ds:=[.int x,.int y]) (aI rfl (cG rfl)) (IE x y) rfl;rw[FY (d:=.int z) (q:=kt (N2.keyOf x y)) (k:=true) (ks:=sC ts) (xs:=sA ts) rfl rfl c2 rfl ⟨rfl,rfl,by unfold sC;rw[Pk];omega⟩ (has_none hk)];unfold kW sC sA;rw[PR,PR];rfl
def IJ{f:#[20]}{k:Nat}(hk:k<=ps.length):my (ps.map D.int) ((ju f k).map D.int)=(List.range k).map λ j=>D.tup [.int (aF ps j),.int (f k j)]:=by
 refine QQ λ i=>?_;by_cases h:i<k
 ·rw[P0,QM h];unfold my;rw[SO,nA #[1],F0 h];rfl
 ·rw[Qy (by rw[vP,Pk,Pk];unfold ju;rw[Pk,Qd];omega),Qy (by rw[Pk,Qd];omega)]
def zip_rows{f:#[20]}:my (ps.map D.int) ((uU f ps.length).map λ r=>.tup (r.map .int))=#[24].map λ k=>D.tup [.int (aF ps k),.tup #[86]]:=by
 refine QQ λ i=>?_;by_cases h:i<ps.length
 ·rw[P0,QM h];unfold my;rw[SO,nA h,F2 h];rfl
 ·rw[Qy (by rw[vP,Pk,Pk];omega),Qy (by rw[Pk,Qd];omega)]
def II{f:#[20]}(k:Nat):aT ((List.range k).map λ j=>D.tup [.int (aF ps j),.int (f k j)])=true:=bK λ d m=>by
 obtain⟨j,_,rfl⟩:=PF.mp m;rfl
def F1{f:#[20]}(n:Nat):aT (#[57].map λ k=>D.tup [.int (aF ps k),.tup #[86]])=true:=bK λ d m=>by
 obtain⟨k,_,rfl⟩:=PF.mp m;show(true&&((aT #[86])&&true))=true;rw[ah];rfl
def FZ{ys:List D}{y:D}(h1:f τ=.ok x)(h2:g τ=.ok y)(hx:bI x=.ok (false,xs))(hy:bI y=.ok (false,ys)):vQ (ae f (ae g ao)) τ=.ok (false,my xs ys):=by
 unfold vQ;rw[aI h1 (cG h2),Res.aK];show((bI x).bind λ p=>(bI y).bind λ q=>Res.ok (p.1||q.1,my p.2 q.2))=_;rw[hx,Res.aK,hy,Res.aK];rfl
def oQ(h:aT xs=true):bI (.tup xs)=.ok (false,xs):=by
 show Res.ok (aB xs,xs)=_;rw[bB _ h]
def wK {t:Tg}(ht:t=.aq\/t=.own)(h:aT xs=true):bI (.lst t xs)=.ok (false,xs):=by
 show Res.ok ((D.lst t xs).aD,xs)=_;rcases ht with rfl|rfl
 ·show Res.ok ((false||aB xs),xs)=_;rw[bB _ h];rfl
 ·rw[cJ h]
def jt {zs:#[31]}{it:SD->Res #[106]}(h1:cI zs τ=τ')(h2:it τ'=.ok (false,ds))(h3:aT ds=true):cV zs it tg body τ=cg tg body ds τ':=by
 unfold cV;rw[h1,h2];show cg tg body (aG ds) τ'=_;rw[d9 _ h3]
def LO{f:#[20]}(hs:ps.Pairwise (· < ·))(hl:#[72]){k:Nat}(hk:k<ps.length)(c d:#[95]) :
  ∃ c' d',dZ (kW ps f (dO ps f k) #[43] (some (.tup #[86])) c d)=.nx (kW ps f (dO ps f (k+1)) #[43] (some (.tup #[86])) c' d'):=by
 have tl:=uW ps f k;have kk:k*k<=576:=Nat.mul_le_mul (show k<=24 by omega) (show k<=24 by omega);have v0:aa 0 (kW ps f (dO ps f k) #[43] (some (.tup #[86])) c d)=.ok #[32]:=c7 rfl (aY _ _);have v3:aa 3 (kW ps f (dO ps f k) #[43] (some (.tup #[86])) c d)=.ok (.tup #[86]):=c7 rfl (ah _);obtain⟨t,h1,c',d',h2⟩:=jK (tg:=gT 2 (bc 4 (bc 5 dw))) (body:=fV) (λ i t=>∃ c' d',t=kW ps f (dO ps f k++pL ps f k i) #[43] (some (.tup #[86])) c' d') (ds:=(List.range k).map λ j=>D.tup [.int (aF ps j),.int (f k j)]) 0 (kW ps f (dO ps f k) #[43] (some (.tup #[86])) c d) ⟨c,d,by rw[show pL ps f k 0=[] from rfl,Qi]⟩ (λ j x t hx hp=>by
  obtain⟨c1,d1,rfl⟩:=hp;rw[R3];have hj:j<k:=by
   have:=(Pw.mp hx).1;simpa using this
  rw[P0,QM hj]at hx;cases hx;refine⟨_,_,rfl,.inl (IK (ts:=dO ps f k++pL ps f k j) (IL hs f hj hk) (by rw[Pz,yG];omega)),some (.int (aF ps j)),some (.int (f k j)),?_⟩;rw[Dv,Qn])
 rw[Pk,Qd,R3]at h2;refine⟨c',d',?_⟩;unfold dZ;rw[jt (τ':=kW ps f (dO ps f k) #[43] (some (.tup #[86])) c d) (ds:=(List.range k).map λ j=>D.tup [.int (aF ps j),.int (f k j)]) ?_ ?_ (II k),h1,h2]
 ·rfl
 ·show [some #[32].aq,_,_,some (D.tup #[86]).aq,c,d]=_;rw[bQ _ (aY _ _),bQ _ (show(D.tup #[86]).pure=true from ah _)];rfl
 ·rw[FZ (wJ v0) v3 (oQ (ah _)) (oQ (ah _)),IJ #[1]]
def Ax{f:#[20]}(hs:ps.Pairwise (· < ·))(hl:#[72]):dW [nF ps f]=.ok (.dct .own true (sC (dO ps f ps.length)) (sA (dO ps f ps.length))):=by
 have v0:aa 0 (kW ps f [] none none none none)=.ok #[32]:=c7 rfl (aY _ _);obtain⟨t,h1,a,b,c',d',h2⟩:=jK (tg:=gT 2 (bc 2 (bc 3 dw))) (body:=dZ) (λ i t=>∃ a b c d,t=kW ps f (dO ps f i) a b c d) (ds:=#[24].map λ k=>D.tup [.int (aF ps k),.tup #[86]]) 0 (kW ps f [] none none none none) ⟨none,none,none,none,rfl⟩ (λ k x t hx hp=>by
  obtain⟨a,b,c1,d1,rfl⟩:=hp;rw[R3];have hk:k<ps.length:=by
   have:=(Pw.mp hx).1;simpa using this
  rw[P0,QM hk]at hx;cases hx;obtain⟨c',d',e⟩:=LO (f:=f) hs hl hk c1 d1;exact⟨_,_,rfl,.inl e,_,_,c',d',rfl⟩)
 rw[Pk,Qd,R3]at h2;have hf:cV [0] (vQ (ae #[35] (ae (af bL (aa 0) #[118]) ao))) (gT 2 (bc 2 (bc 3 dw))) dZ (kW ps f [] none none none none)=.nx (kW ps f (dO ps f ps.length) a b c' d'):=by
  rw[jt (τ':=kW ps f [] none none none none) (ds:=#[24].map λ k=>D.tup [.int (aF ps k),.tup #[86]]) ?_ ?_ (F1 _),h1,h2]
  ·show [some #[32].aq,_,_,_,_,_]=_;rw[bQ _ (aY _ _)];rfl
  ·rw[FZ (wJ v0) (Nr v0) (oQ (ah _)) (oQ (uT _)),zip_rows]
 refine bg (τ:=[some #[32],none,none,none,none,none]) rfl rfl ?_;unfold kj;rw[aC (aO (d:=.dct .own true [] []) rfl rfl)];show aA _ _ (kW ps f [] none none none none)=_;rw[aC hf];rfl
end KL
namespace PG
variable {O:#[31]}{f q:Nat}
variable (c:#[20])
def gJ (n:Nat)(T:#[31]):Prop:=∀ k,k<n->k∉T->∀ i∈T,∀ j∈T,c k i=c k j
def Valid (n f:Nat):List Nat->List (Nat×Nat)->Prop
 |_,[]=>True
 |th,x::r=>(x.1<n/\x.1∉th/\x.2∈th/\c x.1 x.2≠c x.1 f)/\Valid n f (th++[x.1]) r
variable {c}
def Valid.append {n f:Nat}:∀ {a b:List (Nat×Nat)}{th:#[31]},Valid c n f th a->Valid c n f (th++a.map (·.1)) b->Valid c n f th (a++b)
 |[],b,th,_,h=>by simpa using h
 |x::r,b,th,h,h'=>⟨h.1,Valid.append h.2 (by simpa using h')⟩
def Valid.many {n f q:Nat}:∀ {cX:#[31]}{th:#[31]},cX.Nodup->(∀ p∈cX,p<n/\p∉th/\c p q≠c p f)->q∈th->Valid c n f th (cX.map λ p=>(p,q))
 |[],th,_,_,_=>trivial
 | p::r,th,nd,h,hq=>by
  have hp:=h p Pp;have nd':=PN.mp nd;refine⟨⟨hp.1,hp.2.1,hq,hp.2.2⟩,Valid.many nd'.2 (λ x hx=>?_) (PD _ hq)⟩;have hx':=h x (Pn _ hx);refine⟨hx'.1,λ m=>?_,hx'.2.2⟩;rcases PC.mp m with m|m
  ·exact hx'.2.1 m
  ·have e:x=p:=by simpa using m
   exact nd'.1 (e▸hx)
def Valid.nodup {n f:Nat}:∀ {a:List (Nat×Nat)}{th:#[31]},Valid c n f th a->th.Nodup->(th++a.map (·.1)).Nodup
 |[],th,_,h=>by simpa using h
 | y::r,th,h,nd=>by
  have ih:=Valid.nodup h.2 (PJ.mpr ⟨nd,by simp,λ a ha b hb e=>by
   have e2:b=y.1:=by simpa using hb
   exact h.1.2.1 (e2▸e▸ha)⟩)
  simpa using ih
def Valid.bound {n f:Nat}:∀ {a:List (Nat×Nat)}{th:#[31]},Valid c n f th a->∀ x∈a,x.1<n
 | y::r,th,h,x,hx=>by
  rcases PB.mp hx with e|e
  ·rw[e];exact h.1.1
  ·exact Valid.bound h.2 x e
abbrev gr (ms:#[31])(Pl:List (Nat×Nat)):List Nat:=ms++Pl.map (·.1)
structure St (c:Nat->Nat->Int)(n f:Nat)(ms O W:List Nat)(Pl:List (Nat×Nat)):Prop where
 out:∀ p,p∈O↔p<n/\p∉gr ms Pl
 nd:O.Nodup
 wait:∀ w∈W,w∈gr ms Pl
 done:∀ m∈gr ms Pl,m∉W->∀ p∈O,c p m=c p f
 val:Valid c n f ms Pl
def mW (n:Nat)(ms:#[31]):List Nat:=#[57].filter λ p=>!decide (p∈ms)
def St.init (c:#[20])(n f:Nat)(rest:#[31]):St c n f (f::rest) (mW n (f::rest)) rest [] where
 out:=λ p=>by simp[mW,gr]
 nd:=List.nodup_range.filter _
 wait:=λ w h=>by simp[gr,h]
 done:=λ m h n p _=>by
  have:m=f:=by simpa[gr,n] using h
  rw[this]
 val:=trivial
def cX (c:#[20])(f q:Nat)(O:#[31]):List Nat:=O.filter λ p=>!decide (c p q=c p f)
def left (c:#[20])(f q:Nat)(O:#[31]):List Nat:=O.filter λ p=>!decide (p∈cX c f q O)
def jQ {p:Nat}:p∈cX c f q O↔p∈O/\c p q≠c p f:=by simp[cX]
def yH {p:Nat}:p∈left c f q O↔p∈O/\c p q=c p f:=by
 unfold left;rw[Rt];simp only[Bool.not_eq_true',decide_eq_false_iff_not,jQ];constructor
 ·intro⟨h1,h2⟩;exact⟨h1,Uc λ z=>h2 ⟨h1,z⟩⟩
 ·intro⟨h1,h2⟩;exact⟨h1,λ z=>z.2 h2⟩
def sE {α:Type}(p:α->Bool):∀ l:List α,(l.filter p).length+(l.filter λ x=>!p x).length=l.length
 |[]=>rfl
 | x::r=>by
  have ih:=sE p r;cases h:p x<;>simp[List.filter,h]<;>omega
def F3 (f q:Nat)(O:#[31]):(cX c f q O).length+(left c f q O).length=O.length:=by
 have e:left c f q O=O.filter λ p=>!(!decide (c p q=c p f)):=by
  unfold left;refine List.filter_congr λ p hp=>?_
  congr 1
  rw[Rb];simp[jQ,hp]
 rw[e];exact sE _ O
def St.step {n:Nat}{ms W:#[31]}{Pl:List (Nat×Nat)}(h:St c n f ms O (W++[q]) Pl):St c n f ms (left c f q O) (W++cX c f q O) (Pl++(cX c f q O).map λ p=>(p,q)):=by
 have hm:∀ x,x∈gr ms (Pl++(cX c f q O).map λ p=>(p,q))↔x∈gr ms Pl\/x∈cX c f q O:=by
  intro x;simp only[gr,PR,Qq,PC];have:List.map ((λ x:Nat×Nat=>x.1)∘λ p=>(p,q)) (cX c f q O)=cX c f q O:=by
   show List.map (λ p=>p) _=_;simp
  rw[this];constructor
  ·rintro (h|h|h)
   ·exact .inl (.inl h)
   ·exact .inl (.inr h)
   ·exact .inr h
  ·rintro ((h|h)|h)
   ·exact .inl h
   ·exact .inr (.inl h)
   ·exact .inr (.inr h)
 refine⟨λ p=>?_,h.nd.filter _,λ w hw=>?_,λ m h1 h2 p hp=>?_,Valid.append h.val (Valid.many (h.nd.filter _) (λ p hp=>?_) (h.wait q #[25]))⟩
 ·rw[yH,hm,h.out];constructor
  ·rintro⟨⟨a,b⟩,e⟩;refine⟨a,λ z=>z.elim b λ z=>(jQ.mp z).2 e⟩
  ·rintro⟨a,b⟩;have b1:p∉gr ms Pl:=λ z=>b (.inl z);exact⟨⟨a,b1⟩,Uc λ z=>b (.inr (jQ.mpr ⟨(h.out p).mpr ⟨a,b1⟩,z⟩))⟩
 ·rw[hm];rcases PC.mp hw with x|x
  ·exact .inl (h.wait w (PD _ x))
  ·exact .inr x
 ·rw[yH]at hp;have h2a:m∉W:=λ z=>h2 (PD _ z);have h2b:m∉cX c f q O:=λ z=>h2 (PM _ z);have h1':=((hm m).mp h1).resolve_right h2b;by_cases e:m=q
  ·rw[e];exact hp.2
  ·exact h.done m h1' (λ z=>(PC.mp z).elim h2a λ z=>e (by simpa using z)) p hp.1
 ·have:=jQ.mp hp;have ho:=(h.out p).mp this.1;exact⟨ho.1,ho.2,this.2⟩
def uX:∀ {l m:#[31]},l.Nodup->(∀ x∈l,x∈m)->l.length<=m.length
 |[],m,_,_=>QY _
 | x::r,m,nd,h=>by
  have nd':=PN.mp nd;have hx:=h x Pp;have ih:=uX (l:=r) (m:=m.erase x) nd'.2 λ y hy=>by
   have hne:y≠x:=λ e=>nd'.1 (e▸hy);exact(List.mem_erase_of_ne hne).mpr (h y (Pn _ hy))
  rw[List.length_erase_of_mem hx]at ih;have:0<m.length:=List.length_pos_of_mem hx;simp only[PU];omega
def dP {l:#[31]}{n:Nat}(nd:l.Nodup)(h:∀ x∈l,x<n):l.length<=n:=by
 have:=uX nd (m:=List.range n) λ x hx=>P7.mpr (h x hx);simpa using this
end PG
namespace KL
open DL
variable {xs:List D}{ps:#[6]}{i j q:Nat}{f:#[20]}{τ:SD}{α:Type}
def kI (p:Int):KT:=.inl (.inl p)
def pN {a b:Int}:kI a=kI b↔a=b:=by
 constructor
 ·intro h;exact RX (RX h)
 ·intro h;rw[h]
def gK {α:Type}(P:α->Int)(g:α->D)(k:α):∀ (l:List α),k∈l->(∀ a∈l,P a=P k->a=k)->eV (l.map λ a=>kI (P a)) (l.map g) (kI (P k))=some (g k)
 | a::l,h,inj=>by
  rw[PV,PV,eV];by_cases e:P a=P k
  ·rw[PH (pN.mpr e),inj a Pp e]
  ·rw[PL λ z=>e (pN.mp z)];rcases PB.mp h with z|z
   ·exact absurd (z▸rfl) e
   ·exact gK P g k l z λ b hb=>inj b (Pn _ hb)
def pO {α:Type}[DecidableEq α](P:α->Int)(g:α->D)(k:α)(x:D):∀ (l:List α),l.Nodup->(∀ a∈l,P a=P k->a=k)->jN (l.map λ a=>kI (P a)) (l.map g) (kI (P k)) x=l.map λ a=>if a=k then x else g a
 |[],_,_=>rfl
 | a::l,nd,inj=>by
  have nd':=PN.mp nd;rw[PV,PV,jN,PV];by_cases e:P a=P k
  ·have ea:=inj a Pp e;rw[PH (pN.mpr e),PH ea]
   congr 1
   refine Qo λ b hb=>?_;rw[PL λ z=>nd'.1 (by rw[ea,<-z];exact hb)]
  ·rw[PL λ z=>e (pN.mp z),PL λ z=>e (by rw[z]),pO P g k x l nd'.2 λ b hb=>inj b (Pn _ hb)]
def wL(P:α->Int)(l:List α)(q:Int)(h:∀ a∈l,P a≠q):qt (l.map λ a=>kI (P a)) (kI q)=false:=by
 unfold qt;rw[R8];intro k hk;obtain⟨a,ha,rfl⟩:=PF.mp hk;simp only[RN];exact λ z=>h a ha (pN.mp z)
def ent (f:#[20])(i:Nat)(pr:List (Nat×Nat)):List (Nat×Int):=pr.flatMap λ t=>if i=t.1 then [(t.2,f t.1 t.2)] else if i=t.2 then [(t.1,f t.1 t.2)] else []
def F6 (f:#[20])(i:Nat)(pr:List (Nat×Nat))(k j:Nat):ent f i (pr++[(k,j)])=ent f i pr++(if i=k then [(j,f k j)] else if i=j then [(k,f k j)] else []):=by
 unfold ent;rw[List.flatMap_append];simp
def qG{pr:List (Nat×Nat)}{x:Nat×Int}(h:x∈ent f i pr):∃ t∈pr,(i=t.1/\x=(t.2,f t.1 t.2))\/(i=t.2/\x=(t.1,f t.1 t.2)):=by
 unfold ent at h;obtain⟨t,ht,hx⟩:=Ut.mp h;refine⟨t,ht,?_⟩;split at hx
 ·rename_i e;exact .inl ⟨e,by simpa using hx⟩
 ·split at hx
  ·rename_i e;exact .inr ⟨e,by simpa using hx⟩
  ·cases hx
def jV:Nat->List (Nat×Nat)
 |0=>[]
 |n+1=>jV n++#[57].map λ j=>(n,j)
def jg {t:Nat×Nat}:∀ {n:Nat},t∈jV n↔t.2<t.1/\t.1<n
 | 0=>by
  constructor
  ·intro h;cases h
  ·intro h;omega
 | n+1=>by
  show t∈jV n++_↔_;rw[PC,jg,PF];constructor
  ·rintro (h|⟨j,hj,rfl⟩)
   ·exact⟨h.1,by omega⟩
   ·exact⟨P7.mp hj,SX _⟩
  ·rintro⟨h1,h2⟩;by_cases e:t.1=n
   ·refine .inr ⟨t.2,P7.mpr #[1],?_⟩;rw[<-e]
   ·exact .inl ⟨h1,by omega⟩
def uY:∀ n:Nat,(jV n).Nodup
 |0=>Qz
 | n+1=>by
  show(jV n++_).Nodup;refine PJ.mpr ⟨uY n,?_,λ a ha b hb e=>?_⟩
  ·refine List.Pairwise.map _ (λ a b h z=>h (Q3 Prod.snd z)) S4
  ·have h1:=jg.mp ha;obtain⟨j,_,rfl⟩:=PF.mp hb;rw[e]at h1;exact absurd h1.2 (QJ _)
def yK (ps:#[6])(f:#[20]):∀ n:Nat,dO ps f n=(jV n).map λ t=>(aF ps t.1,aF ps t.2,f t.1 t.2)
 |0=>rfl
 | n+1=>by
  show dO ps f n++pL ps f n n=(jV n++_).map _;rw[PR,yK ps f n,Qq];rfl
def cc (f:#[20])(i j:Nat):Int:=f (max i j) (min i j)
def JT{k:Nat}(h:j<k):cc f k j=f k j:=by
 unfold cc;rw[Uy #[1],Ur #[1]]
def JV{k:Nat}(h:j<k):cc f j k=f k j:=by
 unfold cc;rw[Nat.max_eq_right #[1],To #[1]]
def wN{n:Nat}{x:Nat×Int}(h:x∈ent f i (jV n)):x.2=cc f i x.1/\x.1<n/\x.1≠i:=by
 obtain⟨t,ht,⟨rfl,rfl⟩|⟨rfl,rfl⟩⟩:=qG h
 ·have:=jg.mp ht;exact⟨(JT this.1).symm,by omega,by omega⟩
 ·have:=jg.mp ht;exact⟨(JV this.1).symm,by omega,by omega⟩
def B6{n:Nat}(hi:i<n)(hj:j<n)(hn:i≠j):(j,cc f i j)∈ent f i (jV n):=by
 unfold ent;by_cases h:j<i
 ·refine Ut.mpr ⟨(i,j),jg.mpr ⟨h,hi⟩,?_⟩;rw[PH rfl,JT h];exact Qw.mpr rfl
 ·have h':i<j:=by omega
  refine Ut.mpr ⟨(j,i),jg.mpr ⟨h',hj⟩,?_⟩;rw[PL hn,PH rfl,JV h'];exact Qw.mpr rfl
def fO (t:Tg)(ps:#[6])(e:List (Nat×Int)):D:=.dct t false (e.map λ x=>kI (aF ps x.1)) (e.map λ x=>.int x.2)
def qz (t:Tg)(ps:#[6])(m:Nat)(g:Nat->List (Nat×Int)):D:=.dct t false ((List.range m).map λ i=>kI (aF ps i)) ((List.range m).map λ i=>fO t ps (g i))
def gR(hs:ps.Pairwise (· < ·)){k:Nat}(hj:j<ps.length)(hk:k<ps.length)(h:aF ps j=aF ps k):j=k:=by
 rcases RO j k with z|z|z
 ·have:=iw hs z hk;omega
 ·exact z
 ·have:=iw hs z hj;omega
def jv (ps:#[6])(f:#[20])(m:Nat)(g:Nat->List (Nat×Int))(a b c:#[95]):SD:=[some #[32],some (qz .own ps m g),a,b,c]
section
def F7{f1 fk fv:#[28]}{t:Tg}{ks ks2:List KT}{ys:List D}{d d1 dk:D}{q1 q:L2.Key}(hv:fv τ=.ok d)(ho:dB τ i=some (t,false,ks,xs))(h1:f1 τ=.ok d1)(hq1:fK d1=some (.inl q1))(hl:eV ks xs (.inl q1)=some (.dct .own false ks2 ys))(hk:fk τ=.ok dk)(hq:fK dk=some (.inl q))(hc:d.pure=true/\ks2.length<16777216) :
  pH i f1 fk fv τ=.nx (τ.set i (some (.dct t false ks (jN ks xs (.inl q1) (.dct .own false (kE ks2 (.inl q)) (kD ks2 ys (.inl q) d)))))):=by
 unfold pH;rw[hv,iD,ho];simp only[h1,iD,hq1,hl,hk,hq];rw[PH hc]
def put2 {g:Nat->List (Nat×Int)}{a b c:#[95]}{k:Nat}{v:Int}{f1 fk fv:#[28]}(hs:ps.Pairwise (· < ·))(hk:k<ps.length)(h:∀ x∈g k,aF ps x.1≠aF ps j)(hl:(g k).length<=1000)
  (h1:f1 (jv ps f ps.length g a b c)=.ok (.int (aF ps k))) (h2:fk (jv ps f ps.length g a b c)=.ok (.int (aF ps j))) (h3:fv (jv ps f ps.length g a b c)=.ok (.int v)) :
  pH 1 f1 fk fv (jv ps f ps.length g a b c)=.nx (jv ps f ps.length (λ i=>if i=k then g k++[(j,v)] else g i) a b c):=by
 have inj:∀ i∈List.range ps.length,aF ps i=aF ps k->i=k:=λ i hi e=>gR hs (P7.mp hi) hk e;have lk:=gK (aF ps) (λ i=>fO .own ps (g i)) k #[24] (P7.mpr hk) inj;have rp:=pO (aF ps) (λ i=>fO .own ps (g i)) k (fO .own ps (g k++[(j,v)])) #[24] S4 inj;have hk1:kE ((g k).map λ x=>kI (aF ps x.1)) (kI (aF ps j))=(g k++[(j,v)]).map λ x=>kI (aF ps x.1):=by
  unfold kE;rw[wL (λ x:Nat×Int=>aF ps x.1) (g k) (aF ps j) h,PL Pq,PR];rfl
 have hk2:kD ((g k).map λ x=>kI (aF ps x.1)) ((g k).map λ x=>D.int x.2) (kI (aF ps j)) (.int v)=(g k++[(j,v)]).map λ x=>D.int x.2:=by
  unfold kD;rw[wL (λ x:Nat×Int=>aF ps x.1) (g k) (aF ps j) h,PL Pq,PR];rfl
 rw[F7 (t:=.own) (ks:=#[24].map λ i=>kI (aF ps i)) (xs:=#[24].map λ i=>fO .own ps (g i)) (d:=.int v) (d1:=.int (aF ps k)) (dk:=.int (aF ps j)) (q1:=.inl (aF ps k)) (q:=.inl (aF ps j)) (ks2:=(g k).map λ x:Nat×Int=>kI (aF ps x.1)) (ys:=(g k).map λ x:Nat×Int=>D.int x.2) h3 rfl h1 rfl lk h2 rfl ⟨rfl,by rw[Pk];omega⟩];rw[show(Sum.inl (Sum.inl (aF ps j)):KT)=kI (aF ps j) from rfl,show(Sum.inl (Sum.inl (aF ps k)):KT)=kI (aF ps k) from rfl,hk1,hk2];show Fl.nx [_,some (.dct .own false _ (jN _ _ _ (fO .own ps (g k++[(j,v)])))),_,_,_]=_;rw[rp];have em:(#[24].map λ a=>if a=k then fO .own ps (g k++[(j,v)]) else fO .own ps (g a))=#[24].map λ i=>fO .own ps (if i=k then g k++[(j,v)] else g i):=Qo λ i _=>by split<;>rfl
 rw[em];rfl
abbrev OE (ps:#[6])(f:#[20])(t:Nat×Nat):D:=.tup [.tup [.int (aF ps t.1),.int (aF ps t.2)],.int (f t.1 t.2)]
def IP {pr:List (Nat×Nat)}{a:#[95]}{k:Nat}(hs:ps.Pairwise (· < ·))(hj:j<k)(hk:k<ps.length)(hb:∀ t∈pr,t.2<t.1/\t.1<ps.length)(hn:(k,j)∉pr)(hl:∀ i,(ent f i pr).length<=999) :
  eW (jv ps f ps.length (λ i=>ent f i pr) a (some (.tup [.int (aF ps k),.int (aF ps j)])) (some (.int (f k j))))=.nx (jv ps f ps.length (λ i=>ent f i (pr++[(k,j)])) a (some (.tup [.int (aF ps k),.int (aF ps j)])) (some (.int (f k j)))):=by
 have bnd:∀ i,∀ x∈ent f i pr,x.1<ps.length:=λ i x hx=>by
  obtain⟨t,ht,⟨_,rfl⟩|⟨_,rfl⟩⟩:=qG hx
  ·have:=hb t ht;show t.2<_;omega
  ·exact(hb t ht).2
 have n1:∀ x∈ent f k pr,aF ps x.1≠aF ps j:=λ x hx z=>by
  have e:=gR hs (bnd k x hx) #[1] z;obtain⟨t,ht,⟨e1,rfl⟩|⟨e1,rfl⟩⟩:=qG hx
  ·have:t=(k,j):=Prod.ext e1.symm e;exact hn (this▸ht)
  ·have:=(hb t ht).1;have e:t.1=j:=e;omega
 have n2:∀ x∈ent f j pr,aF ps x.1≠aF ps k:=λ x hx z=>by
  have e:=gR hs (bnd j x hx) hk z;obtain⟨t,ht,⟨e1,rfl⟩|⟨e1,rfl⟩⟩:=qG hx
  ·have:=(hb t ht).1;have e:t.2=k:=e;omega
  ·have:t=(k,j):=Prod.ext e e1.symm;exact hn (this▸ht)
 unfold eW;rw[aC (put2 (g:=λ i=>ent f i pr) (k:=k) (j:=j) (v:=f k j) hs hk n1 (by have:=hl k;omega) rfl rfl rfl)];have hjk:j≠k:=by omega
 rw[put2 (g:=λ i=>if i=k then ent f k pr++[(j,f k j)] else ent f i pr) (k:=j) (j:=k) (v:=f k j) hs #[1] (by simp only[PL hjk];exact n2) (by simp only[PL hjk];have:=hl j;omega) rfl rfl rfl]
 congr 2
 funext i;rw[F6];by_cases h1:i=j
 ·subst h1;rw[PH rfl,PL hjk,PL hjk,PH rfl]
 ·rw[PL h1];by_cases h2:i=k
  ·subst h2;rw[PH rfl,PH rfl]
  ·rw[PL h2,PL h2,PL h1,Qi]
def B7 (f:#[20])(i:Nat):∀ pr:List (Nat×Nat),(ent f i pr).length<=pr.length
 |[]=>Py _
 | t::r=>by
  have:=B7 f i r;unfold ent at this ⊢;rw[List.flatMap_cons,Pz,PU];split
  ·simp only[PU,Q2];omega
  ·split
   ·simp only[PU,Q2];omega
   ·simp only[Q2];omega
def B8:∀ n:Nat,(jV n).length<=n*n
 |0=>Py _
 | n+1=>by
  have:=B8 n;show(jV n++_).length<=_;rw[Pz,Pk,Qd,Nat.add_mul,Nat.mul_add];omega
def BZ (hs:ps.Pairwise (· < ·))(hl:#[72])(a:#[95]):∀ (r pr:List (Nat×Nat)) (b c:#[95]),pr++r=jV ps.length->∃ b' c',cg (gT 2 (bc 3 (bc 4 dw))) eW (r.map (OE ps f)) (jv ps f ps.length (λ i=>ent f i pr) a b c)=.nx (jv ps f ps.length (λ i=>ent f i (jV ps.length)) a b' c')
 | [],pr,b,c,e=>by
  rw[Qi]at e;subst e;exact⟨b,c,rfl⟩
 | t::r,pr,b,c,e=>by
  have nd:=uY ps.length;have hm:∀ x∈pr++t::r,x.2<x.1/\x.1<ps.length:=λ x hx=>jg.mp (e▸hx);have hn:t∉pr:=λ z=>by
   rw[<-e,PJ]at nd;exact nd.2.2 t z t Pp rfl
  have ht:=hm t #[25];have hlen:∀ i,(ent f i pr).length<=999:=λ i=>by
   have h1:=B7 f i pr;have h2:=B8 ps.length;rw[<-e,Pz]at h2;have h3:ps.length*ps.length<=576:=Nat.mul_le_mul (show ps.length<=24 by omega) (show ps.length<=24 by omega);omega
  have st:=IP (f:=f) (pr:=pr) (a:=a) (k:=t.1) (j:=t.2) hs ht.1 ht.2 (λ x hx=>hm x (PD _ hx)) hn hlen;obtain⟨b',c',ih⟩:=BZ hs hl a r (pr++[t]) (some (.tup [.int (aF ps t.1),.int (aF ps t.2)])) (some (.int (f t.1 t.2))) (by rw[Qn];exact e);refine⟨b',c',?_⟩;rw[PV,kq (τ':=jv ps f ps.length (λ i=>ent f i pr) a (some (.tup [.int (aF ps t.1),.int (aF ps t.2)])) (some (.int (f t.1 t.2)))) rfl st];exact ih
def sF:∀ ts:List N2.FL,ic (sC ts) (sA ts)=ts.map λ t=>.tup [.tup [.int (N2.wx t).1,.int (N2.wx t).2],.int t.2.2]
 |[]=>rfl
 | t::r=>by
  show D.tup [BH (kt (N2.wx t)),.int t.2.2]::ic (sC r) (sA r)=_;rw[sF r];rfl
def F4(hs:ps.Pairwise (· < ·))(hl:#[72])(h0:τ[0]?=some (some #[32])):lG (aE dW (ae (aa 0) ao)) τ=.ok (false,(jV ps.length).map (OE ps f)):=by
 have hc:aE dW (ae (aa 0) ao) τ=.ok (.dct .own true (sC (dO ps f ps.length)) (sA (dO ps f ps.length))):=
  dj (ds:=[nF ps f]) (cG (c7 h0 (aY _ _))) (by show dW [#[32].aq]=_;rw[bQ _ (aY _ _)];exact Ax hs hl) (by show(#[32].aD||false)=false;rw[aV _ (aY _ _)];rfl)
 unfold lG;rw[hc,Res.aK];show(if aT (sA (dO ps f ps.length))=true then Res.ok ((false||aB (sA (dO ps f ps.length))),ic (sC (dO ps f ps.length)) (sA (dO ps f ps.length))) else .bad)=_;rw[PH (BY _),bB _ (BY _),sF,yK,Qq]
 congr 2
 refine Qo λ t ht=>?_;have h:=jg.mp ht;show D.tup [.tup [.int (N2.keyOf (aF ps t.1) (aF ps t.2)).1,.int (N2.keyOf (aF ps t.1) (aF ps t.2)).2],.int (f t.1 t.2)]=_;rw[wI (iw hs h.1 h.2)]
def yI (ps:#[6]):ps.map D.int=#[24].map λ i=>D.int (aF ps i):=by
 refine QQ λ i=>?_;by_cases h:i<ps.length
 ·rw[nA h,P0,QM h];rfl
 ·rw[Qy (by rw[Pk];omega),Qy (by rw[Pk,Qd];omega)]
def F5 (l:List (Nat×Nat)):aT (l.map (OE ps f))=true:=bK λ d m=>by
 obtain⟨t,_,rfl⟩:=PF.mp m;rfl
def pM (hs:ps.Pairwise (· < ·))(hl:#[72]):cz [nF ps f]=.ok #[38]:=by
 refine bg (τ:=[some #[32],none,none,none,none]) rfl rfl ?_;unfold lO;rw[aC (aO (d:=.dct .own false [] []) rfl rfl)];show aA _ _ (jv ps f 0 (λ _=>[]) none none none)=_;have v0:∀ m o,aa 0 (jv ps f m (λ _=>[]) o none none)=.ok #[32]:=λ m o=>c7 rfl (aY _ _);have l1:∃ o,cV [0] (gD #[35]) (gN 2) iU (jv ps f 0 (λ _=>[]) none none none)=.nx (jv ps f ps.length (λ _=>[]) o none none):=by
  obtain⟨t,h1,o,h2⟩:=jK (tg:=gN 2) (body:=iU) (λ i t=>∃ o,t=jv ps f i (λ _=>[]) o none none) (ds:=#[24].map λ i=>D.int (aF ps i)) 0 (jv ps f 0 (λ _=>[]) none none none) ⟨none,rfl⟩ (λ j d τ hx hp=>by
   obtain⟨o,rfl⟩:=hp;rw[R3];have hj:j<ps.length:=by
    have:=(Pw.mp hx).1;simpa using this
   rw[P0,QM hj]at hx;cases hx;refine⟨_,_,rfl,.inl (FY (k:=false) (ks:=(List.range j).map λ i=>kI (aF ps i)) (xs:=(List.range j).map λ i=>fO .own ps []) (d:=.dct .own false [] []) (dk:=.int (aF ps j)) (q:=kI (aF ps j)) rfl rfl rfl rfl ⟨rfl,rfl,by rw[Pk,Qd];omega⟩ (wL (aF ps) _ _ λ i hi z=>?_)),some (.int (aF ps j)),?_⟩
   ·have:=gR hs (by have:=P7.mp hi;omega) hj z;have:=P7.mp hi;omega
   ·show [_,some (D.dct .own false (((List.range j).map λ i=>kI (aF ps i))++[kI (aF ps j)]) (((List.range j).map λ i=>fO .own ps [])++[fO .own ps []])),_,_,_]=_;unfold jv qz;rw[Uz,PR,PR];rfl)
  rw[Pk,Qd,R3]at h2;refine⟨o,?_⟩;rw[jt (τ':=jv ps f 0 (λ _=>[]) none none none) (ds:=#[24].map λ i=>D.int (aF ps i)) ?_ ?_ ?_,h1,h2]
  ·show [some #[32].aq,_,_,_,_]=_;rw[bQ _ (aY _ _)];rfl
  ·unfold gD;rw[wJ (v0 0 none),Res.aK,oQ (ah _),yI]
  ·rw[<-yI];exact ah _
 obtain⟨o,l1⟩:=l1;rw[aC l1];obtain⟨b',c',l2⟩:=BZ (f:=f) hs hl o (jV ps.length) [] none none rfl;have l3:cV [0] (lG (aE dW (ae (aa 0) ao))) (gT 2 (bc 3 (bc 4 dw))) eW (jv ps f ps.length (λ _=>[]) o none none)=.nx (jv ps f ps.length (λ i=>ent f i (jV ps.length)) o b' c'):=by
  rw[jt (τ':=jv ps f ps.length (λ _=>[]) o none none) ?_ (F4 hs hl rfl) (F5 _)]
  ·exact l2
  ·show [some #[32].aq,_,_,_,_]=_;rw[bQ _ (aY _ _)];rfl
 rw[aC l3];rfl
end
def IM (ps:#[6])(e:List (Nat×Int)):(fO .own ps e).aq=fO .aq ps e:=by
 show D.dct .aq false _ (aG (e.map λ x=>D.int x.2))=_;rw[d9 _ (bK λ d m=>by obtain⟨x,_,rfl⟩:=PF.mp m;rfl)];rfl
def yJ (ps:#[6])(e:List (Nat×Int)):(fO .aq ps e).view=fO .aq ps e:=by
 show D.dct .aq false _ (c5 (e.map λ x=>D.int x.2))=_;rw[gF _ (bK λ d m=>by obtain⟨x,_,rfl⟩:=PF.mp m;rfl)];rfl
def sG (ps:#[6])(e:List (Nat×Int)):(fO .aq ps e).aq=fO .aq ps e:=by
 show D.dct .aq false _ (aG (e.map λ x=>D.int x.2))=_;rw[d9 _ (bK λ d m=>by obtain⟨x,_,rfl⟩:=PF.mp m;rfl)];rfl
def Ay (ps:#[6])(m:Nat)(g:Nat->List (Nat×Int)):(qz .own ps m g).aq=qz .aq ps m g:=by
 show D.dct .aq false _ (aG ((List.range m).map λ i=>fO .own ps (g i)))=_;rw[qB,Qq];unfold qz
 congr 1
 exact Qo λ i _=>IM ps (g i)
def wM (ps:#[6])(m:Nat)(g:Nat->List (Nat×Int)):(qz .aq ps m g).view=qz .aq ps m g:=by
 show D.dct .aq false _ (c5 ((List.range m).map λ i=>fO .aq ps (g i)))=_;rw[qZ,Qq];unfold qz
 congr 1
 exact Qo λ i _=>yJ ps (g i)
def wO (ps:#[6])(m:Nat)(g:Nat->List (Nat×Int)):(qz .aq ps m g).aq=qz .aq ps m g:=by
 show D.dct .aq false _ (aG ((List.range m).map λ i=>fO .aq ps (g i)))=_;rw[qB,Qq];unfold qz
 congr 1
 exact Qo λ i _=>sG ps (g i)
abbrev kX (ps:#[6])(f:#[20]):D:=qz .aq ps ps.length λ i=>ent f i (jV ps.length)
section
def JU {F G H:#[28]}{p:Nat}(hs:ps.Pairwise (· < ·))(hp:p<ps.length)(hq:q<ps.length)(hn:p≠q)(h1:F τ=.ok (kX ps f))(h2:G τ=.ok (.int (aF ps p)))(h3:H τ=.ok (.int (aF ps q))) :
  af cQ (af cQ F G) H τ=.ok (.int (cc f p q)):=by
 have lk:=gK (aF ps) (λ i=>fO .aq ps (ent f i (jV ps.length))) p #[24] (P7.mpr hp) λ i hi e=>gR hs (P7.mp hi) hp e;have lk2:=gK (λ x:Nat×Int=>aF ps x.1) (λ x=>D.int x.2) (q,cc f p q) (ent f p (jV ps.length)) (B6 hp hq hn) λ x hx e=>by
  have e1:=gR hs (wN hx).2.1 hq e;have e2:=(wN hx).1;rw[e1]at e2;exact Prod.ext e1 e2
 have d1:af cQ F G τ=.ok (fO .aq ps (ent f p (jV ps.length))):=by
  rw[aZ h1 h2];show(if (kI (aF ps p)).kind=false then (match eV (#[24].map λ i=>kI (aF ps i)) (#[24].map λ i=>fO .aq ps (ent f i (jV ps.length))) (kI (aF ps p)) with|some d=>Res.ok d|none=>.bad) else .bad)=_;rw[PH (show(kI (aF ps p)).kind=false from rfl),lk]
 rw[aZ d1 h3];show(if (kI (aF ps q)).kind=false then (match eV ((ent f p (jV ps.length)).map λ x=>kI (aF ps x.1)) ((ent f p (jV ps.length)).map λ x=>D.int x.2) (kI (aF ps q)) with|some d=>Res.ok d|none=>.bad) else .bad)=_;rw[PH (show(kI (aF ps q)).kind=false from rfl),lk2]
end
def uZ {α:Type}{tt:#[66]}{elt:#[28]}{caps:SD}(h:α->D)(p:α->Bool)(f:α->D):∀ {l:List α} (o:#[95]),(∀ a∈l,tt (some (h a)::caps)=.ok (p a))->(∀ a∈l,p a=true->elt (some (h a)::caps)=.ok (f a)/\(f a).aD=false)->gY (gN 0) tt elt (l.map h) (o::caps)=.ok ((l.filter p).map f)
 |[],o,_,_=>rfl
 | a::l,o,h1,h2=>by
  have ih:=uZ h p f (l:=l) (some (h a)) (λ b hb=>h1 b (Pn _ hb)) λ b hb=>h2 b (Pn _ hb);rw[PV,gY];show((tt (some (h a)::caps)).bind λ b=>if b=true then (elt (some (h a)::caps)).bind λ x=>if x.aD=true then Res.bad else (gY (gN 0) tt elt (l.map h) (some (h a)::caps)).bind λ xs=>.ok (x::xs) else gY (gN 0) tt elt (l.map h) (some (h a)::caps))=_;rw[h1 a Pp,Res.aK];cases hp:p a with
  | false =>
   rw[PL Pq,ih,S6,hp];rfl
  | true =>
   obtain⟨e1,e2⟩:=h2 a Pp hp;rw[PH rfl,e1,Res.aK,PL (by rw[e2];exact Pq),ih,S6,hp];rfl
def gM{it:SD->Res #[106]}{tt:#[66]}{elt:#[28]}{cap:List (PySem.Str×Nat)}{fl:Bool}{l:List α}(h:α->D)(p:α->Bool)(f:α->D)(hit:it τ=.ok (fl,l.map h))(hh:∀ a∈l,(h a).pure=true)
  (ht:∀ a∈l,tt (some (h a)::fE τ cap)=.ok (p a)) (he:∀ a∈l,p a=true->elt (some (h a)::fE τ cap)=.ok (f a)/\(f a).pure=true) (hl:l.length<=1000):bo it (gN 0) tt elt 1 cap τ=.ok (.lst .own ((l.filter p).map f)):=by
 have hp:aT ((l.filter p).map f)=true:=bK λ d m=>by
  obtain⟨x,hx,rfl⟩:=PF.mp m;obtain⟨h1,h2⟩:=Rt.mp hx;exact(he x h1 h2).2
 have hl':((l.filter p).map f).length<=16777216:=by
  rw[Pk];have:=RH p l;omega
 have hc:gY (gN 0) tt elt (aG (l.map h)) (List.replicate 1 none++fE τ cap)=.ok ((l.filter p).map f):=by
  rw[d9 _ (bK λ d m=>by obtain⟨x,hx,rfl⟩:=PF.mp m;exact hh x hx)];exact uZ h p f none ht λ a m q=>⟨(he a m q).1,aV _ (he a m q).2⟩
 unfold bo;rw[hit,Res.aK];simp only[hc,PH hl',gf _ hp,ite_self]
def pP{it:SD->Res #[106]}{elt:#[28]}{cap:List (PySem.Str×Nat)}{fl:Bool}{l:List α}(h:α->D)(f:α->D)(hit:it τ=.ok (fl,l.map h))(hh:∀ a∈l,(h a).pure=true)
  (he:∀ a∈l,elt (some (h a)::fE τ cap)=.ok (f a)/\(f a).pure=true) (hl:l.length<=1000):bo it (gN 0) cT elt 1 cap τ=.ok (.lst .own (l.map f)):=by
 have:=gM (tt:=cT) (elt:=elt) h (λ _=>true) f hit hh #[111] (λ a m _=>he a m) hl;rw[this,List.filter_eq_self.mpr λ _ _=>rfl]
def pp (ps:#[6])(l:#[31]):List Int:=l.map (aF ps)
def ku (ps:#[6])(l:#[31]):(pp ps l).map D.int=l.map λ i=>D.int (aF ps i):=by
 unfold pp;rw[Qq];rfl
def jR (ps:#[6])(l m:#[31]):pp ps (l++m)=pp ps l++pp ps m:=PR
def Az(hs:ps.Pairwise (· < ·)){l:#[31]}(hi:i<ps.length)(hl:∀ x∈l,x<ps.length):aF ps i∈pp ps l↔i∈l:=by
 unfold pp;constructor
 ·intro h;obtain⟨j,hj,e⟩:=PF.mp h;rw[gR hs hi (hl j hj) e.symm];exact hj
 ·intro h;exact PF.mpr ⟨i,h,rfl⟩
def wQ(h:#[108])(hp:aT xs=true):gD (aa i) τ=.ok (true,xs):=by
 unfold gD;rw[fU h hp,Res.aK];show Res.ok ((decide (Tg.bor=Tg.bor)||aB xs),xs)=_;rw[P8 rfl,Bool.true_or]
def AA(h:τ[i]?=some (some (.lst .aq xs)))(hp:aT xs=true):gD (aa i) τ=.ok (false,xs):=by
 unfold gD;rw[cf h hp,Res.aK];exact wK (.inl rfl) hp
def sI:∀ ns:List Int,lE #[85]=true
 |[]=>rfl
 | n::r=>by
  show((D.int n).plain&&lE (r.map D.int))=true;rw[sI r];rfl
abbrev xh (ps:#[6])(fi:Nat)(x:Nat×Nat):D:=.tup [.int (aF ps x.1),.int (aF ps fi),.int (aF ps x.2)]
def qH (ps:#[6])(fi:Nat)(l:List (Nat×Nat)):aT (l.map (xh ps fi))=true:=bK λ d m=>by
 obtain⟨x,_,rfl⟩:=PF.mp m;rfl
def fP (ps:#[6])(f:#[20])(ms:#[31])(fi:Nat)(O W:#[31])(Pl:List (Nat×Nat))(a b:#[95]):SD:=
 [some (kX ps f),some (.lst .aq ((pp ps ms).map .int)),some (.int (aF ps fi)),some (.lst .own ((pp ps O).map .int)),some (.lst .own ((pp ps W).map .int)),some (.lst .own (Pl.map (xh ps fi))),a,b]
section
variable{ms O W:#[31]}{fi:Nat}{Pl:List (Nat×Nat)}
def Nt (hs:ps.Pairwise (· < ·)){p:Nat}(hp:p<ps.length)(hq:q<ps.length)(hf:fi<ps.length)(n1:p≠q)(n2:p≠fi):fW [some (.int (aF ps p)),some (kX ps f),some (.int (aF ps q)),some (.int (aF ps fi))]=.ok (!decide (cc f p q=cc f p fi)):=by
 have v1:aa 1 [some (D.int (aF ps p)),some (kX ps f),some (.int (aF ps q)),some (.int (aF ps fi))]=.ok (kX ps f):=by
  show Res.ok (kX ps f).view=_;rw[wM]
 exact pK (JU hs hp hq n1 v1 rfl rfl) (JU hs hp hf n2 v1 rfl rfl)
def IQ (hs:ps.Pairwise (· < ·))(hl:#[72])(S:PG.St (cc f) ps.length fi ms O (W++[q]) Pl)(hm:∀ x∈ms,x<ps.length)(hf:fi∈ms)(hw:(W++[q]).length<=100)(hpl:Pl.length<=100)(a b:#[95]) :
  ∃ a' b',bU (fP ps f ms fi O (W++[q]) Pl a b)=.nx (fP ps f ms fi (PG.left (cc f) fi q O) (W++PG.cX (cc f) fi q O) (Pl++#[123].map λ p=>(p,q)) a' b'):=by
 have hO:∀ x∈O,x<ps.length:=λ x hx=>((S.out x).mp hx).1;have hnd:O.length<=24:=QG (PG.dP S.nd hO) hl;have hgr:∀ x∈PG.gr ms Pl,x<ps.length:=λ x hx=>by
  rcases PC.mp hx with z|z
  ·exact hm x z
  ·obtain⟨y,hy,rfl⟩:=PF.mp z;exact S.val.bound y hy
 have hq:q∈PG.gr ms Pl:=S.wait q #[25];have hfg:fi∈PG.gr ms Pl:=PD _ hf;have hqn:=hgr q hq;have hfn:=hgr fi hfg;have hC:∀ x∈PG.cX (cc f) fi q O,x<ps.length:=λ x hx=>hO x (PG.jQ.mp hx).1;have hCl:#[123].length<=24:=QG (RH _ _) hnd;have nq:∀ p∈O,p≠q/\p≠fi:=λ p hp=>⟨λ z=>((S.out p).mp hp).2 (z▸hq),λ z=>((S.out p).mp hp).2 (z▸hfg)⟩;have s1:Ic 6 4 (fP ps f ms fi O (W++[q]) Pl a b)=.nx (fP ps f ms fi O W Pl #[53] b):=by
  have e1:(pp ps (W++[q])).map D.int=(pp ps W).map D.int++[D.int (aF ps q)]:=by rw[jR,PR];rfl
  show Ig 6 4 ((pp ps (W++[q])).map D.int) (fP ps f ms fi O (W++[q]) Pl a b) ((pp ps (W++[q])).map D.int)[((pp ps (W++[q])).map D.int).length-1]?=_;rw[e1,Pz,P9,T6,QX (Py _),Nat.sub_self];show Fl.nx (((fP ps f ms fi O (W++[q]) Pl a b).set 4 (some (.lst .own ((pp ps W).map D.int++[D.int (aF ps q)]).dropLast))).set 6 #[53])=_;rw[Tf];rfl
 have s2:aQ 7 (bo (gD (aa 3)) (gN 0) fW iq 1 [("sights",0),("newcomer",6),("first",2)]) (fP ps f ms fi O W Pl #[53] b)=.nx (fP ps f ms fi O W Pl #[53] #[18]):=by
  have hi:gD (aa 3) (fP ps f ms fi O W Pl #[53] b)=.ok (true,O.map λ i=>D.int (aF ps i)):=by rw[<-ku];exact wQ rfl (ah _)
  have hcap:fE (fP ps f ms fi O W Pl #[53] b) [("sights",0),("newcomer",6),("first",2)]=[some (kX ps f),some (.int (aF ps q)),some (.int (aF ps fi))]:=by
   show [some (kX ps f).aq,_,_]=_;rw[wO];rfl
  have c:=gM (τ:=fP ps f ms fi O W Pl #[53] b) (tt:=fW) (elt:=iq) (cap:=[("sights",0),("newcomer",6),("first",2)]) (λ i=>D.int (aF ps i)) (λ p=>!decide (cc f p q=cc f p fi)) (λ i=>D.int (aF ps i)) hi #[111]
   (λ p hp=>by rw[hcap];exact Nt hs (hO p hp) hqn hfn (nq p hp).1 (nq p hp).2) (λ _ _ _=>⟨rfl,rfl⟩) #[1]
  rw[aO c (cJ (bK λ d m=>by obtain⟨x,_,rfl⟩:=PF.mp m;rfl)),ku];rfl
 have s3:aQ 3 (bo (gD (aa 3)) (gN 0) ik ig 1 [("came",7)]) (fP ps f ms fi O W Pl #[53] #[18])=.nx (fP ps f ms fi (PG.left (cc f) fi q O) W Pl #[53] #[18]):=by
  have hi:gD (aa 3) (fP ps f ms fi O W Pl #[53] #[18])=.ok (true,O.map λ i=>D.int (aF ps i)):=by rw[<-ku];exact wQ rfl (ah _)
  have hcap:fE (fP ps f ms fi O W Pl #[53] #[18]) [("came",7)]=[some (.lst .aq ((pp ps #[123]).map .int))]:=by
   show [some (D.lst .aq (aG ((pp ps #[123]).map .int)))]=_;rw[bG]
  have c:=gM (τ:=fP ps f ms fi O W Pl #[53] #[18]) (tt:=ik) (elt:=ig) (cap:=[("came",7)]) (λ i=>D.int (aF ps i)) (λ p=>!decide (p∈PG.cX (cc f) fi q O)) (λ i=>D.int (aF ps i)) hi #[111]
   (λ p hp=>by
    rw[hcap];refine(mh (x:=aF ps p) (qs:=pp ps #[123]) rfl (cf rfl (ah _))).trans ?_;rw[Rh.mpr (Az hs (hO p hp) hC)]) (λ _ _ _=>⟨rfl,rfl⟩) (by omega)
  rw[aO c (cJ (bK λ d m=>by obtain⟨x,_,rfl⟩:=PF.mp m;rfl))];unfold fP;rw[ku ps (PG.left (cc f) fi q O)];rfl
 have s4:zI 5 (bo (gD (aa 7)) (gN 0) cT ie 1 [("first",2),("newcomer",6)]) (fP ps f ms fi (PG.left (cc f) fi q O) W Pl #[53] #[18])=.nx (fP ps f ms fi (PG.left (cc f) fi q O) W (Pl++#[123].map λ p=>(p,q)) #[53] #[18]):=by
  have hi:gD (aa 7) (fP ps f ms fi (PG.left (cc f) fi q O) W Pl #[53] #[18])=.ok (true,#[123].map λ i=>D.int (aF ps i)):=by rw[<-ku];exact wQ rfl (ah _)
  have c:=pP (τ:=fP ps f ms fi (PG.left (cc f) fi q O) W Pl #[53] #[18]) (elt:=ie) (cap:=[("first",2),("newcomer",6)]) (λ i=>D.int (aF ps i)) (λ p=>xh ps fi (p,q)) hi #[111] (λ _ _=>⟨rfl,rfl⟩) #[1];have e2:(#[123].map λ p=>xh ps fi (p,q))=(#[123].map λ p=>(p,q)).map (xh ps fi):=by rw[Qq];rfl
  show(Res.jo _ _ (HU 5 (Pl.map (xh ps fi)) _))=_;rw[c,e2];show(if aB ((#[123].map λ p=>(p,q)).map (xh ps fi))=true then Fl.bad else if (Pl.map (xh ps fi)).length+((#[123].map λ p=>(p,q)).map (xh ps fi)).length<=16777216 then _ else _)=_;rw[bB _ (qH _ _ _),PL Pq,PH (by rw[Pk,Pk,Pk];omega)];unfold fP;rw[PR];rfl
 have s5:Bw 4 7 (fP ps f ms fi (PG.left (cc f) fi q O) W (Pl++#[123].map λ p=>(p,q)) #[53] #[18])=.nx (fP ps f ms fi (PG.left (cc f) fi q O) (W++PG.cX (cc f) fi q O) (Pl++#[123].map λ p=>(p,q)) #[53] #[18]):=by
  show(if lE ((pp ps #[123]).map D.int)=true/\((pp ps W).map D.int).length+((pp ps #[123]).map D.int).length<=16777216 then _ else _)=_;rw[PH ⟨sI _,by
   rw[Pk,Pk];unfold pp;rw[Pk,Pk];rw[Pz,P9]at hw;omega⟩]
  have e5:(pp ps (W++PG.cX (cc f) fi q O)).map D.int=(pp ps W).map D.int++(pp ps #[123]).map D.int:=by rw[jR,PR]
  unfold fP;rw[e5];rfl
 refine⟨some (.int (aF ps q)),some (.lst .own ((pp ps #[123]).map .int)),?_⟩;unfold bU;rw[aC s1,aC s2,aC s3,aC s4];exact s5
def F8 (hs:ps.Pairwise (· < ·))(hl:#[72])(hm:∀ x∈ms,x<ps.length)(hmd:ms.Nodup)(hf:fi∈ms):∀ (m:Nat),m<=90->∀ (O W:#[31]) (Pl:List (Nat×Nat)) (a b:#[95]),PG.St (cc f) ps.length fi ms O W Pl->W.length+2*O.length<=m ->
  ∃ O' Pl' a' b',PG.St (cc f) ps.length fi ms O' [] Pl'/\bN cB bU (m+1) (fP ps f ms fi O W Pl a b)=.nx (fP ps f ms fi O' [] Pl' a' b'):=by
 intro m
 induction m with
 | zero =>
  intro _ O W Pl a b S h;have e:W=[]:=Rq.mp #[1];subst e;exact⟨O,Pl,a,b,S,rfl⟩
 | succ m ih =>
  intro h90 O W Pl a b S h;rcases SS W with rfl|⟨W',q,rfl⟩
  ·exact⟨O,Pl,a,b,S,rfl⟩
  ·rw[SV]at S h ⊢;have hpl:Pl.length<=100:=by
    have:=PG.dP (S.val.nodup hmd) (n:=ps.length) λ x hx=>by
     rcases PC.mp hx with z|z
     ·exact hm x z
     ·obtain⟨y,hy,rfl⟩:=PF.mp z;exact S.val.bound y hy
    rw[Pz,Pk]at this;omega
   obtain⟨a',b',e⟩:=IQ hs hl S hm hf (by rw[Pz,P9]at h ⊢;omega) hpl a b;have S':=S.step;have lc:=PG.F3 (c:=cc f) fi q O;have h':=h;rw[Pz,P9]at h;have hO:O.length<=24:=QG (PG.dP S.nd λ x hx=>((S.out x).mp hx).1) hl;obtain⟨O',Pl',a2,b2,S2,e2⟩:=ih #[1] _ _ _ a' b' S' (by rw[Pz];omega);refine⟨O',Pl',a2,b2,S2,?_⟩;have c:cB (fP ps f ms fi O (W'++[q]) Pl a b)=.ok true:=by
    unfold cB Mg;rw[fU (xs:=(pp ps (W'++[q])).map D.int) rfl (ah _),Res.aK];show Res.ok (!((pp ps (W'++[q])).map D.int).isEmpty)=_;rw[jR,PR];cases (pp ps W').map D.int<;>rfl
   rw[bN,c];show(match bU (fP ps f ms fi O (W'++[q]) Pl a b) with|.nx t=>bN cB bU (m+1) t|.ct t=>bN cB bU (m+1) t|.bk t=>Fl.nx t|o=>o)=_;rw[e];exact e2
end
end KL
namespace KL
open DL XF
variable {x:Int}{ps qs:#[6]}{f:#[20]}{r:Res D}{τ:SD}
def LQ (b:Bool)(x:Int)(qs:#[6]):inD b (.int x) (.tup #[117])=.ok (.bl (if b then !decide (x∈qs) else decide (x∈qs))):=by
 have h1:(qs.map D.int).all D.flat=true:=by simp[D.flat]
 have h2:lX (.int x) (qs.map D.int)=decide (x∈qs):=by
  unfold lX;rw[Rb,RW,RN];constructor
  ·rintro⟨y,hy,e⟩;obtain⟨z,hz,rfl⟩:=PF.mp hy;have e:z=x:=by simpa[KY] using e
   rw[<-e];exact hz
  ·intro h;exact⟨.int x,PF.mpr ⟨x,h,rfl⟩,by simp[KY]⟩
 show(if (D.int x).flat=true/\(qs.map D.int).all D.flat=true then Res.ok (D.bl (if b then !lX (.int x) #[117] else lX (.int x) #[117])) else .bad)=_;rw[PH ⟨rfl,h1⟩,h2]
def wR {i:Nat}(h:τ[i]?=some (some (.tup #[117]))):aa i τ=.ok (.tup #[117]):=c7 h (ah qs)
def yL {f g:#[28]}(h1:f τ=.ok (.int x))(h2:g τ=.ok (.tup #[117])):eT (af (inD true) f g) τ=.ok (!decide (x∈qs)):=sd ((aZ h1 h2).trans (LQ true x qs))
variable (ca:#[76])
def Gb(h:x∈qs):cS ca [.tup #[117],.int x]=.ok .a8:=by
 refine LH (t:=[some (.tup #[117]),some (.int x)]) rfl rfl ?_;show dm ca [some (.tup #[117]),some (.int x)]=.nx _;unfold dm;have t:=yL (τ:=[some (.tup #[117]),some (.int x)]) (f:=aa 1) (g:=aa 0) (x:=x) (qs:=qs) rfl (wR rfl);rw[P8 h]at t;rw[mz t];rfl
def Dw(h:x∉qs):cS ca [.tup #[117],.int x]=.eB (ca "NoPlace"):=by
 refine nz (t:=[some (.tup #[117]),some (.int x)]) rfl rfl ?_;show dm ca [some (.tup #[117]),some (.int x)]=.ex _ _;unfold dm;have t:=yL (τ:=[some (.tup #[117]),some (.int x)]) (f:=aa 1) (g:=aa 0) (x:=x) (qs:=qs) rfl (wR rfl);rw[PQ h]at t;rw[nv t];rfl
section
variable{y:Int}
end
def sL {G:DF}{fs:#[40]}{ds:List D}(ha:fs τ=.ok ds)(hb:aB ds=false)(hG:G (aG ds)=r):dU G fs τ=r:=by
 unfold dU;rw[ha];show Bp G ds=_;unfold Bp;rw[hb,PL Pq,hG]
def Ga {f:#[28]}{g:#[40]}{C:PySem.Addr}(h:f τ=.eB C):ae f g τ=.eB C:=by unfold ae;rw[h];rfl
def LR {f:#[28]}{C:PySem.Addr}(h:f τ=.eB C):bA f τ=.ex C τ:=by unfold bA;rw[h];rfl
def Nu {c:#[66]}{s:SF}{C:PySem.Addr}(h:c τ=.ok true):aA (dD c (vS C) aR) s τ=.ex C τ:=oM ((nv h).trans rfl)
def LP (ns:#[6])(k:Int):k∈L2.dd ns↔k∈ns:=by
 have h:=PyProof.Rows.firstMet_any (λ i=>ns.getD i 0) ns.length k;have e:(List.range ns.length).map (λ i=>ns.getD i 0)=ns:=by
  refine RA #[25] λ i h1 h2=>?_;simp;rw[Pr h2];rfl
 rw[e]at h;have m:∀ l:List Int,(l.any λ x=>x == k)=true↔k∈l:=λ l=>by
  rw[RW];constructor
  ·rintro⟨x,hx,e⟩;have:x=k:=by simpa using e
   exact this▸hx
  ·intro hk;exact⟨k,hk,by simp⟩
 unfold L2.dd;rw[<-m,h,m]
def sJ:∀ (ns acc:#[6]),acc.Nodup->(ns.foldl PyProof.Rows.step_dedup acc).Nodup
 |[],_,h=>h
 | x::r,acc,h=>by
  rw[Ux];refine sJ r _ ?_;unfold PyProof.Rows.step_dedup;split
  ·exact h
  ·rename_i hx;rw[PJ];refine⟨h,PN.mpr ⟨QE,Qz⟩,λ a ha b hb z=>?_⟩;have hb:b=x:=by simpa using hb
   subst hb z;exact hx (RW.mpr ⟨a,ha,by simp⟩)
def F9 (ns:#[6]):(L2.dd ns).Nodup:=sJ _ [] Qz
def mC (ps qs:#[6])(o:#[95]):SD:=[some (.tup (ps.map .int)),some #[3],o]
section
variable (ca:#[76])
def B9 {q:Int}(hG:cS ca [.tup (ps.map .int),.int q]=r):dU (cS ca) (ae (aa 0) (ae (aa 2) ao)) (mC ps qs (some (.int q)))=r:=
 sL (ds:=[.tup (ps.map .int),.int q]) (aI (wR rfl) (cG rfl)) (by show((aB (ps.map .int))||_)=false;rw[bB _ (ah _)];rfl) (by show cS ca [.tup (aG (ps.map .int)),.int q]=_;rw[bG];exact hG)
def qI:∀ (R:#[6]) (o:#[95]),((∀ q∈R,q∈ps)->∃ o',cg (gN 2) (cH ca) (R.map .int) (mC ps qs o)=.nx (mC ps qs o'))/\(¬ (∀ q∈R,q∈ps)->∃ t,cg (gN 2) (cH ca) (R.map .int) (mC ps qs o)=.ex (ca "NoPlace") t)
 |[],o=>⟨λ _=>⟨o,rfl⟩,λ h=>absurd (λ q hq=>by cases hq) h⟩
 | q::R,o=>by
  obtain⟨i1,i2⟩:=qI R (some (.int q));by_cases hq:q∈ps
  ·have st:cg (gN 2) (cH ca) ((q::R).map .int) (mC ps qs o)=cg (gN 2) (cH ca) (R.map .int) (mC ps qs (some (.int q))):=
    kq (τ':=mC ps qs (some (.int q))) rfl (wG (B9 ca (Gb ca hq)))
   rw[st];refine⟨λ h=>i1 λ x hx=>h x (Pn _ hx),λ h=>i2 λ z=>h λ x hx=>?_⟩;rcases PB.mp hx with rfl|hx
   ·exact hq
   ·exact z x hx
  ·refine⟨λ h=>absurd (h q Pp) hq,λ _=>⟨_,IG (τ':=mC ps qs (some (.int q))) rfl (wC (B9 ca (Dw ca hq)))⟩⟩
def AB:cV [1] (gD (aa 1)) (gN 2) (cH ca) (mC ps qs none)=cg (gN 2) (cH ca) #[117] (mC ps qs none):=by
 refine jt ?_ ?_ (ah qs)
 ·show [some (D.tup (ps.map .int)),some (.lst .aq (aG #[117])),none]=_;rw[bG];rfl
 ·unfold gD;rw[cf (xs:=qs.map .int) rfl (ah qs),Res.aK];exact wK (.inl rfl) (ah qs)
def nB (h1:∀ q∈qs,q∈ps)(h2:qs≠[])(hl:qs.length<64):aW ca [.tup (ps.map .int),.lst .aq #[117]]=.ok (.lst .own ((sortI (L2.dd qs)).map .int)):=by
 obtain⟨o,e⟩:=(qI ca (ps:=ps) (qs:=qs) qs none).1 h1;refine bg (τ:=mC ps qs none) rfl rfl ?_;unfold fN;rw[aC ((AB ca).trans e)];have v1:aa 1 (mC ps qs o)=.ok #[3]:=cf rfl (ah qs);have t:=iu (wy v1) (g:=eC (.int 0)) (b:=0) rfl;rw[PQ (by rw[Pk];cases qs with|nil=>exact absurd rfl h2|cons _ _=>simp only[PU];omega)]at t;rw[dM t];refine dS ?_ (cJ (ah _));unfold fZ;rw[v1,Res.aK];show(match intsOf (qs.map D.int) with|some ns=>if ns.length<64 then Res.ok (D.lst .own ((sortI (L2.dd ns)).map D.int)) else .bad|none=>.bad)=_;rw[f7];show(if qs.length<64 then Res.ok (D.lst .own ((sortI (L2.dd qs)).map D.int)) else .bad)=_;rw[PH hl]
def wU:aW ca [.tup (ps.map .int),.lst .aq (([]:#[6]).map .int)]=.eB (ca "NoSet"):=by
 obtain⟨o,e⟩:=(qI ca (ps:=ps) (qs:=[]) [] none).1 (λ q hq=>by cases hq);refine nz (τ:=mC ps [] none) (t:=mC ps [] o) rfl rfl ?_;unfold fN;rw[aC ((AB ca).trans e)];have v1:aa 1 (mC ps [] o)=.ok (.lst .aq (([]:#[6]).map .int)):=cf rfl (ah []);have t:=iu (wy v1) (g:=eC (.int 0)) (b:=0) rfl;exact Nu t
def yM (h:¬ ∀ q∈qs,q∈ps):aW ca [.tup (ps.map .int),.lst .aq #[117]]=.eB (ca "NoPlace"):=by
 obtain⟨t,e⟩:=(qI ca (ps:=ps) (qs:=qs) qs none).2 h;refine nz (τ:=mC ps qs none) (t:=t) rfl rfl ?_;unfold fN;exact oM ((AB ca).trans e)
end
def nC {G:DF}{fs:#[40]}{ds:List D}{d:D}(ha:fs τ=.ok ds)(h:G (aG ds)=.ok d)(ht:d.aX=d):aE G fs τ=.ok d:=by
 unfold aE;rw[ha,Res.aK];unfold eU;rw[h];show(if aB ds=true then Res.ok d.aX else Res.ok d)=_;rw[ht,ite_self]
def pQ {xs:List D}(h:aT xs=true):(D.lst .own xs).aX=.lst .own xs:=by
 show D.lst .own (bW xs)=_;rw[gf _ h]
def LS (ps:#[6])(e:List (Nat×Int)):(fO .aq ps e).aD=false:=by
 show(false||aB (e.map λ x=>D.int x.2))=false;rw[bB _ (bK λ d m=>by obtain⟨x,_,rfl⟩:=PF.mp m;rfl)];rfl
def JW (ps:#[6])(m:Nat)(g:Nat->List (Nat×Int)):(qz .aq ps m g).aD=false:=by
 show(false||aB ((List.range m).map λ i=>fO .aq ps (g i)))=false;rw[q9,Um,R8];intro d hd;obtain⟨i,_,rfl⟩:=PF.mp hd;rw[LS];exact Pq
section
def Gd (hs:ps.Pairwise (· < ·))(hl:#[72]){fi:Nat}{rest:#[31]}(hm:∀ x∈fi::rest,x<ps.length)(hmd:(fi::rest).Nodup) :
  ∃ O Pl,PG.St (cc f) ps.length fi (fi::rest) O [] Pl/\gz [kX ps f,.lst .aq #[26]]=.ok (.lst .own (Pl.map (xh ps fi))):=by
 have v1:∀ τ:SD,τ[1]?=some (some (.lst .aq #[26]))->aa 1 τ=.ok (.lst .aq #[26]):=λ τ h=>cf h (ah _);have S0:=PG.St.init (cc f) ps.length fi rest;have hO:(PG.mW ps.length (fi::rest)).length<=24:=by
  unfold PG.mW;have:=RH (λ p=>!decide (p∈fi::rest)) #[24];rw[Qd]at this;omega
 have hr:rest.length<=24:=by
  have:=PG.dP hmd hm;rw[PU]at this;omega
 obtain⟨O,Pl,a,b,S,e⟩:=F8 (f:=f) hs hl hm hmd Pp 90 #[1] (PG.mW ps.length (fi::rest)) rest [] none none S0 #[1];refine⟨O,Pl,S,?_⟩;refine bg (τ:=[some (kX ps f),some (.lst .aq #[26]),none,none,none,none,none,none]) rfl rfl ?_;unfold ki;have s1:af bL (aa 1) #[129] [some (kX ps f),some (.lst .aq #[26]),none,none,none,none,none,none]=.ok (.int (aF ps fi)):=fD (v1 _ rfl) (y:=.int 0) rfl (sr (j:=0) rfl rfl);rw[aC (aO s1 rfl)];show aA _ _ #[121]=_;have s2:bo (kG (aa 0)) (gN 0) il ir 1 [("members",1)] #[121]=.ok (.lst .own ((pp ps (PG.mW ps.length (fi::rest))).map .int)):=by
  have hi:kG (aa 0) #[121]=.ok (false,#[24].map λ i=>D.int (aF ps i)):=by
   unfold kG;show(Res.ok (kX ps f).view).bind Ae=_;rw[wM];show Res.ok ((kX ps f).aD,(#[24].map λ i=>kI (aF ps i)).map yg)=_;rw[JW,Qq];rfl
  have hcap:fE #[121] [("members",1)]=[some (.lst .aq #[26])]:=by
   show [some (D.lst .aq (aG #[26]))]=_;rw[bG]
  rw[gM (tt:=il) (elt:=ir) (cap:=[("members",1)]) (λ i=>D.int (aF ps i)) (λ p=>!decide (p∈fi::rest)) (λ i=>D.int (aF ps i)) hi #[111]
   (λ p hp=>by
    rw[hcap];refine(mh (x:=aF ps p) (qs:=pp ps (fi::rest)) rfl (cf rfl (ah _))).trans ?_;rw[Rh.mpr (Az hs (P7.mp hp) hm)]) (λ _ _ _=>⟨rfl,rfl⟩) (by rw[Qd];omega),ku]
  rfl
 rw[aC (aO s2 (cJ (ah _)))];show aA _ _ [some (kX ps f),some (.lst .aq #[26]),some (.int (aF ps fi)),some (.lst .own ((pp ps (PG.mW ps.length (fi::rest))).map .int)),none,none,none,none]=_;have s3:c8 (aa 1) (eP #[118]) ly [some (kX ps f),some (.lst .aq #[26]),some (.int (aF ps fi)),some (.lst .own ((pp ps (PG.mW ps.length (fi::rest))).map .int)),none,none,none,none]=.ok (.lst .own ((pp ps rest).map .int)):=by
  unfold c8;rw[v1 _ rfl,Res.aK];show Res.ok (D.lst .own (DL.cut ((pp ps (fi::rest)).map D.int) (some ((1:Nat):Int)) none))=_;rw[xT];rfl
 rw[aC (aO s3 (cJ (ah _)))];rw[aC (aO (d:=.lst .own []) rfl rfl)];show aA (iO cB bU) _ (fP ps f (fi::rest) fi (PG.mW ps.length (fi::rest)) rest [] none none)=_;have w:iO cB bU (fP ps f (fi::rest) fi (PG.mW ps.length (fi::rest)) rest [] none none)=.nx (fP ps f (fi::rest) fi O [] Pl a b):=by
  rw[pj (n:=91) (by rw[e];exact Fl.noConfusion),e]
 rw[aC w];rfl
end
variable (ca:#[76])
def jS{e g:#[28]}(h0:e τ=.ok #[32])(h1:g τ=.ok #[3])(hG:aW ca [.tup (ps.map .int),.lst .aq #[117]]=r):dU (aW ca) (ae (af bL e #[129]) (ae g ao)) τ=r:=
 sL (ds:=[.tup (ps.map .int),.lst .aq #[117]]) (aI (wJ h0) (cG h1)) (by
  show(aB (ps.map D.int)||((false||aB (qs.map D.int))||false))=false;rw[bB _ (ah _),bB _ (ah _)];rfl) (by
  show aW ca [.tup (aG (ps.map .int)),.lst .aq (aG #[117])]=_;rw[bG,bG,hG])
def Dz{C:PySem.Addr}(hG:aW ca [.tup (ps.map .int),.lst .aq #[117]]=.eB C):lH ca [nF ps f,.lst .aq #[117]]=.eB C:=by
 refine nz (τ:=[some #[32],some #[3],none,none]) (t:=[some #[32],some #[3],none,none]) rfl rfl ?_;unfold oq;exact oM (se (jS ca (c7 rfl (aY _ _)) (cf rfl (ah _)) hG))
section
def Dy (hs:ps.Pairwise (· < ·))(hl:#[72]){fi:Nat}{rest:#[31]}(hm:∀ x∈fi::rest,x<ps.length)(hmd:(fi::rest).Nodup)(h1:∀ q∈qs,q∈ps)(h2:qs≠[])(hq:qs.length<64)(hd:sortI (L2.dd qs)=pp ps (fi::rest)) :
  ∃ O Pl,PG.St (cc f) ps.length fi (fi::rest) O [] Pl/\lH ca [nF ps f,.lst .aq #[117]]=.ok (.tup [.lst .own ((sortI (pp ps (PG.gr (fi::rest) Pl))).map .int),.lst .own (Pl.map (xh ps fi))]):=by
 obtain⟨O,Pl,S,e⟩:=Gd (f:=f) hs hl hm hmd;refine⟨O,Pl,S,?_⟩;have hg:(PG.gr (fi::rest) Pl).length<=24:=QG (PG.dP (S.val.nodup hmd) (n:=ps.length) λ x hx=>by
  rcases PC.mp hx with z|z
  ·exact hm x z
  ·obtain⟨y,hy,rfl⟩:=PF.mp z;exact S.val.bound y hy) hl
 have hpl:Pl.length<=24:=by
  rw[Pz,Pk]at hg;omega
 refine bg (τ:=[some #[32],some #[3],none,none]) rfl rfl ?_;unfold oq;have v0:∀ τ:SD,τ[0]?=some (some #[32])->aa 0 τ=.ok #[32]:=λ τ h=>c7 h (aY _ _);have s1:dU (aW ca) (ae #[35] #[74]) [some #[32],some #[3],none,none]=.ok (.lst .own #[26]):=
  jS ca (v0 _ rfl) (cf rfl (ah _)) (by rw[nB ca h1 h2 hq,hd])
 rw[aC (aO s1 (cJ (ah _)))];show aA _ _ [some #[32],some #[3],some (.lst .own #[26]),none]=_;have s2:aE gz (ae (aE cz (ae (aa 0) ao)) (ae (aa 2) ao)) [some #[32],some #[3],some (.lst .own #[26]),none]=.ok (.lst .own (Pl.map (xh ps fi))):=by
  have sg:aE cz (ae (aa 0) ao) [some #[32],some #[3],some (.lst .own #[26]),none]=.ok #[38]:=
   dj (ds:=[nF ps f]) (cG (v0 _ rfl)) (by show cz [#[32].aq]=_;rw[bQ _ (aY _ _)];exact pM hs hl) (by show(#[32].aD||false)=false;rw[aV _ (aY _ _)];rfl)
  refine nC (ds:=[qz .own ps ps.length λ i=>ent f i (jV ps.length),.lst .bor #[26]]) (aI sg (cG (fU rfl (ah _)))) ?_ (pQ (qH _ _ _));show gz [#[38].aq,.lst .aq (aG #[26])]=_;rw[Ay,bG,e]
 rw[aC (aO s2 (cJ (qH _ _ _)))];show E2 _ _ #[125]=_;have s3:bo (gD (aa 3)) (gN 0) cT (ia ca) 1 [] #[125]=.ok (.lst .own ((pp ps (Pl.map (·.1))).map .int)):=by
  rw[pP (elt:=(ia ca)) (cap:=[]) (xh ps fi) (λ x=>D.int (aF ps x.1)) (wQ rfl (qH _ _ _)) #[111] (λ x _=>⟨fD (x:=xh ps fi x) (y:=.int 0) rfl rfl (fY (j:=0) rfl rfl),rfl⟩) #[1],ku,Qq];rfl
 have s4:af ba (aa 2) (bo (gD (aa 3)) (gN 0) cT (ia ca) 1 []) #[125]=.ok (.lst .own ((pp ps (PG.gr (fi::rest) Pl)).map .int)):=by
  rw[aZ (fU rfl (ah _)) s3];show(if ((pp ps (fi::rest)).map D.int).length+((pp ps (Pl.map (·.1))).map D.int).length<=16777216 then Res.ok (D.lst .own ((pp ps (fi::rest)).map D.int++(pp ps (Pl.map (·.1))).map D.int)) else .bad)=_;rw[PH (by
   unfold pp;rw[Pk,Pk,Pk,Pk,Pk];rw[Pz,Pk]at hg;omega),<-PR,<-jR]
 have s5:eA bJ (ae (af ba (aa 2) (bo (gD (aa 3)) (gN 0) cT (ia ca) 1 [])) ao) #[125]=.ok (.lst .own ((sortI (pp ps (PG.gr (fi::rest) Pl))).map .int)):=by
  rw[fC (cG s4)];show(match intsOf ((pp ps (PG.gr (fi::rest) Pl)).map D.int) with|some ns=>if ns.length<64 then Res.ok (D.lst .own ((sortI ns).map D.int)) else .bad|none=>.bad)=_;rw[f7];show(if (pp ps (PG.gr (fi::rest) Pl)).length<64 then Res.ok (D.lst .own ((sortI (pp ps (PG.gr (fi::rest) Pl))).map D.int)) else .bad)=_;rw[PH (by unfold pp;rw[Pk];omega)]
 show(Res.jo _ _ _)=_;rw[s5];show(if (D.lst .own ((sortI (pp ps (PG.gr (fi::rest) Pl))).map .int)).aD=true then Fl.bad else _)=_;rw[cJ (ah _),PL Pq]
end
end KL
namespace KL
open DL
variable {N:Int}{ps:#[6]}{l lr r:#[31]}{i j l0 n:Nat}{c f:#[20]}{a b:#[95]}{τ:SD}
def ni (l:#[31]):List Int:=l.map λ i:Nat=>(i:Int)
def pS (l:#[31]):(ni l).map D.int=l.map λ i:Nat=>D.int (i:Int):=by
 unfold ni;rw[Qq];rfl
def u0 (l m:#[31]):ni (l++m)=ni l++ni m:=PR
def LV:(i:Int)∈ni l↔i∈l:=by
 unfold ni;constructor
 ·intro h;obtain⟨j,hj,e⟩:=PF.mp h;have:j=i:=by omega
  exact this▸hj
 ·intro h;exact PF.mpr ⟨i,h,rfl⟩
def Gh (l:#[31]):(ni l).length=l.length:=Pk _
def Ce (c:#[20])(k l0:Nat)(r:#[31]):Option Nat:=r.find? λ j=>!decide (c k j=c k l0)
def DB (c:#[20])(l0:Nat)(lr:#[31]):List Nat->Option (Nat×Nat)
 |[]=>none
 | k::r=>if k∈l0::lr then DB c l0 lr r else match Ce c k l0 lr with
  |some j=>some (k,j)
  |none=>DB c l0 lr r
def sO{k:Nat}(e:c k j=c k l0):Ce c k l0 (j::r)=Ce c k l0 r:=by
 unfold Ce;rw[Rc,P8 e];rfl
def Cc{k:Nat}(e:c k j≠c k l0):Ce c k l0 (j::r)=some j:=by
 unfold Ce;rw[Rc,PQ e];rfl
def Gg{k:Nat}(h:∀ j∈r,c k j=c k l0):Ce c k l0 r=none:=by
 unfold Ce;rw[List.find?_eq_none];intro j hj;rw[P8 (h j hj)];exact Pq
def sN{k:Nat}(q:k∉l0::lr->∀ j∈lr,c k j=c k l0):DB c l0 lr (k::r)=DB c l0 lr r:=by
 by_cases h:k∈l0::lr
 ·rw[DB,PH h]
 ·rw[DB,PL h,Gg (q h)]
def Cd{k:Nat}(h:k∉l0::lr)(e:Ce c k l0 lr=some j):DB c l0 lr (k::r)=some (k,j):=by
 rw[DB,PL h,e]
def yN {c:#[20]}{l0:Nat}{lr:#[31]}:∀ {r:#[31]},(∀ k∈r,k∉l0::lr->∀ j∈lr,c k j=c k l0)->DB c l0 lr r=none
 |[],_=>rfl|k::r,h=>(sN (h k Pp)).trans (yN λ x hx=>h x (Pn _ hx))
section
def LU {k:Nat}{e g i:#[28]}(h:e τ=.ok #[32])(hg:g τ=.ok (.int k))(hi:i τ=.ok (.int j))(hj:j<k)(hk:k<ps.length):af bL (af bL (af bL e #[118]) g) i τ=.ok (.int (f k j)):=
 fD (fD (Nr h) hg (fY rfl (F2 hk))) hi (fY rfl (F0 hj))
def jh(h:τ[0]?=some (some #[32])):aa 0 τ=.ok #[32]:=c7 h (aY _ _)
def Gf {k:Nat}(hk:k<ps.length)(hj:j<ps.length)(hn:k≠j):G_Lshown [nF ps f,.int k,.int j]=.ok (.int (cc f k j)):=by
 refine bg (τ:=[some #[32],some (.int k),some (.int j)]) rfl rfl ?_;unfold g_Lshown;refine dS ?_ rfl;unfold cc;refine LU (jh rfl) ?_ ?_ #[1] #[1]
 ·show Res.ok (D.int (if (j:Int)>k then (j:Int) else k))=_;by_cases h:j<k
  ·rw[PL #[1],Uy #[1]]
  ·rw[PH #[1],Nat.max_eq_right #[1]]
 ·show Res.ok (D.int (if (j:Int)<k then (j:Int) else k))=_;by_cases h:j<k
  ·rw[PH #[1],Ur #[1]]
  ·rw[PL #[1],To #[1]]
def sU{g h:#[28]}{k:Nat}(h0:τ[0]?=some (some #[32]))(h1:g τ=.ok (.int k))(h2:h τ=.ok (.int j))(hk:k<ps.length)(hj:j<ps.length)(hn:k≠j):aE G_Lshown (ae (aa 0) (ae g (ae h ao))) τ=.ok (.int (cc f k j)):=
 dE (ds:=[nF ps f,.int k,.int j]) (aI (jh h0) (aI h1 (cG h2))) (by show G_Lshown [#[32].aq,.int k,.int j]=_;rw[bQ _ (aY _ _)];exact Gf hk hj hn) rfl
def fQ (ps:#[6])(f:#[20])(l:#[31])(a b:#[95]):SD:=[some #[32],some (.lst .aq #[54]),a,b]
def Gi:aa 1 (fQ ps f l a b)=.ok (.lst .aq #[54]):=cf rfl (ah _)
def JX:af bL (aa 1) #[129] (fQ ps f (l0::lr) a b)=.ok (.int l0):=fD Gi (y:=.int 0) rfl (sr (j:=0) rfl rfl)
def JY {l0 k:Nat}{lr:#[31]}(hl:#[71])(hk:k<ps.length)(hn:k∉l0::lr):∀ (r:#[31]) (b:#[95]),(∀ x∈r,x∈lr) ->
  (∃ b',cg (gN 3) g_Lteller_b1 ((ni r).map .int) (fQ ps f (l0::lr) #[34] b)=.nx (fQ ps f (l0::lr) #[34] b')/\∀ j∈r,cc f k j=cc f k l0) ∨
  ∃ j:Nat,((j∈lr/\cc f k j≠cc f k l0)/\Ce (cc f) k l0 r=some j)/\cg (gN 3) g_Lteller_b1 ((ni r).map .int) (fQ ps f (l0::lr) #[34] b)=.rt (.tup [.int k,.int l0,.int j])
 |[],b,_=>.inl ⟨b,rfl,λ j hj=>by cases hj⟩
 | j::r,b,h=>by
  have hj:=h j Pp;have hjn:k≠j:=λ z=>hn (Pn _ (z▸hj));have h0n:k≠l0:=λ z=>hn (z▸Pp);have c1:=sU (f:=f) (τ:=fQ ps f (l0::lr) #[34] (some (.int j))) (g:=aa 2) (h:=aa 3) (k:=k) (j:=j) rfl rfl rfl hk (hl j (Pn _ hj)) hjn;have c2:=sU (f:=f) (τ:=fQ ps f (l0::lr) #[34] (some (.int j))) (g:=aa 2) (h:=af bL (aa 1) #[129]) (k:=k) (j:=l0) rfl rfl JX hk (hl l0 Pp) h0n;have t:=pK c1 c2;by_cases e:cc f k j=cc f k l0
  ·rw[P8 e]at t;have st:g_Lteller_b1 (fQ ps f (l0::lr) #[34] (some (.int j)))=.nx (fQ ps f (l0::lr) #[34] (some (.int j))):=by
    unfold g_Lteller_b1;rw[mz t];rfl
   have go:cg (gN 3) g_Lteller_b1 ((ni (j::r)).map .int) (fQ ps f (l0::lr) #[34] b)=cg (gN 3) g_Lteller_b1 ((ni r).map .int) (fQ ps f (l0::lr) #[34] (some (.int j))):=kq (τ':=fQ ps f (l0::lr) #[34] (some (.int j))) rfl st;rw[go];rcases JY hl hk hn r (some (.int j)) (λ x hx=>h x (Pn _ hx)) with ⟨b',e1,e2⟩|q
   ·refine .inl ⟨b',e1,λ x hx=>?_⟩;rcases PB.mp hx with rfl|hx
    ·exact e
    ·exact e2 x hx
   ·obtain⟨j',⟨q1,q2⟩,q3⟩:=q;exact .inr ⟨j',⟨q1,(sO e).trans q2⟩,q3⟩
  ·rw[PQ e]at t;refine .inr ⟨j,⟨⟨hj,e⟩,Cc e⟩,qF (τ':=fQ ps f (l0::lr) #[34] (some (.int j))) rfl ?_⟩;unfold g_Lteller_b1;rw[nv t];refine dS ?_ rfl;rw[fC (aI (d:=.int k) rfl (aI JX (cG (d:=.int j) rfl)))];rfl
def LW:gD (c8 (aa 1) (eP #[118]) ly) (fQ ps f (l0::lr) a b)=.ok (false,(ni lr).map .int):=by
 unfold gD c8;rw[Gi,Res.aK];show(Res.ok (D.lst .own (DL.cut ((ni (l0::lr)).map D.int) (some ((1:Nat):Int)) none))).bind bI=_;rw[xT,Res.aK];exact wK (.inr rfl) (ah _)
def IT {k:Nat}(hl:#[71])(hk:k<ps.length)(b:#[95]) :
  (∃ b',g_Lteller_b2 (fQ ps f (l0::lr) #[34] b)=.nx (fQ ps f (l0::lr) #[34] b')/\(k∉l0::lr->∀ j∈lr,cc f k j=cc f k l0)) ∨
  (k∉l0::lr/\∃ j:Nat,((j∈lr/\cc f k j≠cc f k l0)/\Ce (cc f) k l0 lr=some j)/\g_Lteller_b2 (fQ ps f (l0::lr) #[34] b)=.rt (.tup [.int k,.int l0,.int j])):=by
 have t:=mh (f:=aa 2) (g:=aa 1) (τ:=fQ ps f (l0::lr) #[34] b) (x:=(k:Int)) (qs:=ni (l0::lr)) rfl Gi;rw[Rh.mpr LV]at t;unfold g_Lteller_b2;by_cases hn:k∈l0::lr
 ·rw[P8 hn]at t;rw[mz t];exact .inl ⟨b,rfl,λ z=>absurd hn z⟩
 ·rw[PQ hn]at t;rw[nv t,jt (τ':=fQ ps f (l0::lr) #[34] b) (by
   show [some #[32],some (D.lst .aq (aG #[122])),_,_]=_;rw[bG];rfl) LW (ah _)]
  rcases JY (f:=f) hl hk hn lr b (λ _ h=>h) with ⟨b',e1,e2⟩|⟨j,hj,e⟩
  ·exact .inl ⟨b',e1,λ _=>e2⟩
  ·exact .inr ⟨hn,j,hj,e⟩
def Ca {l0:Nat}{lr:#[31]}(hl:#[71]):∀ (r:#[31]) (a b:#[95]),(∀ x∈r,x<ps.length) ->
  (∃ a' b',cg (gN 2) g_Lteller_b2 (r.map λ i:Nat=>D.int (i:Int)) (fQ ps f (l0::lr) a b)=.nx (fQ ps f (l0::lr) a' b')/\∀ k∈r,k∉l0::lr->∀ j∈lr,cc f k j=cc f k l0) ∨
  ∃ k j:Nat,k<ps.length/\k∉l0::lr/\((j∈lr/\cc f k j≠cc f k l0)/\DB (cc f) l0 lr r=some (k,j))/\cg (gN 2) g_Lteller_b2 (r.map λ i:Nat=>D.int (i:Int)) (fQ ps f (l0::lr) a b)=.rt (.tup [.int k,.int l0,.int j])
 |[],a,b,_=>.inl ⟨a,b,rfl,λ k hk=>by cases hk⟩
 | k::r,a,b,h=>by
  have hk:=h k Pp;rcases IT (f:=f) hl hk b with ⟨b',e,q⟩|⟨hn,j,hj,e⟩
  ·have go:cg (gN 2) g_Lteller_b2 ((k::r).map λ i:Nat=>D.int (i:Int)) (fQ ps f (l0::lr) a b)=cg (gN 2) g_Lteller_b2 (r.map λ i:Nat=>D.int (i:Int)) (fQ ps f (l0::lr) #[34] b'):=kq (τ':=fQ ps f (l0::lr) #[34] b) rfl e;rw[go];rcases Ca hl r #[34] b' (λ x hx=>h x (Pn _ hx)) with ⟨a',b'',e1,e2⟩|q'
   ·refine .inl ⟨a',b'',e1,λ x hx=>?_⟩;rcases PB.mp hx with rfl|hx
    ·exact q
    ·exact e2 x hx
   ·obtain⟨k',j',a1,a2,⟨a3,a4⟩,a5⟩:=q';exact .inr ⟨k',j',a1,a2,⟨a3,(sN q).trans a4⟩,a5⟩
  ·exact .inr ⟨k,j,hk,hn,⟨hj.1,Cd hn hj.2⟩,qF (τ':=fQ ps f (l0::lr) #[34] b) rfl e⟩
def sR (hp:#[72])(hl:#[71]) :
  (G_Lteller [nF ps f,.lst .aq #[122]]=.ok .a8/\∀ k,k<ps.length->k∉l0::lr->∀ j∈lr,cc f k j=cc f k l0) ∨
  ∃ k j:Nat,k<ps.length/\k∉l0::lr/\((j∈lr/\cc f k j≠cc f k l0)/\DB (cc f) l0 lr #[24]=some (k,j))/\G_Lteller [nF ps f,.lst .aq #[122]]=.ok (.tup [.int k,.int l0,.int j]):=by
 have hr:bC (ae (eA dJ (ae #[35] ao)) ao) (fQ ps f (l0::lr) none none)=.ok (false,#[24].map λ i:Nat=>D.int (i:Int)):=by
  unfold bC;have e:eA dJ (ae #[35] ao) (fQ ps f (l0::lr) none none)=.ok (.int ps.length):=by
   rw[fC (cG (wJ (jh rfl)))];show Res.ok (D.int ((ps.map D.int).length:Nat))=_;rw[Pk]
  rw[cG e,Res.aK,gI #[1]]
 have hf:cV [] (bC (ae (eA dJ (ae #[35] ao)) ao)) (gN 2) g_Lteller_b2 (fQ ps f (l0::lr) none none)=cg (gN 2) g_Lteller_b2 (#[24].map λ i:Nat=>D.int (i:Int)) (fQ ps f (l0::lr) none none):=
  jt rfl hr (bK λ d m=>by obtain⟨x,_,rfl⟩:=PF.mp m;rfl)
 rcases Ca (f:=f) hl #[24] none none (λ x hx=>P7.mp hx) with ⟨a',b',e1,e2⟩|⟨k,j,h1,h2,h3,e⟩
 ·refine .inl ⟨?_,λ k hk=>e2 k (P7.mpr hk)⟩;refine bg (τ:=fQ ps f (l0::lr) none none) rfl rfl ?_;unfold g_Lteller;rw[aC (hf.trans e1)];rfl
 ·refine .inr ⟨k,j,h1,h2,h3,?_⟩;refine bg (τ:=fQ ps f (l0::lr) none none) rfl rfl ?_;unfold g_Lteller;exact ny (hf.trans e)
def u4 (hp:#[72])(hl:#[71]) :
  (G_Lteller [nF ps f,.lst .aq #[122]]=.ok .a8/\∀ k,k<ps.length->k∉l0::lr->∀ j∈lr,cc f k j=cc f k l0) ∨
  ∃ k j:Nat,k<ps.length/\k∉l0::lr/\(j∈lr/\cc f k j≠cc f k l0)/\G_Lteller [nF ps f,.lst .aq #[122]]=.ok (.tup [.int k,.int l0,.int j]):=by
 rcases sR (f:=f) hp hl with q|⟨k,j,h1,h2,⟨h3,_⟩,h4⟩
 ·exact .inl q
 ·exact .inr ⟨k,j,h1,h2,h3,h4⟩
def jT (ps:#[6])(f:#[20])(t:Tg)(l:#[31])(a:#[95]):SD:=[some #[32],some (.lst t #[54]),a]
def sM{t:Tg}{ns:#[6]}(ht:t=.aq\/t=.own)(h:τ[i]?=some (some (.lst t (ns.map .int)))):∃ t',aa i τ=.ok (.lst t' (ns.map .int)):=by
 rcases ht with rfl|rfl
 ·exact⟨_,cf h (ah _)⟩
 ·exact⟨_,fU h (ah _)⟩
def qk(h:l≠[]):∃ l0 lr,l=l0::lr:=by
 cases l with
 |nil=>exact absurd rfl h|cons a r=>exact⟨a,r,rfl⟩
def IS(nd:l.Nodup):∃ m:List Nat,m.Perm l/\m.Pairwise (· < ·)/\sortI (ni l)=ni m:=by
 refine⟨(sortI (ni l)).map Int.toNat,?_,?_,?_⟩
 ·have h:=(sortI_perm (ni l)).map Int.toNat;have e:(ni l).map Int.toNat=l:=by
   unfold ni;rw[Qq];show l.map (λ i=>i)=l;exact List.map_id' l
  rw[e]at h;exact h
 ·have h1:=fg (ni l);have h2:(sortI (ni l)).Nodup:=(sortI_perm (ni l)).nodup_iff.mpr (List.Pairwise.map (λ i:Nat=>(i:Int)) (λ a b (h:a≠b) (z:(a:Int)=(b:Int))=>h #[1]) nd);have h3:∀ x∈sortI (ni l),0<=x:=λ x hx=>by
   obtain⟨i,_,rfl⟩:=PF.mp ((sortI_perm (ni l)).mem_iff.mp hx);omega
  rw[Sa];refine(h1.and h2).imp_of_mem λ {a b} ha hb h=>?_;have:=h3 a ha;have:=h3 b hb;have:=h.1;have:=h.2;omega
 ·unfold ni;rw[Qq];refine(List.map_id' _).symm.trans (Qo λ x hx=>?_);obtain⟨i,_,rfl⟩:=PF.mp ((sortI_perm _).mem_iff.mp hx);show(i:Int)=((i:Int).toNat:Int);omega
structure Gs (n:Nat)(l:List Nat):Prop where
 ne:l≠[]
 up:l.Pairwise (· < ·)
 lt:∀ x∈l,x<n
def Gs.nd(g:Gs n l):l.Nodup:=g.up.imp λ h=>PY h
def Gs.len(g:Gs n l):l.length<=n:=PG.dP g.nd g.lt
def Cb{t:Tg}(ht:t=.aq\/t=.own)(h0:τ[0]?=some (some #[32]))(hi:τ[i]?=some (some (.lst t #[54]))){d:D}(hG:G_Lteller [nF ps f,.lst .aq #[54]]=.ok d)(hd:d.pure=true):aE G_Lteller (ae (aa 0) (ae (aa i) ao)) τ=.ok d:=by
 obtain⟨t',e⟩:=sM ht hi;refine dE (ds:=[nF ps f,.lst t' #[54]]) (aI (jh h0) (cG e)) ?_ hd;show G_Lteller [#[32].aq,.lst .aq (aG #[54])]=_;rw[bQ _ (aY _ _),bG];exact hG
def pR(h:∀ k,k<n->k∉l0::lr->∀ j∈lr,cc f k j=cc f k l0):PG.gJ (cc f) n (l0::lr):=by
 have one:∀ k,k<n->k∉l0::lr->∀ i∈l0::lr,cc f k i=cc f k l0:=λ k hk hn i hi=>by
  rcases PB.mp hi with e|m
  ·rw[e]
  ·exact h k hk hn i m
 exact λ k hk hn i hi j hj=>(one k hk hn i hi).trans (one k hk hn j hj).symm
def Ge (hp:#[72]):∀ (m:Nat) (t:Tg) (l:#[31]) (d:D),t=.aq\/t=.own->Gs ps.length l->ps.length-l.length<=m->G_Lteller [nF ps f,.lst .aq #[54]]=.ok d->((d=.a8/\PG.gJ (cc f) ps.length l)\/∃ (k:Nat) (x y:D),k<ps.length/\k∉l/\d=.tup [.int k,x,y]) ->
  ∃ t' l',(t'=.aq\/t'=.own)/\Gs ps.length l'/\(∀ x∈l,x∈l')/\PG.gJ (cc f) ps.length l'/\bN g_Lclosed_w1 g_Lclosed_b2 (m+1) (jT ps f t l (some d))=.nx (jT ps f t' l' (some .a8)):=by
 intro m
 induction m with
 | zero =>
  intro t l d ht g hm hG hd;rcases hd with ⟨rfl,hcl⟩|⟨k,x,y,hk,hn,rfl⟩
  ·exact⟨t,l,ht,g,λ _ h=>h,hcl,rfl⟩
  ·have:=PG.dP (l:=k::l) (n:=ps.length) (PN.mpr ⟨hn,g.nd⟩) λ z hz=>(PB.mp hz).elim (λ e=>e▸hk) (g.lt z);rw[PU]at this;omega
 | succ m ih =>
  intro t l d ht g hm hG hd;rcases hd with ⟨rfl,hcl⟩|⟨k,x,y,hk,hn,rfl⟩
  ·exact⟨t,l,ht,g,λ _ h=>h,hcl,rfl⟩
  ·have nd:(l++[k]).Nodup:=PJ.mpr ⟨g.nd,by simp,λ a ha b hb e=>by
    have:b=k:=by simpa using hb
    exact hn (this▸e▸ha)⟩
   obtain⟨l',pl,pu,es⟩:=IS nd;have g':Gs ps.length l':=⟨λ z=>by
    have:=pl.length_eq;rw[z,Pz]at this;simp at this,pu,λ z hz=>by
    rcases PC.mp (pl.mem_iff.mp hz) with q|q
    ·exact g.lt z q
    ·have:z=k:=by simpa using q
     exact this▸hk⟩
   obtain⟨l0,lr,rfl⟩:=qk g'.ne;have len':=pl.length_eq;rw[Pz,P9]at len';have hGl:=g.len;have b1:aQ 1 (eA bJ (ae (af ba (aa 1) (eA cM (ae (af bL (aa 2) #[129]) ao))) ao)) #[73]=.nx (jT ps f .own (l0::lr) (some (.tup [.int k,x,y]))):=by
    obtain⟨t',e⟩:=sM (τ:=jT ps f t l (some (.tup [.int k,x,y]))) (i:=1) ht rfl;have v2:af bL (aa 2) #[129] #[73]=.ok (.int k):=by
     refine fD (x:=(D.tup [.int k,x,y]).view) rfl rfl ?_;exact fY (j:=0) rfl rfl
    have a1:af ba (aa 1) (eA cM (ae (af bL (aa 2) #[129]) ao)) #[73]=.ok (.lst .own ((ni (l++[k])).map .int)):=by
     rw[aZ e (fC (cG v2))];show(if ((ni l).map D.int).length+1<=16777216 then Res.ok (D.lst .own ((ni l).map D.int++[.int k])) else .bad)=_;rw[PH (by rw[Pk,Gh];omega),u0,PR];rfl
    have a2:eA bJ (ae (af ba (aa 1) (eA cM (ae (af bL (aa 2) #[129]) ao))) ao) #[73]=.ok (.lst .own #[122]):=by
     rw[fC (cG a1)];show(match intsOf ((ni (l++[k])).map D.int) with|some ns=>if ns.length<64 then Res.ok (D.lst .own ((sortI ns).map D.int)) else .bad|none=>.bad)=_;rw[f7];show(if (ni (l++[k])).length<64 then Res.ok (D.lst .own ((sortI (ni (l++[k]))).map D.int)) else .bad)=_;rw[PH (by rw[Gh,Pz,P9];omega),es]
    rw[aO a2 (cJ (ah _))];rfl
   have c:g_Lclosed_w1 #[73]=.ok true:=rfl;have step:∀ d',G_Lteller [nF ps f,.lst .aq #[122]]=.ok d'->d'.pure=true->g_Lclosed_b2 #[73]=.nx (jT ps f .own (l0::lr) (some d')):=λ d' h1 h2=>by
    unfold g_Lclosed_b2;rw[aC b1,aO (Cb (τ:=jT ps f .own (l0::lr) (some (.tup [.int k,x,y]))) (i:=1) (.inr rfl) rfl rfl h1 h2) (aV _ h2)];rfl
   have fin:∀ d',G_Lteller [nF ps f,.lst .aq #[122]]=.ok d'->d'.pure=true->((d'=.a8/\PG.gJ (cc f) ps.length (l0::lr))\/∃ (k:Nat) (x y:D),k<ps.length/\k∉l0::lr/\d'=.tup [.int k,x,y])->∃ t' l',(t'=Tg.aq\/t'=.own)/\Gs ps.length l'/\(∀ x∈l,x∈l')/\PG.gJ (cc f) ps.length l'/\bN g_Lclosed_w1 g_Lclosed_b2 (m+1+1) #[73]=.nx (jT ps f t' l' (some .a8)):=λ d' h1 h2 h3=>by
    obtain⟨t2,l2,e1,e2,e4,e5,e3⟩:=ih .own (l0::lr) d' (.inr rfl) g' #[1] h1 h3;refine⟨t2,l2,e1,e2,λ x hx=>e4 x (pl.mem_iff.mpr (PD _ hx)),e5,?_⟩;rw[bN,c];show(match g_Lclosed_b2 #[73] with|.nx t=>bN g_Lclosed_w1 g_Lclosed_b2 (m+1) t|.ct t=>bN g_Lclosed_w1 g_Lclosed_b2 (m+1) t|.bk t=>Fl.nx t|o=>o)=_;rw[step d' h1 h2];exact e3
   rcases u4 (f:=f) hp g'.lt with ⟨e,q⟩|⟨k',j',h1,h2,_,e⟩
   ·exact fin _ e rfl (.inl ⟨rfl,pR q⟩)
   ·exact fin _ e rfl (.inr ⟨k',_,_,h1,h2,rfl⟩)
def AD (hp:#[72])(g:Gs ps.length l):∃ t l',(t=.aq\/t=.own)/\Gs ps.length l'/\(∀ x∈l,x∈l')/\PG.gJ (cc f) ps.length l'/\G_Lclosed [nF ps f,.lst .aq #[54]]=.ok (.lst t ((ni l').map .int)):=by
 obtain⟨l0,lr,rfl⟩:=qk g.ne;have fin:∀ d,G_Lteller [nF ps f,.lst .aq #[122]]=.ok d->d.pure=true->((d=.a8/\PG.gJ (cc f) ps.length (l0::lr))\/∃ (k:Nat) (x y:D),k<ps.length/\k∉l0::lr/\d=.tup [.int k,x,y])->∃ t l',(t=Tg.aq\/t=.own)/\Gs ps.length l'/\(∀ x∈l0::lr,x∈l')/\PG.gJ (cc f) ps.length l'/\G_Lclosed [nF ps f,.lst .aq #[122]]=.ok (.lst t ((ni l').map .int)):=λ d h1 h2 h3=>by
  obtain⟨t2,l2,e1,e2,e4,e5,e3⟩:=Ge (f:=f) hp 24 .aq (l0::lr) d (.inl rfl) g #[1] h1 h3;refine⟨t2,l2,e1,e2,e4,e5,?_⟩;refine bg (τ:=jT ps f .aq (l0::lr) none) rfl rfl ?_;unfold g_Lclosed;rw[aC (aO (Cb (τ:=jT ps f .aq (l0::lr) none) (i:=1) (.inl rfl) rfl rfl h1 h2) (aV _ h2))];have w:iO g_Lclosed_w1 g_Lclosed_b2 (jT ps f .aq (l0::lr) (some d))=.nx (jT ps f t2 l2 (some .a8)):=by
   rw[pj (n:=25) (by rw[e3];exact Fl.noConfusion),e3]
  show aA _ _ (jT ps f .aq (l0::lr) (some d))=_;rw[aC w];rfl
 rcases u4 (f:=f) hp g.lt with ⟨e,q⟩|⟨k',j',h1,h2,_,e⟩
 ·exact fin _ e rfl (.inl ⟨rfl,pR q⟩)
 ·exact fin _ e rfl (.inr ⟨k',_,_,h1,h2,rfl⟩)
def DA (hp:#[72])(g:Gs ps.length l):∃ t l',(t=.aq\/t=.own)/\Gs ps.length l'/\G_Lclosed [nF ps f,.lst .aq #[54]]=.ok (.lst t ((ni l').map .int)):=by
 obtain⟨t,l',h1,h2,_,_,h3⟩:=AD (f:=f) hp g;exact⟨t,l',h1,h2,h3⟩
end
section
def IU(h:τ[0]?=some (some #[32])):eA dJ (ae #[35] ao) τ=.ok (.int ps.length):=by
 rw[fC (cG (wJ (jh h)))];show Res.ok (D.int ((ps.map D.int).length:Nat))=_;rw[Pk]
def oR {a b:#[28]}{x y:Int}(h1:a τ=.ok (.int x))(h2:b τ=.ok (.int y))(hy:0<y):af br a b τ=.ok (.int (x%y)):=by rw[aZ h1 h2,wF hy]
def pT (ps:#[6])(f:#[20])(N:Int)(p:#[95]):SD:=[some #[32],some (.int N),some (.int ps.length),some (.int (N%5)),some (.int (N/5)),p]
def LX {x:Int}(hn:0<n):∃ r:Nat,r<n/\x%(n:Int)=r:=by
 have h1:=QU x (by omega:(n:Int)≠0);have h2:=Sy x (by omega:(0:Int)<n);exact⟨(x%(n:Int)).toNat,by omega,by omega⟩
def u5{p:Nat->Bool}{r:Nat}(hr:r<n)(h:p r=true):Gs n (#[57].filter p):=⟨(λ z=>by
  have:r∈#[57].filter p:=Rt.mpr ⟨P7.mpr hr,h⟩;rw[z]at this;cases this),List.pairwise_lt_range.sublist List.filter_sublist,λ x hx=>P7.mp (Rt.mp hx).1⟩
def Gj{p:#[95]}(hp:#[72]):bC (ae (aa 2) ao) (pT ps f N p)=.ok (false,#[24].map λ i:Nat=>D.int (i:Int)):=by
 unfold bC;rw[cG (d:=.int ps.length) rfl,Res.aK,gI #[1]]
def Gk{x y:Nat}(hx:x<n)(hy:y<n):∃ a b:Nat,a<=b/\b<n/\sortI [(x:Int),(y:Int)]=[(a:Int),(b:Int)]:=by
 by_cases h:x<=y
 ·refine⟨x,y,h,hy,ez (sortI_perm _) (fg _) ?_⟩;simp;omega
 ·refine⟨y,x,by omega,hx,ez ((sortI_perm _).trans (List.Perm.swap _ _ _)) (fg _) ?_⟩;simp;omega
def DC (hp:#[72])(h1:1<=ps.length)(hN:0<=N):∃ t l,(t=.aq\/t=.own)/\Gs ps.length l/\G_Linside [nF ps f,.int N]=.ok (.lst t #[54]):=by
 have go:∀ {t:Tg}{l:#[31]},(t=.aq\/t=.own)->Gs ps.length l->g_Linside [some #[32],some (.int N),none,none,none,none]=.rt (.lst t #[54])->∃ t l,(t=Tg.aq\/t=.own)/\Gs ps.length l/\G_Linside [nF ps f,.int N]=.ok (.lst t #[54]):=λ ht g e=>⟨_,_,ht,g,bg rfl rfl e⟩;obtain⟨r,hr,er⟩:=LX (x:=N/5) (n:=ps.length) h1;obtain⟨r2,hr2,er2⟩:=LX (x:=N/5/31) (n:=ps.length) h1;have mr:∀ p,af br (aa 4) (aa 2) (pT ps f N p)=.ok (.int r):=λ p=>by rw[oR (x:=N/5) (y:=ps.length) rfl rfl #[1],er]
 have mr2:∀ p,af br (af bw (aa 4) (eC (.int 31))) (aa 2) (pT ps f N p)=.ok (.int r2):=λ p=>by rw[oR (x:=N/5/31) (y:=ps.length) (fm (a:=N/5) rfl ⟨by decide,by decide⟩) rfl #[1],er2]
 have way:∀ (w:Int) p,eT (af gW (aa 3) (eC (.int w))) (pT ps f N p)=.ok (decide (N%5=w)):=λ w p=>iu rfl rfl;have head:g_Linside [some #[32],some (.int N),none,none,none,none]=#[10] (pT ps f N none):=by
  unfold g_Linside;rw[aC (aO (IU rfl) rfl),aC (aO (d:=.int (N%5)) (fF rfl #[120]) rfl),aC (aO (d:=.int (N/5)) (fm rfl ⟨by decide,by decide⟩) rfl)];rfl
 have nb:∀ l:List Nat,(D.lst .own #[54]).aD=false:=λ l=>cJ (ah _);have pr:∀ l:List Nat,aT (l.map λ i:Nat=>D.int (i:Int))=true:=λ l=>by rw[<-pS];exact ah _
 by_cases w0:N%5=0
 ·refine go (t:=.own) (l:=[r]) (.inr rfl) ⟨by simp,by simp,λ x hx=>(Qw.mp hx)▸hr⟩ ?_;rw[head];have t:=way 0 none;rw[P8 w0]at t;exact kN t (dS (by rw[fC (cG (mr none))];rfl) rfl)
 have t0:=way 0 none;rw[PQ w0]at t0;rw[dM t0]at head;by_cases w1:N%5=1
 ·refine go (t:=.own) (l:=#[24].filter λ k=>decide (N/5/2^(k%20)%2=1)||decide (k=r)) (.inr rfl) (u5 hr #[25]) ?_;rw[head];have t:=way 1 none;rw[P8 w1]at t;refine kN t (dS ?_ (nb _));rw[gM (tt:=g_Linside_c5) (elt:=g_Linside_e6) (λ i:Nat=>D.int (i:Int)) (λ k=>decide (N/5/2^(k%20)%2=1)||decide (k=r)) (λ i:Nat=>D.int (i:Int)) (Gj hp) #[111] (λ k _=>?_) (λ _ _ _=>⟨rfl,rfl⟩) (by rw[Qd];omega),pS];show g_Linside_c5 #[130]=_;unfold g_Linside_c5;have sh:af KW (aa 1) (af br (aa 0) (eC (.int 20))) #[130]=.ok (.int (N/5/2^(k%20))):=by
   rw[aZ (x:=.int (N/5)) rfl (fF (a:=(k:Int)) rfl #[120])];show(if (0:Int)<=(k:Int)%20 then Res.ok (D.int (N/5/2^((k:Int)%20).toNat)) else .bad)=_;have e:((k:Int)%20).toNat=k%20:=by omega
   rw[PH #[1],e]
  have q2:af br (aa 1) (aa 2) #[130]=.ok (.int r):=by rw[oR (x:=N/5) (y:=ps.length) rfl rfl #[1],er]
  rw[sq (iu (fF sh #[120]) (g:=eC (.int 1)) (b:=1) rfl) (iu (f:=aa 0) (a:=(k:Int)) rfl q2)]
  congr 2
  rw[Rh];omega
 have t1:=way 1 none;rw[PQ w1]at t1;rw[dM t1]at head;by_cases w2:N%5=2
 ·have hex:∃ k,k<ps.length/\(!decide (k=r)||decide (ps.length=1))=true:=by
   by_cases h:ps.length=1
   ·exact⟨0,by omega,by simp[h]⟩
   ·by_cases hr0:r=0
    ·exact⟨1,by omega,by simp;omega⟩
    ·exact⟨0,by omega,by simp;omega⟩
  obtain⟨k0,hk0,hk1⟩:=hex;refine go (t:=.own) (l:=#[24].filter λ k=>!decide (k=r)||decide (ps.length=1)) (.inr rfl) (u5 hk0 hk1) ?_;rw[head];have t:=way 2 none;rw[P8 w2]at t;refine kN t (dS ?_ (nb _));rw[gM (tt:=g_Linside_c3) (elt:=g_Linside_e4) (λ i:Nat=>D.int (i:Int)) (λ k=>!decide (k=r)||decide (ps.length=1)) (λ i:Nat=>D.int (i:Int)) (Gj hp) #[111] (λ k _=>?_) (λ _ _ _=>⟨rfl,rfl⟩) (by rw[Qd];omega),pS];show g_Linside_c3 #[130]=_;unfold g_Linside_c3;have q2:af br (aa 1) (aa 2) #[130]=.ok (.int r):=by rw[oR (x:=N/5) (y:=ps.length) rfl rfl #[1],er]
  rw[sq (pK (f:=aa 0) (a:=(k:Int)) rfl q2) (iu (f:=aa 2) (a:=(ps.length:Int)) rfl (g:=eC (.int 1)) (b:=1) rfl)];have e1:decide ((k:Int)=(r:Int))=decide (k=r):=by rw[Rh];omega
  have e2:decide ((ps.length:Int)=1)=decide (ps.length=1):=by rw[Rh];omega
  rw[e1,e2]
 have t2:=way 2 none;rw[PQ w2]at t2;rw[dM t2]at head;obtain⟨a,b,hab,hb,es⟩:=Gk hr hr2;have s5:aQ 5 (eA bJ #[135]) (pT ps f N none)=.nx (pT ps f N #[114]):=by
  have e:eA bJ #[135] (pT ps f N none)=.ok (.lst .own [.int a,.int b]):=by
   rw[fC (cG (d:=.lst .own [.int r,.int r2]) (by rw[fC (aI (mr none) (cG (mr2 none)))];rfl))];show Res.ok (D.lst .own ((sortI [(r:Int),(r2:Int)]).map D.int))=_;rw[es];rfl
  rw[aO e rfl];rfl
 rw[aC s5]at head;have x0:af bL (aa 5) #[129] (pT ps f N #[114])=.ok (.int a):=rfl;have x1:af bL (aa 5) #[118] (pT ps f N #[114])=.ok (.int b):=rfl;have t3:=sq (way 3 #[114]) (iu x0 x1);by_cases w3:(decide (N%5=3)||decide ((a:Int)=(b:Int)))=true
 ·have gl:Gs ps.length ([a]++[b].filter λ k=>!decide (k=a)):=by
   by_cases h:b=a
   ·subst h;simp only[decide_true,R4,S6,Qc,RL,List.filter_nil,Qi];exact⟨by simp,by simp,λ x hx=>by
     have:x=b:=by simpa using hx
     exact this▸hb⟩
   ·simp only[S6,PQ h,Bool.not_false,RE,List.filter_nil,List.singleton_append];refine⟨by simp,by simp;omega,λ x hx=>?_⟩;have:x=a\/x=b:=by simpa using hx
    rcases this with rfl|rfl<;>omega
  refine go (t:=.own) (.inr rfl) gl ?_;rw[head];rw[w3]at t3;refine kN t3 (dS ?_ (nb _));have c1:c8 (aa 5) ly (eP #[118]) (pT ps f N #[114])=.ok (.lst .own [.int a]):=rfl;have c2:gD (c8 (aa 5) (eP #[118]) ly) (pT ps f N #[114])=.ok (false,[b].map λ i:Nat=>D.int (i:Int)):=rfl;have c3:=gM (τ:=pT ps f N #[114]) (cap:=[("_law_pair",5)]) (tt:=g_Linside_c1) (elt:=g_Linside_e2) (λ i:Nat=>D.int (i:Int)) (λ k=>!decide (k=a)) (λ i:Nat=>D.int (i:Int)) c2 #[111] (λ k _=>by
   show g_Linside_c1 [some (.int k),some (.lst .aq [.int a,.int b])]=_;unfold g_Linside_c1;have y0:af bL (aa 1) #[129] [some (.int k),some (.lst .aq [.int a,.int b])]=.ok (.int a):=rfl;have e1:decide ((k:Int)=(a:Int))=decide (k=a):=by rw[Rh];omega
   rw[pK (f:=aa 0) (a:=(k:Int)) rfl y0,e1]) (λ _ _ _=>⟨rfl,rfl⟩) (by simp)
  rw[aZ c1 c3];show(if 1+(([b].filter λ k=>!decide (k=a)).map λ i:Nat=>D.int (i:Int)).length<=16777216 then Res.ok (D.lst .own ([.int a]++([b].filter λ k=>!decide (k=a)).map λ i:Nat=>D.int (i:Int))) else .bad)=_;rw[PH (by
   rw[Pk];have:=RH (λ k=>!decide (k=a)) [b];simp only[PU,Q2]at this;omega),u0,PR,pS,pS]
  rfl
 ·have w3':(decide (N%5=3)||decide ((a:Int)=(b:Int)))=false:=by simpa using w3
  rw[w3']at t3;rw[dM t3]at head;have hne:a≠b:=λ z=>by
   rw[Rm]at w3';have:=of_decide_eq_false w3'.2;omega
  have g0:Gs ps.length [a,b]:=⟨by simp,by simp;omega,λ x hx=>by
   have:x=a\/x=b:=by simpa using hx
   rcases this with rfl|rfl<;>omega⟩
  obtain⟨t,l,ht,g,e⟩:=DA (f:=f) hp g0;refine go ht g ?_;rw[head];show bA (aE G_Lclosed (ae (aa 0) (ae (aa 5) ao))) [some #[32],some (.int N),some (.int ps.length),some (.int (N%5)),some (.int (N/5)),some (.lst .aq [.int a,.int b])]=_;refine dS (dj (ds:=[nF ps f,.lst .aq ((ni [a,b]).map .int)]) (aI (jh rfl) (cG rfl)) ?_ ?_) ?_
  ·show G_Lclosed [#[32].aq,.lst .aq (aG ((ni [a,b]).map .int))]=_;rw[bQ _ (aY _ _),bG];exact e
  ·show(#[32].aD||_)=false;rw[aV _ (aY _ _)];rfl
  ·rcases ht with rfl|rfl
   ·show(false||aB #[54])=false;rw[nU];rfl
   ·exact nb _
def qA (ps:#[6])(f:#[20])(l:#[31])(N:Int)(qs:#[6]):SD:=[some #[32],some (.lst .aq #[54]),some (.int N),some (.lst .own #[117])]
def DE (hp:#[72])(g:Gs ps.length l)(hN:0<=N):∃ qs:List Int,(∀ q,q∈qs↔q∈pp ps l)/\qs.length<=l.length+3/\G_Lhanded [nF ps f,.lst .aq #[54],.int N]=.ok (.lst .own #[117]):=by
 have hlen:=g.len;have ppl:(pp ps l).length=l.length:=Pk _;have s1:aQ 3 (bo (gD (aa 1)) (gN 0) cT g_Lhanded_e1 1 [("_law_net_here",0)]) [some #[32],some (.lst .aq #[54]),some (.int N),none]=.nx (qA ps f l N (pp ps l)):=by
  have hi:gD (aa 1) [some #[32],some (.lst .aq #[54]),some (.int N),none]=.ok (false,l.map λ i:Nat=>D.int (i:Int)):=by rw[<-pS];exact AA rfl (ah _)
  have c:=pP (τ:=[some #[32],some (.lst .aq #[54]),some (.int N),none]) (cap:=[("_law_net_here",0)]) (elt:=g_Lhanded_e1) (λ i:Nat=>D.int (i:Int)) (λ i=>D.int (aF ps i)) hi #[111] (λ i hi=>⟨by
   show g_Lhanded_e1 [some (.int i),some #[32].aq]=_;rw[bQ _ (aY _ _)];exact fD (wJ (c7 rfl (aY _ _))) rfl (fY rfl (nA (g.lt i hi))),rfl⟩) (by omega)
  rw[<-ku]at c;rw[aO c (cJ (ah _))];rfl
 have s2:∃ qs:List Int,(∀ q,q∈qs↔q∈pp ps l)/\qs.length<=l.length+3/\dD (eT (af gW (af br (aa 2) (eC (.int 3))) #[118])) (aQ 3 (af ba (aa 3) (c8 (aa 3) ly (eP #[68])))) aR (qA ps f l N (pp ps l))=.nx (qA ps f l N qs):=by
  have t:=iu (fF (f:=aa 2) (τ:=qA ps f l N (pp ps l)) (a:=N) (b:=3) rfl #[120]) (g:=eC (.int 1)) (b:=1) rfl;by_cases h:N%3=1
  ·rw[P8 h]at t;obtain⟨m,hm,em⟩:=LX (x:=N/3) (n:=3) #[120];have c1:c8 (aa 3) ly (eP #[68]) (qA ps f l N (pp ps l))=.ok (.lst .own (((pp ps l).take (1+m)).map .int)):=by
    unfold c8;rw[fU (xs:=(pp ps l).map .int) rfl (ah _),Res.aK];have e:af ba #[118] (af br (af bw (aa 2) (eC (.int 3))) (eC (.int 3))) (qA ps f l N (pp ps l))=.ok (.int ((1+m:Nat):Int)):=by
     rw[iW (a:=1) rfl (fF (fm (f:=aa 2) (a:=N) rfl ⟨by decide,by decide⟩) #[120])];have em:N/3%3=(m:Int):=em;rw[em]
     congr 2
    have e2:eP #[68] (qA ps f l N (pp ps l))=.ok (some ((1+m:Nat):Int)):=by
     unfold eP;rw[e];rfl
    show(Res.ok none).bind _=_;rw[Res.aK,e2,Res.aK];show Res.ok (D.lst .own (DL.cut ((pp ps l).map D.int) none (some ((1+m:Nat):Int))))=_;rw[Lc,List.map_take]
   refine⟨pp ps l++(pp ps l).take (1+m),λ q=>?_,?_,?_⟩
   ·rw[PC];exact⟨λ z=>z.elim id (List.mem_of_mem_take),.inl⟩
   ·rw[Pz,Ry,ppl];omega
   ·rw[nv t];have a1:af ba (aa 3) (c8 (aa 3) ly (eP #[68])) (qA ps f l N (pp ps l))=.ok (.lst .own ((pp ps l++(pp ps l).take (1+m)).map .int)):=by
     rw[aZ (fU (xs:=(pp ps l).map .int) rfl (ah _)) c1];show(if ((pp ps l).map D.int).length+(((pp ps l).take (1+m)).map D.int).length<=16777216 then Res.ok (D.lst .own ((pp ps l).map D.int++((pp ps l).take (1+m)).map D.int)) else .bad)=_;rw[PH (by rw[Pk,Pk,Ry,ppl];omega),<-PR]
    rw[aO a1 (cJ (ah _))];rfl
  ·rw[PQ h]at t;refine⟨pp ps l,λ q=>Iff.rfl,by omega,?_⟩;rw[mz t];rfl
 obtain⟨qs,m1,m2,e2⟩:=s2;have s3:∃ qs':List Int,(∀ q,q∈qs'↔q∈pp ps l)/\qs'.length<=l.length+3/\dD (eT (af gW (af br (af bw (aa 2) (eC (.int 9))) (eC (.int 2))) #[118])) (jJ 3) aR (qA ps f l N qs)=.nx (qA ps f l N qs'):=by
  have t:=iu (fF (fm (f:=aa 2) (τ:=qA ps f l N qs) (a:=N) (b:=9) rfl ⟨by decide,by decide⟩) (b:=2) #[120]) (g:=eC (.int 1)) (b:=1) rfl;by_cases h:N/9%2=1
  ·rw[P8 h]at t;refine⟨qs.reverse,λ q=>by rw[List.mem_reverse];exact m1 q,by rw[List.length_reverse];exact m2,?_⟩;rw[nv t];show Fl.nx ((qA ps f l N qs).set 3 (some (.lst .own (qs.map D.int).reverse)))=_;rw[<-List.map_reverse];rfl
  ·rw[PQ h]at t;refine⟨qs,m1,m2,?_⟩;rw[mz t];rfl
 obtain⟨qs',n1,n2,e3⟩:=s3;refine⟨qs',n1,n2,?_⟩;refine bg (τ:=[some #[32],some (.lst .aq #[54]),some (.int N),none]) rfl rfl ?_;unfold g_Lhanded;rw[aC s1,aC e2,aC e3];rfl
end
section
def Cf(hi:i<ps.length):aF ps i∈ps:=by
 unfold aF;rw[P5,Pr hi];exact Sg hi
end
section
def JZ (hs:ps.Pairwise (· < ·))(g:Gs ps.length l):(pp ps l).Pairwise (· < ·):=by
 unfold pp;rw[Sa];refine g.up.imp_of_mem λ {a b} ha hb h=>iw hs h (g.lt b hb)
def DG (hs:ps.Pairwise (· < ·))(g:Gs ps.length l){qs:#[6]}(h:qs.Perm (pp ps l)):sortI qs=pp ps l:=
 ez ((sortI_perm qs).trans h) (fg qs) ((JZ hs g).imp λ h=>by omega)
def Nv (hs:ps.Pairwise (· < ·))(g:Gs ps.length l):(pp ps l).Nodup:=(JZ hs g).imp λ h=>by omega
def pU (hs:ps.Pairwise (· < ·))(g:Gs ps.length l){qs:#[6]}(h:∀ q,q∈qs↔q∈pp ps l):sortI (L2.dd qs)=pp ps l:=
 DG hs g ((List.perm_ext_iff_of_nodup (F9 qs) (Nv hs g)).mpr λ a=>(LP qs a).trans (h a))
end
end KL
namespace PG
variable {acc:List (Int×List Nat)}{T W:List #[31]}{l:#[31]}{n:Nat}{c:#[20]}
def ji (c:Nat->Int)(acc:List (Int×List Nat))(m:Nat):List (Int×List Nat):=
 if c m∈acc.map (·.1) then acc.map λ e=>if e.1=c m then (e.1,e.2++[m]) else e else acc++[(c m,[m])]
structure Sh (c:Nat->Int)(l:List Nat)(acc:List (Int×List Nat)):Prop where
 nd:(acc.map (·.1)).Nodup
 eq:∀ e∈acc,e.2=l.filter λ m=>decide (c m=e.1)
 all:∀ m∈l,c m∈acc.map (·.1)
 ne:∀ e∈acc,e.2≠[]
def Sh.nil (c:Nat->Int):Sh c [] []:=⟨by simp,λ _ h=>absurd h QE,λ _ h=>absurd h QE,λ _ h=>absurd h QE⟩
def Sh.step {c:Nat->Int}(h:Sh c l acc)(m:Nat):Sh c (l++[m]) (ji c acc m):=by
 unfold ji;split
 ·rename_i hm;have e1:(acc.map λ e=>if e.1=c m then (e.1,e.2++[m]) else e).map (·.1)=acc.map (·.1):=by
   rw[Qq];refine Qo λ e _=>?_;show(if e.1=c m then (e.1,e.2++[m]) else e).1=e.1;split<;>rfl
  refine⟨by rw[e1];exact h.nd,λ e he=>?_,λ x hx=>?_,λ e he=>?_⟩
  ·obtain⟨a,ha,rfl⟩:=PF.mp he;rw[List.filter_append];have q:=h.eq a ha;by_cases z:a.1=c m
   ·simp only[z,RE];rw[q,z];simp
   ·simp only[z,RL];rw[q];have z':¬ c m=a.1:=λ y=>z y.symm;simp[z']
  ·rw[e1];rcases PC.mp hx with x'|x'
   ·exact h.all x x'
   ·rw[Qw.mp x'];exact hm
  ·obtain⟨a,ha,rfl⟩:=PF.mp he;by_cases z:a.1=c m
   ·simp only[z,RE];simp
   ·simp only[z,RL];exact h.ne a ha
 ·rename_i hm;refine⟨?_,λ e he=>?_,λ x hx=>?_,λ e he=>?_⟩
  ·rw[PR,PJ];exact⟨h.nd,by simp,λ a ha b hb z=>hm (by
    have e:b=c m:=by simpa using hb
    rw[<-e,<-z];exact ha)⟩
  ·rw[List.filter_append];rcases PC.mp he with x|x
   ·have z:¬ c m=e.1:=λ y=>hm (y▸PF.mpr ⟨e,x,rfl⟩);rw[h.eq e x];simp[z]
   ·rw[Qw.mp x];have:l.filter (λ y=>decide (c y=c m))=[]:=List.filter_eq_nil_iff.mpr λ y hy z=>hm (by
     have z:c y=c m:=by simpa using z
     rw[<-z];exact h.all y hy)
    show [m]=l.filter (λ y=>decide (c y=c m))++[m].filter (λ y=>decide (c y=c m));rw[this];simp
  ·rw[PR];rcases PC.mp hx with x'|x'
   ·exact PD _ (h.all x x')
   ·rw[Qw.mp x'];simp
  ·rcases PC.mp he with x|x
   ·exact h.ne e x
   ·rw[Qw.mp x];simp
def jw (c:Nat->Int)(l:#[31]):List (Int×List Nat):=l.foldl (ji c) []
def yO (c:Nat->Int):∀ (r l:#[31]) (acc:List (Int×List Nat)),Sh c l acc->Sh c (l++r) (r.foldl (ji c) acc)
 |[],l,acc,h=>by simpa using h
 | m::r,l,acc,h=>by
  have:=yO c r (l++[m]) _ (h.step m);simpa using this
def u9 (c:Nat->Int)(l:#[31]):Sh c l (jw c l):=by
 have:=yO c l [] [] (Sh.nil c);simpa[jw] using this
def oS (c:Nat->Int):∀ (K:#[6]) (l:#[31]),K.Nodup->(∀ m∈l,c m∈K)->((K.map λ k=>l.filter λ m=>decide (c m=k)).flatten).Perm l
 | [],l,_,h=>by
  cases l with
  |nil=>exact QO _|cons a r=>cases h a Pp
 | k::K,l,hn,h=>by
  have hn':=PN.mp hn;have ih:=oS c K (l.filter λ m=>!decide (c m=k)) hn'.2 λ m hm=>by
   have q:=Rt.mp hm;have z:c m≠k:=by simpa using q.2
   exact(PB.mp (h m q.1)).resolve_left z
  have e:(K.map λ j=>(l.filter λ m=>!decide (c m=k)).filter λ m=>decide (c m=j))=K.map λ j=>l.filter λ m=>decide (c m=j):=by
   refine Qo λ j hj=>?_;rw[List.filter_filter];refine List.filter_congr λ m _=>?_;by_cases z:c m=j
   ·have:¬ j=k:=λ y=>hn'.1 (y▸hj);simp[z,this]
   ·simp[z]
  rw[e]at ih;rw[PV,Rp];exact(S7 (QO _) ih).trans (List.filter_append_perm (λ m=>decide (c m=k)) l)
def Sh.perm {c:Nat->Int}(h:Sh c l acc):((acc.map (·.2)).flatten).Perm l:=by
 have e:acc.map (·.2)=(acc.map (·.1)).map λ k=>l.filter λ m=>decide (c m=k):=by
  rw[Qq];exact Qo λ e he=>h.eq e he
 rw[e];exact oS c _ l h.nd h.all
def Sh.two {c:Nat->Int}(h:Sh c l acc){i j:Nat}(hi:i∈l)(hj:j∈l)(hn:c i≠c j):2<=acc.length:=by
 match acc,h.all i hi,h.all j hj with
 |[],a,_=>cases a
 | [e],a,b =>
  have a:c i=e.1:=by simpa using a
  have b:c j=e.1:=by simpa using b
  exact absurd (a.trans b.symm) hn
 |_::_::_,_,_=>simp
structure Gw (c:Nat->Nat->Int)(n:Nat)(S:List Nat)(W T:List (List Nat)):Prop where
 ne:∀ l∈W++T,l≠[]
 up:∀ l∈W++T,l.Pairwise (· < ·)
 perm:((W++T).flatten).Perm S
 cl:∀ l∈T,gJ c n l
 OJ:∀ C:List Nat,C≠[]->gJ c n C->(∀ x∈C,x∈S)->∃ l∈W++T,∀ x∈C,x∈l
def Gw.init{S:#[31]}(h:S≠[])(hu:S.Pairwise (· < ·)):Gw c n S [S] []:=
 ⟨λ l m=>by rw[Qw.mp m];exact h,λ l m=>by rw[Qw.mp m];exact hu,by simp,λ l m=>absurd m QE,λ C _ _ hC=>⟨S,by simp,hC⟩⟩
def Gm:((W++[l])++T).Perm (W++(T++[l])):=by
 rw[Qn];exact S7 (QO _) List.perm_append_comm
def Gw.told{S:#[31]}(h:Gw c n S (W++[l]) T)(hc:gJ c n l):Gw c n S W (T++[l]):=by
 have p:=Gm (W:=W) (T:=T) (l:=l);refine⟨λ x m=>h.ne x (p.mem_iff.mpr m),λ x m=>h.up x (p.mem_iff.mpr m),(p.flatten).symm.trans h.perm,λ x m=>?_,λ C h1 h2 h3=>?_⟩
 ·rcases PC.mp m with m|m
  ·exact h.cl x m
  ·rw[Qw.mp m];exact hc
 ·obtain⟨x,m,q⟩:=h.OJ C h1 h2 h3;exact⟨x,p.mem_iff.mp m,q⟩
def Gw.part{S:#[31]}(h:Gw c n S (W++[l]) T){k:Nat}(hk:k<n)(hn:k∉l):Gw c n S (W++(jw (c k) l).map (·.2)) T:=by
 have sh:=u9 (c k) l;have mem:∀ x,x∈W++(jw (c k) l).map (·.2)++T->x∈(W++[l])++T\/∃ e∈jw (c k) l,x=e.2:=λ x m=>by
  rcases PC.mp m with m|m
  ·rcases PC.mp m with m|m
   ·exact .inl (PD _ (PD _ m))
   ·obtain⟨e,he,rfl⟩:=PF.mp m;exact .inr ⟨e,he,rfl⟩
  ·exact .inl (PM _ m)
 refine⟨λ x m=>?_,λ x m=>?_,?_,h.cl,λ C h1 h2 h3=>?_⟩
 ·rcases mem x m with m|⟨e,he,rfl⟩
  ·exact h.ne x m
  ·exact sh.ne e he
 ·rcases mem x m with m|⟨e,he,rfl⟩
  ·exact h.up x m
  ·rw[sh.eq e he];exact(h.up l #[25]).filter _
 ·refine List.Perm.trans ?_ h.perm;rw[Ra,Ra,Ra,Ra];refine S7 (S7 (QO _) ?_) (QO _);simpa using sh.perm
 ·obtain⟨x,m,q⟩:=h.OJ C h1 h2 h3;have old:x∈W\/x=l\/x∈T:=by
   rcases PC.mp m with m|m
   ·rcases PC.mp m with m|m
    ·exact .inl m
    ·exact .inr (.inl (Qw.mp m))
   ·exact .inr (.inr m)
  rcases old with m|rfl|m
  ·exact⟨x,by simp[m],q⟩
  ·obtain⟨y,r,rfl⟩:∃ y r,C=y::r:=by
    cases C with
    |nil=>exact absurd rfl h1|cons y r=>exact⟨y,r,rfl⟩
   have nk:k∉y::r:=λ z=>hn (q k z);obtain⟨e,he,ee⟩:=PF.mp (sh.all y (q y Pp));refine⟨e.2,PD _ (PM _ (PF.mpr ⟨e,he,rfl⟩)),λ z hz=>?_⟩;rw[sh.eq e he];refine Rt.mpr ⟨q z hz,?_⟩;have:=h2 k hk nk z hz y Pp;simp[this,ee]
  ·exact⟨x,by simp[m],q⟩
def todo (W:List #[31]):Nat:=2*W.flatten.length-W.length
def ml:∀ {W:List #[31]},(∀ l∈W,l≠[])->W.length<=W.flatten.length
 |[],_=>Py _
 | l::W,h=>by
  have:=ml (W:=W) λ x m=>h x (Pn _ m);have q:=Tz.mpr (h l Pp);rw[Rp,Pz,PU];omega
def u7(h:∀ x∈W++[l],x≠[]):todo W<todo (W++[l]):=by
 unfold todo;have a:=ml (W:=W) λ x m=>h x (PD _ m);have q:=Tz.mpr (h l #[25]);rw[Ra,Pz,Pz];simp only[Rp,Uu,Qi,P9];omega
def DH{P:List #[31]}(h:∀ x∈W++[l],x≠[])(hp:P.flatten.Perm l)(h2:2<=P.length)(hP:∀ x∈P,x≠[]):todo (W++P)<todo (W++[l]):=by
 unfold todo;have a:=ml (W:=W) λ x m=>h x (PD _ m);have b:=ml hP;have e:=hp.length_eq;rw[Ra,Pz,Pz,Ra,Pz,Pz];simp only[Rp,Uu,Qi,P9];omega
end PG
namespace KL
open DL
variable {lr:#[31]}{i l0:Nat}{τ:SD}
abbrev lX (ps:#[6])(f:#[20])(k:Nat):D:=fO .aq ps (ent f k (jV ps.length))
section
variable {ps:#[6]}{f:#[20]}
def OL {F H:#[28]}{p q:Nat}(hs:ps.Pairwise (· < ·))(hp:p<ps.length)(hq:q<ps.length)(hn:p≠q)(h1:F τ=.ok (lX ps f p))(h3:H τ=.ok (.int (aF ps q))):af cQ F H τ=.ok (.int (cc f p q)):=by
 have lk2:=gK (λ x:Nat×Int=>aF ps x.1) (λ x=>D.int x.2) (q,cc f p q) (ent f p (jV ps.length)) (B6 hp hq hn) λ x hx e=>by
  have e1:=gR hs (wN hx).2.1 hq e;have e2:=(wN hx).1;rw[e1]at e2;exact Prod.ext e1 e2
 rw[aZ h1 h3];show(if (kI (aF ps q)).kind=false then (match eV ((ent f p (jV ps.length)).map λ x=>kI (aF ps x.1)) ((ent f p (jV ps.length)).map λ x=>D.int x.2) (kI (aF ps q)) with|some d=>Res.ok d|none=>.bad) else .bad)=_;rw[PH (show(kI (aF ps q)).kind=false from rfl),lk2]
def Gq {F G:#[28]}{p:Nat}(hs:ps.Pairwise (· < ·))(hp:p<ps.length)(h1:F τ=.ok (kX ps f))(h2:G τ=.ok (.int (aF ps p))):af cQ F G τ=.ok (lX ps f p):=by
 have lk:=gK (aF ps) (λ i=>fO .aq ps (ent f i (jV ps.length))) p #[24] (P7.mpr hp) λ i hi e=>gR hs (P7.mp hi) hp e;rw[aZ h1 h2];show(if (kI (aF ps p)).kind=false then (match eV (#[24].map λ i=>kI (aF ps i)) (#[24].map λ i=>fO .aq ps (ent f i (jV ps.length))) (kI (aF ps p)) with|some d=>Res.ok d|none=>.bad) else .bad)=_;rw[PH (show(kI (aF ps p)).kind=false from rfl),lk]
def AE {k:Nat}(h:τ[i]?=some (some (lX ps f k))):aa i τ=.ok (lX ps f k):=by
 unfold aa;rw[h];show Res.ok (lX ps f k).view=_;rw[yJ]
def wV(h:τ[i]?=some (some (kX ps f))):aa i τ=.ok (kX ps f):=by
 unfold aa;rw[h];show Res.ok (kX ps f).view=_;rw[wM]
def lP (ps:#[6])(f:#[20])(k:Nat)(l:#[31])(o:#[95]):SD:=[some (lX ps f k),some (.lst .aq #[63]),o]
def Nx {k:Nat}{o:#[95]}:af bL (aa 1) #[129] (lP ps f k (l0::lr) o)=.ok (.int (aF ps l0)):=fD (cf rfl (ah _)) (y:=.int 0) rfl (sr (j:=0) rfl rfl)
def Cg (hs:ps.Pairwise (· < ·)){k l0:Nat}{lr:#[31]}(hk:k<ps.length)(hl:#[71])(hn:k∉l0::lr):∀ (r:#[31]) (o:#[95]),(∀ x∈r,x∈l0::lr) ->
  (∃ o',cg (gN 2) bx ((pp ps r).map .int) (lP ps f k (l0::lr) o)=.nx (lP ps f k (l0::lr) o')/\∀ j∈r,cc f k j=cc f k l0) ∨
  ∃ j:Nat,((j∈l0::lr/\cc f k j≠cc f k l0)/\Ce (cc f) k l0 r=some j)/\cg (gN 2) bx ((pp ps r).map .int) (lP ps f k (l0::lr) o)=.rt (.int (aF ps j))
 |[],o,_=>.inl ⟨o,rfl,λ j hj=>absurd hj QE⟩
 | j::r,o,h=>by
  have hj:=h j Pp;have hjn:k≠j:=λ z=>hn (z▸hj);have h0n:k≠l0:=λ z=>hn (z▸Pp);have c1:=OL (f:=f) (τ:=lP ps f k (l0::lr) (some (.int (aF ps j)))) (F:=aa 0) (H:=aa 2) hs hk (hl j hj) hjn (AE rfl) rfl;have c2:=OL (f:=f) (τ:=lP ps f k (l0::lr) (some (.int (aF ps j)))) (F:=aa 0) (H:=af bL (aa 1) #[129]) hs hk (hl l0 Pp) h0n (AE rfl) Nx;have t:=pK c1 c2;by_cases e:cc f k j=cc f k l0
  ·rw[P8 e]at t;have st:bx (lP ps f k (l0::lr) (some (.int (aF ps j))))=.nx (lP ps f k (l0::lr) (some (.int (aF ps j)))):=by
    unfold bx;rw[mz t];rfl
   have go:cg (gN 2) bx ((pp ps (j::r)).map .int) (lP ps f k (l0::lr) o)=cg (gN 2) bx ((pp ps r).map .int) (lP ps f k (l0::lr) (some (.int (aF ps j)))):=kq (τ':=lP ps f k (l0::lr) (some (.int (aF ps j)))) rfl st;rw[go];rcases Cg hs hk hl hn r (some (.int (aF ps j))) (λ x hx=>h x (Pn _ hx)) with ⟨b',e1,e2⟩|q
   ·refine .inl ⟨b',e1,λ x hx=>?_⟩;rcases PB.mp hx with rfl|hx
    ·exact e
    ·exact e2 x hx
   ·obtain⟨j',⟨q1,q2⟩,q3⟩:=q;exact .inr ⟨j',⟨q1,(sO e).trans q2⟩,q3⟩
  ·rw[PQ e]at t;refine .inr ⟨j,⟨⟨hj,e⟩,Cc e⟩,qF (τ':=lP ps f k (l0::lr) (some (.int (aF ps j)))) rfl ?_⟩;unfold bx;rw[nv t];rfl
def Gp (hs:ps.Pairwise (· < ·)){k:Nat}(hk:k<ps.length)(hl:#[71])(hn:k∉l0::lr) :
  (dF [lX ps f k,.lst .aq #[51]]=.ok .a8/\∀ j∈l0::lr,cc f k j=cc f k l0) ∨
  ∃ j:Nat,((j∈l0::lr/\cc f k j≠cc f k l0)/\Ce (cc f) k l0 lr=some j)/\dF [lX ps f k,.lst .aq #[51]]=.ok (.int (aF ps j)):=by
 have hf:cV [1] (gD (aa 1)) (gN 2) bx (lP ps f k (l0::lr) none)=cg (gN 2) bx #[51] (lP ps f k (l0::lr) none):=
  jt (τ':=lP ps f k (l0::lr) none) (by
   show [some (lX ps f k),some (D.lst .aq (aG #[51])),none]=_;rw[bG];rfl) (AA rfl (ah _)) (ah _)
 rcases Cg (f:=f) hs hk hl hn (l0::lr) none (λ _ h=>h) with ⟨o',e1,e2⟩|⟨j,hj,e⟩
 ·refine .inl ⟨?_,e2⟩;refine bg (τ:=lP ps f k (l0::lr) none) rfl rfl ?_;unfold gQ;rw[aC (hf.trans e1)];rfl
 ·refine .inr ⟨j,⟨hj.1,(sO rfl).symm.trans hj.2⟩,?_⟩;refine bg (τ:=lP ps f k (l0::lr) none) rfl rfl ?_;unfold gQ;exact ny (hf.trans e)
def i6 (ps:#[6])(f:#[20])(l:#[31])(a b:#[95]):SD:=[some (kX ps f),some (.lst .aq #[63]),a,b]
def IV (hs:ps.Pairwise (· < ·)){k:Nat}(hl:#[71])(hk:k<ps.length)(b:#[95]) :
  (∃ b',bj (i6 ps f (l0::lr) #[43] b)=.nx (i6 ps f (l0::lr) #[43] b')/\(k∉l0::lr->∀ j∈l0::lr,cc f k j=cc f k l0)) ∨
  (k∉l0::lr/\∃ j:Nat,((j∈l0::lr/\cc f k j≠cc f k l0)/\Ce (cc f) k l0 lr=some j)/\bj (i6 ps f (l0::lr) #[43] b)=.rt #[41]):=by
 have v1:∀ b,aa 1 (i6 ps f (l0::lr) #[43] b)=.ok (.lst .aq #[51]):=λ b=>cf rfl (ah _);have t:=mh (f:=aa 2) (g:=aa 1) (τ:=i6 ps f (l0::lr) #[43] b) (x:=aF ps k) (qs:=pp ps (l0::lr)) rfl (v1 b);rw[Rh.mpr (Az hs hk hl)]at t;unfold bj;by_cases hn:k∈l0::lr
 ·rw[P8 hn]at t;rw[mz t];exact .inl ⟨b,rfl,λ z=>absurd hn z⟩
 ·rw[PQ hn]at t;rw[nv t];have call:∀ d,dF [lX ps f k,.lst .aq #[51]]=.ok d->d.pure=true->aE dF (ae (af cQ (aa 0) (aa 2)) #[74]) (i6 ps f (l0::lr) #[43] b)=.ok d:=λ d hG hd=>by
   refine dE (ds:=[lX ps f k,.lst .aq #[51]]) (aI (Gq hs hk (wV rfl) rfl) (cG (v1 b))) ?_ hd;show dF [(lX ps f k).aq,.lst .aq (aG #[51])]=_;rw[sG,bG];exact hG
  rcases Gp (f:=f) hs hk hl hn with ⟨e,q⟩|⟨j,hj,e⟩
  ·refine .inl ⟨some .a8,?_,λ _=>q⟩;rw[aC (aO (call _ e rfl) rfl)];show dD _ _ _ (i6 ps f (l0::lr) #[43] (some .a8))=_;rw[mz rfl];rfl
  ·refine .inr ⟨hn,j,hj,?_⟩;rw[aC (aO (call _ e rfl) rfl)];show dD _ _ _ (i6 ps f (l0::lr) #[43] (some (.int (aF ps j))))=_;rw[nv rfl];refine dS ?_ rfl;have x0:af bL (aa 1) #[129] (i6 ps f (l0::lr) #[43] (some (.int (aF ps j))))=.ok (.int (aF ps l0)):=fD (v1 _) (y:=.int 0) rfl (sr (j:=0) rfl rfl);rw[fC (aI (d:=.int (aF ps k)) rfl (aI x0 (cG (d:=.int (aF ps j)) rfl)))];rfl
def Ci (hs:ps.Pairwise (· < ·)){l0:Nat}{lr:#[31]}(hl:#[71]):∀ (r:#[31]) (a b:#[95]),(∀ x∈r,x<ps.length) ->
  (∃ a' b',cg (gN 2) bj ((pp ps r).map .int) (i6 ps f (l0::lr) a b)=.nx (i6 ps f (l0::lr) a' b')/\∀ k∈r,k∉l0::lr->∀ j∈l0::lr,cc f k j=cc f k l0) ∨
  ∃ k j:Nat,k<ps.length/\k∉l0::lr/\((j∈l0::lr/\cc f k j≠cc f k l0)/\DB (cc f) l0 lr r=some (k,j))/\cg (gN 2) bj ((pp ps r).map .int) (i6 ps f (l0::lr) a b)=.rt #[41]
 |[],a,b,_=>.inl ⟨a,b,rfl,λ k hk=>absurd hk QE⟩
 | k::r,a,b,h=>by
  have hk:=h k Pp;rcases IV (f:=f) hs hl hk b with ⟨b',e,q⟩|⟨hn,j,hj,e⟩
  ·have go:cg (gN 2) bj ((pp ps (k::r)).map .int) (i6 ps f (l0::lr) a b)=cg (gN 2) bj ((pp ps r).map .int) (i6 ps f (l0::lr) #[43] b'):=kq (τ':=i6 ps f (l0::lr) #[43] b) rfl e;rw[go];rcases Ci hs hl r #[43] b' (λ x hx=>h x (Pn _ hx)) with ⟨a',b'',e1,e2⟩|q'
   ·refine .inl ⟨a',b'',e1,λ x hx=>?_⟩;rcases PB.mp hx with rfl|hx
    ·exact q
    ·exact e2 x hx
   ·obtain⟨k',j',a1,a2,⟨a3,a4⟩,a5⟩:=q';exact .inr ⟨k',j',a1,a2,⟨a3,(sN λ z x hx=>q z x (Pn _ hx)).trans a4⟩,a5⟩
  ·exact .inr ⟨k,j,hk,hn,⟨hj.1,Cd hn hj.2⟩,qF (τ':=i6 ps f (l0::lr) #[43] b) rfl e⟩
def vc (hs:ps.Pairwise (· < ·))(hl:#[71]) :
  (a6 [kX ps f,.lst .aq #[51]]=.ok .a8/\PG.gJ (cc f) ps.length (l0::lr)) ∨
  ∃ k j:Nat,k<ps.length/\k∉l0::lr/\((j∈l0::lr/\cc f k j≠cc f k l0)/\DB (cc f) l0 lr #[24]=some (k,j))/\a6 [kX ps f,.lst .aq #[51]]=.ok #[41]:=by
 have hi:kG (aa 0) (i6 ps f (l0::lr) none none)=.ok (false,(pp ps #[24]).map .int):=by
  unfold kG;rw[wV rfl];show Res.ok ((kX ps f).aD,(#[24].map λ i=>kI (aF ps i)).map yg)=_;rw[JW,Qq,ku];rfl
 have hf:cV [0] (kG (aa 0)) (gN 2) bj (i6 ps f (l0::lr) none none)=cg (gN 2) bj ((pp ps #[24]).map .int) (i6 ps f (l0::lr) none none):=
  jt (τ':=i6 ps f (l0::lr) none none) (by
   show [some (kX ps f).aq,some (D.lst .aq #[51]),none,none]=_;rw[wO];rfl) hi (ah _)
 rcases Ci (f:=f) hs hl #[24] none none (λ x hx=>P7.mp hx) with ⟨a',b',e1,e2⟩|⟨k,j,h1,h2,h3,e⟩
 ·refine .inl ⟨?_,pR λ k hk hn j hj=>e2 k (P7.mpr hk) hn j (Pn _ hj)⟩;refine bg (τ:=i6 ps f (l0::lr) none none) rfl rfl ?_;unfold gA;rw[aC (hf.trans e1)];rfl
 ·refine .inr ⟨k,j,h1,h2,h3,?_⟩;refine bg (τ:=i6 ps f (l0::lr) none none) rfl rfl ?_;unfold gA;exact ny (hf.trans e)
def Gn (hs:ps.Pairwise (· < ·))(hl:#[71]) :
  (a6 [kX ps f,.lst .aq #[51]]=.ok .a8/\PG.gJ (cc f) ps.length (l0::lr)) ∨
  ∃ k j:Nat,k<ps.length/\k∉l0::lr/\(j∈l0::lr/\cc f k j≠cc f k l0)/\a6 [kX ps f,.lst .aq #[51]]=.ok #[41]:=by
 rcases vc (f:=f) hs hl with q|⟨k,j,h1,h2,⟨h3,_⟩,h4⟩
 ·exact .inl q
 ·exact .inr ⟨k,j,h1,h2,h3,h4⟩
end
def yP {α:Type}(P:α->Int)(g:α->D)(q:Int):∀ (l:List α),(∀ a∈l,P a≠q)->eV (l.map λ a=>kI (P a)) (l.map g) (kI q)=none
 |[],_=>rfl
 | a::l,h=>by
  rw[PV,PV,eV,PL λ z=>h a Pp (pN.mp z)];exact yP P g q l λ b hb=>h b (Pn _ hb)
def AF {j:Nat}{fk:#[28]}{t:Tg}{ks:List KT}{xs ys:List D}{d:D}{q:Int}(ho:dB τ i=some (t,false,ks,xs))(hj:τ[j]?=some (some d))(hk:fk τ=.ok (.int q))(hl:eV ks xs (kI q)=some (.lst .own ys))(hp:d.pure=true)(h1:ks.length<16777216)(h2:ys.length<16777216) :
  kg i fk j τ=.nx (τ.set i (some (.dct t false ks (jN ks xs (kI q) (.lst .own (ys++[d])))))):=by
 unfold kI at hl;unfold kg kI;rw[ho,hj];simp only;rw[hk,iD];simp only[fK];rw[hl];simp only;rw[PH ⟨hp,h1,h2⟩]
def AG {j:Nat}{fk:#[28]}{t:Tg}{ks:List KT}{xs:List D}{d:D}{q:Int}(ho:dB τ i=some (t,false,ks,xs))(hj:τ[j]?=some (some d))(hk:fk τ=.ok (.int q))(hl:eV ks xs (kI q)=none)(hp:d.pure=true)(h1:ks.length<16777216) :
  kg i fk j τ=.nx (τ.set i (some (.dct t false (ks++[kI q]) (xs++[.lst .own [d]])))):=by
 unfold kI at hl;unfold kg kI;rw[ho,hj];simp only;rw[hk,iD];simp only[fK];rw[hl];simp only;rw[PH ⟨hp,h1⟩]
abbrev cj (ps:#[6])(l:#[31]):D:=.lst .own #[63]
def NQ (ps:#[6])(acc:List (Int×List Nat)):D:=.dct .own false (acc.map λ e=>kI e.1) (acc.map λ e=>cj ps e.2)
section
variable {ps:#[6]}{f:#[20]}
def nD (ps:#[6])(f:#[20])(k:Nat)(l:#[31])(acc:List (Int×List Nat))(o:#[95]):SD:=[some (lX ps f k),some (.lst .aq #[63]),some (NQ ps acc),o]
def IW (hs:ps.Pairwise (· < ·)){k m:Nat}{l done:#[31]}{acc:List (Int×List Nat)}(hk:k<ps.length)(hm:m<ps.length)(hn:k≠m)(h:PG.Sh (cc f k) done acc)(hd:done.length<=100)(ha:acc.length<=100) :
  cO (nD ps f k l acc (some (.int (aF ps m))))=.nx (nD ps f k l (PG.ji (cc f k) acc m) (some (.int (aF ps m)))):=by
 have c1:=OL (f:=f) (τ:=nD ps f k l acc (some (.int (aF ps m)))) (F:=aa 0) (H:=aa 3) hs hk hm hn (AE rfl) rfl;have e2:dB (nD ps f k l acc (some (.int (aF ps m)))) 2=some (.own,false,acc.map (λ e=>kI e.1),acc.map λ e=>cj ps e.2):=rfl;unfold cO;by_cases q:cc f k m∈acc.map (·.1)
 ·obtain⟨e,he,ee⟩:=PF.mp q;have inj:∀ a∈acc,a.1=e.1->a=e:=λ a ma z=>by
   obtain⟨i,hi,rfl⟩:=Sk ma;obtain⟨j,hj,rfl⟩:=Sk he;have pw:acc.Pairwise (λ a b=>a.1≠b.1):=Sa.mp h.nd;rw[Rg]at pw;rcases RO i j with w|w|w
   ·exact absurd z (pw i j hi hj w)
   ·subst w;rfl
   ·exact absurd z.symm (pw j i hj hi w)
  have ndA:acc.Nodup:=(List.Pairwise.of_map (·.1) (λ a b (h:a.1≠b.1) z=>h (by rw[z])) h.nd);have len:e.2.length<=100:=by
   rw[h.eq e he];exact QG (RH _ _) hd
  have lk:=gK (λ a:Int×List Nat=>a.1) (λ a=>cj ps a.2) e acc he inj;rw[AF e2 rfl c1 (by rw[<-ee];exact lk) rfl (by rw[Pk];omega) (by unfold pp;rw[Pk,Pk];omega),<-ee,pO (λ a:Int×List Nat=>a.1) (λ a=>cj ps a.2) e _ acc ndA inj];have e3:PG.ji (cc f k) acc m=acc.map λ a=>if a.1=cc f k m then (a.1,a.2++[m]) else a:=by unfold PG.ji;rw[PH q]
  show Fl.nx [some (lX ps f k),some (.lst .aq #[63]),some (.dct .own false (acc.map λ e=>kI e.1) (acc.map λ a=>if a=e then .lst .own ((pp ps e.2).map .int++[.int (aF ps m)]) else cj ps a.2)),some (.int (aF ps m))]=_;unfold nD NQ;rw[e3,Qq,Qq];have k1:(acc.map λ a=>kI a.1)=acc.map ((λ e=>kI e.1)∘λ a=>if a.1=cc f k m then (a.1,a.2++[m]) else a):=Qo λ a _=>by
   show kI a.1=kI (if a.1=cc f k m then (a.1,a.2++[m]) else a).1;split<;>rfl
  have k2:(acc.map λ a=>if a=e then D.lst .own ((pp ps e.2).map .int++[.int (aF ps m)]) else cj ps a.2)=acc.map ((λ e=>cj ps e.2)∘λ a=>if a.1=cc f k m then (a.1,a.2++[m]) else a):=Qo λ a ma=>by
   show _=cj ps (if a.1=cc f k m then (a.1,a.2++[m]) else a).2;by_cases z:a=e
   ·subst z;rw[PH rfl,PH ee];show _=D.lst .own ((pp ps (a.2++[m])).map .int);rw[jR,PR];rfl
   ·rw[PL z,PL λ y=>z (inj a ma (y.trans ee.symm))]
  rw[<-k1,<-k2]
 ·rw[AG e2 rfl c1 (yP (λ a:Int×List Nat=>a.1) (λ a=>cj ps a.2) (cc f k m) acc λ a ma z=>q (PF.mpr ⟨a,ma,z⟩)) rfl (by rw[Pk];omega)];have e3:PG.ji (cc f k) acc m=acc++[(cc f k m,[m])]:=by unfold PG.ji;rw[PL q]
  unfold nD NQ;rw[e3,PR,PR];rfl
def DK (c:Nat->Int)(acc:List (Int×List Nat))(m:Nat):(PG.ji c acc m).length<=acc.length+1:=by
 unfold PG.ji;split
 ·rw[Pk];omega
 ·rw[Pz];simp
def Cj (hs:ps.Pairwise (· < ·)){k:Nat}{l:#[31]}(hk:k<ps.length):∀ (r done:#[31]) (acc:List (Int×List Nat)) (o:#[95]),PG.Sh (cc f k) done acc->(∀ x∈r,x<ps.length/\k≠x)->done.length+r.length<=100->acc.length<=done.length ->
  ∃ o',cg (gN 3) cO ((pp ps r).map .int) (nD ps f k l acc o)=.nx (nD ps f k l (r.foldl (PG.ji (cc f k)) acc) o')
 |[],done,acc,o,_,_,_,_=>⟨o,rfl⟩
 | m::r,done,acc,o,h,hr,hd,ha=>by
  rw[PU]at hd;have q:=hr m Pp;have st:=IW (f:=f) (l:=l) hs hk q.1 q.2 h #[1] #[1];have go:cg (gN 3) cO ((pp ps (m::r)).map .int) (nD ps f k l acc o)=cg (gN 3) cO ((pp ps r).map .int) (nD ps f k l (PG.ji (cc f k) acc m) (some (.int (aF ps m)))):=kq (τ':=nD ps f k l acc (some (.int (aF ps m)))) rfl st;rw[go];have:=DK (cc f k) acc m;exact Cj hs hk r (done++[m]) _ _ (h.step m) (λ x hx=>hr x (Pn _ hx)) (by rw[Pz,P9];omega) (by rw[Pz,P9];omega)
def DJ (hs:ps.Pairwise (· < ·)){k:Nat}{l:#[31]}(hk:k<ps.length)(hl:∀ x∈l,x<ps.length)(hn:k∉l)(h24:l.length<=24):g9 [lX ps f k,.lst .aq #[63]]=.ok (.lst .own (((PG.jw (cc f k) l).map (·.2)).map (cj ps))):=by
 refine bg (τ:=[some (lX ps f k),some (.lst .aq #[63]),none,none]) rfl rfl ?_;unfold lM;rw[aC (aO (d:=.dct .own false [] []) rfl rfl)];show aA _ _ (nD ps f k l [] none)=_;have hf:cV [1] (gD (aa 1)) (gN 3) cO (nD ps f k l [] none)=cg (gN 3) cO #[63] (nD ps f k l [] none):=
  jt (τ':=nD ps f k l [] none) (by
   show [some (lX ps f k),some (D.lst .aq (aG #[63])),some (NQ ps []),none]=_;rw[bG];rfl) (AA rfl (ah _)) (ah _)
 obtain⟨o',e⟩:=Cj (f:=f) (l:=l) hs hk l [] [] none (PG.Sh.nil _) (λ x hx=>⟨hl x hx,λ z=>hn (z▸hx)⟩) (by simp;omega) (Py _);rw[aC (hf.trans e)];show Fl.rt (D.lst .own ((l.foldl (PG.ji (cc f k)) []).map λ e=>cj ps e.2))=_;rw[Qq];rfl
end
end KL
namespace KL
open DL XF
variable {d:D}{T W:List #[31]}{xs:List D}{ns ps qs:#[6]}{l:#[31]}{i j l0 n:Nat}{f:#[20]}{o:Option (Nat×Nat)}{τ:SD}{a b:#[28]}
variable (ca:#[76])
def IZ(h:τ[i]?=some (some (.lst .own (xs++[d]))))(hij:i≠j):uJ j i τ=.nx ((τ.set i (some (.lst .own xs))).set j (some d)):=by
 have e:dX τ i=some (xs++[d]):=by unfold dX;rw[h]
 unfold uJ;rw[e];simp only;have e2:(xs++[d])[(xs++[d]).length-1]?=some d:=by
  rw[Pz,P9,T6,QX (Py _),Nat.sub_self];rfl
 rw[e2];simp only;rw[PH hij,Tf]
def IX(h:#[108])(hj:τ[j]?=some (some d))(hij:i≠j)(hl:xs.length<16777216):yb i j τ=.nx ((τ.set j none).set i (some (.lst .own (xs++[d])))):=by
 have e:dX τ i=some xs:=by unfold dX;rw[h]
 unfold yb;rw[e,hj];simp only;rw[PH ⟨hij,hl⟩]
def I0{g:#[28]}{ys:List D}(h:#[108])(hf:g τ=.ok (.lst .own ys))(hb:aB ys=false)(hl:xs.length+ys.length<=16777216):zI i g τ=.nx (τ.set i (some (.lst .own (xs++ys)))):=by
 have e:dX τ i=some xs:=by unfold dX;rw[h]
 unfold zI;rw[e];simp only;rw[hf,iD];unfold HU;simp only;rw[hb,PL Pq,PH hl]
def AH (ps:#[6]):∀ P:List #[31],aB (P.map (cj ps))=false
 |[]=>rfl
 | l::P=>by
  show((cj ps l).aD||aB (P.map (cj ps)))=false;rw[cJ (ah _),AH ps P];rfl
def LY (ps:#[6])(P:List #[31]):(D.lst .own (P.map (cj ps))).aX=.lst .own (P.map (cj ps)):=by
 show D.lst .own (bW (P.map (cj ps)))=_;rw[um,Qq]
 congr 1
 exact Qo λ l _=>pQ (ah _)
def lex_trans:∀ (a b c:#[6]),SR.lexLt a b=true->SR.lexLt b c=true->SR.lexLt a c=true
 |[],[],_,h,_=>by cases h
 |[],_::_,[],_,h=>by cases h
 |[],_::_,_::_,_,_=>rfl|_::_,[],_,h,_=>by cases h
 |_::_,_::_,[],_,h=>by cases h
 | x::r,y::q,z::s,h1,h2=>by
  unfold SR.lexLt at h1 h2 ⊢;by_cases e1:x=y
  ·subst e1;rw[PH rfl]at h1;by_cases e2:x=z
   ·rw[PH e2]at h2 ⊢;exact lex_trans r q s h1 h2
   ·rw[PL e2]at h2 ⊢;exact h2
  ·rw[PL e1]at h1;have h1:x<y:=by simpa using h1
   by_cases e2:y=z
   ·subst e2;rw[PL e1];simpa using h1
   ·rw[PL e2]at h2;have h2:y<z:=by simpa using h2
    rw[PL #[1]];simp;omega
section
def jx (ps:#[6])(f:#[20])(qs:#[6])(W T:List #[31])(a b:#[95]):SD:=[some #[32],some #[3],some (.lst .own (W.map (cj ps))),some (kX ps f),some (.lst .own (T.map (cj ps))),a,b]
def J0 {S:#[31]}(G:PG.Gw (cc f) ps.length S W T)(hS:∀ x∈S,x<ps.length)(hl:l∈W++T):∀ x∈l,x<ps.length:=λ x hx=>hS x (G.perm.mem_iff.mp (List.mem_flatten.mpr ⟨l,hl,hx⟩))
def IY (hs:ps.Pairwise (· < ·))(hp:#[72]){S:#[31]}(G:PG.Gw (cc f) ps.length S (W++[l]) T)(hS:∀ x∈S,x<ps.length)(hc:W.length<=100)(hT:T.length<=100)(a b:#[95]) :
  ∃ W' T' a' b',PG.Gw (cc f) ps.length S W' T'/\PG.todo W' < PG.todo (W++[l])/\(bq ca) (jx ps f qs (W++[l]) T a b)=.nx (jx ps f qs W' T' a' b'):=by
 have hll:=J0 G hS (l:=l) #[25];have hne:=G.ne l #[25];have hup:=G.up l #[25];have hnd:l.Nodup:=hup.imp λ h=>PY h;have hlen:=PG.dP hnd hll;have ne1:∀ x∈W++[l],x≠[]:=λ x m=>G.ne x (PD _ m);obtain⟨l0,lr,el⟩:=qk hne;have e1:uJ 5 2 (jx ps f qs (W++[l]) T a b)=.nx (jx ps f qs W T (some (cj ps l)) b):=by
  rw[IZ (xs:=W.map (cj ps)) (d:=cj ps l) (show(jx ps f qs (W++[l]) T a b)[2]?=_ by show some (some (D.lst .own ((W++[l]).map (cj ps))))=_;rw[PR];rfl) #[120]];rfl
 have v5:∀ b,aa 5 (jx ps f qs W T (some (cj ps l)) b)=.ok (.lst .bor #[63]):=λ b=>fU rfl (ah _);have call:∀ d,a6 [kX ps f,.lst .aq #[63]]=.ok d->d.pure=true->aE a6 (ae (aa 3) (ae (aa 5) ao)) (jx ps f qs W T (some (cj ps l)) b)=.ok d:=λ d hG hd=>by
  refine dE (ds:=[kX ps f,.lst .bor #[63]]) (aI (wV rfl) (cG (v5 b))) ?_ hd;show a6 [(kX ps f).aq,.lst .aq (aG #[63])]=_;rw[wO,bG];exact hG
 have am:=Gn (f:=f) hs (l0:=l0) (lr:=lr) (by rw[<-el];exact hll);rw[<-el]at am;unfold bq;rw[aC e1];rcases am with ⟨e,cl⟩|⟨k,j,h1,h2,⟨h3,h4⟩,e⟩
 ·refine⟨W,T++[l],none,some .a8,G.told cl,PG.u7 ne1,?_⟩;rw[aC (aO (call _ e rfl) rfl)];show dD _ _ _ (jx ps f qs W T (some (cj ps l)) (some .a8))=_;rw[nv rfl,IX (xs:=T.map (cj ps)) (d:=cj ps l) rfl rfl #[120] (by rw[Pk];omega)];unfold jx;rw[PR];rfl
 ·have sh:=PG.u9 (cc f k) l;have two:=sh.two h3 (show l0∈l by rw[el];exact Pp) h4;refine⟨W++(PG.jw (cc f k) l).map (·.2),T,some (cj ps l),some #[41],G.part h1 h2,PG.DH ne1 sh.perm (by rw[Pk];exact two) (λ x m=>by obtain⟨z,hz,rfl⟩:=PF.mp m;exact sh.ne z hz),?_⟩;rw[aC (aO (call _ e rfl) rfl)];show dD _ _ _ (jx ps f qs W T (some (cj ps l)) (some #[41]))=_;rw[mz rfl];have x0:af bL (aa 6) #[129] (jx ps f qs W T (some (cj ps l)) (some #[41]))=.ok (.int (aF ps k)):=fD (x:=.tup [.int (aF ps k),.int (aF ps l0),.int (aF ps j)]) rfl rfl (fY (j:=0) rfl rfl);have cs:aE g9 (ae (af cQ (aa 3) (af bL (aa 6) #[129])) (ae (aa 5) ao)) (jx ps f qs W T (some (cj ps l)) (some #[41]))=.ok (.lst .own (((PG.jw (cc f k) l).map (·.2)).map (cj ps))):=by
   refine nC (ds:=[lX ps f k,.lst .bor #[63]]) (aI (Gq hs h1 (wV rfl) x0) (cG (v5 _))) ?_ (LY ps _);show g9 [(lX ps f k).aq,.lst .aq (aG #[63])]=_;rw[sG,bG];exact DJ hs h1 hll h2 #[1]
  have sl:((PG.jw (cc f k) l).map (·.2)).length<=24:=by
   have:=PG.ml (W:=(PG.jw (cc f k) l).map (·.2)) (λ x m=>by obtain⟨z,hz,rfl⟩:=PF.mp m;exact sh.ne z hz);rw[sh.perm.length_eq]at this;omega
  rw[I0 (xs:=W.map (cj ps)) rfl cs (AH ps _) (by rw[Pk,Pk];omega)];unfold jx;rw[PR];rfl
def Gu {S:#[31]}(G:PG.Gw (cc f) ps.length S W T):W.length+T.length<=S.length:=by
 have:=PG.ml (W:=W++T) G.ne;rw[G.perm.length_eq,Pz]at this;exact this
def Gr (hs:ps.Pairwise (· < ·))(hp:#[72]){S:#[31]}(hS:∀ x∈S,x<ps.length)(hSl:S.length<=24):∀ (m:Nat) (W T:List #[31]) (a b:#[95]),PG.Gw (cc f) ps.length S W T->PG.todo W<=m ->
  ∃ T' a' b',PG.Gw (cc f) ps.length S [] T'/\bN (bH ca) (bq ca) (m+1) (jx ps f qs W T a b)=.nx (jx ps f qs [] T' a' b'):=by
 intro m
 induction m with
 | zero =>
  intro W T a b G h;rcases SS W with rfl|⟨W',l,rfl⟩
  ·exact⟨T,a,b,G,rfl⟩
  ·rw[SV]at G h;have:=PG.u7 (W:=W') (l:=l) λ x m=>G.ne x (PD _ m);omega
 | succ m ih =>
  intro W T a b G h;rcases SS W with rfl|⟨W',l,rfl⟩
  ·exact⟨T,a,b,G,rfl⟩
  ·rw[SV]at G h ⊢;have hl:=Gu G;rw[Pz,P9]at hl;obtain⟨W2,T2,a2,b2,G2,t2,e2⟩:=IY ca (qs:=qs) hs hp G hS #[1] #[1] a b;obtain⟨T',a',b',G',e'⟩:=ih W2 T2 a2 b2 G2 #[1];refine⟨T',a',b',G',?_⟩;have c:(bH ca) (jx ps f qs (W'++[l]) T a b)=.ok true:=by
    unfold bH Mg aa;show(Res.ok (D.lst .bor (c5 ((W'++[l]).map (cj ps))))).bind _=_;rw[Res.aK,qZ,PR,PR];show Res.ok (!(((W'.map (cj ps)).map D.view++_).isEmpty))=_;cases (W'.map (cj ps)).map D.view<;>rfl
   rw[bN,c];show(match (bq ca) (jx ps f qs (W'++[l]) T a b) with|.nx t=>bN (bH ca) (bq ca) (m+1) t|.ct t=>bN (bH ca) (bq ca) (m+1) t|.bk t=>Fl.nx t|o=>o)=_;rw[e2];exact e'
end
variable (ca:#[76])
def Jb {c:#[20]}{S:#[31]}{T':List #[31]}(h:PG.Gw c n S [] T)(p:T'.Perm T):PG.Gw c n S [] T':=
 ⟨λ l m=>h.ne l (p.mem_iff.mp m),λ l m=>h.up l (p.mem_iff.mp m),(p.flatten).trans h.perm,λ l m=>h.cl l (p.mem_iff.mp m),λ C h1 h2 h3=>by
  obtain⟨l,m,q⟩:=h.OJ C h1 h2 h3;exact⟨l,p.mem_iff.mpr m,q⟩⟩
def Gv {c:#[20]}{S:#[31]}(h:PG.Gw c n S [] T)(hS:S.Nodup)(hi:i<T.length)(hj:j<T.length)(hij:i≠j):∃ a r b q,T[i]=a::r/\T[j]=b::q/\a≠b:=by
 obtain⟨a,r,ea⟩:=qk (h.ne T[i] #[25]);obtain⟨b,q,eb⟩:=qk (h.ne T[j] #[25]);refine⟨a,r,b,q,ea,eb,λ z=>?_⟩;have nd:T.flatten.Nodup:=by
  have:=h.perm.nodup_iff.mpr hS;simpa using this
 have dis:=(List.pairwise_flatten.mp nd).2;rw[Rg]at dis;rcases RO i j with w|w|w
 ·exact dis i j hi hj w a (by rw[ea];simp) b (by rw[eb];simp) z
 ·exact hij w
 ·exact dis j i hj hi w b (by rw[eb];simp) a (by rw[ea];simp) z.symm
def LZ (ps:#[6])(m:Nat)(g:Nat->List (Nat×Int)):(qz .own ps m g).aD=false:=by
 show(false||aB ((List.range m).map λ i=>fO .own ps (g i)))=false;rw[Um];generalize List.range m=L
 induction L with
 |nil=>rfl
 | cons i r ih =>
  show((fO .own ps (g i)).aD||aB (r.map λ i=>fO .own ps (g i)))=false;rw[ih];show((false||aB ((g i).map λ x=>D.int x.2))||false)=false;rw[bB _ (bK λ d m=>by obtain⟨x,_,rfl⟩:=PF.mp m;rfl)];rfl
section
def Ja (hs:ps.Pairwise (· < ·)){S:#[31]}(G:PG.Gw (cc f) ps.length S [] T)(hS:∀ x∈S,x<ps.length)(hSn:S.Nodup)(hT:T.length<64)(h:τ[4]?=some (some (.lst .own (T.map (cj ps))))) :
  ∃ T',PG.Gw (cc f) ps.length S [] T'/\T'.Pairwise (λ a b=>a.headD 0<b.headD 0)/\lF 4 τ=.rt (.lst .own (T'.map (cj ps))):=by
 have hlt:∀ i (hi:i<T.length) x,x∈T[i]->x<ps.length:=λ i hi x hx=>J0 G hS (l:=T[i]) #[25] x hx;have gd:∀ i,i<T.length->(T.map (pp ps)).getD i []=pp ps (T.getD i []):=λ i hi=>by
  rw[P5,P5,P0,Pr hi];rfl
 have ge:∀ i (hi:i<T.length),T.getD i []=T[i]:=λ i hi=>by rw[P5,Pr hi];rfl
 have lt_of:∀ i j (hi:i<T.length) (hj:j<T.length),i≠j->∃ a b,(T.getD i []).headD 0=a/\(T.getD j []).headD 0=b/\a≠b/\(SR.yd (T.map (pp ps)) i j=true↔a<b):=λ i j hi hj hij=>by
  obtain⟨a,r,b,q,ea,eb,ne⟩:=Gv G hSn hi hj hij;refine⟨a,b,by rw[ge i hi,ea];rfl,by rw[ge j hj,eb];rfl,ne,?_⟩;show SR.lexLt ((T.map (pp ps)).getD i []) ((T.map (pp ps)).getD j [])=true↔_;rw[gd i hi,gd j hj,ge i hi,ge j hj,ea,eb];have ha:=hlt i hi a (by rw[ea];simp);have hb:=hlt j hj b (by rw[eb];simp);have np:aF ps a≠aF ps b:=λ z=>ne (gR hs ha hb z);show SR.lexLt (aF ps a::pp ps r) (aF ps b::pp ps q)=true↔_;unfold SR.lexLt;rw[PL np,decide_eq_true_iff];refine⟨λ z=>?_,λ z=>iw hs z hb⟩;rcases RO a b with y|y|y
  ·exact y
  ·exact absurd y ne
  ·have:=iw hs y ha;omega
 have o:SR.Ord (T.map (cj ps)).length (SR.yd (T.map (pp ps))):=⟨λ i j k h1 h2=>lex_trans _ _ _ h1 h2,λ i j hi hj hij=>by
  rw[Pk]at hi hj;obtain⟨a,b,_,_,ne,w⟩:=lt_of i j hi hj hij;obtain⟨b',a',e1,e2,ne',w'⟩:=lt_of j i hj hi (QK hij);obtain⟨a3,b3,e3,e4,_,_⟩:=lt_of i j hi hj hij;rcases RO a b with z|z|z
  ·exact .inl (w.mpr z)
  ·exact absurd z ne
  ·refine .inr (w'.mpr ?_);subst e1 e2;rename_i h1 h2;omega⟩
 obtain⟨q,qp,qe,qw⟩:=Aa D.a8 o;rw[Pk]at qp;have qlt:∀ i∈q,i<T.length:=λ i m=>P7.mp (qp.mem_iff.mp m);refine⟨q.map λ i=>T.getD i [],Jb G ?_,?_,?_⟩
 ·refine(qp.map _).trans ?_;have e3:(List.range T.length).map (λ i=>T.getD i [])=T:=by
   refine RA #[25] λ i h1 h2=>?_;simp;rw[Pr h2];rfl
  rw[e3]
 ·rw[Sa];have nd:q.Nodup:=qp.nodup_iff.mpr S4;refine(qw.and nd).imp_of_mem λ {i j} mi mj h=>?_;obtain⟨a,b,e1,e2,_,w⟩:=lt_of i j (qlt i mi) (qlt j mj) h.2;rw[e1,e2];exact w.mp h.1
 ·unfold lF;rw[h];simp only;have e:ye (T.map (cj ps))=some (T.map (pp ps)):=by
   have:=uK (T.map (pp ps)) λ _=>.own;rw[Qq]at this;exact this
  rw[e];simp only;rw[PH (by rw[Pk];exact hT),qe,Qq]
  congr 2
  refine Qo λ i m=>?_;show(T.map (cj ps)).getD i .a8=cj ps (T.getD i []);rw[P5,P0,Pr (qlt i m),ge i (qlt i m)];rfl
def yQ (hs:ps.Pairwise (· < ·))(hp:#[72])(g:Gs ps.length l)(hq:∀ q,q∈qs↔q∈pp ps l)(hql:qs.length<64) :
  ∃ T,PG.Gw (cc f) ps.length l [] T/\T.Pairwise (λ a b=>a.headD 0<b.headD 0)/\dC ca [nF ps f,.lst .aq #[117]]=.ok (.lst .own (T.map (cj ps))):=by
 have hll:=g.len;have h1:∀ q∈qs,q∈ps:=λ q m=>by
  obtain⟨i,hi,rfl⟩:=PF.mp ((hq q).mp m);exact Cf (g.lt i hi)
 have h2:qs≠[]:=λ e=>by
  obtain⟨l0,lr,el⟩:=qk g.ne;have:=(hq (aF ps l0)).mpr (by rw[el];exact Pp);rw[e]at this;cases this
 have hd:=pU hs g hq;have G0:PG.Gw (cc f) ps.length l [l] []:=PG.Gw.init g.ne g.up;have ht:PG.todo [l]<=60:=by
  unfold PG.todo;simp only[Rp,Uu,Qi,P9];omega
 obtain⟨T,a,b,G,e⟩:=Gr ca (f:=f) (qs:=qs) hs hp g.lt #[1] 60 [l] [] none none G0 ht;have gl:=Gu G;obtain⟨T',G',pw,er⟩:=Ja (f:=f) hs G g.lt g.nd (by simp at gl;omega) (τ:=jx ps f qs [] T a b) rfl;refine⟨T',G',pw,?_⟩;refine bg (τ:=[some #[32],some #[3],none,none,none,none,none]) rfl rfl ?_;unfold eL;have s1:dU (aW ca) (ae #[35] #[74]) [some #[32],some #[3],none,none,none,none,none]=.ok (cj ps l):=
  jS ca (jh rfl) (cf rfl (ah _)) (by rw[nB ca h1 h2 hql,hd])
 rw[aC (aO (d:=.lst .own [cj ps l]) ((fC (cG s1)).trans rfl) (by
  show(false||aB ([l].map (cj ps)))=false;rw[AH];rfl))]
 have sg:aE cz (ae (aa 0) ao) [some #[32],some #[3],some (.lst .own [cj ps l]),none,none,none,none]=.ok #[38]:=
  dj (ds:=[nF ps f]) (cG (jh rfl)) (by show cz [#[32].aq]=_;rw[bQ _ (aY _ _)];exact pM hs hp) (by show(#[32].aD||false)=false;rw[aV _ (aY _ _)];rfl)
 show aA _ _ [some #[32],some #[3],some (.lst .own [cj ps l]),none,none,none,none]=_;rw[aC (aO sg (LZ _ _ _))];have fz:iY [3] (aQ 4 (eA cM ao)) [some #[32],some #[3],some (.lst .own [cj ps l]),some #[38],none,none,none]=.nx (jx ps f qs [l] [] none none):=by
  unfold iY;show aQ 4 (eA cM ao) [some #[32],some #[3],some (.lst .own [cj ps l]),some #[38].aq,none,none,none]=_;rw[Ay];rfl
 show aA _ _ [some #[32],some #[3],some (.lst .own [cj ps l]),some #[38],none,none,none]=_;rw[aC fz];have w:iO (bH ca) (bq ca) (jx ps f qs [l] [] none none)=.nx (jx ps f qs [] T a b):=by
  rw[pj (n:=61) (by rw[e];exact Fl.noConfusion),e]
 rw[aC w];exact er
end
def Gy (ca:#[76])(x:PySem.Str)(C:PySem.Addr):k7 ca x C=(decide (ca x=C)||decide (ca x=ca "NetError")):=by
 unfold k7;rw[Rb];simp[List.contains_iff_mem,jL]
section
variable {ca:#[76]}{NM:List PySem.Str}
def yR (c:PySem.Str):k7 ca c (ca c)=true:=by simp[Gy]
def eY (h:Apart ca NM){x c:PySem.Str}(hx:x∈NM)(hc:c∈NM)(h0:("NetError" : PySem.Str)∈NM)(n1:x≠c)(n2:x ≠ "NetError"):k7 ca x (ca c)=false:=by
 rw[Gy,PQ λ e=>n1 (h _ _ hx hc e),PQ λ e=>n2 (h _ _ hx h0 e)];rfl
def names:List PySem.Str:=["NetError","NoNet","NoPlace","SamePlace","Twice","Taken","NoColours","NoSet","NoParting","NoGroup","TooMany","NoDeed","Unlike","NoText","NoRow","NoName"]
def gB {L:List PySem.Addr}{p:PySem.Addr->Bool}{C:PySem.Addr}{b:Bool}(h0:τ[0]?=some (some (.exc C)))(hL:L.contains C=true)(hp:p C=b):fZ (cD L p) (aa 0) τ=.ok (.bl b):=by
 unfold fZ;rw[c7 h0 rfl];show(if L.contains C=true then Res.ok (D.bl (p C)) else .bad)=_;rw[PH hL,hp]
def Ck (h:Apart ca names){c:PySem.Str}(hL:(leaf ca).contains (ca c)=true){b1 b2 b3 b4 b5 b6 b7 b8 b9:Bool}{r:PySem.Str}
  (e1:k7 ca "NoNet" (ca c)=b1) (e2:k7 ca "NoPlace" (ca c)=b2) (e3:k7 ca "SamePlace" (ca c)=b3) (e4:k7 ca "Twice" (ca c)=b4) (e5:k7 ca "Taken" (ca c)=b5) (e6:k7 ca "NoColours" (ca c)=b6) (e7:k7 ca "NoSet" (ca c)=b7) (e8:k7 ca "NoParting" (ca c)=b8) (e9:k7 ca "NoGroup" (ca c)=b9)
  (e10:yk ca ["TooMany","NoDeed","Unlike","NoText","NoRow","NoName"] (ca c)=false)
  (hr:bo (bC (ae (eC (.int 9)) ao)) (gN 0) (g_Lword_c1 ca) (g_Lword_e2 ca) 1 [("_law_words",3),("_law_named",1)] #[64]=.ok (.lst .own [.str r])) :
  G_Lword ca [.exc (ca c)]=.ok (.str r):=by
 refine bg (τ:=[some (.exc (ca c)),none,none,none,none]) rfl rfl ?_;unfold g_Lword;have z1:eA cM #[97] [some (.exc (ca c)),none,none,none,none]=.ok (.lst .own [.bl b1,.bl b2,.bl b3,.bl b4]):=by
  rw[fC (aI (gB rfl hL e1) (aI (gB rfl hL e2) (aI (gB rfl hL e3) (cG (gB rfl hL e4)))))];rfl
 rw[aC (aO z1 rfl)];show aA _ _ [some (.exc (ca c)),some (.lst .own [.bl b1,.bl b2,.bl b3,.bl b4]),none,none,none]=_;have z2:af ba (aa 1) #[90] [some (.exc (ca c)),some (.lst .own [.bl b1,.bl b2,.bl b3,.bl b4]),none,none,none]=.ok (.lst .own [.bl b1,.bl b2,.bl b3,.bl b4,.bl b5,.bl b6,.bl b7,.bl b8]):=by
  rw[aZ (x:=.lst .bor [.bl b1,.bl b2,.bl b3,.bl b4]) (y:=.lst .own [.bl b5,.bl b6,.bl b7,.bl b8]) rfl ((fC (aI (gB rfl hL e5) (aI (gB rfl hL e6) (aI (gB rfl hL e7) (cG (gB rfl hL e8)))))).trans rfl)];rfl
 rw[aC (aO z2 rfl)];show aA _ _ [some (.exc (ca c)),some (.lst .own [.bl b1,.bl b2,.bl b3,.bl b4,.bl b5,.bl b6,.bl b7,.bl b8]),none,none,none]=_;rw[aC (FO (xs:=[.bl b1,.bl b2,.bl b3,.bl b4,.bl b5,.bl b6,.bl b7,.bl b8]) rfl (gB rfl hL e9) rfl (RG rfl))];show aA _ _ [some (.exc (ca c)),some (.lst .own [.bl b1,.bl b2,.bl b3,.bl b4,.bl b5,.bl b6,.bl b7,.bl b8,.bl b9]),none,none,none]=_;rw[aC (aO (gB rfl hL e10) rfl)];rw[aC (aO (d:=.lst .own [.str "NoNet",.str "NoPlace",.str "SamePlace",.str "Twice",.str "Taken",.str "NoColours",.str "NoSet",.str "NoParting",.str "NoGroup"]) rfl rfl)];show aA _ _ #[64]=_;rw[aC (aO hr rfl)];have t:∀ τ:SD,τ[0]?=some (some (.exc (ca c)))->gC (eT (fZ (cD (leaf ca) (λ _=>true)) (aa 0))) τ=.ok false:=λ τ q=>wB (b:=true) (sd (gB q hL rfl));rw[dM (sq (a:=false) (b:=false) rfl (sq (a:=false) (b:=false) rfl (t _ rfl)))];rfl
def Gx:∀ x∈(["TooMany","NoDeed","Unlike","NoText","NoRow","NoName"]:List PySem.Str),x∈names/\x ≠ "NetError" :=by decide
def yS (h:Apart ca names){c:PySem.Str}(hc:c∈names)(n:c∉(["TooMany","NoDeed","Unlike","NoText","NoRow","NoName"]:List PySem.Str)):yk ca ["TooMany","NoDeed","Unlike","NoText","NoRow","NoName"] (ca c)=false:=by
 unfold yk;rw[R8];intro x hx z;rw[eY h (Gx x hx).1 hc #[120] (λ e=>n (e▸hx)) (Gx x hx).2]at z;cases z
def wW (h:Apart ca names):G_Lword ca [.exc (ca "NoPlace")]=.ok (.str "NoPlace"):=
 Ck h (by simp[leaf]) #[7] (yR _) #[7] #[7] #[7] #[7] #[7] #[7] #[7] (yS h #[120] #[120]) rfl
def AI (h:Apart ca names):G_Lword ca [.exc (ca "NoSet")]=.ok (.str "NoSet"):=
 Ck h (by simp[leaf]) #[7] #[7] #[7] #[7] #[7] #[7] (yR _) #[7] #[7] (yS h #[120] #[120]) rfl
end
def DM (n:Nat){x:D}(hv:∀ τ:SD,x.view=x/\∀ (j:Nat) (d:D),xs[j]?=some d->bL x (.int j)=.ok d)(hlen:eA dJ #[74] [some x,some x,none]=.ok (.int xs.length))(hp:∀ d∈xs,d.aq=d)(hl:xs.length<=1000)(ih:∀ d∈xs,G_Llike n [d,d]=.ok (.bl true)) :
  aA (cV [] (bC (ae (eA dJ #[74]) ao)) (gN 2) (g_Llike_b1 (G_Llike n))) (bA (eC (.bl true))) [some x,some x,none]=.rt (.bl true):=by
 obtain⟨t,h1,a,h2⟩:=jK (tg:=gN 2) (body:=g_Llike_b1 (G_Llike n)) (λ i t=>∃ a,t=[some x,some x,a]) (ds:=(List.range xs.length).map λ j:Nat=>D.int (j:Int)) 0 [some x,some x,none] ⟨none,rfl⟩ (λ k d t hx hp'=>by
  obtain⟨a,rfl⟩:=hp';have hk:k<xs.length:=by
   have:=(Pw.mp hx).1;simpa using this
  have ex:d=.int k:=by
   simp[hk]at hx;exact hx.symm
  subst ex;refine⟨[some x,some x,some (.int k)],[some x,some x,some (.int k)],rfl,.inl ?_,some (.int k),rfl⟩;have hd:xs[k]?=some xs[k]:=Pr hk;have e0:af bL (aa 0) (aa 2) [some x,some x,some (.int k)]=.ok xs[k]:=fD (x:=x) (y:=.int k) (by show Res.ok x.view=_;rw[(hv []).1]) rfl ((hv []).2 k _ hd);have e1:af bL (aa 1) (aa 2) [some x,some x,some (.int k)]=.ok xs[k]:=fD (x:=x) (y:=.int k) (by show Res.ok x.view=_;rw[(hv []).1]) rfl ((hv []).2 k _ hd);have hpd:=hp xs[k] (Sg hk);have c:aE (G_Llike n) (ae (af bL (aa 0) (aa 2)) (ae (af bL (aa 1) (aa 2)) ao)) [some x,some x,some (.int k)]=.ok (.bl true):=dE (ds:=[xs[k],xs[k]]) (aI e0 (cG e1)) (by
   show G_Llike n [xs[k].aq,xs[k].aq]=_;rw[hpd];exact ih _ (Sg hk)) rfl
  unfold g_Llike_b1;rw[mz (wB (sd c))];rfl)
 have hi:bC (ae (eA dJ #[74]) ao) (cI [] [some x,some x,none])=.ok (false,(List.range xs.length).map λ j:Nat=>D.int (j:Int)):=by
  unfold bC;rw[show cI [] [some x,some x,none]=[some x,some x,none] from rfl,cG hlen,Res.aK,gI #[1]]
 have hf:cV [] (bC (ae (eA dJ #[74]) ao)) (gN 2) (g_Llike_b1 (G_Llike n)) [some x,some x,none]=.nx t:=by
  unfold cV;rw[hi];have:aG ((List.range xs.length).map λ j:Nat=>D.int (j:Int))=(List.range xs.length).map λ j:Nat=>D.int (j:Int):=bb _ _;simp only[this];exact h1
 rw[aC hf];rfl
def yT:∀ {xs:List D},aG xs=xs->∀ d∈xs,d.aq=d
 |[],_,_,m=>by cases m
 | x::r,h,d,m=>by
  have h:x.aq::aG r=x::r:=h;injection h with h1 h2
  rcases PB.mp m with rfl|m
  ·exact h1
  ·exact yT h2 d m
def Gz (n:Nat)(hw:c5 xs=xs)(hp:aG xs=xs)(hl:xs.length<=1000)(ih:∀ d∈xs,G_Llike n [d,d]=.ok (.bl true)):G_Llike (n+1) [.tup xs,.tup xs]=.ok (.bl true):=by
 refine bg (τ:=[some (.tup xs),some (.tup xs),none]) rfl rfl ?_;have hv:(D.tup xs).view=.tup xs:=by show D.tup (c5 xs)=_;rw[hw]
 have v0:aa 0 [some (.tup xs),some (.tup xs),none]=.ok (.tup xs):=by show Res.ok (D.tup xs).view=_;rw[hv]
 have v1:aa 1 [some (.tup xs),some (.tup xs),none]=.ok (.tup xs):=by show Res.ok (D.tup xs).view=_;rw[hv]
 have l0:eA dJ (ae (aa 0) ao) [some (.tup xs),some (.tup xs),none]=.ok (.int xs.length):=by rw[fC (cG v0)];rfl
 have l1:eA dJ #[74] [some (.tup xs),some (.tup xs),none]=.ok (.int xs.length):=by rw[fC (cG v1)];rfl
 have ne:=pK l0 l1;rw[P8 rfl]at ne;unfold g_Llike;rw[dM rfl,dM rfl,dM rfl,dM rfl,dM (Nm rfl),dM (Nk rfl rfl),dM ne];exact DM n (λ _=>⟨hv,λ j d h=>fY rfl h⟩) l1 (yT hp) hl ih
def wX (l0:Nat):Option (Nat×Nat)->D
 |none=>.a8
 |some p=>.tup [.int p.1,.int l0,.int p.2]
def yU (ps:#[6])(l0:Nat):Option (Nat×Nat)->D
 |none=>.a8
 |some p=>.tup [.int (aF ps p.1),.int (aF ps l0),.int (aF ps p.2)]
def sV (l0:Nat)(o:Option (Nat×Nat)):(wX l0 o).pure=true:=by cases o<;>rfl
def oU (ps:#[6])(l0:Nat)(o:Option (Nat×Nat)):(yU ps l0 o).pure=true:=by cases o<;>rfl
section
def Jc (hs:ps.Pairwise (· < ·))(hp:#[72]){lr:#[31]}(hl:#[71]) :
  ∃ o:Option (Nat×Nat),(∀ p,o=some p->p.1<ps.length/\p.2<ps.length)/\G_Lteller [nF ps f,.lst .aq #[122]]=.ok (wX l0 o)/\a6 [kX ps f,.lst .aq #[51]]=.ok (yU ps l0 o):=by
 rcases sR (f:=f) hp hl with ⟨e,q⟩|⟨k,j,h1,h2,⟨⟨h3,h4⟩,h5⟩,e⟩<;>rcases vc (f:=f) hs hl with ⟨e',cl⟩|⟨k',j',h1',h2',⟨⟨h3',h4'⟩,h5'⟩,e'⟩
 ·exact⟨none,λ p z=>(by cases z),e,e'⟩
 ·rw[yN λ k hk=>q k (P7.mp hk)]at h5';cases h5'
 ·exact absurd (cl k h1 h2 j (Pn _ h3) l0 Pp) h4
 ·have z:=h5.symm.trans h5';injection z with z
  injection z with z1 z2
  subst z1 z2;exact⟨some (k,j),λ p z=>(by injection z with z;subst z;exact⟨h1,hl j (Pn _ h3)⟩),e,e'⟩
variable (ca:#[76])
def Cm(g:Gs ps.length l)(hq:∀ q,q∈qs↔q∈pp ps l):(∀ q∈qs,q∈ps)/\qs≠[]:=by
 refine⟨λ q m=>?_,λ e=>?_⟩
 ·obtain⟨i,hi,rfl⟩:=PF.mp ((hq q).mp m);exact Cf (g.lt i hi)
 ·obtain⟨l0,lr,el⟩:=qk g.ne;have:=(hq (aF ps l0)).mpr (by rw[el];exact Pp);rw[e]at this;cases this
def Jd (hs:ps.Pairwise (· < ·))(hp:#[72])(g:Gs ps.length l)(hq:∀ q,q∈qs↔q∈pp ps l)(hql:qs.length<64)(hG:a6 [kX ps f,.lst .aq #[63]]=.ok d)(hd:d.pure=true):gZ ca [nF ps f,.lst .aq #[117]]=.ok d:=by
 obtain⟨h1,h2⟩:=Cm g hq;refine bg (τ:=[some #[32],some #[3],none]) rfl rfl ?_;unfold oH;have s1:dU (aW ca) (ae #[35] #[74]) [some #[32],some #[3],none]=.ok (cj ps l):=
  jS ca (jh rfl) (cf rfl (ah _)) (by rw[nB ca h1 h2 hql,pU hs g hq])
 rw[aC (aO s1 (cJ (ah _)))];show bA _ [some #[32],some #[3],some (.lst .own #[63])]=_;have sg:aE cz (ae (aa 0) ao) [some #[32],some #[3],some (.lst .own #[63])]=.ok #[38]:=
  dj (ds:=[nF ps f]) (cG (jh rfl)) (by show cz [#[32].aq]=_;rw[bQ _ (aY _ _)];exact pM hs hp) (by show(#[32].aD||false)=false;rw[aV _ (aY _ _)];rfl)
 refine dS (dE (ds:=[qz .own ps ps.length λ i=>ent f i (jV ps.length),.lst .bor #[63]]) (aI sg (cG (fU rfl (ah _)))) ?_ hd) (aV _ hd);show a6 [#[38].aq,.lst .aq (aG #[63])]=_;rw[Ay,bG,hG]
def Je{C:PySem.Addr}(hG:aW ca [.tup (ps.map .int),.lst .aq #[117]]=.eB C):gZ ca [nF ps f,.lst .aq #[117]]=.eB C:=by
 refine nz (τ:=[some #[32],some #[3],none]) (t:=[some #[32],some #[3],none]) rfl rfl ?_;unfold oH;exact oM (se (jS ca (jh rfl) (cf rfl (ah _)) hG))
def GD{C:PySem.Addr}(hG:aW ca [.tup (ps.map .int),.lst .aq #[117]]=.eB C):dC ca [nF ps f,.lst .aq #[117]]=.eB C:=by
 refine nz (τ:=[some #[32],some #[3],none,none,none,none,none]) (t:=[some #[32],some #[3],none,none,none,none,none]) rfl rfl ?_;unfold eL;refine oM (se ?_);unfold eA;rw[Ga (jS ca (jh rfl) (cf rfl (ah _)) hG)];rfl
def fR {G:DF}{r:Res D}(h0:τ[0]?=some (some #[32]))(h1:τ[1]?=some (some #[3]))(hG:G [nF ps f,.lst .aq #[117]]=r):dU G (ae (aa 0) #[74]) τ=r:=
 sL (ds:=[nF ps f,.lst .aq #[117]]) (aI (jh h0) (cG (cf h1 (ah _)))) (by
  show(#[32].aD||((false||aB (qs.map D.int))||false))=false;rw[aV _ (aY _ _),bB _ (ah _)];rfl) (by
  show G [#[32].aq,.lst .aq (aG #[117])]=_;rw[bQ _ (aY _ _),bG,hG])
def L3 {e:#[28]}(h:e τ=.ok (yU ps l0 o)):af (f6 false) e (eC .a8) τ=.ok (.bl o.isNone):=by
 rw[aZ h (y:=.a8) rfl];cases o<;>rfl
def GC(hG:gZ ca [nF ps f,.lst .aq #[117]]=.ok (yU ps l0 o)):iT ca [nF ps f,.lst .aq #[117]]=.ok (.bl o.isNone):=by
 refine bg (τ:=[some #[32],some #[3]]) rfl rfl ?_;unfold km;exact dS (L3 (fR rfl rfl hG)) rfl
def GI{C:PySem.Addr}(hG:gZ ca [nF ps f,.lst .aq #[117]]=.eB C):iT ca [nF ps f,.lst .aq #[117]]=.eB C:=by
 refine nz (τ:=[some #[32],some #[3]]) (t:=[some #[32],some #[3]]) rfl rfl ?_;unfold km;refine LR ?_;unfold af;rw[fR (f:=f) (qs:=qs) rfl rfl hG];rfl
def GH(hG:gZ ca [nF ps f,.lst .aq #[117]]=.ok d)(hd:d.pure=true):G_Lasked ca [nF ps f,.lst .aq #[117]]=.ok d:=by
 refine bg (τ:=[some #[32],some #[3],none,none]) rfl rfl ?_;unfold g_Lasked;rw[aC (wA (aO (fR (f:=f) (qs:=qs) rfl rfl hG) (aV _ hd)))];exact uS rfl hd
def GF(hG:iT ca [nF ps f,.lst .aq #[117]]=.ok d)(hd:d.pure=true):G_Ltruth ca [nF ps f,.lst .aq #[117]]=.ok d:=by
 refine bg (τ:=[some #[32],some #[3],none,none]) rfl rfl ?_;unfold g_Ltruth;rw[aC (wA (aO (fR (f:=f) (qs:=qs) rfl rfl hG) (aV _ hd)))];exact uS rfl hd
def GA(hG:lH ca [nF ps f,.lst .aq #[117]]=.ok d):G_Lleast ca [nF ps f,.lst .aq #[117]]=.ok (.str "good"):=by
 refine bg (τ:=[some #[32],some #[3],none]) rfl rfl ?_;unfold g_Lleast;rw[aC (wA (wG (fR (f:=f) (qs:=qs) rfl rfl hG)))];rfl
def GB(hG:dC ca [nF ps f,.lst .aq #[117]]=.ok d):G_Lparts ca [nF ps f,.lst .aq #[117]]=.ok (.str "good"):=by
 refine bg (τ:=[some #[32],some #[3],none]) rfl rfl ?_;unfold g_Lparts;rw[aC (wA (wG (fR (f:=f) (qs:=qs) rfl rfl hG)))];rfl
variable {ca}
def GG{w:PySem.Str}(hG:aW ca [.tup (ps.map .int),.lst .aq #[117]]=.eB (ca w))(hc:BL ca (ca w)=true)(hw:G_Lword ca [.exc (ca w)]=.ok (.str w)) :
  G_Lasked ca [nF ps f,.lst .aq #[117]]=.ok (.str w)/\G_Ltruth ca [nF ps f,.lst .aq #[117]]=.ok (.str w)/\G_Lleast ca [nF ps f,.lst .aq #[117]]=.ok (.str w)/\G_Lparts ca [nF ps f,.lst .aq #[117]]=.ok (.str w):=by
 have t:=Je (f:=f) ca hG;refine⟨?_,?_,?_,?_⟩
 ·refine bg (τ:=[some #[32],some #[3],none,none]) rfl rfl ?_;unfold g_Lasked;exact ny (wD (se (fR (f:=f) (qs:=qs) rfl rfl t)) hc hw)
 ·refine bg (τ:=[some #[32],some #[3],none,none]) rfl rfl ?_;unfold g_Ltruth;exact ny (wD (se (fR (f:=f) (qs:=qs) rfl rfl (GI ca t))) hc hw)
 ·refine bg (τ:=[some #[32],some #[3],none]) rfl rfl ?_;unfold g_Lleast;exact ny (wD (wC (fR (f:=f) (qs:=qs) rfl rfl (Dz ca hG))) hc hw)
 ·refine bg (τ:=[some #[32],some #[3],none]) rfl rfl ?_;unfold g_Lparts;exact ny (wD (wC (fR (f:=f) (qs:=qs) rfl rfl (GD ca hG))) hc hw)
end
def Jf {xs:#[6]}(h:1<=xs.length):bL (.tup (xs.map .int)) (.int (-1))=.ok (.int (aF xs (xs.length-1))):=by
 have e0:L2.Hq (xs.map D.int).length (-1)=some (xs.length-1):=by
  unfold L2.Hq;rw[PL #[120],Pk,PH #[1]]
  congr 1
  omega
 have e1:L2.tw (xs.map D.int) (-1)=some (.int (aF xs (xs.length-1))):=by
  unfold L2.tw;rw[e0];exact nA #[1]
 show(match L2.tw (xs.map D.int) (-1) with|some d=>Res.ok d|none=>.bad)=_;rw[e1]
def wY {α:Type}(xs:List α)(a b:Option Int):(DL.cut xs a b).length<=xs.length:=by
 unfold DL.cut;rw[Ry,Se];omega
def wZ{t t':Tg}{xs ys:#[6]}(h1:a τ=.ok (.lst t (xs.map .int)))(h2:b τ=.ok (.lst t' (ys.map .int)))(hl:xs.length+ys.length<=1000):af ba a b τ=.ok (.lst .own ((xs++ys).map .int)):=by
 rw[aZ h1 h2,PR];show(if (xs.map D.int).length+(ys.map D.int).length<=16777216 then Res.ok (D.lst .own (xs.map D.int++ys.map D.int)) else .bad)=_;rw[PH (by rw[Pk,Pk];omega)]
section
def le_last (hs:ps.Pairwise (· < ·)){q:Int}(h:q∈ps):q<=aF ps (ps.length-1):=by
 obtain⟨i,hi,e⟩:=List.mem_iff_getElem.mp h;have e2:aF ps i=q:=by
  have:=nA hi;rw[P0,Pr hi]at this;have:D.int ps[i]=.int (aF ps i):=by simpa using this
  injection this with this
  rw[<-this,e]
 by_cases z:i=ps.length-1
 ·rw[<-z,e2];exact Int.le_refl _
 ·have:=iw hs (j:=i) (k:=ps.length-1) #[1] #[1];omega
def DN (hs:ps.Pairwise (· < ·))(h1:1<=ps.length)(hq:qs.length<=30){N:Int}(hN:0<=N) :
  (N%9=7/\G_Lspoilt [nF ps f,.lst .aq #[117],.int N]=.ok (.lst .own (([]:#[6]).map .int))) ∨
  (N%9=8/\∃ rs:List Int,rs.length<64/\(¬ ∀ q∈rs,q∈ps)/\G_Lspoilt [nF ps f,.lst .aq #[117],.int N]=.ok (.lst .own #[27])) ∨
  ((N%9≠7/\N%9≠8)/\G_Lspoilt [nF ps f,.lst .aq #[117],.int N]=.ok #[3]):=by
 have way:∀ (w:Int),eT (af gW (af br (aa 2) (eC (.int 9))) (eC (.int w))) [some #[32],some #[3],some (.int N),none]=.ok (decide (N%9=w)):=λ w=>iu (fF (a:=N) rfl #[120]) rfl;by_cases w7:N%9=7
 ·refine .inl ⟨w7,bg (τ:=[some #[32],some #[3],some (.int N),none]) rfl rfl ?_⟩;unfold g_Lspoilt;have t:=way 7;rw[P8 w7]at t;exact kN t rfl
 have t7:=way 7;rw[PQ w7]at t7;have t8:=way 8;refine .inr ?_;by_cases w8:N%9=8
 ·rw[P8 w8]at t8;obtain⟨a,ha⟩:∃ a:Int,a=N/9%((qs.length:Int)+1):=⟨_,rfl⟩;have c1:=wY qs none (some a);have c2:=wY qs (some a) none;refine .inl ⟨w8,DL.cut qs none (some a)++[aF ps (ps.length-1)+1+N/9%4]++DL.cut qs (some a) none,?_,λ z=>?_,bg (τ:=[some #[32],some #[3],some (.int N),none]) rfl rfl ?_⟩
  ·rw[Pz,Pz,P9];omega
  ·have:=le_last hs (z (aF ps (ps.length-1)+1+N/9%4) (PD _ (PM _ Pp)));have:=QU (N/9) (b:=4) #[120];omega
  ·unfold g_Lspoilt;rw[dM t7];refine kN t8 ?_;have v1:∀ o,aa 1 [some #[32],some #[3],some (.int N),o]=.ok #[3]:=λ o=>cf rfl (ah _);have l1:=wy (v1 none);rw[Pk]at l1;have s3:af br (af bw (aa 2) (eC (.int 9))) (af ba (eA dJ #[74]) #[118]) [some #[32],some #[3],some (.int N),none]=.ok (.int a):=by
    rw[oR (x:=N/9) (y:=(qs.length:Int)+1) (fm (a:=N) rfl ⟨by decide,by decide⟩) (iW l1 (b:=1) rfl) #[1],ha]
   rw[aC (aO s3 rfl)];show bA _ #[134]=_;have k1:c8 (aa 1) ly (eP (aa 3)) #[134]=.ok (.lst .own ((DL.cut qs none (some a)).map .int)):=by
    unfold c8;rw[v1,Res.aK];show Res.ok (D.lst .own (DL.cut #[117] none (some a)))=_;rw[wz]
   have k2:c8 (aa 1) (eP (aa 3)) ly #[134]=.ok (.lst .own ((DL.cut qs (some a) none).map .int)):=by
    unfold c8;rw[v1,Res.aK];show Res.ok (D.lst .own (DL.cut #[117] (some a) none))=_;rw[wz]
   have k3:af bL #[35] (fZ jG #[118]) #[134]=.ok (.int (aF ps (ps.length-1))):=fD (wJ (jh rfl)) (y:=.int (-1)) rfl (Jf h1);have k4:=iW (iW k3 (g:=eC (.int 1)) (b:=1) rfl) (fF (b:=4) (fm (f:=aa 2) (a:=N) (b:=9) rfl ⟨by decide,by decide⟩) #[120]);have k5:eA cM (ae (af ba (af ba (af bL #[35] (fZ jG #[118])) #[118]) (af br (af bw (aa 2) (eC (.int 9))) (eC (.int 4)))) ao) #[134]=.ok (.lst .own ([aF ps (ps.length-1)+1+N/9%4].map .int)):=by
    rw[fC (cG k4)];rfl
   exact dS (wZ (wZ k1 k5 (by rw[P9];omega)) k2 (by rw[Pz,P9];omega)) (cJ (ah _))
 ·rw[PQ w8]at t8;refine .inr ⟨⟨w7,w8⟩,bg (τ:=[some #[32],some #[3],some (.int N),none]) rfl rfl ?_⟩;unfold g_Lspoilt;rw[dM t7,dM t8];rfl
end
section
def L4{t t':Tg}{ms:#[6]}(h1:a τ=.ok (.lst t (ns.map .int)))(h2:b τ=.ok (.lst t' (ms.map .int))):eT (af (E4 true) a b) τ=.ok (!decide (ns=ms)):=by
 refine sd ?_;rw[aZ h1 h2];show(match intsOf #[85],intsOf (ms.map D.int) with|some ns,some ms=>Res.ok (D.bl (xor true (decide (ns=ms))))|_,_=>.bad)=_;rw[f7,f7];show Res.ok (D.bl (xor true (decide (ns=ms))))=_;rw[Bool.true_xor]
def GK{w:PySem.Str}(h1:a τ=.ok (.str w))(h2:b τ=.ok (.str w)):eT (af mJ a b) τ=.ok false:=by
 refine sd ?_;rw[aZ h1 h2];show Res.ok (D.bl (xor true (decide (w=w))))=_;rw[P8 rfl];rfl
def GL (ca:#[76]):SF:=aA (aQ 10 (eA fH (ae (aa 6) ao))) #[23]
section
variable{ca:#[76]}
def vd(h:τ[1]?=some (some #[32])):aa 1 τ=.ok #[32]:=c7 h (aY _ _)
def GJ{t:Tg}(ht:t=.aq\/t=.own)(h:τ[i]?=some (some (.lst t (ns.map .int)))):∃ t',aa i τ=.ok (.lst t' (ns.map .int)):=sM ht h
def cP (ns ps:#[6])(f:#[20])(a b c d e g h i j k:#[95]):SD:=[some (S ns),some #[32],a,b,c,d,e,g,h,i,j,k]
def Cn {G:DF}{rs:#[6]}(h0:τ[1]?=some (some #[32]))(h1:τ[10]?=some #[124])(hG:G [nF ps f,.lst .aq #[27]]=.ok d)(hd:d.pure=true):aE G (ae (aa 1) (ae (aa 10) ao)) τ=.ok d:=by
 refine dE (ds:=[nF ps f,.lst .bor #[27]]) (aI (vd h0) (cG (fU h1 (ah _)))) ?_ hd;show G [#[32].aq,.lst .aq (aG #[27])]=_;rw[bQ _ (aY _ _),bG];exact hG
def ve(h1:a τ=.ok d)(h2:b τ=.ok d)(hd:d.pure=true)(hG:G_Llike n [d,d]=.ok (.bl true)):eT (aE (G_Llike n) (ae a (ae b ao))) τ=.ok true:=by
 refine sd (dE (ds:=[d,d]) (aI h1 (cG h2)) ?_ rfl);show G_Llike n [d.aq,d.aq]=_;rw[bQ _ hd];exact hG
def Jg {t:Tg}(ht:t=.aq\/t=.own){rs:#[6]}{due tru:D}{wd:PySem.Str}(p8:due.pure=true)(p9:tru.pure=true)
  (hA:G_Lasked ca [nF ps f,.lst .aq #[27]]=.ok due) (hT:G_Ltruth ca [nF ps f,.lst .aq #[27]]=.ok tru) (hL:G_Lleast ca [nF ps f,.lst .aq #[27]]=.ok (.str wd)) (hP:G_Lparts ca [nF ps f,.lst .aq #[27]]=.ok (.str wd))
  (l8:G_Llike 2 [due,due]=.ok (.bl true)) (l9:G_Llike 2 [tru,tru]=.ok (.bl true)) (hw:tru=.str wd\/(wd = "good" /\ ∃ b,tru=.bl b)) (ns:#[6]) (a b c d g j k:#[95]) :
  GL ca (cP ns ps f a b c d #[126] g (some due) (some tru) j k)=.nx (cP ns ps f a b c d #[126] g (some due) (some tru) #[124] (some (.str wd))):=by
 unfold GL;obtain⟨t',v6⟩:=GJ (i:=6) (τ:=cP ns ps f a b c d #[126] g (some due) (some tru) j k) ht rfl;have s10:eA fH (ae (aa 6) ao) (cP ns ps f a b c d #[126] g (some due) (some tru) j k)=.ok (.lst .own #[27]):=by
  rw[fC (cG v6)];rfl
 rw[aC (aO s10 (cJ (ah _)))];show aA _ _ (cP ns ps f a b c d #[126] g (some due) (some tru) #[124] k)=_;have v8:∀ k,aa 8 (cP ns ps f a b c d #[126] g (some due) (some tru) #[124] k)=.ok due:=λ k=>c7 rfl p8;have v9:∀ k,aa 9 (cP ns ps f a b c d #[126] g (some due) (some tru) #[124] k)=.ok tru:=λ k=>c7 rfl p9;have q1:=ve (n:=2) (Cn (ps:=ps) (f:=f) (rs:=rs) (τ:=cP ns ps f a b c d #[126] g (some due) (some tru) #[124] k) rfl rfl hA p8) (v8 k) p8 l8;have q2:=ve (n:=2) (Cn (ps:=ps) (f:=f) (rs:=rs) (τ:=cP ns ps f a b c d #[126] g (some due) (some tru) #[124] k) rfl rfl hT p9) (v9 k) p9 l9;rw[dM ((sq (wB q1) (wB q2)).trans rfl)];rw[aC (aO (d:=.str "good") rfl rfl)];show aA _ _ (cP ns ps f a b c d #[126] g (some due) (some tru) #[124] (some (.str "good")))=_;have s11:dD (eT (fZ (cU sY) (aa 9))) (aQ 11 (aa 9)) aR (cP ns ps f a b c d #[126] g (some due) (some tru) #[124] (some (.str "good")))=.nx (cP ns ps f a b c d #[126] g (some due) (some tru) #[124] (some (.str wd))):=by
  rcases hw with rfl|⟨rfl,x,rfl⟩
  ·rw[nv rfl,aO (d:=.str wd) rfl rfl];rfl
  ·rw[mz rfl];rfl
 rw[aC s11];have v11:aa 11 (cP ns ps f a b c d #[126] g (some due) (some tru) #[124] (some (.str wd)))=.ok (.str wd):=rfl;have q3:=GK (Cn (ps:=ps) (f:=f) (rs:=rs) (τ:=cP ns ps f a b c d #[126] g (some due) (some tru) #[124] (some (.str wd))) rfl rfl hL rfl) v11;have q4:=GK (Cn (ps:=ps) (f:=f) (rs:=rs) (τ:=cP ns ps f a b c d #[126] g (some due) (some tru) #[124] (some (.str wd))) rfl rfl hP rfl) v11;rw[dM ((sq q3 q4).trans rfl)];obtain⟨t2,v6'⟩:=GJ (i:=6) (τ:=cP ns ps f a b c d #[126] g (some due) (some tru) #[124] (some (.str wd))) ht rfl;have q5:=L4 (a:=aa 10) (fU (xs:=rs.map .int) (i:=10) (τ:=cP ns ps f a b c d #[126] g (some due) (some tru) #[124] (some (.str wd))) rfl (ah _)) v6';rw[P8 rfl]at q5;rw[mz q5];rfl
end
end
def GP{x y:Int}(h1:a τ=.ok (.int x))(h2:b τ=.ok (.int y))(h:kC x y):af rf a b τ=.ok (.int (x*y)):=by
 rw[aZ h1 h2];show(if kC x y then Res.ok (D.int (x*y)) else .bad)=_;rw[PH h]
def GN (n:Nat):G_Llike (n+1) [.a8,.a8]=.ok (.bl true):=by
 refine bg (τ:=[some .a8,some .a8,none]) rfl rfl ?_;unfold g_Llike;exact kN rfl rfl
def Ji (n:Nat)(b:Bool):G_Llike (n+1) [.bl b,.bl b]=.ok (.bl true):=by
 refine bg (τ:=[some (.bl b),some (.bl b),none]) rfl rfl ?_;unfold g_Llike;rw[dM rfl];cases b<;>exact kN rfl rfl
def Jh (ps:#[6])(l0:Nat)(o:Option (Nat×Nat)):G_Llike 2 [yU ps l0 o,yU ps l0 o]=.ok (.bl true):=by
 cases o with
 |none=>exact GN 1
 | some p =>
  exact Gz 1 (xs:=[.int (aF ps p.1),.int (aF ps l0),.int (aF ps p.2)]) rfl rfl (by show 3<=1000;decide) λ d m=>by
   simp only[PB,QE,or_false]at m;rcases m with rfl|rfl|rfl<;>exact FT 0 _
def GQ {t:Tg}(ht:t=.aq\/t=.own):(D.lst t (ns.map .int)).aD=false:=by
 rcases ht with rfl|rfl
 ·show(false||aB (ns.map .int))=false;rw[nU];rfl
 ·exact cJ (ah _)
section
variable{ca:#[76]}
def GO{t:Tg}(ht:t=.aq\/t=.own)(h0:τ[1]?=some (some #[32]))(hi:τ[5]?=some (some (.lst t #[54])))(hG:G_Lteller [nF ps f,.lst .aq #[54]]=.ok d)(hd:d.pure=true):aE G_Lteller (ae (aa 1) (ae (aa 5) ao)) τ=.ok d:=by
 obtain⟨t',e⟩:=sM ht hi;refine dE (ds:=[nF ps f,.lst t' #[54]]) (aI (vd h0) (cG e)) ?_ hd;show G_Lteller [#[32].aq,.lst .aq (aG #[54])]=_;rw[bQ _ (aY _ _),bG];exact hG
def Jk (h:Apart ca names)(hs:ps.Pairwise (· < ·))(hp:#[72])(h1:1<=ps.length){lr:#[31]}(g:Gs ps.length (l0::lr))(hq:∀ q,q∈qs↔q∈pp ps (l0::lr))(hql:qs.length<=30){M:Int}(hM:0<=M)(eA:a6 [kX ps f,.lst .aq #[51]]=.ok (yU ps l0 o)) :
  ∃ (t:Tg) (rs:#[6]) (due tru:D) (wd:PySem.Str),(t=.aq\/t=.own)/\G_Lspoilt [nF ps f,.lst .aq #[117],.int M]=.ok (.lst t #[27]) /\
   ((M%9=7/\due=.str "NoSet" /\ tru=.str "NoSet")\/(M%9=8/\due=.str "NoPlace" /\ tru=.str "NoPlace")\/((M%9≠7/\M%9≠8)/\due=yU ps l0 o/\tru=.bl o.isNone)) /\
   due.pure=true/\tru.pure=true/\G_Lasked ca [nF ps f,.lst .aq #[27]]=.ok due/\G_Ltruth ca [nF ps f,.lst .aq #[27]]=.ok tru/\G_Lleast ca [nF ps f,.lst .aq #[27]]=.ok (.str wd)/\G_Lparts ca [nF ps f,.lst .aq #[27]]=.ok (.str wd) /\
   G_Llike 2 [due,due]=.ok (.bl true)/\G_Llike 2 [tru,tru]=.ok (.bl true)/\(tru=.str wd\/(wd = "good" /\ ∃ b,tru=.bl b)):=by
 rcases DN (f:=f) hs h1 hql hM with ⟨w,e⟩|⟨w,rs,hl,hn,e⟩|⟨w,e⟩
 ·obtain⟨a1,a2,a3,a4⟩:=GG (f:=f) (wU ca (ps:=ps)) (by simp[BL,leaf]) (AI h);exact⟨.own,[],.str "NoSet",.str "NoSet","NoSet",.inr rfl,e,.inl ⟨w,rfl,rfl⟩,rfl,rfl,a1,a2,a3,a4,oO 1 _,oO 1 _,.inl rfl⟩
 ·obtain⟨a1,a2,a3,a4⟩:=GG (f:=f) (yM ca hn) (by simp[BL,leaf]) (wW h);exact⟨.own,rs,.str "NoPlace",.str "NoPlace","NoPlace",.inr rfl,e,.inr (.inl ⟨w,rfl,rfl⟩),rfl,rfl,a1,a2,a3,a4,oO 1 _,oO 1 _,.inl rfl⟩
 ·have t1:=Jd (f:=f) ca hs hp g hq #[1] eA (oU _ _ _);obtain⟨b1,b2⟩:=Cm g hq;obtain⟨O,Pl,_,e2⟩:=Dy (f:=f) ca hs hp g.lt g.nd b1 b2 #[1] (pU hs g hq);obtain⟨T,_,_,e3⟩:=yQ (f:=f) ca hs hp g hq #[1];exact⟨.aq,qs,yU ps l0 o,.bl o.isNone,"good",.inl rfl,e,.inr (.inr ⟨w,rfl,rfl⟩),oU _ _ _,rfl,GH ca t1 (oU _ _ _),GF ca (GC ca t1) rfl,GA ca e2,GB ca e3,Jh _ _ _,Ji 1 _,.inr ⟨rfl,_,rfl⟩⟩
def Jj (h:Apart ca names)(hs:ps.Pairwise (· < ·))(hp:#[72])(h1:1<=ps.length)(ns:#[6])(x:Int)(k:Nat)(hk:k<=100)(a b c d e i j w:#[95]) :
  ∃ a' b' c' d' e' i' j' w',jP ca (cP ns ps f #[34] #[67] a b c d e i j w)=.nx (cP ns ps f #[34] #[67] a' b' c' d' e' i' j' w'):=by
 obtain⟨N,hN⟩:∃ N:Int,N=(x*48271+k*16807)%2147483647:=⟨_,rfl⟩;have N0:0<=N:=by
  rw[hN];exact QU _ #[120]
 have s4:af br (af ba (af rf (aa 3) (eC (.int 48271))) (af rf (aa 2) (eC (.int 16807)))) (eC (.int 2147483647)) (cP ns ps f #[34] #[67] a b c d e i j w)=.ok (.int N):=by
  rw[fF (iW (GP (x:=x) (y:=48271) rfl rfl (mul_r #[120])) (GP (x:=(k:Int)) (y:=16807) rfl rfl (mul_r #[120]))) #[120],hN]
 obtain⟨t,l,ht,g,eI⟩:=DC (f:=f) hp h1 N0;have s5:aE G_Linside (ae (aa 1) (ae (aa 4) ao)) (cP ns ps f #[34] #[67] #[88] b c d e i j w)=.ok (.lst t #[54]):=
  dj (ds:=[nF ps f,.int N]) (aI (vd rfl) (cG rfl)) (by show G_Linside [#[32].aq,.int N]=_;rw[bQ _ (aY _ _)];exact eI) (by show(#[32].aD||_)=false;rw[aV _ (aY _ _)];rfl)
 obtain⟨qs,q1,q2,eH⟩:=DE (f:=f) hp g (N:=N/7) (Int.ediv_nonneg N0 #[120]);have glen:=g.len;obtain⟨l0,lr,rfl⟩:=qk g.ne;obtain⟨o,ho,eT,eA'⟩:=Jc (f:=f) hs hp g.lt;obtain⟨t6,rs,due,tru,wd,ht6,eS,cas,p8,p9,hA,hT,hL,hP,l8,l9,hw⟩:=Jk (f:=f) h hs hp h1 g q1 #[1] (M:=N/11) (Int.ediv_nonneg N0 #[120]) eA';refine⟨some (.int N),some (.lst t #[122]),some (.lst t6 #[27]),some (wX l0 o),some due,some tru,some (.lst .own #[27]),some (.str wd),?_⟩;unfold jP;rw[aC (aO s4 rfl)];show aA _ _ (cP ns ps f #[34] #[67] #[88] b c d e i j w)=_;rw[aC (aO s5 (GQ ht))];show aA _ _ (cP ns ps f #[34] #[67] #[88] #[14] c d e i j w)=_;have s6h:aE G_Lhanded (ae (aa 1) (ae (aa 5) (ae (af bw (aa 4) (eC (.int 7))) ao))) (cP ns ps f #[34] #[67] #[88] #[14] c d e i j w)=.ok (.lst .own #[117]):=by
  obtain⟨t',e'⟩:=sM (i:=5) (τ:=cP ns ps f #[34] #[67] #[88] #[14] c d e i j w) ht rfl;refine nC (ds:=[nF ps f,.lst t' #[122],.int (N/7)]) (aI (vd rfl) (aI e' (cG (fm rfl ⟨by decide,by decide⟩)))) ?_ (pQ (ah _));show G_Lhanded [#[32].aq,.lst .aq (aG #[122]),.int (N/7)]=_;rw[bQ _ (aY _ _),bG];exact eH
 have s6:aE G_Lspoilt (ae (aa 1) (ae (aE G_Lhanded (ae (aa 1) (ae (aa 5) (ae (af bw (aa 4) (eC (.int 7))) ao)))) (ae (af bw (aa 4) (eC (.int 11))) ao))) (cP ns ps f #[34] #[67] #[88] #[14] c d e i j w)=.ok (.lst t6 #[27]):=by
  refine dj (ds:=[nF ps f,.lst .own #[117],.int (N/11)]) (aI (vd rfl) (aI s6h (cG (fm rfl ⟨by decide,by decide⟩)))) ?_ ?_
  ·show G_Lspoilt [#[32].aq,.lst .aq (aG #[117]),.int (N/11)]=_;rw[bQ _ (aY _ _),bG];exact eS
  ·show(#[32].aD||((D.lst .own #[117]).aD||_))=false;rw[aV _ (aY _ _),cJ (ah _)];rfl
 rw[aC (aO s6 (GQ ht6))];show aA _ _ (cP ns ps f #[34] #[67] #[88] #[14] (some (.lst t6 #[27])) d e i j w)=_;rw[aC (aO (GO ht rfl rfl eT (sV _ _)) (aV _ (sV _ _)))];rw[aC (aO (d:=.a8) rfl rfl)];show aA _ _ (cP ns ps f #[34] #[67] #[88] #[14] (some (.lst t6 #[27])) (some (wX l0 o)) (some .a8) i j w)=_;have s8:dD (DL.eT (af (f6 true) (aa 7) (eC .a8))) (aQ 8 (eA gG (ae (af bL #[56] (af bL (aa 7) #[129])) (ae (af bL #[56] (af bL (aa 7) #[118])) (ae (af bL #[56] (af bL (aa 7) (eC (.int 2)))) ao))))) aR (cP ns ps f #[34] #[67] #[88] #[14] (some (.lst t6 #[27])) (some (wX l0 o)) (some .a8) i j w)=.nx (cP ns ps f #[34] #[67] #[88] #[14] (some (.lst t6 #[27])) (some (wX l0 o)) (some (yU ps l0 o)) i j w):=by
  cases o with
  | none =>
   rw[mz rfl];rfl
  | some p =>
   obtain⟨o1,o2⟩:=ho p rfl;rw[nv rfl];have v7:aa 7 #[133]=.ok (.tup [.int p.1,.int l0,.int p.2]):=rfl;have x0:∀ {g:#[28]}{m:Nat},m<ps.length->g #[133]=.ok (.int m)->af bL #[56] g #[133]=.ok (.int (aF ps m)):=λ hm hg=>fD (wJ (vd rfl)) hg (fY rfl (nA hm));have e1:=x0 (g:=af bL (aa 7) #[129]) o1 (fD v7 (y:=.int 0) rfl (fY (j:=0) rfl rfl));have e2:=x0 (g:=af bL (aa 7) #[118]) (g.lt l0 Pp) (fD v7 (y:=.int 1) rfl (fY (j:=1) rfl rfl));have e3:=x0 (g:=af bL (aa 7) (eC (.int 2))) o2 (fD v7 (y:=.int 2) rfl (fY (j:=2) rfl rfl));rw[aO (d:=yU ps l0 (some p)) ((fC (aI e1 (aI e2 (cG e3)))).trans rfl) (aV _ (oU _ _ _))];rfl
 rw[aC s8];have s9:af (f6 false) (aa 7) (eC .a8) (cP ns ps f #[34] #[67] #[88] #[14] (some (.lst t6 #[27])) (some (wX l0 o)) (some (yU ps l0 o)) i j w)=.ok (.bl o.isNone):=by
  rw[aZ (x:=wX l0 o) (y:=.a8) (c7 rfl (sV _ _)) rfl];cases o<;>rfl
 rw[aC (aO s9 rfl)];show aA _ (GL ca) #[119]=_;have mM:∀ h i,af br (af bw (aa 4) (eC (.int 11))) (eC (.int 9)) (cP ns ps f #[34] #[67] #[88] #[14] (some (.lst t6 #[27])) (some (wX l0 o)) h i j w)=.ok (.int (N/11%9)):=λ h i=>fF (fm (a:=N) rfl ⟨by decide,by decide⟩) #[120];have gt:=FP (mM (some (yU ps l0 o)) (some (.bl o.isNone))) (g:=eC (.int 6)) (b:=6) rfl;have sD:dD (DL.eT (af Ma #[136] (eC (.int 6)))) #[44] aR #[119]=.nx (cP ns ps f #[34] #[67] #[88] #[14] (some (.lst t6 #[27])) (some (wX l0 o)) (some due) (some tru) j w):=by
  have m0:=Sy (N/11) (b:=9) #[120];have go:∀ (m:Int) (s:PySem.Str),N/11%9=m->6<m->bL (.lst .own [.str "NoSet",.str "NoPlace"]) (.int (m-7))=.ok (.str s)->due=.str s->tru=.str s->dD (DL.eT (af Ma #[136] (eC (.int 6)))) #[44] aR #[119]=.nx (cP ns ps f #[34] #[67] #[88] #[14] (some (.lst t6 #[27])) (some (wX l0 o)) (some due) (some tru) j w):=λ m s hm h6 hi hd hr=>by
   rw[P8 (show 6<N/11%9 by rw[hm];exact h6)]at gt;rw[nv gt,hd,hr];have e8:af bL (eA cM (ae (eC (.str "NoSet")) (ae (eC (.str "NoPlace")) ao))) (af xJ #[136] (eC (.int 7))) #[119]=.ok (.str s):=by
    refine fD (x:=.lst .own [.str "NoSet",.str "NoPlace"]) (y:=.int (m-7)) rfl ?_ hi;rw[aZ (mM _ _) (y:=.int 7) rfl,hm];rfl
   rw[aC (aO e8 rfl)];show aQ 9 (aa 8) (cP ns ps f #[34] #[67] #[88] #[14] (some (.lst t6 #[27])) (some (wX l0 o)) (some (.str s)) (some (.bl o.isNone)) j w)=_;rw[aO (d:=.str s) rfl rfl];rfl
  rcases cas with ⟨w7,d7,r7⟩|⟨w8,d8,r8⟩|⟨wn,dn,rn⟩
  ·exact go 7 "NoSet" w7 #[120] rfl d7 r7
  ·exact go 8 "NoPlace" w8 #[120] rfl d8 r8
  ·rw[PQ (show ¬ 6<N/11%9 by omega)]at gt;rw[mz gt,dn,rn];rfl
 rw[aC sD];exact Jg ht6 p8 p9 hA hT hL hP l8 l9 hw ns _ _ _ _ _ _ _
end
section
variable{ca:#[76]}
def Jm (hA:Apart ca names)(hs:ps.Pairwise (· < ·))(hp:#[72])(h1:1<=ps.length)(ns xs:#[6])(hx:xs.length<=66):∃ t,cg (gT 2 (bc 2 (bc 3 dw))) (jP ca) (df (xs.map D.int)) #[33]=.nx t:=by
 obtain⟨t,e,_⟩:=jK (tg:=gT 2 (bc 2 (bc 3 dw))) (body:=jP ca) (λ _ t=>∃ a b c d e g h i j k,t=cP ns ps f a b c d e g h i j k) (ds:=df (xs.map D.int)) 0 #[33] ⟨none,none,none,none,none,none,none,none,none,none,rfl⟩ (λ j d τ hd hp'=>by
  obtain⟨a,b,c,e,g,h,i,m,o,q,rfl⟩:=hp';have hj:j<xs.length:=by
   have:=(Pw.mp hd).1;simpa[df] using this
  have ex:d=.tup [.int j,.int xs[j]]:=by
   simp[df,hj]at hd;exact hd.symm
  subst ex;obtain⟨a',b',c',d',e',i',j',w',ht⟩:=Jj (f:=f) hA hs hp h1 ns xs[j] j #[1] c e g h i m o q;exact⟨_,_,rfl,.inl ht,_,_,a',b',c',d',e',i',j',w',rfl⟩)
 exact⟨t,e⟩
def Jl (hA:Apart ca names)(ns:#[6])(hl:ns.length<=63)(hs:ps.Pairwise (· < ·))(hp:#[72])(h1:1<=ps.length)(hm:(n:Int)=M.many (M.cell ns 0))(hnet:G_Lnet [S ns,.int 1,.int n]=.ok #[32]):ym ca [S ns]=.ok (.bl true):=by
 refine bg (τ:=[some (S ns),none,none,none,none,none,none,none,none,none,none,none]) rfl rfl ?_;unfold FJ;have fS:aG #[85]=ns.map D.int:=bG ns;have bS:aB #[85]=false:=nU ns;have z0:aE G_Lcell (ae (aa 0) (ae #[129] ao)) [some (S ns),none,none,none,none,none,none,none,none,none,none,none]=.ok (.int (M.cell ns 0)):=
  dj (ds:=[S ns,.int 0]) (aI (cf rfl (ah ns)) (cG rfl)) (by show G_Lcell [.lst .aq (aG #[85]),.int 0]=_;rw[fS];exact oN ns (Int.le_refl 0)) (by show((false||aB #[85])||_)=false;rw[bS];rfl)
 have z1:aE G_Lnet (ae (aa 0) (ae #[118] (ae (aE G_Lmany (ae (aE G_Lcell (ae (aa 0) (ae #[129] ao))) ao)) ao))) [some (S ns),none,none,none,none,none,none,none,none,none,none,none]=.ok #[32]:=by
  refine dj (ds:=[S ns,.int 1,.int n]) (aI (cf rfl (ah ns)) (aI rfl (cG ?_))) (by show G_Lnet [.lst .aq (aG #[85]),.int 1,.int n]=_;rw[fS];exact hnet) (by show((false||aB #[85])||_)=false;rw[bS];rfl);rw[hm];exact dE (ds:=[.int (M.cell ns 0)]) (cG z0) (ID _) rfl
 rw[aC (aO z1 (aV _ (aY _ _)))];show aA _ _ #[33]=_;have hcl:=wY ns (some 2) (some 12);have zc:c8 (aa 0) (eP (eC (.int 2))) (eP (eC (.int 12))) #[33]=.ok (.lst .own ((DL.cut ns (some 2) (some 12)).map D.int)):=by
  unfold c8;rw[cf (xs:=ns.map .int) rfl (ah ns)];show Res.ok (D.lst .own (DL.cut (ns.map .int) (some 2) (some 12)))=_;rw[wz]
 have za:af ba (eA cM (ae (eC (.int 4)) (ae (eC (.int 24)) ao))) (c8 (aa 0) (eP (eC (.int 2))) (eP (eC (.int 12)))) #[33]=.ok (.lst .own (#[100].map D.int)):=wZ (xs:=[4,24]) (ys:=DL.cut ns (some 2) (some 12)) rfl zc (by rw[show([4,24]:#[6]).length=2 from rfl];omega);have zi:eK #[79] #[33]=.ok (false,df (#[100].map D.int)):=by
  unfold eK;rw[cG za,Res.aK];show(Res.ok ((D.lst .own (#[100].map D.int)).aD,#[100].map D.int)).map _=_;rw[cJ (ah _)];rfl
 obtain⟨t,ht⟩:=Jm (f:=f) hA hs hp h1 ns #[100] (by simp only[PU];omega);have zf:cV [0] (eK #[79]) (gT 2 (bc 2 (bc 3 dw))) (jP ca) #[33]=.nx t:=by
  have hf:cI [0] #[33]=cP ns ps f none none none none none none none none none none:=by
   show List.set #[33] 0 (some (D.lst .aq (aG (ns.map .int))))=_;rw[fS];rfl
  unfold cV;rw[hf,zi];have:aG (df (#[100].map D.int))=df (#[100].map D.int):=by rw[ph,bG]
  simp only[this];exact ht
 rw[aC zf];rfl
end
def GR {ca:#[76]}(hA:Apart ca names)(ns:#[6])(hl:ns.length<=63):ym ca [.lst .aq #[85]]=.ok (.bl true):=by
 obtain⟨n,hn⟩:∃ n:Nat,(n:Int)=M.many (M.cell ns 0):=⟨(M.many (M.cell ns 0)).toNat,by have:=M.yy (M.cell ns 0);omega⟩;have hb:=M.yy (M.cell ns 0);rw[<-hn]at hb;have hl':=N2.places_len (dN ns) n;have e:=LL ns (n:=n) #[1];have er:N2.rows (dN ns) n=uU (dN ns).sh (N2.places (dN ns) n).length:=by
  rw[hl'];rfl
 rw[er]at e;exact Jl (ps:=N2.places (dN ns) n) (f:=(dN ns).sh) hA ns hl (N2.tV (dN ns) n) #[1] #[1] hn e
end KL
namespace KL
open PySem PySem.Spec PyProof.Rows L2 DL XF
variable {C:Addr}
def Pg (l:List (Str×Addr))(x:Str):Addr:=(l.lookup x).getD 0
structure kY (K:PySem.W.Frag)(x:Str)(C:Addr)(bm:List Value):Prop where
 n:PySem.W.nsIn K mainGlobals x=some (some (.ref C))
 e:PySem.W.excIn K C jL "ValueError.__new__" = true
 m:XF.mroIn K C=some (.ref C::bm)
structure Co (K:PySem.W.Frag)(C:Addr):Prop where
 ga:PySem.W.findIn K (.ref C) "__getattribute__" = some (some (.builtin "BaseException.__getattribute__"))
 gt:PySem.W.findIn K (.ref C) "__getattr__" = some none
 ha:PySem.W.findIn K (.ref C) "__class__" = some (some #[60])
 mo:PySem.W.mroIn K C (.type "object")=some true
 mb:PySem.W.mroIn K C (.type "BaseException")=some true
 cl:(PySem.W.clsIn K C).isSome=true
def Jo {K:#[0]}(hc:(PySem.W.clsIn K C).isSome=true)(ha:PySem.W.findIn K (.ref C) "__class__" = some (some #[60]))(hn:PySem.W.specialIn K #[60] "__get__" = some (some #[91]))(htk:PySem.W.takesIn K #[60]=some true) :
  PySem.W.findObj K C none "__class__" = some (.bind #[91] #[60]):=by
 obtain⟨cd,hc⟩:=Rk.mp hc;unfold PySem.W.findObj;rw[hc,Option.bind_some,ha,Option.bind_some];simp[hn,htk]
def Co.kit {K:#[0]}(r:Co K C)(hn:PySem.W.specialIn K #[60] "__get__" = some (some #[91]))(htk:PySem.W.takesIn K #[60]=some true):nX K C:=
 ⟨r.ga,r.gt,Jo r.cl r.ha hn htk,r.mo,r.mb,r.cl⟩
def kY.cls {K:#[0]}{h:Heap}{mg:#[11]}{x:Str}{bm:#[22]}(r:kY K x C bm)(X:K.In h)(G:h.Ns mainGlobals mg):fM K mg x C bm:=⟨PySem.W.mg_of X G r.n,r.e,r.m⟩
def cA:Str->Addr:=Pg [("NetError",24),("NoNet",37),("NoPlace",49),("SamePlace",61),("Twice",73),("Taken",85),("NoColours",97),("NoSet",109),("NoParting",121),("NoGroup",133),("TooMany",145),("NoDeed",157),("Unlike",169),("NoText",181),("NoRow",193),("NoName",205)]
def apart:Apart cA names:=by
 have h:∀ x∈names,∀ y∈names,cA x=cA y->x=y:=by decide +kernel
 exact λ x y hx hy=>h x hx y hy
def bz:cA "NetError" = 24:=by decide +kernel
def GU:cA "NoNet" = 37:=by decide +kernel
def sW:cA "NoPlace" = 49:=by decide +kernel
def xf:cA "SamePlace" = 61:=by decide +kernel
def GS:cA "Twice" = 73:=by decide +kernel
def GV:cA "Taken" = 85:=by decide +kernel
def w6:cA "NoColours" = 97:=by decide +kernel
def yV:cA "NoSet" = 109:=by decide +kernel
def w4:cA "NoParting" = 121:=by decide +kernel
def AJ:cA "NoGroup" = 133:=by decide +kernel
def AK:cA "TooMany" = 145:=by decide +kernel
def DR:cA "NoDeed" = 157:=by decide +kernel
def DP:cA "Unlike" = 169:=by decide +kernel
def DO:cA "NoText" = 181:=by decide +kernel
def GW:cA "NoRow" = 193:=by decide +kernel
def DQ:cA "NoName" = 205:=by decide +kernel
abbrev HN (K:#[0]):Prop:=PySem.W.specialIn K #[60] "__get__" = some (some #[91])
abbrev HT (K:#[0]):Prop:=PySem.W.takesIn K #[60]=some true
abbrev ZN (K:#[0])(x:Str):Prop:=PySem.W.nsIn K mainGlobals x=some none
abbrev ZV (K:#[0])(x:Str)(v:Value):Prop:=PySem.W.nsIn K mainGlobals x=some (some v)
def L5 {l:PySem.W.OpenLaw}{w:World}{K:#[0]}{h:Heap}{mg:#[11]}{fa:Addr}(X:K.In h)(G:h.Ns mainGlobals mg)(hfa:mg "law" = some (.ref fa))
 (z0:ZN K "ValueError") (z1:ZN K "bool") (z2:ZN K "enumerate") (z3:ZN K "int") (z4:ZN K "isinstance") (z5:ZN K "len") (z6:ZN K "list") (z7:ZN K "max") (z8:ZN K "min") (z9:ZN K "range") (z10:ZN K "set") (z11:ZN K "sorted") (z12:ZN K "str") (z13:ZN K "tuple") (z14:ZN K "zip")
 (R_NetError:kY K "NetError" 24 jL) (R_NoNet:kY K "NoNet" 37 (.ref 24::jL)) (R_NoPlace:kY K "NoPlace" 49 (.ref 24::jL)) (R_SamePlace:kY K "SamePlace" 61 (.ref 24::jL)) (R_Twice:kY K "Twice" 73 (.ref 24::jL)) (R_Taken:kY K "Taken" 85 (.ref 24::jL)) (R_NoColours:kY K "NoColours" 97 (.ref 24::jL)) (R_NoSet:kY K "NoSet" 109 (.ref 24::jL)) (R_NoParting:kY K "NoParting" 121 (.ref 24::jL)) (R_NoGroup:kY K "NoGroup" 133 (.ref 24::jL)) (R_TooMany:kY K "TooMany" 145 (.ref 24::jL)) (R_NoDeed:kY K "NoDeed" 157 (.ref 24::jL)) (R_Unlike:kY K "Unlike" 169 (.ref 24::jL)) (R_NoText:kY K "NoText" 181 (.ref 24::jL)) (R_NoRow:kY K "NoRow" 193 (.ref 24::jL)) (R_NoName:kY K "NoName" 205 (.ref 24::jL)) (S_NoPlace:Co K 49) (S_NoSet:Co K 109) (hn:HN K) (ht:HT K)
 (D_require_place:kK K mg) (D_checked_set:mR K mg) (D_pair:FA K mg) (D_colours_of:oE K mg) (D_sights_of:qh K mg) (D_first_apart:mS K mg) (D_teller_among:lJ K mg) (D_pulls_from:oK K mg) (D_shares_by:qb K mg) (D_teller:yx K mg) (D_is_group:rW K mg) (D_pulled:yl K mg) (D_greatest_within:jc K mg) (D_Lcell:E_Lcell K mg) (D_Llike:E_Llike K mg) (D_Lmany:E_Lmany K mg) (D_Lmix:E_Lmix K mg) (D_Lplaces:E_Lplaces K mg) (D_Lshade:E_Lshade K mg) (D_Lnet:E_Lnet K mg) (D_Lword:E_Lword K mg) (D_Lshown:E_Lshown K mg) (D_Lteller:E_Lteller K mg) (D_Lclosed:E_Lclosed K mg) (D_Linside:E_Linside K mg) (D_Lhanded:E_Lhanded K mg) (D_Lasked:E_Lasked K mg) (D_Ltruth:E_Ltruth K mg) (D_Lleast:E_Lleast K mg) (D_Lparts:E_Lparts K mg) (D_Lspoilt:E_Lspoilt K mg)
 {f:Addr}{oc:Value}{od an:Option Addr}{osl:Array (Option Value)}{kV doc pm cdv ct:Value} (a:ZV K "law" (.ref f)) (lk:K.lookup f=some ⟨oc,od,.func (PySem.W.fnOf "law" "law" (i7 oF) (dR oF) (av oF) .none kV doc pm an cdv ct),osl⟩) (c:PySem.W.codeIn K cdv "law" = true) (k:PySem.W.keepIn K (.ref f)=true) :
 ∃ fd:FuncData,(∀ (s:Shared) (v:Value),BindsTo s fd ⟨[v],[]⟩ [("_law_script",v)])/\∀ base:Heap,K.In base->base.Ns mainGlobals mg->oY l.prog w K mg base yW 7 fa fd ["_law_script"] (jy K (ym cA)):=by
 have T:Txt K mg cA:=⟨Qs X G z0,Qs X G z1,Qs X G z2,Qs X G z3,Qs X G z4,Qs X G z5,Qs X G z6,Qs X G z7,Qs X G z8,Qs X G z9,Qs X G z10,Qs X G z11,Qs X G z12,Qs X G z13,Qs X G z14,by rw[bz];exact R_NetError.cls X G,by rw[GU,bz];exact R_NoNet.cls X G,by rw[sW,bz];exact R_NoPlace.cls X G,by rw[sW];exact S_NoPlace.kit hn ht,by rw[xf,bz];exact R_SamePlace.cls X G,by rw[GS,bz];exact R_Twice.cls X G,by rw[GV,bz];exact R_Taken.cls X G,by rw[w6,bz];exact R_NoColours.cls X G,by rw[yV,bz];exact R_NoSet.cls X G,by rw[yV];exact S_NoSet.kit hn ht,by rw[w4,bz];exact R_NoParting.cls X G,by rw[AJ,bz];exact R_NoGroup.cls X G,by rw[AK,bz];exact R_TooMany.cls X G,by rw[DR,bz];exact R_NoDeed.cls X G,by rw[DP,bz];exact R_Unlike.cls X G,by rw[DO,bz];exact R_NoText.cls X G,by rw[GW,bz];exact R_NoRow.cls X G,by rw[DQ,bz];exact R_NoName.cls X G⟩;have e:=hfa.symm.trans (PySem.W.mg_of X G a);cases e;refine⟨PySem.W.fnOf "law" "law" (i7 oF) (dR oF) (av oF) .none kV doc pm an cdv ct,λ s v=>.of_eq rfl,λ base _ _=>?_⟩
 let b:Bd:=⟨l.prog,w,K,mg,base,cA⟩
 have C_require_place:=pJ (b:=b) T  D_require_place;have C_checked_set:=rT (b:=b) T C_require_place D_checked_set;have C_pair:=IA (b:=b) T  D_pair;have C_colours_of:=tT (b:=b) T C_pair D_colours_of;have C_sights_of:=wo (b:=b) T C_colours_of D_sights_of;have C_first_apart:=rZ (b:=b) T  D_first_apart;have C_teller_among:=qy (b:=b) T C_first_apart D_teller_among;have C_pulls_from:=tU (b:=b) T  D_pulls_from;have C_shares_by:=wm (b:=b) T  D_shares_by;have C_teller:=Dq (b:=b) T C_checked_set C_sights_of C_teller_among D_teller;have C_is_group:=yw (b:=b) T C_teller D_is_group;have C_pulled:=Dp (b:=b) T C_checked_set C_sights_of C_pulls_from D_pulled;have C_greatest_within:=nu (b:=b) T C_checked_set C_sights_of C_teller_among C_shares_by D_greatest_within;have C_Lcell:=ok_Lcell (b:=b) T  D_Lcell;have C_Llike:=ok_Llike (b:=b) T  D_Llike 2;have C_Lmany:=ok_Lmany (b:=b) T  D_Lmany;have C_Lmix:=ok_Lmix (b:=b) T C_Lcell D_Lmix;have C_Lplaces:=ok_Lplaces (b:=b) T C_Lcell D_Lplaces;have C_Lshade:=ok_Lshade (b:=b) T C_Lcell C_Lmix D_Lshade;have C_Lnet:=ok_Lnet (b:=b) T C_Lplaces C_Lshade D_Lnet;have C_Lword:=ok_Lword (b:=b) T  D_Lword;have C_Lshown:=ok_Lshown (b:=b) T  D_Lshown;have C_Lteller:=ok_Lteller (b:=b) T C_Lshown D_Lteller;have C_Lclosed:=ok_Lclosed (b:=b) T C_Lteller D_Lclosed;have C_Linside:=ok_Linside (b:=b) T C_Lclosed D_Linside;have C_Lhanded:=ok_Lhanded (b:=b) T  D_Lhanded;have C_Lasked:=ok_Lasked (b:=b) T C_teller C_Lword D_Lasked;have C_Ltruth:=ok_Ltruth (b:=b) T C_is_group C_Lword D_Ltruth;have C_Lleast:=ok_Lleast (b:=b) T C_pulled C_Lword D_Lleast;have C_Lparts:=ok_Lparts (b:=b) T C_greatest_within C_Lword D_Lparts;have C_Lspoilt:=ok_Lspoilt (b:=b) T  D_Lspoilt;exact LG (b:=b) T C_Lcell C_Llike C_Lmany C_Lnet C_Lteller C_Linside C_Lhanded C_Lasked C_Ltruth C_Lleast C_Lparts C_Lspoilt (zw (st:=oF) lk c k)
end KL
namespace PySem.W.Fast
theorem tw9137617988561435828:True:=⟨⟩
theorem tw7209681514436145339:True:=⟨⟩
theorem tw8793528196312533454:True:=⟨⟩
theorem tw12373945026379864594:True:=⟨⟩
theorem tw10076741557013778689:True:=⟨⟩
theorem tw18066899855721379004:True:=⟨⟩
theorem tw571770984321819953:True:=⟨⟩
theorem tw17772192144553269019:True:=⟨⟩
theorem tw2399807051440672514:True:=⟨⟩
theorem tw18288800613734717607:True:=⟨⟩
theorem tw8035237507711599820:True:=⟨⟩
theorem tw3384658657137974733:True:=⟨⟩
theorem tw18436761196541883:True:=⟨⟩
theorem tw6806705183517312973:True:=⟨⟩
theorem tw2841473694855995273:True:=⟨⟩
theorem tw10666812226357410634:True:=⟨⟩
theorem tw3460352518493832034:True:=⟨⟩
theorem tw12827459480267673323:True:=⟨⟩
theorem tw15187576007317223381:True:=⟨⟩
theorem tw15834681911712133775:True:=⟨⟩
theorem tw17581562086160256280:True:=⟨⟩
theorem tw9794040613011628875:True:=⟨⟩
theorem tw6912603139259807715:True:=⟨⟩
theorem tw3844841477497426184:True:=⟨⟩
theorem tw1024554623014986821:True:=⟨⟩
theorem tw5852914383504082686:True:=⟨⟩
theorem tw859321192267413598:True:=⟨⟩
theorem tw6408322607356780309:True:=⟨⟩
theorem tw1032464965674724033:True:=⟨⟩
theorem tw8920451390353090693:True:=⟨⟩
theorem tw543276121605807585:True:=⟨⟩
theorem tw3373008126026167689:True:=⟨⟩
theorem tw2684691130222572689:True:=⟨⟩
theorem tw957269768225251500:True:=⟨⟩
theorem tw18266703812123039643:True:=⟨⟩
theorem tw6123538050156376805:True:=⟨⟩
theorem tw2786489212702603603:True:=⟨⟩
theorem tw12212754247541811502:True:=⟨⟩
theorem tw1998277501403705305:True:=⟨⟩
theorem tw9571018555872873109:True:=⟨⟩
theorem tw16265905654866623127:True:=⟨⟩
theorem tw10478020123968936610:True:=⟨⟩
theorem tw12139079202574080854:True:=⟨⟩
theorem tw5513974141017355826:True:=⟨⟩
theorem tw17960110844125991015:True:=⟨⟩
theorem tw3463022054770897375:True:=⟨⟩
theorem tw2798983892956896324:True:=⟨⟩
theorem tw17281768264068752052:True:=⟨⟩
theorem tw12421754908460085916:True:=⟨⟩
theorem tw8890849641098728996:True:=⟨⟩
theorem tw3982606119234464436:True:=⟨⟩
theorem tw8152389433906943409:True:=⟨⟩
theorem tw3625047391219040709:True:=⟨⟩
theorem tw15032710127891708689:True:=⟨⟩
theorem tw9794032849772999346:True:=⟨⟩
theorem tw998589406067048332:True:=⟨⟩
theorem tw11923135590871559871:True:=⟨⟩
theorem tw16185913030265729609:True:=⟨⟩
theorem tw18343379797733579989:True:=⟨⟩
theorem tw16013853317614018673:True:=⟨⟩
theorem tw2686017763696067350:True:=⟨⟩
theorem tw6242905156783193859:True:=⟨⟩
theorem tw14684827695678518354:True:=⟨⟩
theorem tw136288410127995411:True:=⟨⟩
theorem tw10008782376002652592:True:=⟨⟩
theorem tw13584989590279875206:True:=⟨⟩
theorem tw18440655427713087749:True:=⟨⟩
theorem tw968776421062773033:True:=⟨⟩
theorem tw13680791587038041714:True:=⟨⟩
theorem tw5891314775257909589:True:=⟨⟩
theorem tw13728742089761476044:True:=⟨⟩
theorem tw3301690887939172663:True:=⟨⟩
theorem tw10548055388615430857:True:=⟨⟩
theorem tw9048300775530113783:True:=⟨⟩
theorem tw10194293620213094630:True:=⟨⟩
theorem tw18163941115941598126:True:=⟨⟩
theorem tw17790997608506879306:True:=⟨⟩
theorem tw8566919197066140547:True:=⟨⟩
theorem tw2837095510526707830:True:=⟨⟩
theorem tw8734999475472286496:True:=⟨⟩
theorem tw15325344457673171084:True:=⟨⟩
theorem tw4175372804293354222:True:=⟨⟩
theorem tw18332253394347871806:True:=⟨⟩
theorem tw1179192823834475645:True:=⟨⟩
theorem tw7961572629845470079:True:=⟨⟩
theorem tw12137964718924098615:True:=⟨⟩
theorem tw18239279569663675828:True:=⟨⟩
theorem tw14305294225662034029:True:=⟨⟩
theorem tw4836525869452060738:True:=⟨⟩
theorem tw11984798803781957508:True:=⟨⟩
theorem tw9853700569905261620:True:=⟨⟩
theorem tw11297877266188173161:True:=⟨⟩
theorem tw1090648911970325467:True:=⟨⟩
theorem tw9497774477381508953:True:=⟨⟩
theorem tw634048005393209135:True:=⟨⟩
theorem tw5243993075389567847:True:=⟨⟩
theorem tw13774147677871699186:True:=⟨⟩
theorem tw695134667079006578:True:=⟨⟩
theorem tw695735891929733201:True:=⟨⟩
theorem tw8534986736013604268:True:=⟨⟩
theorem tw17428270386548670680:True:=⟨⟩
theorem tw396325255862278010:True:=⟨⟩
theorem tw13201832479437762135:True:=⟨⟩
theorem tw10918512550611737259:True:=⟨⟩
theorem tw4438472105359152677:True:=⟨⟩
theorem tw2138258831284871638:True:=⟨⟩
theorem tw11745354802973566822:True:=⟨⟩
theorem tw15514670070393474539:True:=⟨⟩
theorem tw9186693939155256880:True:=⟨⟩
theorem tw3961466482925294002:True:=⟨⟩
theorem tw10632202780173172069:True:=⟨⟩
theorem tw15090757628353519033:True:=⟨⟩
theorem tw16022289520409733668:True:=⟨⟩
theorem tw11204302094821012579:True:=⟨⟩
theorem tw1580001758066125709:True:=⟨⟩
theorem tw14389842214570662065:True:=⟨⟩
theorem tw6345233373497195902:True:=⟨⟩
theorem tw3319533886365187860:True:=⟨⟩
theorem tw8307278865976951841:True:=⟨⟩
theorem tw1400394244240811550:True:=⟨⟩
theorem tw16951099724577906377:True:=⟨⟩
theorem tw13747258280194595004:True:=⟨⟩
theorem tw14437241333714185212:True:=⟨⟩
theorem tw5705838078899851800:True:=⟨⟩
theorem tw5701663645595968846:True:=⟨⟩
theorem tw10538031433705701820:True:=⟨⟩
theorem tw4879907949294806557:True:=⟨⟩
theorem tw8633042757033498833:True:=⟨⟩
theorem tw547262662213705508:True:=⟨⟩
theorem tw685343396225516846:True:=⟨⟩
theorem tw60266816610624309:True:=⟨⟩
theorem tw2925701473661309601:True:=⟨⟩
theorem tw1404455278298760219:True:=⟨⟩
theorem tw522137427425778801:True:=⟨⟩
theorem tw6470184840779647297:True:=⟨⟩
theorem tw18134911204524286317:True:=⟨⟩
theorem tw17216986554416683660:True:=⟨⟩
theorem tw14026926988943308556:True:=⟨⟩
theorem tw9734314301037780080:True:=⟨⟩
theorem tw13291354177518339559:True:=⟨⟩
theorem tw5257275436221872043:True:=⟨⟩
theorem tw11429855116326986938:True:=⟨⟩
theorem tw721011290460281792:True:=⟨⟩
theorem tw6384742295187491427:True:=⟨⟩
theorem tw7661210011845295480:True:=⟨⟩
theorem tw11806434927199830398:True:=⟨⟩
theorem tw8475236474364597971:True:=⟨⟩
theorem tw108131168032611770:True:=⟨⟩
theorem tw13857037136637542323:True:=⟨⟩
theorem tw15770855860042691029:True:=⟨⟩
theorem tw10506355578621607634:True:=⟨⟩
theorem tw8414080500348276722:True:=⟨⟩
theorem tw16001807287694124844:True:=⟨⟩
theorem tw7738998940706205631:True:=⟨⟩
theorem tw11300479118600402914:True:=⟨⟩
theorem tw16825474746726929746:True:=⟨⟩
theorem tw10119537639682070726:True:=⟨⟩
theorem tw4534266515202675388:True:=⟨⟩
theorem tw7220529653043536370:True:=⟨⟩
theorem tw1402000779476643294:True:=⟨⟩
theorem tw9543895617622717061:True:=⟨⟩
theorem tw2433992662646774961:True:=⟨⟩
theorem tw6662638060341265986:True:=⟨⟩
theorem tw6703969518066321868:True:=⟨⟩
theorem tw4303332500601591146:True:=⟨⟩
theorem tw10275712652040648375:True:=⟨⟩
theorem tw1049245416369358338:True:=⟨⟩
theorem tw7967535712657850256:True:=⟨⟩
theorem tw16925932795634226429:True:=⟨⟩
theorem tw5784649407694101946:True:=⟨⟩
theorem tw17963131700417861212:True:=⟨⟩
theorem tw13603905270783937436:True:=⟨⟩
theorem tw8433250118361410369:True:=⟨⟩
theorem tw10879045793305775953:True:=⟨⟩
theorem tw18051009498840130013:True:=⟨⟩
theorem tw16083713648854249006:True:=⟨⟩
theorem tw15702483202454255354:True:=⟨⟩
theorem tw10161213417466631948:True:=⟨⟩
theorem tw6381640433622437656:True:=⟨⟩
theorem tw6361277064330927155:True:=⟨⟩
theorem tw1102763187742465424:True:=⟨⟩
theorem tw4480959614362842708:True:=⟨⟩
theorem tw8019133167295204987:True:=⟨⟩
end PySem.W.Fast
open PySem PySem.W PyProof.Rows
set_option maxRecDepth 100000 in
set_option maxHeartbeats 0 in
theorem PySem.Challenge.cw_modulewood_k06_tellers_holds : PySem.Challenge.rw_modulewood_k06_tellers.Holds := by
 w_on;o_law;k_head;(case hw=>w_witness2)
 k_fill
 refine L2.Hx (l:=PySem.Challenge.rw_modulewood_k06_tellers) (n:=63) (k:=7) (x:="_law_script") (CX:=λ _=>L2.yW) (sp:=λ w=>DL.jy _ (KL.ym KL.cA)) rfl #[120] rfl ⟨rfl,by decide,by decide⟩ (λ w h Y=>PySem.W.kIn_of Y) ?F (λ w H a ns hl _ hS=>DL.K6 hS (KL.GR KL.apart ns hl)) λ _ _ _ _ _ z=>z
 case F=>
  intro w mg fa h KX G hmg
  refine' KL.L5 KX G hmg ?_ ?_ ?_ ?_ ?_ ?_ ?_ ?_ ?_ ?_ ?_ ?_ ?_ ?_ ?_ ?_ ?_ ?_ ?_ ?_ ?_ ?_ ?_ ?_ ?_ ?_ ?_ ?_ ?_ ?_ ?_ ?_ ?_ ?_ ?_ ?_ ?_ ?_ ?_ ?_ ?_ ?_ ?_ ?_ ?_ ?_ ?_ ?_ ?_ ?_ ?_ ?_ ?_ ?_ ?_ ?_ ?_ ?_ ?_ ?_ ?_ ?_ ?_ ?_ ?_ ?_ ?a1 ?l1 ?c1 ?k1
  iterate 15 ((try (dsimp only [KL.ZN,KL.ZV]));k_is)
  iterate 16 (exact⟨by k_is,by kernel_rfl,by kernel_rfl⟩)
  iterate 2 (exact⟨by k_is,by k_is,by k_is,by k_is,by k_is,by kernel_rfl⟩)
  iterate 2 ((try (dsimp only [KL.HN,KL.HT]));k_is)
  iterate 31 (refine' DL.K7 KX G ?a ?l ?c ?k ?u;(case a=>k_is);(case l=>k_is);(case c=>k_is);(case k=>k_is);(case u=>first|(exact λ _ _ _ _ _ _ us hl=>match us,hl with|[_],_=>rfl)|(exact λ _ _ _ _ _ _ us hl=>match us,hl with|[_,_],_=>rfl)|(exact λ _ _ _ _ _ _ us hl=>match us,hl with|[_,_,_],_=>rfl)|(exact λ _ _ _ _ _ _ us hl=>match us,hl with|[_,_,_,_],_=>rfl)))
  (case a1=>dsimp only[KL.ZV];k_is);(case l1=>k_is);(case c1=>k_is);(case k1=>k_is)
