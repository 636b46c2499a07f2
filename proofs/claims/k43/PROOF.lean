import PyProof.Rows.All
import Wide.All
import OpenK.AllK
import Wide.FinOn
import PySem.Challenge.RW_modulewood_k43_least_common
import Lean
import PyProof.EqAt
import PyProof.EqKinds
import PyProof.TupleCall
import PyProof.StationsW
import PyProof.RangeIter
import PyProof.FactsTree
import PyProof.ExcClass2
import PyProof.ExcArgsOwn
import KE.KIsAll
import PyProof.SetScanFacts
import PyProof.Rows.SetFrom
import PyProof.FactsAll.set
import PyProof.Comp
import PyProof.Walks
import PyProof.TupleIter
import PyProof.CollectWalk
import PyProof.Rows.SortWalk
import PyProof.Rows.SortShell
import PyProof.NeKinds
import PyProof.WalkInts
import PyProof.Rows.CallKwBuiltin
import KE.KSortTup
import PyProof.IsRules
noncomputable section
set_option Elab.async false
set_option linter.all false
set_option maxRecDepth 100000
set_option maxHeartbeats 0
local macro_rules|`(tactic|walk_at "l")=>`(tactic|first|exact Or.inl rfl|exact Or.inr rfl)
set_option hygiene false
set_option compiler.extract_closed false
local macro_rules|`(#[160])=>`(cj I q #[32])|`(#[161])=>`(fZ (JW (eT (gD (eB (leaf ca) (BX ca "NoGroup")) (ae 0))) (r6 (eT (gD (eB (leaf ca) (λ _=>true)) (ae 0))))) (aL 1 (ai bE (ae 1) (eC (.str "other")))) bD)|`(#[162])=>`(starEach [.Name x pt] X.env=(false,eval (.Name x pt) X.env)::starEach [] X.env)|`(#[163])=>`(InCallC s s.heap.objs.size (bindL #[53].kindOf (ps.zip us) λ _=>none) (cellsFrom #[92] scope.names []) (bindC #[53].kindOf (ps.zip us) λ _=>none) s1)|`(#[164])=>`(lC sq ⟨s.heap.objs.size,_,_,_,_,_,_,rfl,yK (P:=X.prog) (w:=X.w) (A:=X.A.in1) (I.ok.hd hc) b _ a (QT (BH sq)) _,yI sq,yJ bs,λ h' tk kp=>?_⟩)|`(#[165])=>`((∀ r∈rows,∀ x∈r,small x))|`(#[166])=>`(.Call (.Attribute #[68] "extend" apos) [e] [] cpos)|`(#[167])=>`((∀ M,sO rows.length (col rows) M->(∀ x∈got,M x)->∀ x∈got',M x))|`(#[168])=>`(i6 cs ps sh od ws turn #[195] (some (.int (2+m1))) a8 a9 a10)|`(#[169])=>`(i9 X scope own cap tg ifs elt (EO X.K tgd) (kJ X.K tQ tt) (tM X.K tQ fe))|`(#[170])=>`(HT.gi xs.length xs.length hi-HT.gi xs.length 0 lo)|`(#[171])=>`(Rb (Qu ⟨_,rfl,"set_iterator",_,⟨_,QI _ rfl,rfl⟩,bU.lookup,?_⟩))|`(#[172])=>`(PySem.W.fnOf x qual (jv st) (cQ st) (au st) .none kV doc pm an cdv ct)|`(#[173])=>`(i9 X scope own cap tg ifs elt g tt te)|`(#[174])=>`(pickOrder (w.params.setOrder a ep) es)|`(#[175])=>`(λ z=>hb (by simp[z]))|`(#[176])=>`([some #[56],some #[47],some #[16],some (.lst .own (od.map lM)),some (.lst .own (dL (xs.map Wd.leaf))),none,none,none,none,none,none])|`(#[177])=>`(Rw (name:=Str.ofString "__next__") hit.typeIs Su (RB Su hit.typeIs F.entry_tuple_iterator_next ?_ (F.args_tuple_iterator_next_1 _)))|`(#[178])=>`(US (a:=Value.none) (by first|rfl|(simp only[firstArgMember];rfl)) ?_)|`(#[179])=>`([some (Sc ns),some (.int m),some #[22],some #[48],some #[95],some w.d,some (.lst .own (os.map .int)),none,none,none,none,none,none])|`(#[180])=>`(iC rows got out a #[43] #[125])|`(#[181])=>`(qZ rows got out a #[43] #[125])|`(#[182])=>`(backToKw cpos (keywordEach [] X.env))|`(#[183])=>`(rQ cell ws sh rows [] none none none none none)|`(#[184])=>`([some #[49],some (.lst .own ((ao (bs.take j)).map .int)),some b.d])|`(#[185])=>`(.lst .av (is out))|`(#[186])=>`(.lst .own #[41])|`(#[187])=>`(List #[6])|`(#[188])=>`(List V->Hp->VK->Prop)|`(#[189])=>`(Loc X.env.scope x)|`(#[190])=>`(dR bc eL T.eS (cW (qv 0)))|`(#[191])=>`(s.heap.get? a=some o)|`(#[192])=>`(sh.map .int)|`(#[193])=>`(sortI (L2.dd S))|`(#[194])=>`(λ i=>bs.getD i true)|`(#[195])=>`(some (.int cell))|`(#[196])=>`(Obj.mapSeq λ _=>(#[]:#[152]))|`(#[197])=>`(fZ (eT (ai BC (eA bP (aa (cu (jo (ae 10)) (gN 0) (mO ca) (qe ca) 1 [#[112]]) ak)) #[147])) (aL 11 (eC (.str "place"))) #[40])
local macro_rules|`(#[120])=>`(λ _ x=>by cases x)|`(#[121])=>`(τ.set i (some (.lst .own (xs++ys))))|`(#[122])=>`(∀ a o,S a->H a=some o->B' a=some o)|`(#[123])=>`(Builtin.SmallTypes.nextOf (.ref it))|`(#[124])=>`([e].length+([]:List Keyword).length+(if ([]:List Keyword).isEmpty then 0 else 1)<30)|`(#[125])=>`(some (.int x))|`(#[126])=>`(t.fits es.size=true)|`(#[127])=>`(Around)|`(#[128])=>`(eA bw (aa (eC (.int 7919)) (aa (eC (.int 6007)) (aa (eC (.int 5003)) (aa (eC (.int 9973)) (aa (eC (.int 8009)) (aa (eC (.int 4999)) (aa (eC (.int 7793)) ak))))))))|`(#[129])=>`(Bool->Hp->Prop)|`(#[130])=>`(s.heap.push { cls:=.type "range",data:=.fields #[.int lo t,.int hi u,.int 1 v] })|`(#[131])=>`(List.range n)|`(#[132])=>`(List.range ps.length)|`(#[133])=>`(PE X b (tM X.K Y fb))|`(#[134])=>`(aa (ae 4) ak)|`(#[135])=>`(ns.map V.int)|`(#[136])=>`(SD->Res (Bool×List D))|`(#[137])=>`(relayAll t2 es1 (SetTable.grown es1.size))|`(#[138])=>`(starEach [e,.Name x pt] X.env=(false,eval e X.env)::starEach [.Name x pt] X.env)|`(#[139])=>`(List Env)|`(#[140])=>`(ie X scope own cap)|`(#[141])=>`(by decide +kernel)|`(#[142])=>`(eC (.int 1))|`(#[143])=>`([some (.int cell),some (.int n),some #[16],some (RD .own rows1),o1])|`(#[144])=>`(aa (ae 0) ak)|`(#[145])=>`([some (.int c),some (.int m),some (.lst .own (([]++[c%10^30]).map .int)),none])|`(#[146])=>`(some (.lst .own (dL (ws.take k))))|`(#[147])=>`(eC (.int 0))|`(#[148])=>`([some (Sc ns),some (.int m),some #[22],some #[48],some #[95],some w.d,some (.lst .own (os.map .int)),some w'.d,none,none,none,none,none])|`(#[149])=>`([some (Sc ns),some (.int m),some #[22],some #[48],some (.lst .own (cs.map .int)),some w.d,none,none,none,none,none,none,none])|`(#[150])=>`(eC (.int 2))|`(#[151])=>`([some (Sc ns),some (.int m),some #[22],some #[48],some #[95],some w.d,some #[22],none,none,none,none,none,none])|`(#[152])=>`(Array Value)|`(#[153])=>`([some (.int cell),some (.int n),some #[16],some #[105],some (.int k)])|`(#[154])=>`(aa (ae 2) ak)|`(#[155])=>`(k8 h #[10] #[10] #[10] #[10])|`(#[156])=>`(eZ a (.prime rows bs) t hs ws row #[54] #[69] (some (.tup (rows.map λ r=>.tup #[41]))) o7 o8)|`(#[157])=>`(e.st #[31] #[21] o11 o12)|`(#[158])=>`(swapsWith #[20] (some (.Name y py)) spos.line X.env=pure true)|`(#[159])=>`(S.map .int)
local macro_rules|`(#[80])=>`(.lst t (is out))|`(#[81])=>`((y == ("__debug__" : Str))=false)|`(#[82])=>`(fZ (eT (ai j3 (ae 1) (eC (.int 3)))) (dX (eA bw (aa (eA bw ak) (aa (eA bw (aa (ai bB (ae 2) #[147]) ak)) (aa (eA bw (aa (ai bB (ae 2) #[142]) (aa (ai bB (ae 2) #[150]) ak))) ak))))) bD)|`(#[83])=>`(Program)|`(#[84])=>`(aW C_Lmix hr (aB (qv 6) (aB aw (aB aw bu))))|`(#[85])=>`(aa (eA bP #[144]) ak)|`(#[86])=>`(.builtin "getset_descriptor.__get__")|`(#[87])=>`(Sq (Rw (name:=Str.ofString "__next__") hT bU (RB bU hT iE ?_ (jd _))))|`(#[88])=>`(Str->Addr)|`(#[89])=>`(ns.map D.int)|`(#[90])=>`(∀ h',Aq B (env::outer) e cls (rawInt L) h'->zT (Hd (env::outer)) s.heap h'->Q () { s with heap:=h' })|`(#[91])=>`(Option D)|`(#[92])=>`(s.heap.objs.size+1)|`(#[93])=>`(o.data=.set es ep t)|`(#[94])=>`(.lst .av (ms.map .int))|`(#[95])=>`(.lst .own (cs2.map .int))|`(#[96])=>`(fZ (lK (eT (ai BC (eA bP #[154]) #[147])) (eT (ai j3 (ai cE (ae 1) (eC (.int 3))) #[147]))) (aL 2 (ai bE (eA bw (aa (ai bB (ae 2) (gD lY #[142])) ak)) (ae 2))) bD)|`(#[97])=>`(PA X (e::es) (pB X.K Y fs))|`(#[98])=>`(ai bB (ae 1) #[147])|`(#[99])=>`(iU w.deep w)|`(#[100])=>`(s.heap.push { cls:=.type "dict",data:=.dict #[] })|`(#[101])=>`((items.toList.drop (gi items.size 0 lo)).take (gi items.size items.size hi-gi items.size 0 lo))|`(#[102])=>`((y,NameKind.free))|`(#[103])=>`((∀ b o,s.heap.get? b=some o->h'.get? b=some o))|`(#[104])=>`(PySem.W.fnOf name qual params body scope dV kV doc pm an cdv ct)|`(#[105])=>`(RD .own rows)|`(#[106])=>`(gT 2 (dw 0 (dw 1 lz)))|`(#[107])=>`(J9 P w K mg base N qual scope f cdv A outer s H)|`(#[108])=>`(ls.map .int)|`(#[109])=>`(if a∈P then none else B' a)|`(#[110])=>`((apos.endLine == cpos.line)=true)|`(#[111])=>`(λ r s'=>r=.ok (.ret (.bool true))/\OldK s₁.heap s'.heap/\s'.os=s₁.os/\AllBare s'.gens)|`(#[112])=>`(("_law_places_here",2))|`(#[113])=>`(aa (ae 3) ak)|`(#[114])=>`(ha pins s σ H _ I h)|`(#[115])=>`(x ≠ "__name__")|`(#[116])=>`(q.resolve_left λ y=>y.1)|`(#[117])=>`(∀ whole,isTrue a X.env whole=(do let v <-whole;standAt a.pos;holding [v] (truthy v)))|`(#[118])=>`(List Nat)|`(#[119])=>`(intKind prog w)
local macro_rules|`(#[40])=>`(fZ (eT (ai (mh false) (ae 10) (eA bw ak))) (aL 11 (eC (.str "set"))) (aL 11 (aF G_Lleast_of_both (aa (ai bB (ae 8) #[147]) (aa (ai bB (ae 8) #[142]) (aa (ae 10) ak))))))|`(#[41])=>`(r.map .int)|`(#[42])=>`(.Call (.Name x p) (e::es) [] pos)|`(#[43])=>`(some (.lst .own (is left)))|`(#[44])=>`((x == ("__classdict__" : Str))=false)|`(#[45])=>`(i6 cs ps sh od ws turn a6 a7 a8 a9 a10)|`(#[46])=>`(PE X e (tM X.K Y fe))|`(#[47])=>`(.lst .av (ps.map .int))|`(#[48])=>`(.int (cellAt ns 2))|`(#[49])=>`(.tup [.str s,x,.tup (dL bs)])|`(#[50])=>`(aa (ae 1) ak)|`(#[51])=>`(.builtin "object.__class__")|`(#[52])=>`(aD.refl _)|`(#[53])=>`(envOfC qual scope s.heap.objs.size f cd)|`(#[54])=>`(some (.int i))|`(#[55])=>`(∀ b∈ch,(b∈X.ex\/X.s₀.heap.objs.size<=b)/\b≠X.env.locals/\(∀ x c,X.env.cells.lookup x=some c->c≠b)/\∀ p∈X.pn++pins,p.1≠b)|`(#[56])=>`(.lst .av (cs.map .int))|`(#[57])=>`(some (.lst .own #[159]))|`(#[58])=>`([some (kB (.len a) ws),some w.d,none,none,none,none,none,none,none])|`(#[59])=>`(SD->Res Bool)|`(#[60])=>`(List Wd)|`(#[61])=>`(sr c ws ps (some (Wd.flat e bs).d))|`(#[62])=>`(col rows x y=col rows x z)|`(#[63])=>`(X.fn y=true\/X.env.scope.names.lookup y=some .local)|`(#[64])=>`([some w.d,some (kB .own []),none,none,none])|`(#[65])=>`(PE X a (tM X.K Y fa))|`(#[66])=>`(aE (fZ (eT (ai yY (ae 12) (ae 11))) (dX (eC (.bl false))) bD) (fZ (eT (gD (g8 yf) (ae 12))) (aE (iq 12 (gD lY #[142])) (fZ (eT (ai yY (aF (G_Lasked ca) (aa (ae 5) (aa (ae 7) (aa (ae 10) ak)))) (ae 11))) (dX (eC (.bl false))) bD)) bD))|`(#[67])=>`(aa (eA bw (aa #[147] (aa (ae 1) (aa (ai bE (ae 1) #[142]) ak)))) (aa (eA bw (aa (ae 1) (aa #[147] (aa (ai jN #[150] (ae 1)) ak)))) (aa (eA bw (aa #[142] (aa #[147] (aa #[150] ak)))) ak)))|`(#[68])=>`(.Name x p1)|`(#[69])=>`(some (.int j))|`(#[70])=>`(swapsWith e (some (.Name x pos')) pos.line X.env=pure false)|`(#[71])=>`(.lst .av (dL ws))|`(#[72])=>`(s.heap.push { cls:=.type "tuple_iterator",data:=.fields #[.ref t,.int 0 0] })|`(#[73])=>`(.ref s.heap.objs.size)|`(#[74])=>`(RD .av rows)|`(#[75])=>`(N.length-ps.length)|`(#[76])=>`(some (.lst .own (is [])))|`(#[77])=>`(List.range rows.length)|`(#[78])=>`(X.N[i]?=some x)|`(#[79])=>`(List Str)
local macro_rules|`(#[0])=>`(PySem.W.Frag)|`(#[1])=>`(by omega)|`(#[2])=>`(fZ (eT (ai j3 (ai cE (ae 1) (eC (.int 7))) (eC (.int 3)))) (AE 2 (ai cE (ai lq (ae 1) (eC (.int 7))) (ai bE (eA bP #[154]) #[142])) (ai bB (eA bw (aa (ai bE (ai bB (ae 0) (gD lY #[142])) #[142]) (aa (ai bE (ai bE (ai bB (ae 0) (gD lY #[142])) #[150]) (ai cE (ae 1) (ai j2 (eC (.int 10)) (eC (.int 30))))) ak))) (ai cE (ai lq (ae 1) (eC (.int 7))) #[150]))) (fZ (lK (eT (ai j3 (eA bP #[154]) #[147])) (eT (ai BC (ai cE (ae 1) (eC (.int 5))) #[147]))) (aL 2 (eA bw (aa (ai bB (ae 0) (ai cE (ae 1) (eA bP #[144]))) ak))) bD))|`(#[3])=>`((x == ("__debug__" : Str))=false)|`(#[4])=>`(Inv X pins σ H s)|`(#[5])=>`(starEach (e::es) X.env=(false,eval e X.env)::starEach es X.env)|`(#[6])=>`(List Int)|`(#[7])=>`(Value->Shared->Prop)|`(#[8])=>`(Str->Option Value)|`(#[9])=>`(List Addr)|`(#[10])=>`(by decide)|`(#[11])=>`(model X.prog X.w)|`(#[12])=>`(List (Addr×Obj))|`(#[13])=>`(i6 cs ps sh od (ws.drop k) turn #[195] (some (.int k)) #[146] a9 a10)|`(#[14])=>`(model prog w)|`(#[15])=>`(SI K H0 B0 B H σ τ P F)|`(#[16])=>`(.lst .av #[192])|`(#[17])=>`(List Value)|`(#[18])=>`(((s.heap.update a #[196]).push (seqObj "tuple" vs.toArray 0)).push (seqObj "list" #[] 0))|`(#[19])=>`(i6 cs ps sh od (ws.drop k) turn #[195] (some (.int k)) #[146] (some kn.d) b10)|`(#[20])=>`(.ListComp elt [⟨tg,iter,ifs,0⟩] scope pos)|`(#[21])=>`(some (.lst .own (T.map .int)))|`(#[22])=>`(.lst .own (ps.map .int))|`(#[23])=>`(X.fn x=true\/X.env.scope.names.lookup x=some .local)|`(#[24])=>`(A.deeper (envOfC x (au st) s.heap.objs.size f cdv))|`(#[25])=>`(.lst .av #[159])|`(#[26])=>`(starEach [e] X.env=(false,eval e X.env)::starEach [] X.env)|`(#[27])=>`(aL 10 (ai bB (ai bE (ae 2) (eA bw (aa (ai bE (ai jN (ae 5) (ai j2 (eC (.int 10)) (eC (.int 9)))) (ai cE (ae 6) (ai j2 (eC (.int 10)) (eC (.int 9))))) ak))) (aF G_Lmix (aa (ae 6) (aa #[150] (aa (eC (.int 4)) ak))))))|`(#[28])=>`(bX _ rfl _ rfl (by kernel_rfl))|`(#[29])=>`(SD->Res D)|`(#[30])=>`(Addr->Prop)|`(#[31])=>`(some (.int c))|`(#[32])=>`(by simp)|`(#[33])=>`(jJ sE P w K mg base N x (au st) f cdv A outer s H E0)|`(#[34])=>`(SD->Res (List D))|`(#[35])=>`(backTo pos (starEach es X.env))|`(#[36])=>`(seqObj "list" vs.toArray 0)|`(#[37])=>`(aE (fZ (eT (gD (eB (leaf ca) (BX ca "NoPlace")) (ae 0))) (aL 1 (ai bE (ae 1) (eC (.str "place")))) bD) (aE (fZ (eT (gD (eB (leaf ca) (BX ca "NoSet")) (ae 0))) (aL 1 (ai bE (ae 1) (eC (.str "set")))) bD) (aE #[161] (iM 1))))|`(#[38])=>`(.lst .own (C.map .int))|`(#[39])=>`(∀ x,foldedSetIterable iter X.env x=pure x)
set_option hygiene true
def Qn:=@PySem.wpAny_bind
def Qo:=@List.getElem?_eq_getElem
def Qp:=@PySem.Heap.get?_push_of_some
def Qq:=@List.getD_eq_getElem?_getD
def Qs:=@List.length_map
def Qt:=@List.getElem?_eq_some_iff
def Qu:=@PySem.wpAny_pure
def Qv:=@List.length_append
def Qw:=@List.mem_cons_of_mem
def Qx:=@List.mem_cons_self
def Qy:=@Bool.false_ne_true
def Qz:=@List.size_toArray
def QA:=@List.mem_cons
def QB:=@List.getElem?_map
def QC:=@PySem.Heap.lt_size
def QD:=@Nat.le_refl
def QE:=@List.mem_map
def QF:=@decide_eq_false
def QG:=@if_pos
def QH:=@List.mem_append
def QI:=@PySem.Heap.get?_push_size
def QJ:=@List.mem_append_right
def QK:=@if_neg
def QL:=@List.nodup_append
def QM:=@List.mem_singleton
def QN:=@List.mem_of_getElem?
def QO:=@decide_eq_true
def QP:=@List.length_cons
def QQ:=@List.append_nil
def QR:=@List.mem_append_left
def QS:=@Classical.byContradiction
def QT:=@Nat.ne_of_lt
def QU:=@List.mem_range
def QV:=@Bool.false_eq_true
def QW:=@List.getElem_mem
def QX:=@Nat.le_trans
def QY:=@List.append_assoc
def QZ:=@List.sublist_append_right
def Q0:=@Nat.lt_of_lt_of_le
def Q2:=@PySem.Heap.get?_update_other
def Q3:=@List.mem_filter
def Q4:=@Bool.and_eq_true
def Q5:=@List.map_map
def Q6:=@List.length_range
def Q7:=@Array.getElem?_eq_getElem
def Q8:=@List.nodup_cons
def Q9:=@PySem.PassesOwn.never
def Ra:=@PySem.Heap.get?_update_self
def Rb:=@PySem.wpAny_newObj_type
def Rc:=@List.map_cons
def Rf:=@List.getElem?_of_mem
def Rg:=@PySem.sizeLine_eq
def Rh:=@PySem.W.mg_none_of
def Ri:=@List.getElem?_append_left
def Rj:=@List.map_append
def Rl:=@List.nodup_nil
def Rm:=@List.Sublist.refl
def Rn:=@Array.length_toList
def Ro:=@Nat.zero_add
def Rp:=@List.sublist_append_left
def Rq:=@Option.some.inj
def Rr:=@Ne.symm
def Ru:=@Array.getElem?_toList
def Rv:=@List.take_append_drop
def Rw:=@PySem.wpAny_callSpecial?_slot
def Rx:=@Option.some_ne_none
def Ry:=@List.getElem?_range
def Rz:=@PySem.W.kia_one
def RA:=@List.length_take
def RB:=@PySem.wpAny_call_entry
def RC:=@Int.toNat_natCast
def RE:=@bne_self_eq_false
def RG:=@PySem.wpAny_holding
def RH:=@List.flatMap_append
def RI:=@PySem.wpAny_mono
def RJ:=@List.exists_mem_of_ne_nil
def RK:=@Int.emod_lt_of_pos
def RL:=@congrArg
def RM:=@List.ext_getElem
def RN:=@PySem.wpAny_field
def RO:=@List.length_filter_le
def RP:=@List.getElem?_eq_none
def RQ:=@PySem.wpAny_Call_Name_kw
def RS:=@Nat.zero_le
def RT:=@PySem.Heap.size_push
def RU:=@PySem.wpAny_setField_rec
def RV:=@Nat.lt_irrefl
def RW:=@List.getElem?_set_self
def RX:=@List.flatMap_cons
def RY:=@Option.isSome_iff_exists
def RZ:=@List.Perm.refl
def R0:=@Int.emod_nonneg
def R3:=@List.length_drop
def R4:=@List.lookup_cons
def R5:=@List.not_mem_nil
def R6:=@PySem.wpAny_truthy_bool
def R7:=@beq_iff_eq
def R8:=@of_decide_eq_true
def R9:=@List.drop_eq_getElem_cons
def Sa:=@Option.getD_some
def Sb:=@List.nodup_range
def Sd:=@List.mem_flatMap
def Se:=@List.getElem?_set_ne
def Sf:=@Bool.or_eq_false_iff
def Sg:=@PySem.F.plainAttrs_list
def Sh:=@PySem.wpAny_setState_of
def Si:=@List.length_nil
def Sj:=@PySem.Heap.SameBut.update
def Sk:=@Nat.le_of_lt
def Sl:=@PyProof.Rows.callWith_type1
def Sm:=@PySem.W.cellsFrom_some
def Sn:=@Array.getD_eq_getD_getElem?
def So:=@List.any_cons
def Sq:=@PySem.wpAny_attempt
def Ss:=@List.getElem?_append_right
def Su:=@PySem.F.slot_tuple_iterator_next
def Sv:=@PySem.Obj.data_mapFields
def Sw:=@Array.perm_iff_toList_perm
def Sx:=@PySem.wpAny_passesOwn
def Sy:=@Bool.eq_iff_iff
def Sz:=@Nat.not_lt_zero
def SA:=@Nat.le_succ
def SE:=@List.ext_getElem?
def SG:=@List.pairwise_append
def SH:=@Option.some.injEq
def SJ:=@PySem.Around.under_plainId
def SK:=@List.take_add_one
def SM:=@List.getElem?_take_of_lt
def SN:=@PySem.mem_of_lookup
def SO:=@PySem.wpAny_setEntries_of
def SQ:=@if_false
def SS:=@PySem.wpAny_setField
def SV:=@List.length_eq_zero_iff
def SW:=@List.take_length
def SX:=@PySem.codeAny_mono
def SY:=@List.sublist_cons_self
def S0:=@List.take_of_length_le
def S1:=@Nat.lt_or_gt_of_ne
def S2:=@List.find?_cons
def S3:=@PySem.wpAny_updateSeq
def S4:=@PySem.codeAny_builtin
def S5:=@PySem.Obj.isFreed_of_fields
def S6:=@PySem.F.slot_enumerate_next
def S7:=@Nat.le_of_succ_le
def S8:=@Nat.lt_succ_of_lt
def S9:=@Option.ne_none_iff_exists'
def Tc:=@Array.getElem?_eq_some_iff
def Td:=@List.all_eq_true
def Te:=@Nat.min_eq_right
def Tf:=@List.isEmpty_nil
def Th:=@List.any_eq_true
def Ti:=@beq_eq_false_iff_ne
def Tj:=@PySem.W.hideAll_get
def Tn:=@List.filter_sublist
def To:=@List.length_reverse
def Tp:=@List.reverse_append
def Tq:=@PySem.AutoSeq1.wpAny_loadPart'
def Tt:=@Bool.not_true
def Tu:=@PySem.wpAny_execs_nil
def Tv:=@Option.map_some
def Tw:=@PySem.wpAny_ite_split
def Tz:=@List.filter_map
def TF:=@PySem.wpAny_rule
def TH:=@PySem.wpAny_pyIter_tuple
def TJ:=@List.filter_append
def TL:=@PyProof.Rows.F.plain_set_update_loop
def TM:=@List.pairwise_singleton
def TN:=@List.getElem?_cons_succ
def TQ:=@List.findIdx?_eq_some_iff_getElem
def TR:=@Nat.ne_of_gt
def TU:=@if_true
def TV:=@Nat.lt_trans
def TY:=@Option.map_eq_some_iff
def TZ:=@decide_eq_true_eq
def T4:=@List.append_eq_nil_iff
def T5:=@List.drop_eq_nil_of_le
def T6:=@List.length_eq_one_iff
def T7:=@List.filter_eq_nil_iff
def T8:=@PyProof.Rows.slot_tuple_getitem
def T9:=@List.length_singleton
def Ua:=@PySem.builtinLookup_eq_fast
def Ub:=@List.perm_append_comm
def Uc:=@List.getElem_inj
def Ud:=@PySem.wpAny_call
def Ue:=@PyProof.Rows.callWith_builtin1
def Ug:=@PySem.wpAny_isInstance
def Uh:=@PySem.wpAny_newList
def Ui:=@Nat.mul_le_mul_right
def Uj:=@List.of_mem_zip
def Uk:=@List.forIn_cons
def Ul:=@PySem.pushCells_keeps
def Um:=@Nat.min_eq_left
def Uo:=@Nat.max_eq_left
def Up:=@List.dropLast_concat_getLast
def Uq:=@List.filterMap_cons
def Ur:=@List.Sublist.append
def Us:=@PyProof.Rows.listItems_at
def Ut:=@List.getElem?_concat_length
def Uu:=@Nat.max_comm
def Uv:=@Nat.min_comm
def Uw:=@PySem.W.of_hideAll
def Ux:=@List.mem_filterMap
def Uy:=@PySem.Calls.spliced_cons
def Uz:=@PySem.W.callWith_K
def UA:=@PySem.wpAny_seqItems
def UB:=@List.length_mapIdx
def UC:=@List.pairwise_cons
def UD:=@List.contains_cons
def UE:=@Bool.false_xor
def UG:=@Nat.eq_zero_or_pos
def UH:=@PySem.isSubtype_type
def UI:=@List.length_eraseIdx_of_lt
def UJ:=@PySem.wpAny_fieldsOf
def UK:=@List.Nodup.sublist
def UL:=@decide_eq_true_iff
def UM:=@List.perm_ext_iff_of_nodup
def UN:=@List.pairwise_iff_getElem
def UO:=@List.findIdx?_eq_none_iff
def UP:=@PySem.Value.isInt_shape
def UQ:=@PySem.W.kitx_list
def UR:=@PySem.Calls.spliced_nil
def US:=@PySem.wpAny_of_eq
def UT:=@PySem.wpAny_pyIter_enum
def UU:=@PySem.wpAny_pyIter_list
def UW:=@PySem.fits_of_scanBound
def UX:=@PySem.PassesOwn.leaving
def UY:=@PySem.Paired.length
def UZ:=@PySem.wpAny_standAt
def U0:=@List.all_cons
def U1:=@PySem.plainId_quiet
def U3:=@Option.getD_none
def U4:=@Nat.lt_succ_self
def U5:=@List.drop_length
def U6:=@beq_self_eq_true
def U7:=@or_false
def U8:=@List.filter_cons
def U9:=@decide_eq_decide
def Va:=@PySem.call_meets
def Vb:=@Bool.or_true
def Vc:=@Nat.lt_or_ge
def Vd:=@Bool.and_false
def Ve:=@List.forIn_nil
namespace L2
variable {C a b dx f:Addr}{A:#[127]}{op:CmpOp}{c e tg:Expr}{fd:FuncData}{base h h':Heap}{pins:#[12]}{ch fp:#[9]}{es:List Expr}{body:List Stmt}{N ps:#[79]}{us:#[17]}{M:Model}{i t':Nat}{p pos:Pos}{P:#[83]}{s s':Shared}{x:Str}{mA mg:#[8]}{u:Value}{E Q:#[7]}{w:World}
def ex5 {α β:Sort _}{p q r:α->β->Prop}{C:Prop}(h:∃ a b,p a b/\q a b/\r a b)(k:∀ a b,p a b->q a b->r a b->C):C:=h.elim λ a h=>h.elim λ b h=>k a b h.1 h.2.1 h.2.2
open PySem PySem.Spec PyProof.Rows
def yh (h:Heap)(a:Addr)(items:#[152]):Prop:=∃ n,h.get? a=some { cls:=.type "tuple",data:=.seq items n }
def yh.is{items:#[152]}(x:yh h a items):IsTup h a items:=let ⟨n,e⟩:=x;⟨_,e,rfl,n,rfl⟩
def yh.new (h:Heap)(items:#[152]):yh (h.push { cls:=.type "tuple",data:=.seq items }) h.objs.size items:=⟨_,QI _ rfl⟩
abbrev Key:=Sum Int Str
def vD:Key->Value->Bool
 |.inl k,v=>Value.isInt k v
 |.inr x,v=>Value.isStrOf x v
def OT (w:World):Key->Int
 |.inl k=>hashInt k
 |.inr x=>hashStr w x
def dG:∀ {k:Key}{v:Value},vD k v=true->(∃ i t,k=Sum.inl i/\v=Value.int i t)\/(∃ x t,k=Sum.inr x/\v=Value.str x t)
 | .inl i,v,h=>by
  obtain⟨t,e⟩:=UP (k:=i) (v:=v) h;exact .inl ⟨i,t,rfl,e⟩
 | .inr x,v,h=>by
  obtain⟨t,e⟩:=Value.isStrOf_shape (x:=x) (v:=v) h;exact .inr ⟨x,t,rfl,e⟩
def Cy (i:Int)(t:Tok):vD (.inl i) (.int i t)=true:=by simp[vD,Value.isInt]
def CB (x:Str)(t:Tok):vD (.inr x) (.str x t)=true:=by simp[vD,Value.isStrOf]
def KU (a b:Int):decide ((Sum.inl a:Key)=Sum.inl b)=(a == b):=by
 by_cases e:a=b
 ·subst e;simp
 ·have h:¬ (Sum.inl a:Key)=Sum.inl b:=λ q=>e (Sum.inl.inj q);rw[QF h];exact(Ti.mpr e).symm
def Ky (a b:Str):decide ((Sum.inr a:Key)=Sum.inr b)=decide (a=b):=by
 by_cases e:a=b
 ·subst e;simp
 ·have h:¬ (Sum.inr a:Key)=Sum.inr b:=λ q=>e (Sum.inr.inj q);rw[QF h,QF e]
def Kz (a:Int)(b:Str):decide ((Sum.inl a:Key)=Sum.inr b)=false:=QF (λ q=>nomatch q)
def KQ (a:Str)(b:Int):decide ((Sum.inr a:Key)=Sum.inl b)=false:=QF (λ q=>nomatch q)
def fE (prog:#[83])(w:World):PySem.KeyKind prog w Key where
 is:=vD
 hash:=OT w
 inj:=λ v a b ha hb=>by
  rcases dG ha with ⟨i,t,rfl,rfl⟩|⟨x,t,rfl,rfl⟩
  ·rcases dG hb with ⟨j,u,rfl,e⟩|⟨y,u,rfl,e⟩
   ·injection e with e1 _;rw[e1]
   ·exact nomatch e
  ·rcases dG hb with ⟨j,u,rfl,e⟩|⟨y,u,rfl,e⟩
   ·exact nomatch e
   ·injection e with e1 _;rw[e1]
 byValue:=λ k v h=>by
  rcases dG h with ⟨i,t,rfl,rfl⟩|⟨x,t,rfl,rfl⟩<;>rfl
 pyHash:=λ hv h=>by
  rcases dG hv with ⟨i,t,rfl,rfl⟩|⟨x,t,rfl,rfl⟩
  ·exact wpAny_pyHash_int h
  ·exact wpAny_pyHash_str h
 eqBool:=λ hu hv h=>by
  rcases dG hu with ⟨i,t,rfl,rfl⟩|⟨x,t,rfl,rfl⟩
  ·rcases dG hv with ⟨j,u,rfl,rfl⟩|⟨y,u,rfl,rfl⟩
   ·rw[KU]at h;exact wpAny_eqBool_int h
   ·rw[Kz]at h;exact SeqAt.EqAt.int_str i t y u _ _ _ _ h
  ·rcases dG hv with ⟨j,u,rfl,rfl⟩|⟨y,u,rfl,rfl⟩
   ·rw[KQ]at h;exact SeqAt.EqAt.str_int x t j u _ _ _ _ h
   ·rw[Ky]at h;exact wpAny_eqBool_str h
 «strs» :=λ k x t v h=>by
  rcases dG h with ⟨i,u,rfl,e⟩|⟨y,u,rfl,e⟩
  ·exact nomatch e
  ·injection e with e1 _
   subst e1;cases v<;>rfl
def ym (prog:#[83])(w:World)(i:Int)(t:Tok):(fE prog w).is (.inl i) (.int i t)=true:=Cy i t
def yi (prog:#[83])(w:World)(x:Str)(t:Tok):(fE prog w).is (.inr x) (.str x t)=true:=CB x t
inductive V where
 |bW|bl (b:Bool)|int (i:Int)|str (x:Str)|Co (b:Array UInt8)|MK (b:UInt64)|ref (a:Addr)|ty (n:String)
 deriving DecidableEq
variable {xs:List V}{v:V}
def RelV:V->Value->Prop
 |.bW,u=>u=Value.none
 |.bl b,u=>u=Value.bool b
 |.int i,u=>∃ t,u=Value.int i t
 |.str x,u=>∃ t,u=Value.str x t
 |.Co b,u=>∃ t,u=Value.bytes b t
 |.MK b,u=>∃ t,u=Value.float b t
 |.ref a,u=>u=Value.ref a
 |.ty n,u=>u=Value.type n
abbrev Vals:List V->List Value->Prop:=Paired RelV
def Vals.length(r:Vals xs us):xs.length=us.length:=UY r
def Vals.get:∀ {xs:List V}{us:#[17]}{i:Nat}{x:V},Vals xs us->xs[i]?=some x->∃ u,us[i]?=some u/\RelV x u
 |_,_,_,_,.nil,e=>by simp at e
 |_,_,0,_,.cons r _,e=>by simp at e;subst e;exact⟨_,rfl,r⟩
 | _,_,i+1,x,.cons _ t,e=>by
  obtain⟨u,h1,h2⟩:=Vals.get (i:=i) (x:=x) t (by simpa using e);exact⟨u,by simpa using h1,h2⟩
def Vals.set {x:V}{u:Value}(r:RelV x u):∀ {xs:List V}{us:#[17]} (i:Nat),Vals xs us->Vals (xs.set i x) (us.set i u)
 |_,_,_,.nil=>.nil
 |_,_,0,.cons _ t=>.cons r t
 |_,_,i+1,.cons q t=>.cons q (Vals.set r i t)
def Vals.append:∀ {xs ys:List V}{us ws:#[17]},Vals xs us->Vals ys ws->Vals (xs++ys) (us++ws)
 |_,_,_,_,.nil,s=>s
 |_,_,_,_,.cons r t,s=>.cons r (Vals.append t s)
def Vals.take:∀ {xs:List V}{us:#[17]} (n:Nat),Vals xs us->Vals (xs.take n) (us.take n)
 |_,_,0,_=>.nil
 |_,_,_+1,.nil=>.nil
 |_,_,n+1,.cons r t=>.cons r (Vals.take n t)
def Vals.drop:∀ {xs:List V}{us:#[17]} (n:Nat),Vals xs us->Vals (xs.drop n) (us.drop n)
 |_,_,0,r=>r
 |_,_,_+1,.nil=>.nil
 |_,_,n+1,.cons _ t=>Vals.drop n t
def tm:Option V->Option Value->Prop
 |some v,some u=>RelV v u
 |none,none=>True
 |_,_=>False
def KV {κ:Type}:List (κ×V)->List (κ×Value)->Prop:=Paired λ (p:κ×V) (q:κ×Value)=>p.1=q.1/\RelV p.2 q.2
def kV:Key->V
 |.inl i=>.int i
 |.inr x=>.str x
inductive HO where
 |lst (xs:List V)
 |tup (xs:List V)
 |dK (kvs:List (Key×V)) (ep:Nat)|dT (kvs:List (List Key×V)) (ep:Nat)
 |set (S:Int->Bool) (n:Nat)
 |ins (C dx:Addr) (fs:List (Str×V))
 |own (x:Addr)
 |xd (fs:List (Str×V))
 |met (f x:Addr)
 |Oj (lo hi:Int)
 |av (o:Obj) (u:HO)
 |JM (ps:#[152])
 |ext (φ:Heap->Prop)
variable {o:HO}
abbrev Hp:=Addr->Option HO
variable {H H':Hp}
def upd (H:Hp)(a:Addr)(o:HO):Hp:=λ b=>if b=a then some o else H b
def bI:upd H a o a=some o:=by unfold upd;rw[QG rfl]
def aZ(h:b≠a):upd H a o b=H b:=by unfold upd;rw[QK h]
def M4{u:HO}(h:H a=some o)(h':H b=some u)(d:o≠u):a≠b:=by
 intro e;subst e;rw[h]at h';exact d (Rq h')
def dh(h:H a=some o)(h':H b=none):a≠b:=by
 intro e;subst e;rw[h]at h';cases h'
section
variable (P:#[83])(w:World)
def cY (H:Hp)(h:Heap)(a:Addr):HO->Prop
 |.lst xs=>xs.length<=sizeLine/\∃ (its:#[17]) (n:Nat),Vals xs its/\h.get? a=some { cls:=.type "list",data:=.seq its.toArray n }
 |.tup xs=>xs.length<=sizeLine/\∃ its:List Value,Vals xs its/\yh h a its.toArray
 |.dK kvs ep=>kvs.length<=sizeLine/\(a == sysModules)=false/\∃ vs,KV kvs vs/\h.DictAt (fE P w) a vs ep
 | .dT kvs ep=>kvs.length<=sizeLine/\(a == sysModules)=false/\∃ xs:List (List Key×Addr×Value),
   Paired (λ (p:List Key×V) (q:List Key×Addr×Value)=>p.1=q.1/\H q.2.1=some (.tup (p.1.map kV))/\RelV p.2 q.2.2) kvs xs /\
   ∃ o es,h.get? a=some o/\o.ExactDict/\o.data=.dict es ep/\es.toList=xs.map (entryOfKey (tupleKind (fE P w)))/\(xs.map (·.1)).Nodup
 |.set S n=>h.SetOf (intKind P w) a S n
 | .ins C dx fs=>H dx=some (.own a)/\fs.length<=1000/\dx≠a/\h.get? a=some (PySem.W.instObj C dx) /\
   ∃ mA,h.Ns1 dx mA/\(∀ f,tm (fs.lookup f) (mA f))/\PySem.Within mA (fs.map (·.1))
 |.own _=>∃ o,h.get? a=some o
 |.xd fs=>∃ mA,h.Ns1 a mA/\∀ f,tm (fs.lookup f) (mA f)
 |.Oj lo hi=>∃ t u v,h.get? a=some { cls:=.type "range",data:=.fields #[.int lo t,.int hi u,.int 1 v] }
 |.av o u=>h.get? a=some o/\cY H h a u
 |.JM ps=>h.get? a=some { cls:=.none,data:=.fields ps }
 |.met f x=>h.get? a=some (PySem.W.methodObj (.ref f) (.ref x))
 |.ext φ=>φ h/\(∃ o,h.get? a=some o)/\∀ h1 h2:Heap,φ h1->(∀ o,h1.get? a=some o->h2.get? a=some o)->φ h2
def lj (H:Hp)(h:Heap):Prop:=∀ a o,H a=some o->cY P w H h a o
end
section
def cY.lt (x:cY P w H h a o):a<h.objs.size:=by
 cases o with
 |lst xs=>obtain⟨_,_,_,_,e⟩:=x;exact QC e|tup xs=>obtain⟨_,_,_,p⟩:=x;exact p.is.lt|dK kvs ep=>obtain⟨_,_,_,_,o,_,e,_⟩:=x;exact QC e|dT kvs ep=>obtain⟨_,_,_,_,o,_,e,_⟩:=x;exact QC e|set S n=>obtain⟨o,_,_,_,e,_⟩:=x;exact QC e|ins C dx fs=>obtain⟨_,_,_,e,_⟩:=x;exact QC e|own y=>obtain⟨_,e⟩:=x;exact QC e|xd fs=>obtain⟨_,⟨_,_,_,e,_⟩,_⟩:=x;exact QC e|Oj lo hi=>obtain⟨_,_,_,e⟩:=x;exact QC e|av ob u=>obtain⟨e,_⟩:=x;exact QC e|JM ps=>exact QC (show h.get? a=some _ from x)|met f y=>exact QC (show h.get? a=some _ from x)|ext φ=>obtain⟨_,⟨_,e⟩,_⟩:=x;exact QC e
def Paired.Kq {α β:Type}{F G:α->β->Prop}:∀ {l₁:List α}{l₂:List β},Paired F l₁ l₂->(∀ a b,F a b->G a b)->Paired G l₁ l₂
 |_,_,.nil,_=>.nil
 |_,_,.cons r t,f=>.cons (f _ _ r) (Paired.Kq t f)
def cY.stay (x:cY P w H h a o)(k:∀ b u,(b=a\/H b=some (.own a))->h.get? b=some u->h'.get? b=some u)
  (ho:∀ b,H b=some (.own a)->H' b=some (.own a)) (ht:∀ b xs,H b=some (.tup xs)->H' b=some (.tup xs)):cY P w H' h' a o:=by
 induction o with
 |lst xs=>obtain⟨z,its,n,r,e⟩:=x;exact⟨z,its,n,r,k _ _ (.inl rfl) e⟩| tup xs=>obtain⟨z,its,r,n,e⟩:=x;exact⟨z,its,r,n,k _ _ (.inl rfl) e⟩| dK kvs ep=>obtain⟨z,y,vs,r,ob,es,e,c⟩:=x;exact⟨z,y,vs,r,ob,es,k _ _ (.inl rfl) e,c⟩
 | dT kvs ep =>
  obtain⟨z,y,xs,r,ob,es,e,c⟩:=x;exact⟨z,y,xs,Paired.Kq r λ p q z=>⟨z.1,ht _ _ z.2.1,z.2.2⟩,ob,es,k _ _ (.inl rfl) e,c⟩
 |set S n=>obtain⟨ob,es,ep,t,e,c⟩:=x;exact⟨ob,es,ep,t,k _ _ (.inl rfl) e,c⟩
 | ins C dx fs =>
  obtain⟨d,z,ne,e,mA,⟨od,es,ep,e2,c⟩,r⟩:=x;exact⟨ho _ d,z,ne,k _ _ (.inl rfl) e,mA,⟨od,es,ep,k _ _ (.inr d) e2,c⟩,r⟩
 |own y=>obtain⟨ob,e⟩:=x;exact⟨ob,k _ _ (.inl rfl) e⟩| xd fs=>obtain⟨mA,⟨od,es,ep,e,c⟩,r⟩:=x;exact⟨mA,⟨od,es,ep,k _ _ (.inl rfl) e,c⟩,r⟩| Oj lo hi=>obtain⟨t,u,v,e⟩:=x;exact⟨t,u,v,k _ _ (.inl rfl) e⟩| av ob u ih=>obtain⟨e,q⟩:=x;exact⟨k _ _ (.inl rfl) e,ih q⟩
 | JM ps =>
  have e:h.get? a=some { cls:=.none,data:=.fields ps }:=x;show h'.get? a=some { cls:=.none,data:=.fields ps };exact k a _ (.inl rfl) e
 | met f y =>
  have e:h.get? a=some (PySem.W.methodObj (.ref f) (.ref y)):=x;show h'.get? a=some (PySem.W.methodObj (.ref f) (.ref y));exact k a _ (.inl rfl) e
 |ext φ=>obtain⟨p,⟨o,e⟩,st⟩:=x;exact⟨st _ _ p λ o q=>k _ _ (.inl rfl) q,⟨o,k _ _ (.inl rfl) e⟩,st⟩
def lj.lt (x:lj P w H h)(e:H a=some o):a<h.objs.size:=(x a o e).lt
def lj.fresh (x:lj P w H h)(e:h.objs.size<=a):H a=none:=by
 cases q:H a with
 |none=>rfl|some u=>exact absurd (Q0 (x.lt q) e) (RV _)
def lj.kept (x:lj P w H h)(k:∀ b u,h.get? b=some u->h'.get? b=some u):lj P w H h':=λ a o e=>
 (x a o e).stay (λ b u _ q=>k b u q) (λ _ q=>q) λ _ _ q=>q
def lj.laid (x:lj P w H h)(k:∀ b u,h.get? b=some u->h'.get? b=some u)(hp:h.objs.size<=a)(new:cY P w (upd H a o) h' a o):lj P w (upd H a o) h':=λ b u e=>by
 have hn:=x.fresh hp;by_cases hb:b=a
 ·subst hb;rw[bI]at e;cases e;exact new
 ·rw[aZ hb]at e;exact(x b u e).stay (λ c v _ q=>k c v q) (λ c q=>by rw[aZ (dh q hn)];exact q) λ c xs q=>by rw[aZ (dh q hn)];exact q
end
def Rd (H:Hp)(a:Addr)(u:HO):Prop:=H a=some u\/∃ o,H a=some (.av o u)
def Rd.ok{u:HO}(r:Rd H a u)(x:lj P w H h):cY P w H h a u:=by
 rcases r with r|⟨o,r⟩
 ·exact x a u r
 ·obtain⟨_,q⟩:=x a _ r;exact q
def M0:Option HO->Prop
 |some (.lst _)=>True
 |some (.dK _ _)=>True
 |some (.dT _ _)=>True
 |some (.set _ _)=>True
 |some (.ins _ _ _)=>True
 |some (.ext _)=>True
 |_=>False
section
variable{x e:Addr}{o':HO}
def lj.write (ok:lj P w H h)(mu:M0 (H x))(he:e=x\/H e=some (.own x))(k:∀ b u,b≠e->h.get? b=some u->h'.get? b=some u)(heo:∃ u,h'.get? e=some u)
  (new:cY P w (upd H x o') h' x o'):lj P w (upd H x o') h':=λ b u q=>by
 have nown:∀ c y,H c=some (.own y)->c≠x:=λ c y r z=>by subst z;rw[r]at mu;exact mu
 have ntup:∀ c xs,H c=some (.tup xs)->c≠x:=λ c xs r z=>by subst z;rw[r]at mu;exact mu
 by_cases hb:b=x
 ·subst hb;rw[bI]at q;cases q;exact new
 ·rw[aZ hb]at q;by_cases hbe:b=e
  ·have q':H b=some (.own x):=by
    rcases he with z|z
    ·exact absurd (hbe.trans z) hb
    ·rw[hbe];exact z
   rw[q]at q';cases q';obtain⟨v,hv⟩:=heo;exact⟨v,by rw[hbe];exact hv⟩
  ·refine(ok b u q).stay (λ c v hc r=>k c v ?_ r) (λ c r=>by rw[aZ (nown c b r)];exact r) λ c xs r=>by rw[aZ (ntup c xs r)];exact r
   rcases hc with rfl|hc
   ·exact hbe
   ·rintro rfl;rcases he with z|z
    ·exact nown c b hc z
    ·rw[hc]at z;cases z;exact hb rfl
end
structure Un (fs ex:List Addr)(H H':Hp)(h h':Heap):Prop where
 keep:∀ b o,h.get? b=some o->H b=none->b∉fs->b∉ex->h'.get? b=some o
 slot:∀ b o,h.get? b=some o->H b=none->b∈fs->b∉ex->∃ sl,h'.get? b=some { o with slots:=sl }
 free:∀ b o,h.get? b=some o->H b=none->b∉ex->H' b=none
 there:∀ b o,h.get? b=some o->b∉ex->∃ o',h'.get? b=some o'
 tups:∀ b xs,H b=some (.tup xs)->H' b=some (.tup xs)
 oV:∀ b o u,H b=some (.av o u)->H' b=some (.av o u)
 qE:∀ b ps,H b=some (.JM ps)->∃ more,H' b=some (.JM (ps++more))
section
variable {fs fs' ex ex':#[9]}{H1 H2:Hp}{h1 h2:Heap}{x e:Addr}
def Un.any (u:Un fs ex H H1 h h1){ob:Obj}(q:h.get? b=some ob)(n:H b=none)(hx:b∉ex):∃ sl,h1.get? b=some { ob with slots:=sl }:=by
 by_cases hb:b∈fs
 ·exact u.slot b ob q n hb hx
 ·exact⟨ob.slots,u.keep b ob q n hb hx⟩
def Un.kept (k:∀ b u,h.get? b=some u->h'.get? b=some u):Un fs ex H H h h':=
 ⟨λ b ob q _ _ _=>k b ob q,λ b ob q _ _ _=>⟨ob.slots,k b ob q⟩,λ _ _ _ n _=>n,λ b ob q _=>⟨ob,k b ob q⟩,λ _ _ q=>q,λ _ _ _ q=>q,λ _ ps q=>⟨#[],by rw[q];simp⟩⟩
def Un.refl:Un fs ex H H h h:=Un.kept λ _ _ q=>q
def Un.laid (k:∀ b u,h.get? b=some u->h'.get? b=some u)(hp:h.objs.size<=a)(hn:H a=none):Un fs ex H (upd H a o) h h' where
 keep:=λ b u q _ _ _=>k b u q
 slot:=λ b u q _ _ _=>⟨u.slots,k b u q⟩
 free:=λ b u q n _=>by rw[aZ (QT (Q0 (QC q) hp))];exact n
 there:=λ b u q _=>⟨u,k b u q⟩
 tups:=λ b xs q=>by rw[aZ (dh q hn)];exact q
 oV:=λ b u xs q=>by rw[aZ (dh q hn)];exact q
 qE:=λ b ps q=>⟨#[],by rw[aZ (dh q hn),q];simp⟩
def Un.write (mu:M0 (H x))(he:e=x\/H e=some (.own x))(k:∀ b u,b≠e->h.get? b=some u->h'.get? b=some u)(heo:∃ u,h'.get? e=some u):Un fs ex H (upd H x o) h h':=by
 have hx:∀ b,H b=none->b≠x:=λ b n z=>by subst z;rw[n]at mu;exact mu
 have hb:∀ b,H b=none->b≠e:=λ b n z=>by
  subst z;rcases he with r|r
  ·exact hx b n r
  ·rw[n]at r;cases r
 have hm:∀ b u,H b=some u->¬ M0 (some u)->b≠x:=λ b u q nm z=>by subst z;rw[q]at mu;exact nm mu
 refine⟨λ b u q n _ _=>k b u (hb b n) q,λ b u q n _ _=>⟨u.slots,k b u (hb b n) q⟩,λ b u q n _=>by rw[aZ (hx b n)];exact n,λ b u q _=>?_,
  λ b xs q=>by rw[aZ (hm b _ q λ z=>z)];exact q,λ b u xs q=>by rw[aZ (hm b _ q λ z=>z)];exact q,λ b ps q=>⟨#[],by rw[aZ (hm b _ q λ z=>z),q];simp⟩⟩
 by_cases hbe:b=e
 ·subst hbe;exact heo
 ·exact⟨u,k b u hbe q⟩
end
def Oh (h:Heap)(H:Hp):List Addr:=(List.range h.objs.size).filter λ a=>(H a).isSome
def wW (h:Heap)(H:Hp):Heap:=PySem.W.hideAll h (Oh h H)
def Ck (h:Heap)(H:Hp):(wW h H).objs.size=h.objs.size:=PySem.W.hideAll_size _ _
def D7{o:Obj}(e:h.get? b=some o)(n:H b=none):(wW h H).get? b=some o:=
 Tj _ e λ hm=>by
  have q:(H b).isSome=true:=(Q3.mp hm).2;rw[n]at q;simp at q
def Hv{o:Obj}(e:(wW h H).get? b=some o):h.get? b=some o/\H b=none:=by
 have e':h.get? b=some o:=Uw (Oh h H) e;refine⟨e',?_⟩;cases q:H b with
 |none=>rfl
 | some x =>
  have hm:b∈Oh h H:=Q3.mpr ⟨QU.mpr (QC e'),by simp[q]⟩;have z:(wW h H).get? b=none:=PySem.W.hideAll_none (Oh h H) hm;rw[z]at e;cases e
structure Mod (K:PySem.W.Frag)(mg:Str->Option Value)(base:Heap):Prop where
 Ku:K.In base
 glob:base.Ns mainGlobals mg
 blt:∃ mb,base.Ns builtinsNs mb/\∀ x:Str,x ≠ "__name__" -> mb x=bootBuiltins x
 nolimit:base.NoLimit
structure Cx where
 prog:Program
 w:World
 K:PySem.W.Frag
 mg:Str->Option Value
 base:Heap
 A:Around
 N:List Str
 s₀:Shared
 H₀:Hp
 env:Env
 outer:List Env
 stack:List Env
 ex:List Addr
 fn:Str->Bool
 calm:Bool
 pn:List (Addr×Obj)
 xe:Value->Shared->Prop
variable {X:Cx}
def frs (l:#[139]):List Addr:=l.filterMap (·.frame)
abbrev Cx.fs (X:Cx):List Addr:=frs X.outer
def zS (sc:Scope)(x:Str):Prop:=sc.names.lookup x=some .local\/sc.names.lookup x=some .cell\/sc.names.lookup x=some .free
def Loc (sc:Scope)(x:Str):Prop:=sc.names.lookup x=some .local\/sc.names.lookup x=some .cell
def Look (env:Env)(h:Heap)(m:#[8])(x:Str)(u:Value):Prop:=
 (env.kindOf x=some .local/\m x=some u)\/((env.kindOf x=some .cell\/env.kindOf x=some .free)/\∃ c,env.cells.lookup x=some c/\h.IsCell c (some u))
structure Cx.Ok (X:Cx):Prop where
 mod:Mod X.K X.mg X.base
 kind:X.env.scope.kind=.function
 glob:X.env.globals=mainGlobals
 blt:X.env.builtins=builtinsNs
 above:X.s₀.heap.objs.size<=X.env.locals
 inj:∀ x y c,X.env.cells.lookup x=some c->X.env.cells.lookup y=some c->x=y
 has:∀ x,(X.env.kindOf x=some .cell\/X.env.kindOf x=some .free)->∃ c,X.env.cells.lookup x=some c
 G8:∀ x c,X.fn x=true->X.env.cells.lookup x=some c->X.s₀.heap.objs.size<=c
 hd:X.calm=true->X.A.handled=none
 frames:X.A.frames=some X.stack
 Hh:X.stack=X.outer\/(X.stack=X.env::X.outer/\X.env.frame=some X.env.locals)
 JO:∀ b∈X.ex,b≠X.env.locals/\∀ x c,X.env.cells.lookup x=some c->c≠b
 bs:∀ b o,X.base.get? b=some o->X.s₀.heap.get? b=some o/\X.H₀ b=none
 zY:X.base.objs.size<=X.s₀.heap.objs.size
 u7:∀ b o,X.base.get? b=some o->b∉X.ex
 u9:∀ b∈X.ex,b∉X.fs
 jZ:X.s₀.heap.FunFrames X.base X.outer
 Cq:∀ b∈X.fs,X.H₀ b=none
structure Inv (X:Cx)(pins:List (Addr×Obj))(σ:List (Option V))(H:Hp)(s:Shared):Prop where
 ok:X.Ok
 os:s.os=X.s₀.os
 bare:AllBare s.gens
 base:Un X.fs X.ex X.H₀ H X.s₀.heap s.heap
 loc:∃ m,s.heap.Ns X.env.locals m/\∀ (i:Nat) (x:Str) (v:V),X.N[i]?=some x->σ[i]?=some (some v)->zS X.env.scope x->∃ u,RelV v u/\Look X.env s.heap m x u
 cell:∀ x c,X.env.cells.lookup x=some c->∃ v,s.heap.IsCell c v
 free:H X.env.locals=none
 gO:∀ x c,X.env.cells.lookup x=some c->H c=none
 pin:∀ p∈X.pn++pins,s.heap.get? p.1=some p.2/\H p.1=none/\p.1≠X.env.locals/\p.1∉X.fs/\∀ v,p.2.data ≠ .cell v
 hok:lj X.prog X.w H s.heap
 len:σ.length=X.N.length
section
variable{σ:List (Option V)}
def Cx.Ok.OH (ok:X.Ok){o:Obj}(e:X.base.get? b=some o):b∉X.fs:=λ hb=>by
 have:=(ok.jZ.mem hb).1;rw[e]at this;cases this
def Inv.bs (I:#[4]):∀ b o,X.base.get? b=some o->s.heap.get? b=some o/\H b=none:=λ b o e=>
 ⟨I.base.keep b o (I.ok.bs b o e).1 (I.ok.bs b o e).2 (I.ok.OH e) (I.ok.u7 b o e),I.base.free b o (I.ok.bs b o e).1 (I.ok.bs b o e).2 (I.ok.u7 b o e)⟩
def Inv.bk (I:#[4]):∀ b o,X.base.get? b=some o->s.heap.get? b=some o:=λ b o e=>(I.bs b o e).1
def Inv.mod (I:#[4]):Mod X.K X.mg X.base:=I.ok.mod
def Inv.qC (I:#[4]):X.K.In s.heap:=I.ok.mod.Ku.keeps I.bk
def Inv.lt (I:#[4]):X.env.locals<s.heap.objs.size:=let ⟨_,hn,_⟩:=I.loc;hn.lt
def Inv.sz (I:#[4]):X.s₀.heap.objs.size<=s.heap.objs.size:=QX I.ok.above (Sk I.lt)
def Inv.OO (I:#[4])(h:s.heap.objs.size<=a):a∉X.fs:=λ hb=>by
 obtain⟨_,o,ho,_⟩:=I.ok.jZ.mem hb;exact absurd (Q0 (QC ho) (QX I.sz h)) (RV _)
def Inv.D4 (I:#[4]):∀ x c,X.env.cells.lookup x=some c->c≠X.env.locals:=λ x c e z=>by
 obtain⟨v,o,ho,hd⟩:=I.cell x c e;obtain⟨m,⟨o',es,ep,ho',hd',_⟩,_⟩:=I.loc;rw[z,ho']at ho;cases ho;rw[hd']at hd;cases hd
def Inv.jZ (I:#[4]):s.heap.FunFrames X.base X.outer:=by
 have all:∀ (l:#[139]),(∀ b∈frs l,b∈X.fs)->X.s₀.heap.FunFrames X.base l->s.heap.FunFrames X.base l:=by
  intro l
  induction l with
  |nil=>intro _ _;trivial
  | cons env r ih =>
   intro hs hl;obtain⟨hk,⟨L,o,hf,hn,ho,hd⟩,hr⟩:=hl;have hL:L∈X.fs:=hs L (by unfold frs;rw[Uq,hf];exact Qx);obtain⟨sl,e⟩:=I.base.slot L o ho (I.ok.Cq L hL) hL λ z=>I.ok.u9 L z hL;exact⟨hk,⟨L,_,hf,hn,e,hd⟩,ih (λ b hb=>hs b (by unfold frs;rw[Uq,hf];exact Qw _ hb)) hr⟩
 exact all X.outer (λ _ hb=>hb) I.ok.jZ
def Inv.stack (I:#[4]):s.heap.FunFrames X.base X.stack:=by
 rcases I.ok.Hh with e|⟨e,hf⟩
 ·rw[e];exact I.jZ
 ·rw[e];obtain⟨m,hn,_⟩:=I.loc;refine .cons (by rw[I.ok.kind];decide) hf hn ?_ I.jZ;exact Heap.get?_none_of_le (QX I.ok.zY I.ok.above)
def Inv.qD (I:#[4]):∀ b∈frs X.stack,b∈X.env.locals::X.fs:=λ b hb=>by
 rcases I.ok.Hh with e|⟨e,hf⟩
 ·rw[e]at hb;exact Qw _ hb
 ·rw[e]at hb;unfold frs at hb;rw[Uq,hf]at hb;exact hb
def Inv.wU (I:#[4]):∀ b∈frs X.stack,H b=none:=λ b hb=>by
 rcases QA.mp (I.qD b hb) with e|hb
 ·rw[e];exact I.free
 ·obtain⟨_,o,ho,_⟩:=I.ok.jZ.mem hb;exact I.base.free b o ho (I.ok.Cq b hb) λ z=>I.ok.u9 b z hb
def Inv.step {g':Array GenState}{d':Drawn}(I:#[4])
  (hch:#[55])
  (keep:∀ b o,b≠X.env.locals->b∉X.fs->b∉ch->s.heap.get? b=some o->H b=none->h'.get? b=some o)
  (slot:∀ b o,b≠X.env.locals->b∈X.fs->b∉ch->s.heap.get? b=some o->H b=none->∃ sl,h'.get? b=some { o with slots:=sl }) (free:∀ b o,b∉ch->s.heap.get? b=some o->H b=none->H' b=none)
  (there:∀ b o,b∉ch->s.heap.get? b=some o->∃ o',h'.get? b=some o')
  (tups:∀ b xs,H b=some (.tup xs)->H' b=some (.tup xs)) (oV:∀ b o u,H b=some (.av o u)->H' b=some (.av o u)) (qE:∀ b ps,H b=some (.JM ps)->∃ more,H' b=some (.JM (ps++more)))
  (ns:∀ m,s.heap.Ns X.env.locals m->h'.Ns X.env.locals m) (hok:lj X.prog X.w H' h') (hg:AllBare g') :
  Inv X pins σ H' { s with heap:=h',gens:=g',drawn:=d',toks:=t' }:=by
 have neL:∀ b o,X.s₀.heap.get? b=some o->b≠X.env.locals:=λ b o e=>QT (Q0 (QC e) I.ok.above);have neC:∀ b o,X.s₀.heap.get? b=some o->b∉X.ex->b∉ch:=λ b o e hx hb=>by
  rcases (hch b hb).1 with z|z
  ·exact hx z
  ·exact absurd (Q0 (QC e) z) (RV _)
 have cellK:∀ x c,X.env.cells.lookup x=some c->∀ v,s.heap.IsCell c v->h'.IsCell c v:=λ x c e v ⟨o,ho,hd⟩=>by
  have nch:c∉ch:=λ z=>(hch c z).2.2.1 x c e rfl;by_cases hc:c∈X.fs
  ·obtain⟨sl,q⟩:=slot c o (I.D4 x c e) hc nch ho (I.gO x c e);exact⟨_,q,hd⟩
  ·exact⟨o,keep c o (I.D4 x c e) hc nch ho (I.gO x c e),hd⟩
 refine⟨I.ok,I.os,hg,⟨λ b o e n hb hx=>?_,λ b o e n hb hx=>?_,λ b o e n hx=>?_,λ b o e hx=>?_,λ b xs e=>tups b xs (I.base.tups b xs e),λ b o xs e=>oV b o xs (I.base.oV b o xs e),λ b ps e=>?_⟩,?_,λ x c e=>?_,?_,λ x c e=>?_,λ p hp=>?_,hok,I.len⟩
 ·exact keep b o (neL b o e) hb (neC b o e hx) (I.base.keep b o e n hb hx) (I.base.free b o e n hx)
 ·obtain⟨sl,e1⟩:=I.base.slot b o e n hb hx;obtain⟨sl',e2⟩:=slot b _ (neL b o e) hb (neC b o e hx) e1 (I.base.free b o e n hx);exact⟨sl',e2⟩
 ·obtain⟨o',e1⟩:=I.base.there b o e hx;exact free b o' (neC b o e hx) e1 (I.base.free b o e n hx)
 ·obtain⟨o',e1⟩:=I.base.there b o e hx;exact there b o' (neC b o e hx) e1
 ·obtain⟨m1,e1⟩:=I.base.qE b ps e;obtain⟨m2,e2⟩:=qE b _ e1;exact⟨m1++m2,by rw[e2,Array.append_assoc]⟩
 ·obtain⟨m,hn,hl⟩:=I.loc;refine⟨m,ns m hn,λ i x v e1 e2 e3=>?_⟩;obtain⟨u,r,l⟩:=hl i x v e1 e2 e3;refine⟨u,r,?_⟩;rcases l with l|⟨k,c,e,z⟩
  ·exact .inl l
  ·exact .inr ⟨k,c,e,cellK x c e _ z⟩
 ·obtain⟨v,z⟩:=I.cell x c e;exact⟨v,cellK x c e v z⟩
 ·obtain⟨m,⟨o,_,_,ho,_⟩,_⟩:=I.loc;exact free _ o (λ z=>(hch _ z).2.1 rfl) ho I.free
 ·obtain⟨v,o,ho,hd⟩:=I.cell x c e;exact free c o (λ z=>(hch c z).2.2.1 x c e rfl) ho (I.gO x c e)
 ·obtain⟨e,n,ne,nf,d⟩:=I.pin p hp;have nch:p.1∉ch:=λ z=>(hch p.1 z).2.2.2 p hp rfl;exact⟨keep p.1 p.2 ne nf nch e n,free p.1 p.2 nch e n,ne,nf,d⟩
def Inv.un(I:#[4])(u:Un X.fs [] H H' s.heap h')(hok:lj X.prog X.w H' h'):Inv X pins σ H' { s with heap:=h',toks:=t' }:=by
 obtain⟨m,⟨o,es,ep,ho,r⟩,_⟩:=id I.loc;obtain⟨sl,hL⟩:=u.any ho I.free #[32];exact I.step (g':=s.gens) (d':=s.drawn) (ch:=[]) (λ _ z=>nomatch z) (λ b o _ hb _ e n=>u.keep b o e n hb #[32]) (λ b o _ hb _ e n=>u.slot b o e n hb #[32]) (λ b o _ e n=>u.free b o e n #[32]) (λ b o _ e=>u.there b o e #[32]) u.tups u.oV u.qE (λ m' hm=>by
  obtain⟨o',es',ep',ho',r'⟩:=hm;rw[ho]at ho';cases ho';exact⟨_,es',ep',hL,r'⟩) hok I.bare
def Inv.call {g':Array GenState}{d':Drawn}(I:#[4])(u:Un (frs X.stack) ch H H' s.heap h')(hok:lj X.prog X.w H' h')(hg:AllBare g')
  (hch:#[55]) :
  Inv X pins σ H' { s with heap:=h',gens:=g',drawn:=d',toks:=t' }:=by
 obtain⟨m,⟨o,es,ep,ho,r⟩,_⟩:=id I.loc;obtain⟨sl,hL⟩:=u.any ho I.free λ z=>(hch _ z).2.1 rfl;exact I.step (ch:=ch) hch (λ b o hL hb hc e n=>u.keep b o e n (λ z=>(QA.mp (I.qD b z)).elim hL hb) hc) (λ b o _ _ hc e n=>u.any e n hc) (λ b o hc e n=>u.free b o e n hc) (λ b o hc e=>u.there b o e hc) u.tups u.oV u.qE (λ m' hm=>by
  obtain⟨o',es',ep',ho',r'⟩:=hm;rw[ho]at ho';cases ho';exact⟨_,es',ep',hL,r'⟩) hok hg
def Inv.turned{it:Addr}(I:#[4])(k:∀ b o,b≠it->s.heap.get? b=some o->h'.get? b=some o)(hn:H it=none)(hL:it≠X.env.locals)
  (h1:it∈X.ex\/X.s₀.heap.objs.size<=it) (h2:∀ x c,X.env.cells.lookup x=some c->c≠it) (h3:∀ p∈X.pn++pins,p.1≠it):Inv X pins σ H { s with heap:=h',toks:=t' }:=by
 have nit:∀ b u,H b=some u->b≠it:=λ b u e z=>by rw[z,hn]at e;cases e
 refine I.step (g':=s.gens) (d':=s.drawn) (ch:=[it]) (λ b hb=>?_) (λ b o _ _ hc e _=>k b o (λ z=>hc (by simp[z])) e) (λ b o _ _ hc e _=>⟨o.slots,k b o (λ z=>hc (by simp[z])) e⟩) (λ _ _ _ _ n=>n)
  (λ b o hc e=>⟨o,k b o (λ z=>hc (by simp[z])) e⟩) (λ _ _ e=>e) (λ _ _ _ e=>e) (λ b ps e=>⟨#[],by rw[e];simp⟩) (λ m hm=>?_) (λ b u e=>?_) I.bare
 ·have e:b=it:=by simpa using hb
  subst e;exact⟨h1,hL,h2,h3⟩
 ·obtain⟨o,es,ep,ho,r⟩:=hm;exact⟨o,es,ep,k _ o (Rr hL) ho,r⟩
 ·refine(I.hok b u e).stay (λ c v hc q=>k c v ?_ q) (λ _ q=>q) λ _ _ q=>q;rcases hc with z|z
  ·rw[z];exact nit b u e
  ·exact nit c _ z
def Inv.tok (I:#[4])(t:Nat):Inv X pins σ H { s with toks:=t }:=I.un (h':=s.heap) (t':=t) Un.refl I.hok
def Inv.kept(I:#[4])(k:∀ b u,s.heap.get? b=some u->h'.get? b=some u):Inv X pins σ H { s with heap:=h',toks:=t' }:=I.un (Un.kept k) (I.hok.kept k)
def Inv.laid(I:#[4])(k:∀ b u,s.heap.get? b=some u->h'.get? b=some u)(hp:s.heap.objs.size<=a)(new:cY X.prog X.w (upd H a o) h' a o) :
  Inv X pins σ (upd H a o) { s with heap:=h',toks:=t' }:=I.un (Un.laid k hp (I.hok.fresh hp)) (I.hok.laid k hp new)
def Inv.write {x e:Addr}(I:#[4])(mu:M0 (H x))(he:e=x\/H e=some (.own x))(k:∀ b u,b≠e->s.heap.get? b=some u->h'.get? b=some u)(heo:∃ u,h'.get? e=some u)
  (new:cY X.prog X.w (upd H x o) h' x o):Inv X pins σ (upd H x o) { s with heap:=h',toks:=t' }:=I.un (Un.write mu he k heo) (I.hok.write mu he k heo new)
def Inv.wQ {pins':#[12]}(I:#[4])(h:∀ p∈pins',s.heap.get? p.1=some p.2/\H p.1=none/\p.1≠X.env.locals/\p.1∉X.fs/\∀ v,p.2.data ≠ .cell v):Inv X pins' σ H s:=
 ⟨I.ok,I.os,I.bare,I.base,I.loc,I.cell,I.free,I.gO,λ p hp=>(QH.mp hp).elim (λ z=>I.pin p (QR _ z)) (h p),I.hok,I.len⟩
def yn(hN:N.Nodup){j:Nat}(a:N[i]?=some x)(b:N[j]?=some x):i=j:=by
 obtain⟨h1,e1⟩:=Qt.mp a;obtain⟨h2,e2⟩:=Qt.mp b;exact(Uc hN).mp (e1.trans e2.symm)
def vE{Q:Unit->Shared->Prop}(I:#[4])(hN:X.N.Nodup)(hi:#[78])(hx:#[189])(r:RelV v u)
  (h:∀ s',Inv X pins (σ.set i (some v)) H s'->(∃ a,Heap.SameBut a s.heap s'.heap/\(a=X.env.locals\/X.env.cells.lookup x=some a))->Q () s') (hf:#[23]:=by first|exact .inl rfl|exact .inr rfl|assumption):wpAny M A (storeName X.env x u) Q E s:=by
 obtain⟨m,hn,hl⟩:=id I.loc;have hcls:(X.env.scope.kind == .class||(X.env.scope.kind == .module&&X.env.locals != X.env.globals))=false:=by rw[I.ok.kind];rfl
 have hiσ:i<σ.length:=by rw[I.len];exact(Qt.mp hi).1
 have D4:=I.D4;have tracked:∀ {a:Addr}{h':Heap},(∃ o,s.heap.get? a=some o/\H a=none)->Heap.SameBut a s.heap h'->lj X.prog X.w H h':=λ {a h'} ha hs b ob e=>by
  obtain⟨_,_,hfree⟩:=ha;refine(I.hok b ob e).stay (λ c w' hc q=>(hs.2 c ?_).trans q) (λ _ q=>q) λ _ _ q=>q;rintro rfl;rcases hc with rfl|hc
  ·rw[hfree]at e;cases e
  ·rw[hfree]at hc;cases hc
 rcases hx with hk|hk
 ·refine wpAny_storeName_local hk hn (λ h' hn' hs=>?_) hcls;obtain⟨oL,_,_,hoL,_⟩:=id hn;refine h _ ⟨I.ok,I.os,I.bare,⟨λ b o e n hb hx=>?_,λ b o e n hb hx=>?_,I.base.free,λ b o e hx=>?_,I.base.tups,I.base.oV,I.base.qE⟩,⟨_,hn',λ j y v' e1 e2 e3=>?_⟩,λ y c e=>?_,I.free,I.gO,λ p hp=>?_,tracked ⟨oL,hoL,I.free⟩ hs,by simpa using I.len⟩ ⟨_,hs,.inl rfl⟩
  ·exact(hs.2 b (QT (Q0 (QC e) I.ok.above))).trans (I.base.keep b o e n hb hx)
  ·obtain⟨sl,e1⟩:=I.base.slot b o e n hb hx;exact⟨sl,(hs.2 b (QT (Q0 (QC e) I.ok.above))).trans e1⟩
  ·obtain⟨o',e1⟩:=I.base.there b o e hx;exact⟨o',(hs.2 b (QT (Q0 (QC e) I.ok.above))).trans e1⟩
  ·by_cases hj:j=i
   ·subst hj;rw[hi]at e1;cases e1;rw[RW hiσ]at e2;cases e2;exact⟨u,r,.inl ⟨hk,by simp⟩⟩
   ·rw[Se (Rr hj)]at e2;obtain⟨u',r',q⟩:=hl j y v' e1 e2 e3;refine⟨u',r',?_⟩;rcases q with ⟨k,e⟩|⟨k,c,e,z⟩
    ·refine .inl ⟨k,?_⟩;have:y≠x:=λ e=>hj (yn hN e1 (e▸hi));simp[this,e]
    ·exact .inr ⟨k,c,e,z.sameBut hs (D4 y c e)⟩
  ·obtain⟨w',z⟩:=I.cell y c e;exact⟨w',z.sameBut hs (D4 y c e)⟩
  ·obtain⟨e,n,ne,nf,d⟩:=I.pin p hp;exact⟨(hs.2 p.1 ne).trans e,n,ne,nf,d⟩
 ·have hfn:X.fn x=true:=by
   rcases hf with z|z
   ·exact z
   ·rw[z]at hk;cases hk
  obtain⟨c,hc⟩:=I.ok.has x (.inl hk);obtain⟨w',z⟩:=I.cell x c hc;refine wpAny_storeName_cell I.ok.kind hk hc z (λ h' hc' hs=>?_);obtain⟨oc,hoc,hocd⟩:=id z;refine h { s with heap:=h' } ⟨I.ok,I.os,I.bare,⟨λ b o e n hb hx=>?_,λ b o e n hb hx=>?_,I.base.free,λ b o e hx=>?_,I.base.tups,I.base.oV,I.base.qE⟩,⟨m,hn.sameBut hs (Rr (D4 x c hc)),λ j y v' e1 e2 e3=>?_⟩,λ y c' e=>?_,I.free,I.gO,λ p hp=>?_,tracked ⟨oc,hoc,I.gO x c hc⟩ hs,by simpa using I.len⟩ ⟨c,hs,.inr hc⟩
  ·exact(hs.2 b (QT (Q0 (QC e) (I.ok.G8 x c hfn hc)))).trans (I.base.keep b o e n hb hx)
  ·obtain⟨sl,e1⟩:=I.base.slot b o e n hb hx;exact⟨sl,(hs.2 b (QT (Q0 (QC e) (I.ok.G8 x c hfn hc)))).trans e1⟩
  ·obtain⟨o',e1⟩:=I.base.there b o e hx;exact⟨o',(hs.2 b (QT (Q0 (QC e) (I.ok.G8 x c hfn hc)))).trans e1⟩
  ·by_cases hj:j=i
   ·subst hj;rw[hi]at e1;cases e1;rw[RW hiσ]at e2;cases e2;exact⟨u,r,.inr ⟨.inl hk,c,hc,hc'⟩⟩
   ·rw[Se (Rr hj)]at e2;obtain⟨u',r',q⟩:=hl j y v' e1 e2 e3;refine⟨u',r',?_⟩;rcases q with q|⟨k,c',e,z'⟩
    ·exact .inl q
    ·refine .inr ⟨k,c',e,z'.sameBut hs ?_⟩;rintro rfl;exact hj (yn hN e1 (I.ok.inj _ _ _ e hc▸hi))
  ·by_cases hcc:c'=c
   ·subst hcc;exact⟨_,hc'⟩
   ·obtain⟨w2,z2⟩:=I.cell y c' e;exact⟨w2,z2.sameBut hs hcc⟩
  ·obtain⟨e,n,ne,nf,d⟩:=I.pin p hp;refine⟨(hs.2 p.1 ?_).trans e,n,ne,nf,d⟩;intro q;rw[q,hoc]at e;have q':oc=p.2:=Rq e;exact d w' (by rw[<-q'];exact hocd)
def tq{Q:Unit->Shared->Prop}(I:#[4])(hN:X.N.Nodup)(hi:#[78])(hx:#[189])(r:RelV v u)
  (h:∀ s',Inv X pins (σ.set i (some v)) H s'->Q () s') (hf:#[23]:=by first|exact .inl rfl|exact .inr rfl|assumption):wpAny M A (storeName X.env x u) Q E s:=
 vE I hN hi hx r (λ s' I' _=>h s' I') hf
def Inv.JQ(I:#[4])(ho:s'.os=s.os)(u:Un (frs X.stack) ch H H' s.heap s'.heap)(hok:lj X.prog X.w H' s'.heap)(hg:AllBare s'.gens)
  (hch:#[55]):Inv X pins σ H' s':=by
 obtain⟨h',g',d',t',o'⟩:=s';have e:o'=s.os:=ho;subst e;exact I.call (g':=g') (t':=t') (d':=d') u hok hg hch
end
abbrev XK:=Value->Option Addr->Hp->Prop
abbrev St:=List (Option V)
variable {σ:St}
abbrev VK:=V->Hp->Prop
abbrev TE:=St->Hp->VK->Prop
variable {ta tb te:TE}
abbrev TT:=St->Hp->#[129]->Prop
abbrev TA:=St->Hp->(List V->Hp->Prop)->Prop
structure Ends where
 nx:St->Hp->Prop
 rt:VK
 bk:St->Hp->Prop:=λ _ _=>False
 ct:St->Hp->Prop:=λ _ _=>False
abbrev TS:=Ends->St->Hp->Prop
def EP (X:Cx)(pins:#[12])(σ:St)(Q:VK)(u:Value)(s':Shared):Prop:=∃ v H',Inv X pins σ H' s'/\RelV v u/\Q v H'
def TP (X:Cx)(pins:#[12])(σ:St)(Q:#[129])(b:Bool)(s':Shared):Prop:=∃ H',Inv X pins σ H' s'/\Q b H'
def AP (X:Cx)(pins:#[12])(σ:St)(Q:List V->Hp->Prop)(us:#[17])(s':Shared):Prop:=∃ vs H',Inv X pins σ H' s'/\Vals vs us/\Q vs H'
def SP (X:Cx)(pins:#[12])(D:Ends)(f:Flow)(s':Shared):Prop:=
 match f with
 |.next=>∃ σ' H',Inv X pins σ' H' s'/\D.nx σ' H'
 |.brk=>∃ σ' H',Inv X pins σ' H' s'/\D.bk σ' H'
 |.cont=>∃ σ' H',Inv X pins σ' H' s'/\D.ct σ' H'
 |.ret u=>∃ v σ' H',Inv X pins σ' H' s'/\RelV v u/\D.rt v H'
def PE (X:Cx)(e:Expr)(t:TE):Prop:=
 ∀ (pins:#[12]) (s:Shared) (σ:St) (H:Hp) (Q:VK),Inv X pins σ H s->t σ H Q->wpAny #[11] X.A (eval e X.env) (EP X pins σ Q) X.xe s
def PT (X:Cx)(e:Expr)(t:TT):Prop:=
 ∀ (pins:#[12]) (s:Shared) (σ:St) (H:Hp) (Q:#[129]),Inv X pins σ H s->t σ H Q->wpAny #[11] X.A (isTrue e X.env (eval e X.env)) (TP X pins σ Q) X.xe s
def PW (X:Cx)(e:Expr)(t:TT):Prop:=
 ∀ (whole:Sem Value) (pins:#[12]) (s:Shared) (σ:St) (H:Hp) (Q:#[129]),Inv X pins σ H s->t σ H Q->wpAny #[11] X.A (isTrue e X.env whole) (TP X pins σ Q) X.xe s
def PW.pt{t:TT}(h:PW X e t):PT X e t:=h _
def PA (X:Cx)(es:List Expr)(t:TA):Prop:=
 ∀ (pos:Pos) (pins:#[12]) (s:Shared) (σ:St) (H:Hp) (Q:List V->Hp->Prop),Inv X pins σ H s->t σ H Q->wpAny #[11] X.A (spliced #[35]) (AP X pins σ Q) X.xe s
def PS (X:Cx)(st:Stmt)(t:TS):Prop:=
 ∀ (pins:#[12]) (s:Shared) (σ:St) (H:Hp) (D:Ends),Inv X pins σ H s->t D σ H->wpAny #[11] X.A (exec st X.env) (SP X pins D) X.xe s
def kF (X:Cx)(st:List Stmt)(t:TS):Prop:=
 ∀ (pins:#[12]) (s:Shared) (σ:St) (H:Hp) (D:Ends),Inv X pins σ H s->t D σ H->wpAny #[11] X.A (execs st X.env) (SP X pins D) X.xe s
def eG {α:Type}{t:Sem α}{Q Q':α->Shared->Prop}(h:wpAny M A t Q E s)(hQ:∀ a s,Q a s->Q' a s):wpAny M A t Q' E s:=RI h hQ λ _ _ x=>x
section
def OU (i:Nat):TE:=λ σ H Q=>∃ v,σ[i]?=some (some v)/\Q v H
def tC (v:V):TE:=λ _ H Q=>Q v H
def ic(hN:#[78])(hv:zS X.env.scope x)(hd:#[3]:=by decide)(hcd:#[44]:=by decide):PE X (.Name x pos) (OU i):=by
 intro pins s σ H Q I h;obtain⟨v,e,h⟩:=h;obtain⟨m,hn,hl⟩:=I.loc;obtain⟨u,r,l⟩:=hl i x v hN e hv;have fin:EP X pins σ Q u s:=⟨v,H,I,r,h⟩;rcases l with ⟨hk,hm⟩|⟨hk,c,hc,hcell⟩
 ·exact wpAny_Name (wpAny_loadName_local I.ok.kind hk hn hm fin) hd
 ·rcases hk with hk|hk
  ·exact wpAny_Name (wpAny_loadName_cell I.ok.kind hk hc hcell fin) hd
  ·exact wpAny_Name (wpAny_loadName_free I.ok.kind hk hc hcell fin hcd) hd
def KS {i j pos}:PE X (.Constant (.int i) j pos) (tC (.int i)):=λ _ _ _ H _ I h=>wpAny_Constant_int ⟨.int i,H,I.tok _,⟨_,rfl⟩,h⟩
def M5 {b j pos}:PE X (.Constant (.bool b) j pos) (tC (.bl b)):=λ _ _ _ H _ I h=>Constant_bool ⟨.bl b,H,I,rfl,h⟩
def KW {x j pos}:PE X (.Constant (.str x) j pos) (tC (.str x)):=λ _ _ _ H _ I h=>Calls.Constant_str ⟨.str x,H,I.tok _,⟨_,rfl⟩,h⟩
def Gl (X:Cx)(x:Str):Prop:=X.env.kindOf x=some .globalImplicit
def mV(I:#[4])(hg:Gl X x)(hm:X.mg x=some u)(h:Q u s)
  (hd:#[3]:=by decide):wpAny #[11] X.A (eval (.Name x pos) X.env) Q E s:=
 Calls.Name_function_global I.ok.kind hg (Calls.loadGlobal_global (by rw[I.ok.glob];exact I.mod.glob.keeps I.bk) hm h) hd
def lQ(I:#[4])(hg:Gl X x)(hm:X.mg x=none)(hv:bootBuiltins x=some u)(h:Q u s)
  (hn:#[115] :=by decide) (hd:#[3]:=by decide):wpAny #[11] X.A (eval (.Name x pos) X.env) Q E s:=by
 obtain⟨mb,h1,h2⟩:=I.mod.blt;exact Calls.Name_function_global I.ok.kind hg (Calls.loadGlobal_builtin (by rw[I.ok.glob];exact I.mod.glob.keeps I.bk) hm (by rw[I.ok.blt];exact h1.keeps I.bk) ((h2 x hn).trans hv) h) hd
def Bp(hg:Gl X x)(hm:X.mg x=some u)(r:RelV v u)(hd:#[3]:=by decide):PE X (.Name x pos) (tC v):=
 λ _ _ _ H _ I h=>mV I hg hm ⟨v,H,I,r,h⟩ hd
def Bo {x:Str}{v:V}{u:Value}{pos:Pos}(hg:Gl X x)(hm:X.mg x=none)(hv:bootBuiltins x=some u)(r:RelV v u)(hn:#[115] :=by decide)(hd:#[3]:=by decide):PE X (.Name x pos) (tC v):=
 λ _ _ _ H _ I h=>lQ I hg hm hv ⟨v,H,I,r,h⟩ hn hd
variable {a b:Expr}
def tB (t:TE):TT:=λ σ H Q=>t σ H λ x H1=>∃ c,x=.bl c/\Q c H1
def Kn{t:TE}(h:PE X e t)(he:∀ whole,isTrue e X.env whole=(do let v <-whole;standAt e.pos;holding [v] (truthy v)):=by intro _;rfl):PT X e (tB t):=by
 intro pins s σ H Q I hw;refine isTrue_plain (eG (h pins s σ H _ I hw) λ v s1 hq5=>L2.ex5 hq5 λ x H1 I1 r1 q1=>?_) (he _);obtain⟨d,rfl,q⟩:=q1;cases r1;exact R6 ⟨H1,I1,q⟩
variable {tA tB':TT}{rest:List Expr}
def OW (t u:TT):TT:=λ σ H Q=>t σ H λ c H1=>if c=true then u σ H1 Q else Q false H1
def P9 (t u:TT):TT:=λ σ H Q=>t σ H λ c H1=>if c=true then Q true H1 else u σ H1 Q
def OY (t:TT):TT:=λ σ H Q=>t σ H λ c H1=>Q (!c) H1
def Hk (ha:PT X a tA):PW X (.BoolOp .And [a] pos) tA:=by
 intro wh pins s σ H Q I h;refine isTrue_and (eG (ha pins s σ H Q I h) λ c s1 e=>?_);cases c with
 |true=>exact isTrue_and_nil e|false=>exact e
def KD (ha:PT X a tA):PW X (.BoolOp .Or [a] pos) tA:=by
 intro wh pins s σ H Q I h;refine isTrue_or (eG (ha pins s σ H Q I h) λ c s1 e=>?_);cases c with
 |false=>exact isTrue_or_nil e|true=>exact e
def KP (ha:PT X a tA)(hb:PW X (.BoolOp .And (b::rest) pos) tB'):PW X (.BoolOp .And (a::b::rest) pos) (OW tA tB'):=by
 intro wh pins s σ H Q I h;refine isTrue_and (eG #[114] λ c s1 ⟨H1,I1,q1⟩=>?_);cases c with
 |true=>exact hb wh pins s1 σ H1 Q I1 q1|false=>exact⟨H1,I1,q1⟩
def M8 (ha:PT X a tA)(hb:PW X (.BoolOp .Or (b::rest) pos) tB'):PW X (.BoolOp .Or (a::b::rest) pos) (P9 tA tB'):=by
 intro wh pins s σ H Q I h;refine isTrue_or (eG #[114] λ c s1 ⟨H1,I1,q1⟩=>?_);cases c with
 |true=>exact⟨H1,I1,q1⟩| false=>exact hb wh pins s1 σ H1 Q I1 q1
def KZ (ha:PT X a tA):PT X (.UnaryOp .Not a pos) (OY tA):=by
 intro pins s σ H Q I h;exact isTrue_not (ha pins s σ H (λ c H1=>Q (!c) H1) I h)
def M6 (ta tb:TE):TE:=λ σ H Q=>ta σ H λ x H1=>∃ c,x=.bl c/\if c=true then tb σ H1 Q else Q (.bl false) H1
def M7 (ta:TE):TE:=λ σ H Q=>ta σ H λ x H1=>∃ c,x=.bl c/\Q (.bl (!c)) H1
def KH {op}{t:TE}(h:PE X a t):PE X (.BoolOp op [a] pos) t:=λ pins s σ H Q I hw=>BoolOp_one (h pins s σ H Q I hw)
def Kr (ha:PE X a ta)(hb:PE X (.BoolOp .And (b::rest) pos) tb):PE X (.BoolOp .And (a::b::rest) pos) (M6 ta tb):=by
 intro pins s σ H Q I h;refine BoolOp_and (eG #[114] λ v s1 hq5=>L2.ex5 hq5 λ x H1 I1 r1 q1=>?_);obtain⟨c,rfl,q1⟩:=q1;cases r1;refine R6 ?_;cases c with
 |true=>exact hb pins s1 σ H1 Q I1 q1|false=>exact⟨.bl false,H1,I1,rfl,q1⟩
def K0 (ha:PE X a ta):PE X (.UnaryOp .Not a pos) (M7 ta):=by
 intro pins s σ H Q I h;refine UnaryOp_ (eG #[114] λ v s1 hq5=>L2.ex5 hq5 λ x H1 I1 r1 q1=>?_);obtain⟨c,rfl,q1⟩:=q1;cases r1;exact not_of (R6 ⟨.bl (!c),H1,I1,rfl,q1⟩)
def P8 (t:TT)(ta tb:TE):TE:=λ σ H Q=>t σ H λ c H1=>if c=true then ta σ H1 Q else tb σ H1 Q
def DW(hc:PT X c tA)(ha:PE X a ta)(hb:PE X b tb):PE X (.IfExp c a b pos) (P8 tA ta tb):=by
 intro pins s σ H Q I h;refine wpAny_IfExp (eG (hc pins s σ H _ I h) λ d s1 ⟨H1,I1,q1⟩=>?_);cases d with
 |true=>exact ha pins s1 σ H1 Q I1 q1|false=>exact hb pins s1 σ H1 Q I1 q1
end
def fH (K:#[0])(H:Hp)(a:Addr)(xs:List V):Prop:=
 Rd H a (.lst xs) ∨
  ∃ (o:Obj) (its:#[152]) (n:Nat),K.lookup a=some o/\o.cls=.type "list" /\ o.dict=none/\o.data=.seq its n/\its.size<=sizeLine/\Vals xs its.toList
def k9 (K:#[0])(H:Hp)(a:Addr)(xs:List V):Prop:=
 Rd H a (.tup xs) ∨
  ∃ (o:Obj) (its:#[152]) (n:Nat),K.lookup a=some o/\o.cls=.type "tuple" /\ o.data=.seq its n/\its.size<=sizeLine/\Vals xs its.toList
def OP:Value->Option V
 |.none=>some .bW
 |.bool b=>some (.bl b)
 |.int i _=>some (.int i)
 |.str x _=>some (.str x)
 |.bytes b _=>some (.Co b)
 |.float b _=>some (.MK b)
 |.ref a=>some (.ref a)
 |.type n=>some (.ty n)
 |_=>none
def RelV.abs {x:V}(r:RelV x u):OP u=some x:=by
 cases x with
 |bW=>cases r;rfl|bl _=>cases r;rfl|int _=>obtain⟨t,rfl⟩:=r;rfl|str _=>obtain⟨t,rfl⟩:=r;rfl|Co _=>obtain⟨t,rfl⟩:=r;rfl|MK _=>obtain⟨t,rfl⟩:=r;rfl|ref _=>cases r;rfl|ty _=>cases r;rfl
def RelV.inj {x y:V}(r:RelV x u)(q:RelV y u):x=y:=Rq (r.abs.symm.trans q.abs)
def Vals.inj:∀ {xs ys:List V}{us:#[17]},Vals xs us->Vals ys us->xs=ys
 |_,_,_,.nil,.nil=>rfl|_,_,_,.cons r t,.cons r' t'=>by rw[r.inj r',Vals.inj t t']
section
variable{ys:List V}
def fH.of {K:#[0]}(h:H a=some (.lst xs)):fH K H a xs:=.inl (.inl h)
def k9.of {K:#[0]}(h:H a=some (.tup xs)):k9 K H a xs:=.inl (.inl h)
def Inv.list (I:#[4])(h:fH X.K H a xs):∃ its:List Value,Vals xs its/\PlainL s.heap a its.toArray/\xs.length<=sizeLine:=by
 rcases h with h|⟨o,its,n,hk,hc,hd,hs,hz,r⟩
 ·obtain⟨z,its,n,r,e⟩:=h.ok I.hok;exact⟨its,r,⟨_,n,e,rfl,rfl,rfl⟩,z⟩
 ·refine⟨its.toList,r,⟨o,n,I.qC a o hk,hc,hd,by simpa using hs⟩,?_⟩;have e:=r.length;simp only[Rn]at e;omega
def Inv.tuple (I:#[4])(h:k9 X.K H a xs):∃ its:List Value,Vals xs its/\IsTup s.heap a its.toArray/\xs.length<=sizeLine:=by
 rcases h with h|⟨o,its,n,hk,hc,hs,hz,r⟩
 ·obtain⟨z,its,r,p⟩:=h.ok I.hok;exact⟨its,r,p.is,z⟩
 ·refine⟨its.toList,r,⟨o,I.qC a o hk,hc,n,by simpa using hs⟩,?_⟩;have e:=r.length;simp only[Rn]at e;omega
def Inv.yl (I:#[4])(h:fH X.K H a xs)(h':fH X.K H a ys):xs=ys:=by
 obtain⟨its,r,⟨o,n,e,_,_,d⟩,_⟩:=I.list h;obtain⟨its',r',⟨o',n',e',_,_,d'⟩,_⟩:=I.list h';rw[e]at e';cases e';rw[d]at d';injection d' with d1 _
 have:its=its':=by simpa using RL Array.toList d1
 subst this;exact r.inj r'
def Inv.vA (I:#[4])(h:k9 X.K H a xs)(h':k9 X.K H a ys):xs=ys:=by
 obtain⟨its,r,⟨o,e,_,n,d⟩,_⟩:=I.tuple h;obtain⟨its',r',⟨o',e',_,n',d'⟩,_⟩:=I.tuple h';rw[e]at e';cases e';rw[d]at d';injection d' with d1 _
 have:its=its':=by simpa using RL Array.toList d1
 subst this;exact r.inj r'
end
abbrev Cx.u5 (X:Cx)(E:#[7]):Cx:={ X with xe:=E }
abbrev Cx.Cz (X:Cx):Cx:=X.u5 λ _ _=>False
def Cx.Ok.u5(ok:X.Ok)(E:#[7]):(X.u5 E).Ok:=
 ⟨ok.mod,ok.kind,ok.glob,ok.blt,ok.above,ok.inj,ok.has,ok.G8,ok.hd,ok.frames,ok.Hh,ok.JO,ok.bs,ok.zY,ok.u7,ok.u9,ok.jZ,ok.Cq⟩
def Cx.Ok.lP(ok:(X.u5 E).Ok):X.Ok:=
 ⟨ok.mod,ok.kind,ok.glob,ok.blt,ok.above,ok.inj,ok.has,ok.G8,ok.hd,ok.frames,ok.Hh,ok.JO,ok.bs,ok.zY,ok.u7,ok.u9,ok.jZ,ok.Cq⟩
section
def Inv.u5 (I:#[4])(E:#[7]):Inv (X.u5 E) pins σ H s:=⟨I.ok.u5 E,I.os,I.bare,I.base,I.loc,I.cell,I.free,I.gO,I.pin,I.hok,I.len⟩
def Inv.lP (I:Inv (X.u5 E) pins σ H s):Inv X pins σ H s:=⟨I.ok.lP,I.os,I.bare,I.base,I.loc,I.cell,I.free,I.gO,I.pin,I.hok,I.len⟩
def SP.lP {D:Ends}{f:Flow}(h:SP (X.u5 E) pins D f s'):SP X pins D f s':=by
 cases f with
 |next=>obtain⟨σ',H',I,q⟩:=h;exact⟨σ',H',I.lP,q⟩| brk=>obtain⟨σ',H',I,q⟩:=h;exact⟨σ',H',I.lP,q⟩| cont=>obtain⟨σ',H',I,q⟩:=h;exact⟨σ',H',I.lP,q⟩| ret u=>obtain⟨v,σ',H',I,r,q⟩:=h;exact⟨v,σ',H',I.lP,r,q⟩
def kF.Cz {st:List Stmt}{t:TS}(h:kF X.Cz st t):kF X st t:=λ pins s σ H D I hw=>
 RI (h pins s σ H D (I.u5 _) hw) (λ _ _ q=>q.lP) λ _ _ z=>False.elim z
end
section
variable{st:Stmt}{rest:List Stmt}{t u:TS}
def MX:TS:=λ D σ H=>D.nx σ H
def OE (t u:TS):TS:=λ D σ H=>t { D with nx:=u D } σ H
def Ht:kF X [] MX:=λ _ _ σ H _ I h=>Tu ⟨σ,H,I,h⟩
def DV (h1:PS X st t)(h2:kF X rest u):kF X (st::rest) (OE t u):=by
 intro pins s σ H D I h;refine wpAny_execs_cons (eG (h1 pins s σ H { D with nx:=u D } I h) λ f s1 q=>?_);cases f with
 | next =>
  obtain⟨σ',H',I',q⟩:=q;exact h2 pins s1 σ' H' D I' q
 |ret v=>exact q|brk=>exact q|cont=>exact q
def Bk (h1:PS X st t):kF X [st] t:=by
 intro pins s σ H D I h;refine wpAny_execs_cons (eG (h1 pins s σ H D I h) λ f s1 q=>?_);cases f with
 |next=>exact Tu q|ret v=>exact q|brk=>exact q|cont=>exact q
def Inv.quiet(I:#[4]):interactive X.env=false:=by simp[interactive,I.ok.kind]
def M1 (te:TE):TS:=λ D σ H=>te σ H λ _ H1=>D.nx σ H1
def oX (he:PE X e te)(hs:swapsWith e none pos.line X.env=pure false:=by rfl):PS X (.Expr e pos) (M1 te):=by
 intro pins s σ H D I h;exact wpAny_Expr_any (eG (he pins s σ H _ I h) λ v s1 hq5=>L2.ex5 hq5 λ x H1 I1 r1 q1=>⟨σ,H1,I1,q1⟩) I.quiet hs
def OV (te:TE):TS:=λ D σ H=>te σ H D.rt
def sX (he:PE X e te):PS X (.Return (some e) pos) (OV te):=by
 intro pins s σ H D I h;exact wpAny_Return_some (eG (he pins s σ H _ I h) λ v s1 hq5=>L2.ex5 hq5 λ x H1 I1 r1 q1=>⟨x,σ,H1,I1,r1,q1⟩)
def OM (c:TT)(t u:TS):TS:=λ D σ H=>c σ H λ b H1=>if b=true then t D σ H1 else u D σ H1
def MR{a b:List Stmt}{tc:TT}(hc:PT X c tc)(ha:kF X a t)(hb:kF X b u):PS X (.If c a b pos) (OM tc t u):=by
 intro pins s σ H D I h;refine wpAny_If (eG (hc pins s σ H _ I h) λ d s1 ⟨H1,I1,q1⟩=>?_);cases d with
 |true=>exact ha pins s1 σ H1 D I1 q1|false=>exact hb pins s1 σ H1 D I1 q1
end
abbrev TG:=V->St->Hp->(St->Hp->Prop)->Prop
abbrev Hj:=List V->St->Hp->(St->Hp->Prop)->Prop
def PG (X:Cx)(target:Expr)(t:TG):Prop:=
 ∀ (pins:#[12]) (s:Shared) (σ:St) (H:Hp) (v:V) (u:Value) (Q:St->Hp->Prop),Inv X pins σ H s->RelV v u->t v σ H Q ->
  wpAny #[11] X.A (assign target X.env u) (λ _ s'=>∃ σ' H',Inv X pins σ' H' s'/\Q σ' H') X.xe s
def CC (X:Cx)(ts:List Expr)(t:Hj):Prop:=
 ∀ (pins:#[12]) (s:Shared) (σ:St) (H:Hp) (vs:List V) (us:#[17]) (Q:St->Hp->Prop),Inv X pins σ H s->Vals vs us->t vs σ H Q ->
  wpAny #[11] X.A (assignInOrder ((assignEach ts X.env).map (·.2)) us) (λ _ s'=>∃ σ' H',Inv X pins σ' H' s'/\Q σ' H') X.xe s
abbrev KN:=V->V->V->Hp->(Hp->Prop)->Prop
def MT (X:Cx)(t:KN):Prop:=
 ∀ (pins:#[12]) (s:Shared) (σ:St) (H:Hp) (o i v:V) (ov iv u:Value) (Q:Hp->Prop),Inv X pins σ H s->RelV o ov->RelV i iv->RelV v u->t o i v H Q ->
  wpAny #[11] X.A (setItem ov iv u) (λ _ s'=>∃ H',Inv X pins σ H' s'/\Q H') X.xe s
section
def vC (i:Nat):TG:=λ v σ H Q=>Q (σ.set i (some v)) H
def Bq(hN:X.N.Nodup)(hi:#[78])(hx:#[189])(hf:#[23]:=by first|exact .inl rfl|exact .inr rfl|assumption):PG X (.Name x pos) (vC i):=by
 intro pins s σ H v u Q I r h;exact wpAny_assign_Name (tq I hN hi hx r (λ s' I'=>⟨_,H,I',h⟩) hf)
def OZ:Hj:=λ vs σ H Q=>vs=[]/\Q σ H
def MZ (t:TG)(u:Hj):Hj:=λ vs σ H Q=>∃ v r,vs=v::r/\t v σ H λ σ' H'=>u r σ' H' Q
def Hl:CC X [] OZ:=by
 intro pins s σ H vs us Q I r h;obtain⟨e,h⟩:=h;subst e;cases r;exact assignInOrder_nil ⟨σ,H,I,h⟩
def DX{t:TG}{u:Hj}(h1:PG X e t)(h2:CC X es u)
  (hs:(assignEach (e::es) X.env).map (·.2)=assign e X.env::(assignEach es X.env).map (·.2):=by rfl):CC X (e::es) (MZ t u):=by
 intro pins s σ H vs us Q I r h;obtain⟨v,vr,e1,h⟩:=h;subst e1;cases r with
 | cons r rr =>
  rw[hs];refine assignInOrder_cons (eG (h1 pins s σ H _ _ _ I r h) λ _ s1 ⟨σ1,H1,I1,q1⟩=>?_);exact h2 pins s1 σ1 H1 _ _ Q I1 rr q1
def OF (K:#[0])(n:Nat)(t:Hj):TG:=λ v σ H Q=>∃ a xs,v=.ref a/\k9 K H a xs/\xs.length=n/\t xs σ H Q
def Ks{k:Nat}{t:Hj}{n:Nat}(hc:X.calm=true)(h:CC X es t)
  (hn:(assignEach es X.env).length=n:=by rfl) (hst:(assignEach es X.env).findIdx? (·.1)=none:=by rfl):PG X (.Tuple es k pos) (OF X.K n t):=by
 intro pins s σ H v u Q I r hw;obtain⟨a,xs,e1,hq,hl,hw⟩:=hw;subst e1;cases r;obtain⟨its,rv,ht,hz⟩:=I.tuple hq;refine assign_Tuple_tuple (I.ok.hd hc) ht (by simp[hn,<-hl,rv.length]) hst λ h' hx=>?_;have I1:Inv X pins σ H { s with heap:=h' }:=I.kept (t':=s.toks) λ b o e=>hx b o (QT (QC e)) e;exact h pins _ σ H xs _ Q I1 (by simpa using rv) hw
def OS (to ti:TE)(t:KN):TG:=λ v σ H Q=>to σ H λ o H1=>ti σ H1 λ i H2=>t o i v H2 λ H3=>Q σ H3
def K1 {o i:Expr}{to ti:TE}{t:KN}(ho:PE X o to)(hi:PE X i ti)(hs:MT X t)
  (ha:∀ v,assign (.Subscript o i pos) X.env v=(do
   let ov <-holding [v] (eval o X.env)
   let iv <-holding [v,ov] (eval i X.env)
   standAt pos
   holding [v,ov,iv] (setItem ov iv v)
   release [v,ov,iv] []):=by intro _;rfl):PG X (.Subscript o i pos) (OS to ti t):=by
 intro pins s σ H v u Q I r h;rw[ha];refine Qn (RG (eG (ho pins s σ H _ I h) λ ov s1 hq5=>L2.ex5 hq5 λ x H1 I1 r1 q1=>?_));refine Qn (RG (eG (hi pins s1 σ H1 _ I1 q1) λ iv s2 hq5=>L2.ex5 hq5 λ y H2 I2 r2 q2=>?_));refine Qn (UZ (Qn (RG (eG (hs pins s2 σ H2 x y v ov iv u _ I2 r1 r2 r q2) λ _ s3 ⟨H3,I3,q3⟩=>?_))));exact wpAny_release ⟨σ,H3,I3,q3⟩
def Hm (te:TE)(g:TG):TS:=λ D σ H=>te σ H λ x H1=>g x σ H1 D.nx
def Ko{g:TG}(he:PE X e te)(hg:PG X tg g)(hs:swapsWithSole [tg] e pos.line X.env=pure false:=by rfl)(hw:swappedStores [tg] e X.env=pure none:=by rfl)
  (h1:(assignEach [tg] X.env).map (·.2)=[assign tg X.env]:=by rfl):PS X (.Assign [tg] e pos) (Hm te g):=by
 intro pins s σ H D I h;refine wpAny_Assign_stores (eG (he pins s σ H _ I h) λ v s1 hq5=>L2.ex5 hq5 λ x H1 I1 r1 q1=>?_) hs hw;rw[h1];exact eG (hg pins s1 σ H1 x v _ I1 r1 q1) λ _ s2 q=>q
def wV{pos':Pos}(hN:X.N.Nodup)(hi:#[78])(hx:#[189])(he:PE X e te)(hs:#[70]:=by rfl)(hf:#[23]:=by first|exact .inl rfl|exact .inr rfl|assumption) :
  PS X (.Assign [.Name x pos'] e pos) (Hm te (vC i)):=by
 intro pins s σ H D I h;refine wpAny_Assign_Name (eG (he pins s σ H _ I h) λ v s1 hq5=>L2.ex5 hq5 λ y H1 I1 r1 q1=>?_) hs;exact tq I1 hN hi hx r1 (λ s2 I2=>⟨_,H1,I2,q1⟩) hf
end
section
def K4 (c:TT)(tb:TS):TS:=λ D σ H=>∃ W:Nat->St->Hp->Prop,(∃ m,W m σ H)/\∀ m σ H,W m σ H ->
 c σ H λ b H1=>if b=true then ∃ N:St->Hp->Prop,(∀ σ' H',N σ' H'->∃ m',m' < m/\W m' σ' H')/\tb { D with nx:=N,ct:=N,bk:=D.nx } σ H1 else D.nx σ H1
def DY{tc:TT}{tb:TS}(hp:PassesOwn #[11] X.A X.env X.xe)(hc:PT X c tc)(hb:kF X body tb):PS X (.While c body [] pos) (K4 tc tb):=by
 intro pins s σ H D I h;obtain⟨W,⟨m0,w0⟩,turn⟩:=h;refine wpAny_While (codeAny_whileLoop (λ n s'=>∃ σ' H',Inv X pins σ' H' s'/\W n σ' H') ?_ m0 ⟨σ,H,I,w0⟩);rintro n s1 ⟨σ1,H1,I1,w1⟩;refine Sx hp (eG (hc pins s1 σ1 H1 _ I1 (turn n σ1 H1 w1)) λ b s2 ⟨H2,I2,q2⟩=>?_);cases b with
 | true =>
  obtain⟨N,hN,q2⟩:=q2;rw[QG rfl];refine Sx hp (eG (hb pins s2 σ1 H2 _ I2 q2) λ f s3 q3=>?_);cases f with
  | next =>
   obtain⟨σ3,H3,I3,n3⟩:=q3;obtain⟨m',hm,w3⟩:=hN σ3 H3 n3;exact⟨m',hm,σ3,H3,I3,w3⟩
  | cont =>
   obtain⟨σ3,H3,I3,n3⟩:=q3;obtain⟨m',hm,w3⟩:=hN σ3 H3 n3;exact⟨m',hm,σ3,H3,I3,w3⟩
  |brk=>exact q3|ret v=>exact q3
 | false =>
  rw[QK Qy];exact Tu ⟨σ1,H2,I2,q2⟩
end
structure It where
 go:Nat->Hp->Prop
 Cp:Nat->Hp->V->Hp->Prop
 stop:Nat->Hp->Prop
def ou (X:Cx)(pins:#[12])(H:Hp)(b:Addr):Prop:=
 H b=none/\b≠X.env.locals/\b∉X.fs/\(b∈X.ex\/X.s₀.heap.objs.size<=b)/\(∀ x c,X.env.cells.lookup x=some c->c≠b)/\∀ p∈X.pn++pins,p.1≠b
def Inv.wR(I:#[4])(hb:s.heap.objs.size<=b)(hn:H' b=none):ou X pins H' b:=by
 refine⟨hn,TR (Q0 I.lt hb),I.OO hb,.inr (QX I.sz hb),λ x c e z=>?_,λ p hp z=>?_⟩
 ·obtain⟨v,q⟩:=I.cell x c e;exact absurd (Q0 q.lt (by rw[z];exact hb)) (RV _)
 ·exact absurd (Q0 (QC (I.pin p hp).1) (by rw[z];exact hb)) (RV _)
structure DT (cm:Cx->Prop)(P:Program)(w:World)(K:PySem.W.Frag)(tg:Expr)(J:It)(fp:List Addr)(it:Addr)(tn:Nat->Heap->Prop):Prop where
 mem:it∈fp
 obj:∀ i h,tn i h->∀ b∈fp,∃ o,h.get? b=some o/\∀ v,o.data ≠ .cell v
 keep:∀ i h h',tn i h->(∀ b∈fp,∀ o,h.get? b=some o->h'.get? b=some o)->tn i h'
 item:∀ (X:Cx),X.prog=P->X.w=w->X.K=K->cm X->∀ (i:Nat) (pins:#[12]) (s:Shared) (σ:St) (H:Hp) (E:#[7]),Inv X pins σ H s->(∀ b∈fp,ou X pins H b)->tn i s.heap->J.go i H ->
  wpAny (model P w) X.A (pyNext (.ref it)) (λ r s1=>∃ u,r=some u /\
   wpAny (model P w) X.A (letOwnedTupleGo tg (.ref it) u) (λ _ s2=>∃ x H',Inv X pins σ H' s2/\RelV x u/\J.Cp i H x H'/\tn (i+1) s2.heap/\∀ b∈fp,H' b=none) E s1) E s
 done:∀ (X:Cx),X.prog=P->X.w=w->X.K=K->cm X->∀ (i:Nat) (pins:#[12]) (s:Shared) (σ:St) (H:Hp) (E:#[7]),Inv X pins σ H s->(∀ b∈fp,ou X pins H b)->tn i s.heap->J.stop i H ->
  wpAny (model P w) X.A (pyNext (.ref it)) (λ r s1=>r=none/\Inv X pins σ H s1) E s
 self:∀ (A:#[127]) (i:Nat) (s:Shared) (Q:#[7]) (E:#[7]),tn i s.heap->Q (.ref it) s->wpAny (model P w) A (pyIter (.ref it)) Q E s
abbrev Turn:=DT λ X=>X.calm=true
abbrev TI:=St->Hp->(It->Hp->Prop)->Prop
def PL (X:Cx)(pins:#[12])(σ:St)(tg:Expr)(R:It->Hp->Prop)(itv:Value)(s2:Shared):Prop:=
 ∃ (it:Addr) (fp:#[9]) (tn:Nat->Heap->Prop) (J:It) (H':Hp),itv=.ref it/\Inv X pins σ H' s2/\Turn X.prog X.w X.K tg J fp it tn/\tn 0 s2.heap/\(∀ b∈fp,ou X pins H' b)/\R J H'
def PI (X:Cx)(tg iter:Expr)(wi:TI):Prop:=
 ∀ (pins:#[12]) (s:Shared) (σ:St) (H:Hp) (R:It->Hp->Prop),Inv X pins σ H s->wi σ H R ->
  wpAny #[11] X.A (eval iter X.env) (λ v s1=>wpAny #[11] X.A (pyIter v) (PL X pins σ tg R) X.xe s1) X.xe s
def D8{it:Addr}{o:Obj}{n:String}{vs:#[152]}{Q:Unit->Shared->Prop}(ho:s.heap.get? it=some o)(hc:o.cls = .type n)(hd:o.data = .fields vs)
    (hn:["enumerate", "zip", "dict_itemiterator", "dict_reverseitemiterator", "odict_iterator", "itertools.zip_longest", "itertools.pairwise"].contains n=false) (hQ:Q () s):wpAny M A (letOwnedTupleGo tg (.ref it) u) Q E s:=by
  unfold letOwnedTupleGo;cases tg<;>first
    |exact Qu hQ
    |(cases u<;>first
        |exact Qu hQ
        | (refine Qn (wpAny_load ho ?_)
           rw[hc, hd];show wpAny M A (if (["enumerate", "zip", "dict_itemiterator", "dict_reverseitemiterator", "odict_iterator", "itertools.zip_longest", "itertools.pairwise"].contains n&&vs[0]? == some (rawInt _))=true then _ else _) Q E s;rw[QK (by intro h;rw[hn, Bool.false_and]at h;cases h)];exact Qu hQ))
def OJ (K:#[0])(a:Addr):It:=
 ⟨λ i H=>∃ xs x,fH K H a xs/\xs[i]?=some x,λ i H x H'=>H'=H/\∀ xs,fH K H a xs->xs[i]?=some x,λ i H=>∃ xs,fH K H a xs/\xs.length<=i⟩
def OL (K:#[0])(a:Addr):It:=
 ⟨λ i H=>∃ xs x,k9 K H a xs/\xs[i]?=some x,λ i H x H'=>H'=H/\∀ xs,k9 K H a xs->xs[i]?=some x,λ i H=>∃ xs,k9 K H a xs/\xs.length<=i⟩
def Ol (lo:Int)(n:Nat):It:=⟨λ i _=>i<n,λ i H x H'=>H'=H/\x=.int (lo+i),λ i _=>n<=i⟩
def CA{K:#[0]}(a it:Addr):Turn P w K tg (OJ K a) [it] it (λ i h=>h.IsListIter it a i) where
 mem:=by simp
 obj:=λ i h st b hb=>by
  have e:b=it:=by simpa using hb
  subst e;obtain⟨o,e,c,d⟩:=st;exact⟨o,e,λ v z=>by rw[d]at z;cases z⟩
 keep:=λ i h h' st k=>st.at λ o e=>k it #[32] o e
 item:=by
  intro X hP hw hK hc i pins s σ H E I hf st hg;subst hP hw hK;obtain⟨xs,x,hq,hx⟩:=hg;obtain⟨its,rv,p,hz⟩:=I.list hq;obtain⟨u,hu,ru⟩:=rv.get hx;obtain⟨f0,f1,f2,f3,f4,f5⟩:=hf it #[32];refine wpAny_pyNext_list_item st p.isList (x:=u) (by simpa using hu) λ h' st' sb=>?_;have I1:Inv X pins σ H { s with heap:=h' }:=I.turned (t':=s.toks) (λ b o hb e=>(sb.2 b hb).trans e) f0 f1 f3 f4 f5;obtain⟨o,e,c,d⟩:=id st';exact⟨u,rfl,D8 (s:={ s with heap:=h' }) e c d #[10] ⟨x,H,I1,ru,⟨rfl,λ ys hy=>by rw[I.yl hy hq];exact hx⟩,st',λ b hb=>(hf b hb).1⟩⟩
 done:=by
  intro X hP hw hK hc i pins s σ H E I hf st hg;subst hP hw hK;obtain⟨xs,hq,hx⟩:=hg;obtain⟨its,rv,p,hz⟩:=I.list hq;obtain⟨f0,f1,f2,f3,f4,f5⟩:=hf it #[32];have hl:=rv.length;exact wpAny_pyNext_list_end (I.ok.hd hc) st p.isList (by simp;omega) λ h' eb=>⟨rfl,I.turned (t':=s.toks) (λ b o hb e=>eb b o hb e) f0 f1 f3 f4 f5⟩
 self:=λ _ _ _ _ _ st h=>wpAny_pyIter_listiter st h
def zX{K:#[0]}(a it:Addr):Turn P w K tg (OL K a) [it] it (λ i h=>h.IsTupleIter it a i) where
 mem:=by simp
 obj:=λ i h st b hb=>by
  have e:b=it:=by simpa using hb
  subst e;obtain⟨o,e,c,d⟩:=st;exact⟨o,e,λ v z=>by rw[d]at z;cases z⟩
 keep:=λ i h h' st k=>st.at λ o e=>k it #[32] o e
 item:=by
  intro X hP hw hK hc i pins s σ H E I hf st hg;subst hP hw hK;obtain⟨xs,x,hq,hx⟩:=hg;obtain⟨its,rv,p,hz⟩:=I.tuple hq;obtain⟨u,hu,ru⟩:=rv.get hx;obtain⟨f0,f1,f2,f3,f4,f5⟩:=hf it #[32];refine wpAny_pyNext_tuple_item st (show s.heap.IsTuple a its.toArray from p) (x:=u) (by simpa using hu) λ h' st' sb=>?_;have I1:Inv X pins σ H { s with heap:=h' }:=I.turned (t':=s.toks) (λ b o hb e=>(sb.2 b hb).trans e) f0 f1 f3 f4 f5;obtain⟨o,e,c,d⟩:=id st';exact⟨u,rfl,D8 (s:={ s with heap:=h' }) e c d #[10] ⟨x,H,I1,ru,⟨rfl,λ ys hy=>by rw[I.vA hy hq];exact hx⟩,st',λ b hb=>(hf b hb).1⟩⟩
 done:=by
  intro X hP hw hK hc i pins s σ H E I hf st hg;subst hP hw hK;obtain⟨xs,hq,hx⟩:=hg;obtain⟨its,rv,p,hz⟩:=I.tuple hq;obtain⟨f0,f1,f2,f3,f4,f5⟩:=hf it #[32];have hl:=rv.length;exact wpAny_pyNext_tuple_end (I.ok.hd hc) st (show s.heap.IsTuple a its.toArray from p) (by simp;omega) λ h' eb=>⟨rfl,I.turned (t':=s.toks) (λ b o hb e=>eb b o hb e) f0 f1 f3 f4 f5⟩
 self:=λ _ _ _ _ _ st h=>wpAny_pyIter_tupleiter st h
def zZ{K:#[0]}(it:Addr)(lo:Int)(n:Nat):Turn P w K tg (Ol lo n) [it] it (λ i h=>IsRangeIter h it (lo+(i:Nat)*1) ((n:Int)-(i:Nat)) 1) where
 mem:=by simp
 obj:=λ i h st b hb=>by
  have e:b=it:=by simpa using hb
  subst e;exact⟨_,st,λ v z=>by
   have z':Data.fields _=Data.cell v:=z;cases z'⟩
 keep:=λ i h h' st k=>k it #[32] _ st
 item:=by
  intro X hP hw hK hc i pins s σ H E I hf st hg;subst hP hw hK;obtain⟨f0,f1,f2,f3,f4,f5⟩:=hf it #[32];have W:=Walks.range (prog:=X.prog) (w:=X.w) (I.ok.hd hc) it lo 1 n;refine W.item i s _ _ hg st λ v h' tk hv st' kk=>?_;obtain⟨t,rfl⟩:=hv;have I1:Inv X pins σ H { s with heap:=h',toks:=tk }:=I.turned (λ b o hb e=>kk b o (by simpa using hb) e) f0 f1 f3 f4 f5;refine⟨_,rfl,D8 (s:={ s with heap:=h',toks:=tk }) (n:="range_iterator") st' rfl rfl #[10] ⟨.int (lo+i),H,I1,⟨t,?_⟩,⟨rfl,rfl⟩,st',λ b hb=>(hf b hb).1⟩⟩;rw[Int.mul_one]
 done:=by
  intro X hP hw hK hc i pins s σ H E I hf st hg;subst hP hw hK;obtain⟨f0,f1,f2,f3,f4,f5⟩:=hf it #[32];exact wpAny_pyNext_range_end (I.ok.hd hc) st (by have:n<=i:=hg;omega) λ h' eb=>⟨rfl,I.turned (t':=s.toks) (λ b o hb e=>eb b o hb e) f0 f1 f3 f4 f5⟩
 self:=λ _ _ _ _ _ st h=>wpAny_pyIter_rangeiter st h
section
def D6{R:It->Hp->Prop}{lo hi:Int}{t u v:Tok}{tk:Nat}(I:#[4])(h1 : -(2^62)<=lo)(h2:lo<2^62)(h3 : -(2^62)<=hi)(h4:hi<2^62)
  (q:R (Ol lo (hi-lo).toNat) H):wpAny #[11] X.A (pyIter #[73]) (PL X pins σ tg R) E { s with heap:=s.heap.push { cls:=.type "range",data:=.fields #[.int lo t,.int hi u,.int 1 v] },toks:=tk }:=by
 refine wpAny_pyIter_range (IsRange.new ..) (small_one h1 h2 h3 h4) ?_;have I1:Inv X pins σ H { s with heap:=s.heap.push { cls:=.type "range",data:=.fields #[.int lo t,.int hi u,.int 1 v] },toks:=tk }:=I.kept λ b o e=>Qp _ e;refine⟨#[130].objs.size,[#[130].objs.size],_,_,H,rfl,
  I1.kept (t':=tk) λ b o e=>Qp _ e,zZ _ lo (hi-lo).toNat,?_,λ b hb=>?_,q⟩
 ·have e1:lo+((0:Nat):Int)*1=lo:=by simp
  have e2:(((hi-lo).toNat:Nat):Int)-((0:Nat):Int)=Builtin.Range.rangeSize lo hi 1:=by rw[rangeSize_one];split<;>omega
  show IsRangeIter _ _ (lo+((0:Nat):Int)*1) ((((hi-lo).toNat:Nat):Int)-((0:Nat):Int)) 1;rw[e1,e2];exact QI _ rfl
 ·have e:b=#[130].objs.size:=by simpa using hb
  subst e;exact I1.wR (QD _) (I1.hok.fresh (QD _))
def JK (ta:TA):TI:=λ σ H R=>ta σ H λ vs H1=>∃ j:Int,vs=[.int j] /\ -(2^62)<=j/\j<2^62/\R (Ol 0 j.toNat) H1
def Ct {a:Expr}{ta:TA}(hg:Gl X "range")(hm:X.mg "range" = none)(ha:PA X [a] ta)(hs:starEach [a] X.env=[(false,eval a X.env)]:=by rfl):PI X tg (.Call (.Name "range" p) [a] [] pos) (JK ta):=by
 intro pins s σ H R I h;refine Call_ (lQ I hg hm boot_range (Sl (eG (ha pos pins s σ H _ I h) λ us s1 hq5=>L2.ex5 hq5 λ vs H1 I1 r1 q1=>?_) hs rfl));obtain⟨j,e,q1,q2,q⟩:=q1;subst e;cases r1 with
 | cons r rr =>
  cases rr;obtain⟨t,rfl⟩:=r;exact call_range_1 (D6 I1 #[1] #[1] q1 q2 (by simpa using q))
def OG (wi:TI)(g:TG)(tb:TS):TS:=λ D σ H=>wi σ H λ J H1=>∃ W:Nat->Nat->St->Hp->Prop,(∃ m,W 0 m σ H1)/\∀ i m σ H,W i m σ H ->
 (J.stop i H/\D.nx σ H)\/(J.go i H/\∃ N:St->Hp->Prop,(∀ σ' H',N σ' H'->∃ m',m' < m/\W (i+1) m' σ' H')/\∀ x H',J.Cp i H x H'->g x σ H' λ σ2 H2=>tb { D with nx:=N,ct:=N,bk:=D.nx } σ2 H2)
def tu (fp:#[9])(h:Heap):List (Addr×Obj):=fp.filterMap λ b=>(h.get? b).map λ o=>(b,o)
def kD{o:Obj}(hb:b∈fp)(e:h.get? b=some o):(b,o)∈tu fp h:=Ux.mpr ⟨b,hb,by rw[e];rfl⟩
def Cr{p:Addr×Obj}(hp:p∈tu fp h):p.1∈fp/\h.get? p.1=some p.2:=by
 obtain⟨b,hb,e⟩:=Ux.mp hp;cases q:h.get? b with
 |none=>rw[q]at e;cases e
 | some o =>
  rw[q]at e;have e':(b,o)=p:=Rq e;subst e';exact⟨hb,q⟩
def Inv.pinned(I:#[4])(hf:∀ b∈fp,ou X pins H b)(ho:∀ b∈fp,∃ o,s.heap.get? b=some o/\∀ v,o.data ≠ .cell v):Inv X (pins++tu fp s.heap) σ H s:=
 I.wQ λ p hp=>(QH.mp hp).elim (λ z=>I.pin p (QJ _ z)) λ z=>by
  obtain⟨hb,e⟩:=Cr z;obtain⟨f0,f1,f2,_⟩:=hf p.1 hb;obtain⟨o,e',d⟩:=ho p.1 hb;rw[e]at e';cases e';exact⟨e,f0,f1,f2,d⟩
def Inv.lR {pl:#[12]}(I:Inv X (pins++pl) σ H s):Inv X pins σ H s:=I.wQ λ p hp=>I.pin p (QJ _ (QR _ hp))
def KA {iter:Expr}{wi:TI}{g:TG}{tb:TS}(hp:PassesOwn #[11] X.A X.env X.xe)(hc:X.calm=true)(hi:PI X tg iter wi)(hg:PG X tg g)(hb:kF X body tb)
  (hs:#[39]:=by intro _;rfl):PS X (.For tg iter body [] pos) (OG wi g tb):=by
 intro pins s σ H D I h;refine wpAny_For (eG (hi pins s σ H _ I h) λ v s1 h1=>eG h1 λ itv s2 h2=>?_) hs;obtain⟨it,fp,tn,J,H2,e,I2,T,st2,f2,W,⟨m0,w0⟩,turn⟩:=h2;subst e;have stat:∀ {H':Hp},(∀ b∈fp,H' b=none)->∀ b∈fp,ou X pins H' b:=λ hn b hb=>⟨hn b hb,(f2 b hb).2⟩;refine codeAny_forLoop_any (λ n s'=>∃ i σ' H',Inv X pins σ' H' s'/\tn i s'.heap/\(∀ b∈fp,H' b=none)/\W i n σ' H') ?_ m0 ⟨0,σ,H2,I2,st2,λ b hb=>(f2 b hb).1,w0⟩;rintro n s3 ⟨i,σ3,H3,I3,st3,fr3,w3⟩;rcases turn i n σ3 H3 w3 with ⟨stop,qn⟩|⟨go,N,hN,step⟩
 ·refine Sx hp (eG (T.done X rfl rfl rfl hc i pins s3 σ3 H3 X.xe I3 (stat fr3) st3 stop) λ r s4 ⟨hr,I4⟩=>?_);subst hr;exact Tu ⟨σ3,H3,I4,qn⟩
 ·refine Sx hp (eG (T.item X rfl rfl rfl hc i pins s3 σ3 H3 X.xe I3 (stat fr3) st3 go) λ r s4 ⟨u,hr,h4⟩=>?_);subst hr;refine Sx hp (eG h4 λ _ s5 ⟨x,H5,I5,r5,y5,st5,fr5⟩=>?_);have I5':=I5.pinned (stat fr5) (T.obj _ _ st5);refine Sx hp (eG (hg _ s5 σ3 H5 x u _ I5' r5 (step x H5 y5)) λ _ s6 ⟨σ6,H6,I6,q6⟩=>?_);refine Sx hp (eG (hb _ s6 σ6 H6 _ I6 q6) λ f s7 q7=>?_);have again:∀ {σ7:St}{H7:Hp},Inv X (pins++tu fp s5.heap) σ7 H7 s7->N σ7 H7->∃ m,m<n/\∃ i σ' H',Inv X pins σ' H' s7/\tn i s7.heap/\(∀ b∈fp,H' b=none)/\W i m σ' H':=λ {σ7 H7} I7 n7=>by
   obtain⟨m',hm,w7⟩:=hN σ7 H7 n7;refine⟨m',hm,i+1,σ7,H7,I7.lR,T.keep _ _ _ st5 λ b hb o e=>(I7.pin (b,o) (QJ _ (QJ _ (kD hb e)))).1,λ b hb=>?_,w7⟩;obtain⟨o,e,d⟩:=T.obj _ _ st5 b hb;exact(I7.pin (b,o) (QJ _ (QJ _ (kD hb e)))).2.1
  cases f with
  |next=>obtain⟨σ7,H7,I7,n7⟩:=q7;exact again I7 n7|cont=>obtain⟨σ7,H7,I7,n7⟩:=q7;exact again I7 n7|brk=>obtain⟨σ7,H7,I7,q7⟩:=q7;exact⟨σ7,H7,I7.lR,q7⟩| ret v=>obtain⟨x7,σ7,H7,I7,r7,q7⟩:=q7;exact⟨x7,σ7,H7,I7.lR,r7,q7⟩
end
abbrev R2:=V->V->Hp->VK->Prop
variable {r:R2}
def jK (X:Cx)(f:Value->Value->Sem Value)(r:R2):Prop:=
 ∀ (pins:#[12]) (s:Shared) (σ:St) (H:Hp) (x y:V) (v u:Value) (Q:VK),Inv X pins σ H s->RelV x v->RelV y u->r x y H Q ->
  wpAny #[11] X.A (f v u) (EP X pins σ Q) X.xe s
def OI (X:Cx)(f:Value->Sem Value)(r:V->Hp->VK->Prop):Prop:=
 ∀ (pins:#[12]) (s:Shared) (σ:St) (H:Hp) (x:V) (v:Value) (Q:VK),Inv X pins σ H s->RelV x v->r x H Q ->
  wpAny #[11] X.A (f v) (EP X pins σ Q) X.xe s
def eK (X:Cx)(f:Value)(r:#[188]):Prop:=
 ∀ (pins:#[12]) (s:Shared) (σ:St) (H:Hp) (xs:List V) (us:#[17]) (Q:VK),Inv X pins σ H s->Vals xs us->r xs H Q ->
  wpAny #[11] X.A (call f us) (EP X pins σ Q) X.xe s
def OX (X:Cx)(r:V->Hp->#[129]->Prop):Prop:=
 ∀ (pins:#[12]) (s:Shared) (σ:St) (H:Hp) (x:V) (v:Value) (Q:#[129]),Inv X pins σ H s->RelV x v->r x H Q ->
  wpAny #[11] X.A (truthy v) (TP X pins σ Q) X.xe s
def Om (r:R2)(ta tb:TE):TE:=λ σ H Q=>ta σ H λ x H1=>tb σ H1 λ y H2=>r x y H2 Q
def Qc (r:V->Hp->VK->Prop)(ta:TE):TE:=λ σ H Q=>ta σ H λ x H1=>r x H1 Q
def rI (C:Int->Int->Prop)(g:Int->Int->V):R2:=λ x y H Q=>∃ i j,x=.int i/\y=.int j/\C i j/\Q (g i j) H
def Cm (g:Int->Int->V):R2:=λ x y H Q=>∃ i j,x=.int i/\y=.int j/\Q (g i j) H
def rU (g:Int->V):V->Hp->VK->Prop:=λ x H Q=>∃ i,x=.int i/\Q (g i) H
section
variable{a b:Expr}{tc:TE}
def KI (ha:PE X a ta)(hb:PE X b tb){R:V->V->Hp->Prop}(I:#[4])
  (h:ta σ H λ x H1=>tb σ H1 λ y H2=>R x y H2){f:Value->Value->Sem Value}
  (hf:∀ v u s2 x y H2,Inv X pins σ H2 s2->RelV x v->RelV y u->R x y H2->wpAny #[11] X.A (f v u) Q X.xe s2) :
  wpAny #[11] X.A (eval a X.env) (λ v s₁=>wpAny #[11] X.A (eval b X.env) (λ u s₂=>wpAny #[11] X.A (f v u) Q X.xe s₂) X.xe s₁) X.xe s:=by
 refine eG #[114] λ v s1 hq5=>L2.ex5 hq5 λ x H1 I1 r1 q1=>?_;refine eG (hb pins s1 σ H1 _ I1 q1) λ u s2 hq5=>L2.ex5 hq5 λ y H2 I2 r2 q2=>?_;exact hf v u s2 x y H2 I2 r1 r2 q2
def MV {op:Operator}(ho:jK X (binaryOp op) r)(ha:PE X a ta)(hb:PE X b tb):PE X (.BinOp a op b pos) (Om r ta tb):=by
 intro pins s σ H Q I h;exact wpAny_BinOp (KI ha hb I h λ v u s2 x y H2 I2 rx ry q=>ho pins s2 σ H2 x y v u Q I2 rx ry q)
def MS {op:UnaryOp}{r:V->Hp->VK->Prop}(ho:OI X (unaryOp op) r)(ha:PE X a ta):PE X (.UnaryOp op a pos) (Qc r ta):=by
 intro pins s σ H Q I h;exact UnaryOp_ (eG #[114] λ v s1 hq5=>L2.ex5 hq5 λ x H1 I1 r1 q1=>ho pins s1 σ H1 x v Q I1 r1 q1)
def Oi {f:Value->Value->Sem Value}{C:Int->Int->Prop}{g:Int->Int->Int}
  (rule:∀ (i j:Int) (t u:Tok) (s:Shared) (Q:#[7]) (E:#[7]),C i j->Q (.int (g i j) s.toks) { s with toks:=s.toks+1 }->wpAny #[11] X.A (f (.int i t) (.int j u)) Q E s) :
  jK X f (rI C λ i j=>.int (g i j)):=by
 intro pins s σ H x y v u Q I rx ry h;obtain⟨i,j,rfl,rfl,hc,q⟩:=h;obtain⟨t,rfl⟩:=rx;obtain⟨t',rfl⟩:=ry;exact rule i j t t' s _ _ hc ⟨.int (g i j),H,I.tok _,⟨_,rfl⟩,q⟩
def MU {f:Value->Value->Sem Value}{g:Int->Int->Int}
  (rule:∀ (i j:Int) (t u:Tok) (s:Shared) (Q:#[7]) (E:#[7]),Q (.int (g i j) s.toks) { s with toks:=s.toks+1 }->wpAny #[11] X.A (f (.int i t) (.int j u)) Q E s) :
  jK X f (Cm λ i j=>.int (g i j)):=by
 intro pins s σ H x y v u Q I rx ry h;obtain⟨i,j,rfl,rfl,q⟩:=h;obtain⟨t,rfl⟩:=rx;obtain⟨t',rfl⟩:=ry;exact rule i j t t' s _ _ ⟨.int (g i j),H,I.tok _,⟨_,rfl⟩,q⟩
def K5 {f:Value->Value->Sem Value}{g:Int->Int->Bool}
  (rule:∀ (i j:Int) (t u:Tok) (s:Shared) (Q:#[7]) (E:#[7]),Q (.bool (g i j)) s->wpAny #[11] X.A (f (.int i t) (.int j u)) Q E s) :
  jK X f (Cm λ i j=>.bl (g i j)):=by
 intro pins s σ H x y v u Q I rx ry h;obtain⟨i,j,rfl,rfl,q⟩:=h;obtain⟨t,rfl⟩:=rx;obtain⟨t',rfl⟩:=ry;exact rule i j t t' s _ _ ⟨.bl (g i j),H,I,rfl,q⟩
def DZ (i j:Int):Prop:=0<j/\j<1073741824
def Hu (i j:Int):Prop:=0<=j/\j<=1000000/\i.natAbs<2^64
def D0 (i j:Int):Prop:=(-(2^64)<i/\i<2^64)\/(-(2^64)<j/\j<2^64)
def D0.ok {i j:Int}(h:D0 i j):IntMulOk i j:=by
 rcases h with ⟨h1,h2⟩|⟨h1,h2⟩
 ·exact .of_left (intBits_le_64 h1 h2)
 ·exact .of_right (intBits_le_64 h1 h2)
def KY:jK X (binaryOp .Add) (Cm λ i j=>.int (i+j)):=MU λ _ _ _ _ _ _ _ q=>add_int q
def Km:jK X (binaryOp .Sub) (Cm λ i j=>.int (i-j)):=MU λ _ _ _ _ _ _ _ q=>sub_int q
def sD:jK X (binaryOp .FloorDiv) (rI DZ λ i j=>.int (i/j)):=Oi λ i j _ _ _ _ _ hc q=>by
 have h1:(0:Int)<j:=hc.1;have h2:j<1073741824:=hc.2;exact floordiv_int #[1] (by rw[Int.fdiv_eq_ediv_of_nonneg i #[1]];exact q) (.inl (PyProof.noPylong_small #[1]))
def dF:jK X (binaryOp .Mod) (rI (λ _ j=>0<j) λ i j=>.int (i%j)):=Oi λ i j _ _ _ _ _ hc q=>by
 have h1:(0:Int)<j:=hc;exact mod_int' #[1] (by rw[Int.fmod_eq_emod_of_nonneg i #[1]];exact q)
def sY:jK X (binaryOp .Pow) (rI Hu λ i j=>.int (i^j.toNat)):=Oi λ _ _ _ _ _ _ _ hc q=>pow_int_small hc.1 hc.2.1 hc.2.2 q
def Qa {f:Value->Sem Value}{g:Int->Int}
  (rule:∀ (i:Int) (t:Tok) (s:Shared) (Q:#[7]) (E:#[7]),Q (.int (g i) s.toks) { s with toks:=s.toks+1 }->wpAny #[11] X.A (f (.int i t)) Q E s) :
  OI X f (rU λ i=>.int (g i)):=by
 intro pins s σ H x v Q I rx h;obtain⟨i,rfl,q⟩:=h;obtain⟨t,rfl⟩:=rx;exact rule i t s _ _ ⟨.int (g i),H,I.tok _,⟨_,rfl⟩,q⟩
def Kw:OI X (unaryOp .USub) (rU λ i=>.int (-i)):=Qa λ _ _ _ _ _ q=>neg_int q
end
def K2:V->V->Bool
 |.bW,.bW=>true|.bW,.int _=>true|.int _,.bW=>true|.bW,.bl _=>true|.bl _,.bW=>true|.bW,.str _=>true|.str _,.bW=>true
 |.int _,.int _=>true|.bl _,.bl _=>true|.str _,.str _=>true|.Co _,.Co _=>true
 |.int _,.str _=>true|.str _,.int _=>true|.bl _,.str _=>true|.str _,.bl _=>true
 |_,_=>false
def PM:R2:=λ x y H Q=>K2 x y=true/\Q (.bl (decide (x=y))) H
def OR:R2:=λ x y H Q=>K2 x y=true/\Q (.bl (!decide (x=y))) H
def Be {i j:Int}:decide (V.int i=V.int j)=(i == j):=by
 rw[Sy];simp
def D5 {i j:Bool}:decide (V.bl i=V.bl j)=(i == j):=by
 rw[Sy];simp
def Bg {i j:Str}:decide (V.str i=V.str j)=(i == j):=by
 rw[Sy];simp
def Bs {i j:Array UInt8}:decide (V.Co i=V.Co j)=(i.toList == j.toList):=by
 rw[Sy];cases i;cases j;simp
section
variable{a b:Expr}{tc:TE}
def cj{Q:VK}{k k':Bool}(I:#[4])(q:Q (.bl k) H)(e:k=k'):EP X pins σ Q (.bool k') s:=by
 subst e;exact⟨.bl k,H,I,rfl,q⟩
def iZ:jK X (compareOp .Eq) PM:=by
 intro pins s σ H x y v u Q I rx ry h;obtain⟨hs,q⟩:=h;cases x with
 | bW =>
  cases rx;cases y with
  |bW=>cases ry;exact PySem.EqNone.eq_none_none #[160]|bl j=>cases ry;exact PySem.EqNone.eq_none_bool #[160]|int j=>obtain⟨t',rfl⟩:=ry;exact PySem.EqNone.eq_none_int #[160]|str j=>obtain⟨t',rfl⟩:=ry;exact PySem.EqNone.eq_none_str #[160]|_=>exact absurd (show false=true from hs) Qy
 | bl i =>
  cases rx;cases y with
  |bW=>cases ry;exact PySem.EqNone.eq_bool_none #[160]|bl j=>cases ry;exact eq_bool (cj I q D5)|str j=>obtain⟨t',rfl⟩:=ry;exact PySem.EqMixed.eq_bool_str #[160]|_=>exact absurd (show false=true from hs) Qy
 | int i =>
  obtain⟨t,rfl⟩:=rx;cases y with
  |bW=>cases ry;exact PySem.EqNone.eq_int_none #[160]|int j=>obtain⟨t',rfl⟩:=ry;exact eq_int (cj I q Be)|str j=>obtain⟨t',rfl⟩:=ry;exact PySem.EqMixed.eq_int_str #[160]|_=>exact absurd (show false=true from hs) Qy
 | str i =>
  obtain⟨t,rfl⟩:=rx;cases y with
  |bW=>cases ry;exact PySem.EqNone.eq_str_none #[160]|bl j=>cases ry;exact PySem.EqMixed.eq_str_bool #[160]|int j=>obtain⟨t',rfl⟩:=ry;exact PySem.EqMixed.eq_str_int #[160]|str j=>obtain⟨t',rfl⟩:=ry;exact eq_str (cj I q Bg)|_=>exact absurd (show false=true from hs) Qy
 | Co i =>
  obtain⟨t,rfl⟩:=rx;cases y with
  |Co j=>obtain⟨t',rfl⟩:=ry;exact PySem.W.eq_bytes (cj I q Bs)|_=>exact absurd (show false=true from hs) Qy
 |_=>cases y<;>exact absurd (show false=true from hs) Qy
def DU:jK X (compareOp .NotEq) OR:=by
 intro pins s σ H x y v u Q I rx ry h;obtain⟨hs,q⟩:=h;cases x with
 | bW =>
  cases rx;cases y with
  |bW=>cases ry;exact PySem.EqNone.ne_none_none #[160]|bl j=>cases ry;exact PySem.EqNone.ne_none_bool #[160]|int j=>obtain⟨t',rfl⟩:=ry;exact PySem.EqNone.ne_none_int #[160]|str j=>obtain⟨t',rfl⟩:=ry;exact PySem.EqNone.ne_none_str #[160]|_=>exact absurd (show false=true from hs) Qy
 | bl i =>
  cases rx;cases y with
  |bW=>cases ry;exact PySem.EqNone.ne_bool_none #[160]|bl j=>cases ry;exact ne_bool (cj I q (RL not D5))|str j=>obtain⟨t',rfl⟩:=ry;exact PySem.EqMixed.ne_bool_str #[160]|_=>exact absurd (show false=true from hs) Qy
 | int i =>
  obtain⟨t,rfl⟩:=rx;cases y with
  |bW=>cases ry;exact PySem.EqNone.ne_int_none #[160]|int j=>obtain⟨t',rfl⟩:=ry;exact ne_int (cj I q (RL not Be))|str j=>obtain⟨t',rfl⟩:=ry;exact PySem.EqMixed.ne_int_str #[160]|_=>exact absurd (show false=true from hs) Qy
 | str i =>
  obtain⟨t,rfl⟩:=rx;cases y with
  |bW=>cases ry;exact PySem.EqNone.ne_str_none #[160]|bl j=>cases ry;exact PySem.EqMixed.ne_str_bool #[160]|int j=>obtain⟨t',rfl⟩:=ry;exact PySem.EqMixed.ne_str_int #[160]|str j=>obtain⟨t',rfl⟩:=ry;exact ne_str (cj I q (RL not Bg))|_=>exact absurd (show false=true from hs) Qy
 | Co i =>
  obtain⟨t,rfl⟩:=rx;cases y with
  |Co j=>obtain⟨t',rfl⟩:=ry;exact PySem.W.ne_bytes (cj I q (RL not Bs))|_=>exact absurd (show false=true from hs) Qy
 |_=>cases y<;>exact absurd (show false=true from hs) Qy
def rB:jK X (compareOp .Lt) (Cm λ i j=>.bl (decide (i<j))):=K5 λ _ _ _ _ _ _ _ q=>lt_int q
def yj:jK X (compareOp .Gt) (Cm λ i j=>.bl (decide (j<i))):=K5 λ _ _ _ _ _ _ _ q=>gt_int q
def MY:jK X (compareOp .GtE) (Cm λ i j=>.bl (decide (j<=i))):=K5 λ _ _ _ _ _ _ _ q=>ge_int q
def jK.or {f:Value->Value->Sem Value}{r':R2}(h:jK X f r)(h':jK X f r'):jK X f (λ x y H Q=>r x y H Q\/r' x y H Q):=by
 intro pins s σ H x y v u Q I rx ry q;rcases q with q|q
 ·exact h pins s σ H x y v u Q I rx ry q
 ·exact h' pins s σ H x y v u Q I rx ry q
def kE (b:Expr)(h:op ≠ .In:=by decide)(h2:op ≠ .NotIn:=by decide):behindInMarks op b=false:=by
 have e1:(op == CmpOp.In)=false:=by cases op<;>first|rfl|exact absurd rfl h
 have e2:(op == CmpOp.NotIn)=false:=by cases op<;>first|rfl|exact absurd rfl h2
 cases b<;>simp[behindInMarks,e1,e2]
def Hs(ho:jK X (compareOp op) r)(ha:PE X a ta)(hb:PE X b tb)(hm:behindInMarks op b=false):PE X (.Compare a [op] [b] pos) (Om r ta tb):=by
 intro pins s σ H Q I h;exact wpAny_Compare1 (KI ha hb I h λ v u s2 x y H2 I2 rx ry q=>ho pins s2 σ H2 x y v u Q I2 rx ry q) hm
def JN (t:TE):TT:=λ σ H Q=>t σ H λ x H'=>∃ k,x=.bl k/\Q k H'
def Hq(ho:jK X (compareOp op) r)(ha:PE X a ta)(hb:PE X b tb)(hm:behindInMarks op b=false):PT X (.Compare a [op] [b] pos) (JN (Om r ta tb)):=by
 intro pins s σ H Q I h;refine wpAny_isTrue_Compare1 (eG #[114] λ v s1 hq5=>L2.ex5 hq5 λ x H1 I1 r1 q1=>eG (hb pins s1 σ H1 _ I1 q1) λ u s2 hq5=>L2.ex5 hq5 λ y H2 I2 r2 q2=>
  eG (ho pins s2 σ H2 x y v u _ I2 r1 r2 q2) λ c s3 ⟨z,H3,I3,r3,k,e,q3⟩=>?_) hm
 subst e;cases r3;exact R6 ⟨H3,I3,q3⟩
def KR (r r':R2)(ta tb tc:TE):TE:=λ σ H Q=>ta σ H λ x H1=>tb σ H1 λ y H2=>r x y H2 λ z H3=>∃ k,z=.bl k /\
 (if k=true then tc σ H3 λ w' H4=>r' y w' H4 Q else Q (.bl false) H3)
def D9 {op':CmpOp}{r':R2}(ho:jK X (compareOp op) r)(ho':jK X (compareOp op') r')(ha:PE X a ta)(hb:PE X b tb)(hc:PE X c tc)
  (hm:lastMarks [op,op'] [b,c]=false:=by with_unfolding_all rfl):PT X (.Compare a [op,op'] [b,c] pos) (JN (KR r r' ta tb tc)):=by
 intro pins s σ H Q I h;refine isTrue_chain (eG #[114] λ v s1 hq5=>L2.ex5 hq5 λ x H1 I1 r1 q1=>test_link (eG (hb pins s1 σ H1 _ I1 q1) λ u s2 hq5=>L2.ex5 hq5 λ y H2 I2 r2 q2=>
  eG (ho pins s2 σ H2 x y v u _ I2 r1 r2 q2) λ d s3 ⟨z,H3,I3,r3,k,e,q3⟩=>?_)) hm
 subst e;cases r3;refine R6 ?_;cases k with
 | false =>
  obtain⟨k',e',q'⟩:=q3;cases e';exact ite_ff ⟨H3,I3,q'⟩
 | true =>
  refine ite_tt (test_last (eG (hc pins s3 σ H3 _ I3 q3) λ w' s4 hq5=>L2.ex5 hq5 λ z' H4 I4 r4 q4=>eG (ho' pins s4 σ H4 y z' u w' _ I4 r2 r4 q4) λ d' s5 ⟨z2,H5,I5,r5,k2,e2,q5⟩=>?_));subst e2;cases r5;exact R6 ⟨H5,I5,q5⟩
def M3 (K:#[0])(x:V)(H:Hp)(k:Bool):Prop:=
 match x with
 |.bW=>k=false
 |.bl b=>k=b
 |.int i=>k=(i != 0)
 |.str y=>y.length<=sizeLine/\k=((y.length:Int) != 0)
 |.Co y=>y.size<=sizeLine/\k=((y.size:Int) != 0)
 |.ref p=>(∃ xs,fH K H p xs/\k = !xs.isEmpty)\/(∃ xs,k9 K H p xs/\k = !xs.isEmpty)\/∃ kvs ep,H p=some (.dK kvs ep)/\k = !kvs.isEmpty
 |_=>False
def zV {κ:Type}{kvs:List (κ×V)}{vs:List (κ×Value)}(r:KV kvs vs):(!vs.isEmpty) = !kvs.isEmpty:=by
 cases r<;>rfl
def sZ{its:#[17]}(r:Vals xs its):(!its.toArray.isEmpty) = !xs.isEmpty:=by
 cases r<;>simp
def oz:(sizeLine:Nat)<2^63:=by rw[Rg];decide
def KJ:OX X (λ x H Q=>∃ k,M3 X.K x H k/\Q k H):=by
 intro pins s σ H x v Q I rx h;obtain⟨k,e,q⟩:=h;have hl:=oz;have hs:sizeLine=16777216:=Rg;cases x with
 | bW =>
  cases rx;have e':k=false:=e;subst e';exact truthy_none ⟨H,I,q⟩
 | bl b =>
  cases rx;have e':k=b:=e;subst e';exact R6 ⟨H,I,q⟩
 | int i =>
  obtain⟨t,rfl⟩:=rx;have e':k=(i != 0):=e;subst e';exact PySem.P.truthy_int ⟨H,I,q⟩
 | str y =>
  obtain⟨t,rfl⟩:=rx;obtain⟨hy,e'⟩:y.length<=sizeLine/\k=((y.length:Int) != 0):=e;subst e';exact PySem.P.truthy_str #[1] ⟨H,I.tok _,q⟩
 | Co y =>
  obtain⟨t,rfl⟩:=rx;obtain⟨hy,e'⟩:y.size<=sizeLine/\k=((y.size:Int) != 0):=e;subst e';exact PySem.W.truthy_bytes #[1] ⟨H,I.tok _,q⟩
 | ref p =>
  cases rx;have e':(∃ xs,fH X.K H p xs/\k = !xs.isEmpty)\/(∃ xs,k9 X.K H p xs/\k = !xs.isEmpty)\/∃ kvs ep,H p=some (.dK kvs ep)/\k = !kvs.isEmpty:=e;rcases e' with ⟨xs,hx,e'⟩|⟨xs,hx,e'⟩|⟨kvs,ep,hx,e'⟩
  ·subst e';obtain⟨its,r,pl,hz⟩:=I.list hx;have hlen:=r.length;exact wpAny_truthy_list pl.isList (by simp only[Qz];omega) ⟨H,I.tok _,by rw[sZ r];exact q⟩
  ·subst e';obtain⟨its,r,pl,hz⟩:=I.tuple hx;have hlen:=r.length;exact truthy_tuple pl (by simp only[Qz];omega) ⟨H,I.tok _,by rw[sZ r];exact q⟩
  ·subst e';obtain⟨hz,hS,vs,r,m⟩:kvs.length<=sizeLine/\(p == sysModules)=false/\∃ vs,KV kvs vs/\s.heap.DictAt (fE X.prog X.w) p vs ep:=I.hok p _ hx;have hlen:kvs.length=vs.length:=UY r;exact wpAny_truthy_dict hS m.dictOf #[1] ⟨H,I.tok _,by rw[zV r];exact q⟩
 |_=>exact(show False from e).elim
def D3 (ha:PE X a ta)(he:#[117]) :
  PT X a (λ σ H Q=>ta σ H λ x H'=>∃ k,M3 X.K x H' k/\Q k H'):=by
 intro pins s σ H Q I h;exact isTrue_plain (eG #[114] λ v s1 hq5=>L2.ex5 hq5 λ x H1 I1 r1 q1=>KJ pins s1 σ H1 x v Q I1 r1 q1) (he _)
def zW:jK X (binaryOp .Add) (λ x y H Q=>∃ i j,x=.str i/\y=.str j/\i.length+j.length<=sizeLine/\Q (.str (i++j)) H):=by
 intro pins s σ H x y v u Q I rx ry h;obtain⟨i,j,rfl,rfl,hz,q⟩:=h;obtain⟨t,rfl⟩:=rx;obtain⟨t',rfl⟩:=ry;exact add_str (λ t' tk=>⟨.str (i++j),H,I.tok _,⟨_,rfl⟩,q⟩) hz
def vals1 {x:V}(r:Vals [x] us):∃ u,us=[u]/\RelV x u:=by
 cases r with
 |cons r1 r2=>cases r2;exact⟨_,rfl,r1⟩
def vals2 {x y:V}(r:Vals [x,y] us):∃ u w',us=[u,w']/\RelV x u/\RelV y w':=by
 cases r with
 | cons r1 r2 =>
  cases r2 with
  |cons r3 r4=>cases r4;exact⟨_,_,rfl,r1,r3⟩
def mW (hc:X.calm=true):eK X (.builtin "max") (λ xs H Q=>∃ i j,xs=[.int i,.int j]/\Q (.int (if j>i then j else i)) H):=by
 intro pins s σ H xs us Q I r h;obtain⟨i,j,rfl,q⟩:=h;obtain⟨u,w',rfl,⟨t,rfl⟩,⟨t',rfl⟩⟩:=vals2 r;refine max_two_ints (I.ok.hd hc) λ h' tk k=>⟨_,H,I.kept k,?_,q⟩;by_cases hj:j>i
 ·rw[QG hj,QG hj];exact⟨_,rfl⟩
 ·rw[QK hj,QK hj];exact⟨_,rfl⟩
def j1 (hc:X.calm=true):eK X (.builtin "min") (λ xs H Q=>∃ i j,xs=[.int i,.int j]/\Q (.int (if j<i then j else i)) H):=by
 intro pins s σ H xs us Q I r h;obtain⟨i,j,rfl,q⟩:=h;obtain⟨u,w',rfl,⟨t,rfl⟩,⟨t',rfl⟩⟩:=vals2 r;refine min_two_ints (I.ok.hd hc) λ h' tk k=>⟨_,H,I.kept k,?_,q⟩;by_cases hj:j<i
 ·rw[QG hj,QG hj];exact⟨_,rfl⟩
 ·rw[QK hj,QK hj];exact⟨_,rfl⟩
def Cu:eK X (.type "int") (λ xs H Q=>(∃ i,xs=[.int i]/\Q (.int i) H)\/∃ k,xs=[.bl k]/\Q (.int (if k then 1 else 0)) H):=by
 intro pins s σ H xs us Q I r h;rcases h with ⟨i,rfl,q⟩|⟨k,rfl,q⟩
 ·obtain⟨u,rfl,t,rfl⟩:=vals1 r;exact call_int_int ⟨.int i,H,I,⟨_,rfl⟩,q⟩
 ·obtain⟨u,rfl,r1⟩:=vals1 r;cases r1;exact call_int_bool ⟨.int (if k then 1 else 0),H,I.tok _,⟨_,rfl⟩,q⟩
end
structure Kp (h:Heap)(x dx C:Addr)(mA:Str->Option Value):Prop where
 obj:h.get? x=some (PySem.W.instObj C dx)
 ns:h.Ns1 dx mA
 ne:dx≠x
def Cs(n:h.Ns1 dx mA):∃ od,h.get? dx=some od/\∀ name,PySem.W.lookIn name od=some (mA name):=by
 obtain⟨o,es,ep,ho,hd,hk,_,hm⟩:=n;refine⟨o,ho,λ name=>?_⟩;have e:=hm name;unfold nsFind findBy at e;rw[<-Array.find?_toList]at e;unfold PySem.W.lookIn;rw[hd];dsimp only;split
 ·rename_i y q;rw[q]at e;exact RL some e
 ·rename_i q;rw[q]at e;have a:es.toList.any (·.refKey)=false:=by
   rw[List.any_eq_false];intro y hy;obtain⟨z,t,hkey⟩:=hk y (Array.mem_toList_iff.mp hy);simp[DictEntry.refKey,hkey]
  have a':¬ es.toList.any (·.refKey)=true:=by rw[a];exact Qy
  rw[QK a'];exact RL some e
def Kp.look{x:Addr}(I:Kp h x dx C mA):∃ od,PySem.W.InstAt h x (PySem.W.instObj C dx) C (some od)/\∀ name,PySem.W.lookIn name od=some (mA name):=
 let ⟨od,ho,hl⟩:=Cs I.ns
 ⟨od,⟨I.obj,rfl,rfl,ho⟩,hl⟩
section
variable {prog:#[83]}{K:#[0]}{x:Addr}{name:Str}{v:Value}
end
def tm.some_of{o:Option Value}(r:tm (some v) o):∃ u,o=some u/\RelV v u:=by
 cases o with
 |none=>exact(show False from r).elim|some u=>exact⟨u,rfl,r⟩
section
variable{fs fs':List (Str×V)}
def Ho (hok:lj P w H h)(e:H a=some (.ins C dx fs)):∃ mA,Kp h a dx C mA/\(∀ f,tm (fs.lookup f) (mA f))/\PySem.Within mA (fs.map (·.1))/\fs.length<=1000/\H dx=some (.own a):=by
 obtain⟨d,z,ne,ob,mA,n,r,q⟩:=(show cY P w H h a (.ins C dx fs) from hok a _ e);exact⟨mA,⟨ob,n,ne⟩,r,q,z,d⟩
end
structure DS (K:PySem.W.Frag)(C:Addr):Prop where
 pg:PySem.W.plainGet K C Str.empty=true
 hd:PySem.W.hasDictIn K C=true
 po:PySem.W.plainOver K C=true
 sa:PySem.W.findIn K (.ref C) "__setattr__" = some (some (.builtin "object.__setattr__"))
def DS.get {K:#[0]}(c:DS K C)(f:Str):PySem.W.plainGet K C f=true:=c.pg
section
variable{fs:List (Str×V)}{f:Str}
end
section
variable{o value:Expr}{f:Str}{pos' tpos:Pos}{tv:TE}
end
section
variable{c:Value}{b:Bool}
inductive oW (K:PySem.W.Frag)(H:Hp):V->Value->Prop where
 |bW:oW K H .bW (.type "NoneType")
 |bl (x:Bool):oW K H (.bl x) (.type "bool")
 |int (i:Int):oW K H (.int i) (.type "int")
 |str (x:Str):oW K H (.str x) (.type "str")
 |MK (x:UInt64):oW K H (.MK x) (.type "float")
 |lst {a:Addr}{xs:List V} (e:H a=some (.lst xs)):oW K H (.ref a) (.type "list")
 |av {a:Addr}{o:Obj}{xs:List V} (e:H a=some (.av o (.lst xs))):oW K H (.ref a) (.type "list")
 |tup {a:Addr}{xs:List V} (e:H a=some (.tup xs)):oW K H (.ref a) (.type "tuple")
 |dK {a:Addr}{kvs:List (Key×V)}{ep:Nat} (e:H a=some (.dK kvs ep)):oW K H (.ref a) (.type "dict")
 |dT {a:Addr}{kvs:List (List Key×V)}{ep:Nat} (e:H a=some (.dT kvs ep)):oW K H (.ref a) (.type "dict")
 | ins {a C dx:Addr}{fs:List (Str×V)} (e:H a=some (.ins C dx fs)) (cl:DS K C) (ha:PySem.W.findIn K (.ref C) "__class__" = some (some #[51]))
   (hn:PySem.W.specialIn K #[51] "__get__" = some (some #[86])) (htk:PySem.W.takesIn K #[51]=some true)
   (hm:PySem.W.mroIn K C (.type "object")=some true):oW K H (.ref a) (.ref C)
def Cv {x:V}{t:Value}(I:#[4])(rx:RelV x u)(ty:oW X.K H x t)(e:PySem.W.kitOne X.K t c=some b)(h:∀ tk,Q (.bool b) { s with toks:=tk }) :
  wpAny #[11] A (call (.builtin "isinstance") [u,c]) Q E s:=by
 cases ty with
 |bW=>cases (show u=Value.none from rx);exact Rz PySem.W.kitx_none I.qC True.intro e (λ z=>nomatch z) h|bl y=>cases (show u=Value.bool y from rx);exact Rz PySem.W.kitx_bool I.qC True.intro e (λ z=>nomatch z) h|int i=>obtain⟨t,q⟩:=(show ∃ t,u=Value.int i t from rx);cases q;exact Rz PySem.W.kitx_int I.qC True.intro e (λ z=>nomatch z) h|str y=>obtain⟨t,q⟩:=(show ∃ t,u=Value.str y t from rx);cases q;exact Rz PySem.W.kitx_str I.qC True.intro e (λ z=>nomatch z) h|MK y=>obtain⟨t,q⟩:=(show ∃ t,u=Value.float y t from rx);cases q;exact Rz PySem.W.kitx_float I.qC True.intro e (λ z=>nomatch z) h
 | @lst a xs ea =>
  cases (show u=Value.ref a from rx);obtain⟨_,_,n,_,h1⟩:=(show cY X.prog X.w H s.heap a (.lst xs) from I.hok a _ ea);exact Rz UQ I.qC ⟨_,h1,rfl⟩ e (λ z=>nomatch z) h
 | @av a ob xs ea =>
  cases (show u=Value.ref a from rx);obtain⟨_,_,_,n,_,h1⟩:=(show cY X.prog X.w H s.heap a (.av ob (.lst xs)) from I.hok a _ ea);exact Rz UQ I.qC ⟨_,h1,rfl⟩ e (λ z=>nomatch z) h
 | @tup a xs ea =>
  cases (show u=Value.ref a from rx);obtain⟨_,_,_,p⟩:=(show cY X.prog X.w H s.heap a (.tup xs) from I.hok a _ ea);obtain⟨o,h1,h2,_⟩:=p.is;exact Rz PySem.W.kitx_tuple I.qC ⟨o,h1,h2⟩ e (λ z=>nomatch z) h
 | @dK a kvs ep ea =>
  cases (show u=Value.ref a from rx);obtain⟨_,_,vs,_,p⟩:=(show cY X.prog X.w H s.heap a (.dK kvs ep) from I.hok a _ ea);obtain⟨o,es,h1,h2,_⟩:=p;exact Rz PySem.W.kitx_dict I.qC ⟨o,h1,h2.1⟩ e (λ z=>nomatch z) h
 | @dT a kvs ep ea =>
  cases (show u=Value.ref a from rx);obtain⟨_,_,xs,_,o,es,h1,h2,_⟩:=(show cY X.prog X.w H s.heap a (.dT kvs ep) from I.hok a _ ea);exact Rz PySem.W.kitx_dict I.qC ⟨o,h1,h2.1⟩ e (λ z=>nomatch z) h
 | @ins a C dx fs ea cl ha hn htk hm =>
  cases (show u=Value.ref a from rx);obtain⟨mA,O,_⟩:=Ho I.hok ea;obtain⟨od,J,_⟩:=O.look;exact Rz (PySem.W.kitx_own (cl.get _) cl.hd ha hn htk hm) I.qC J e (λ z=>nomatch z) h
end
structure dD (k:Nat)(A:Around):Prop where
 hd:A.handled=none
 dp:A.depth+3*k+5<recursionLimit
 un:A.units+16*k+200<cLine
def dD.mono {j k:Nat}(r:dD k A)(h:j<=k):dD j A:=⟨r.hd,by have:=r.dp;omega,by have:=r.un;omega⟩
def dD.deeper {k:Nat}(r:dD (k+1) A)(env:Env):dD k (A.deeper env):=
 ⟨r.hd,by have:=r.dp;show A.depth+1+3*k+5<_;omega,by have:=r.un;show A.units+3+16*k+200<_;omega⟩
def dD.in1 {k:Nat}(r:dD (k+1) A):dD k A.in1:=
 ⟨r.hd,by have:=r.dp;show A.depth+3*k+5<_;omega,by have:=r.un;show A.units+1+16*k+200<_;omega⟩
def dD.depth {k:Nat}(r:dD k A):A.depth<recursionLimit:=by have:=r.dp;omega
def dD.units {k:Nat}(r:dD k A):A.units+64<cLine:=by have:=r.un;omega
def Hn:TA:=λ _ H Q=>Q [] H
def Br (ta:TE)(tr:TA):TA:=λ σ H Q=>ta σ H λ x H1=>tr σ H1 λ xs H2=>Q (x::xs) H2
section
variable{t:TA}
def gP:PA X [] Hn:=λ _ _ _ _ H Q I h=>UR ⟨[],H,I,.nil,h⟩
def cN (ha:PE X e te)(hr:PA X es t)(hs:#[5]:=by rfl):PA X (e::es) (Br te t):=by
 intro pos pins s σ H Q I h;rw[hs];show wpAny _ _ (spliced ((false,eval e X.env)::backTo pos (starEach es X.env))) _ _ s;refine Uy (eG #[114] λ u s1 hq5=>L2.ex5 hq5 λ x H1 I1 r1 q1=>?_);exact eG (hr pos pins s1 σ H1 _ I1 q1) λ us s2 hq5=>L2.ex5 hq5 λ xs H2 I2 r2 q2=>⟨x::xs,H2,I2,.cons r1 r2,q2⟩
def OQ (t:TA):TE:=λ σ H Q=>t σ H λ xs H1=>xs.length<=sizeLine/\∀ p,H1 p=none->Q (.ref p) (upd H1 p (.tup xs))
def ON (t:TA):TE:=λ σ H Q=>t σ H λ xs H1=>xs.length<=sizeLine/\∀ p,H1 p=none->Q (.ref p) (upd H1 p (.lst xs))
def KG {x1}(h:PA X es t):PE X (.Tuple es x1 pos) (OQ t):=by
 intro pins s σ H Q I hq;refine wpAny_Tuple_spliced (eG (h pos pins s σ H _ I hq) λ us s1 ⟨xs,H1,I1,r,z,q⟩=>⟨by rw[<-r.length];exact z,?_⟩);have hf:H1 s1.heap.objs.size=none:=I1.hok.fresh (QD _);refine⟨.ref s1.heap.objs.size,upd H1 s1.heap.objs.size (.tup xs),I1.laid (t':=s1.toks) (λ b u e=>Qp _ e) (QD _) ?_,rfl,q _ hf⟩;exact⟨z,us,r,⟨_,QI _ rfl⟩⟩
def K3 (h:PA X es t):PE X (.List es pos) (ON t):=by
 intro pins s σ H Q I hq;refine wpAny_List_spliced (eG (h pos pins s σ H _ I hq) λ us s1 ⟨xs,H1,I1,r,z,q⟩=>⟨by rw[<-r.length];exact z,?_⟩);have hf:H1 s1.heap.objs.size=none:=I1.hok.fresh (QD _);refine⟨.ref s1.heap.objs.size,upd H1 s1.heap.objs.size (.lst xs),I1.laid (t':=s1.toks) (λ b u e=>Qp _ e) (QD _) ?_,rfl,q _ hf⟩;exact⟨z,us,0,r,QI _ rfl⟩
end
abbrev Sp:=List V->Hp->VK->XK->Prop
variable {sp:Sp}
abbrev DP:=List Env->Hp->Shared->XK->Value->Shared->Prop
variable {CX:DP}
structure u4 (P:Program)(w:World)(K:PySem.W.Frag)(mg:Str->Option Value)(base:Heap)(A:Around)(outer:List Env)(s:Shared)(H:Hp):Prop where
 frames:A.frames=some outer
 mod:Mod K mg base
 bs:∀ b o,base.get? b=some o->s.heap.get? b=some o/\H b=none
 zY:base.objs.size<=s.heap.objs.size
 jZ:s.heap.FunFrames base outer
 Cq:∀ b∈frs outer,H b=none
 hok:lj P w H s.heap
 bare:AllBare s.gens
def CE (outer:#[139])(P:#[83])(w:World)(H:Hp)(s:Shared)(Q:VK)(u:Value)(s':Shared):Prop:=
 ∃ v H',s'.os=s.os/\AllBare s'.gens/\Un (frs outer) [] H H' s.heap s'.heap/\lj P w H' s'.heap/\RelV v u/\Q v H'
def CR (CX:DP)(outer:#[139])(P:#[83])(w:World)(H:Hp)(s:Shared)(Q:VK)(E:XK)(r:Result)(s':Shared):Prop:=
 match r with
 |.ok (.ret u)=>CE outer P w H s Q u s'
 |.ok _=>False
 |.error e=>CX outer H s E e s'
structure nK (P:Program)(w:World)(K:PySem.W.Frag)(mg:Str->Option Value)(base:Heap)(CX:DP)(k:Nat)(f:Addr)(fd:FuncData)(ps:List Str)(sp:Sp):Prop where
 len:∀ vs H Q E,sp vs H Q E->vs.length=ps.length
 run:∀ (A:#[127]) (outer:#[139]) (s:Shared) (H:Hp) (args:Args) (us:#[17]) (vs:List V) (Q:VK) (E:XK),dD k A->u4 P w K mg base A outer s H->BindsTo s fd args (ps.zip us)->Vals vs us->sp vs H Q E ->
  codeAny (model P w) A (.call (.ref f) args) (CR CX outer P w H s Q E) s
def u4.in1{K:#[0]}{outer:#[139]}(e:u4 P w K mg base A outer s H) :
  u4 P w K mg base A.in1 outer s H:=⟨e.frames,e.mod,e.bs,e.zY,e.jZ,e.Cq,e.hok,e.bare⟩
section
def Inv.Hw (I:#[4]):u4 X.prog X.w X.K X.mg X.base X.A X.stack s H:=
 ⟨I.ok.frames,I.ok.mod,I.bs,QX I.ok.zY I.sz,I.stack,I.wU,I.hok,I.bare⟩
def Inv.after {Q:VK}(I:#[4])(h:CE X.stack X.prog X.w H s Q u s'):EP X pins σ Q u s':=by
 obtain⟨v,H',os,bare,un,hok,r,q⟩:=h;obtain⟨hh,g,d,t,os'⟩:=s';obtain rfl:os'=s.os:=os;exact⟨v,H',I.call (h':=hh) (g':=g) (d':=d) (t':=t) (ch:=[]) un hok bare (λ b z=>absurd z #[32]),r,q⟩
end
def JP (sp:Sp)(dvs:List V)(E:XK)(t:TA):TE:=λ σ H Q=>t σ H λ vs H1=>sp (vs++dvs) H1 Q E
def Binds (K:#[0])(fd:FuncData)(ps:#[79])(ds:#[17]):Prop:=
 ∀ (s:Shared) (us:#[17]),K.In s.heap->(us++ds).length=ps.length->BindsTo s fd ⟨us,[]⟩ (ps.zip (us++ds))
def Binds.all {K:#[0]}(h:∀ us:List Value,us.length=ps.length->bindArgs fd ⟨us,[]⟩=pure (ps.zip us)):Binds K fd ps []:=λ s us _ hl=>by
 rw[QQ]at hl ⊢;exact .of_eq (h us hl)
def Passes (CX:DP)(X:Cx)(E:XK):Prop:=∀ (pins:#[12]) (σ:St) (H:Hp) (s:Shared) (e:Value) (s':Shared),Inv X pins σ H s->CX X.stack H s E e s'->X.xe e s'
section
variable{k:Nat}{dvs:List V}{ds:#[17]}{E:XK}{m:Str}{apos:Pos}{o:Expr}{t:TA}
def KC{Q:VK}{vs:List V}(F:nK X.prog X.w X.K X.mg X.base CX k f fd ps sp)(hr:dD k X.A)(hb:Binds X.K fd ps ds)(hd:Vals dvs ds)(hx:Passes CX X E)
  (I:#[4]) (r:Vals vs us) (h:sp (vs++dvs) H Q E):wpAny #[11] X.A (call (.ref f) us) (EP X pins σ Q) X.xe s:=by
 have r2:Vals (vs++dvs) (us++ds):=r.append hd;have hl:(us++ds).length=ps.length:=by rw[<-r2.length];exact F.len _ _ _ _ h
 refine Ud (SX (F.run X.A X.stack s H ⟨us,[]⟩ (us++ds) (vs++dvs) Q E hr I.Hw (hb s us I.qC hl) r2 h) λ r s' hq=>?_);cases r with
 |error e=>exact hx pins σ H s e s' I hq
 | ok fl =>
  cases fl with
  |ret u=>exact I.after hq|next=>exact False.elim hq|brk=>exact False.elim hq|cont=>exact False.elim hq
def Hr (F:nK X.prog X.w X.K X.mg X.base CX k f fd ps sp)(hr:dD k X.A)(hg:Gl X x)(hm:X.mg x=some (.ref f))(hk:PySem.W.keepIn X.K (.ref f)=true)(hb:Binds X.K fd ps ds)(hd:Vals dvs ds)(hx:Passes CX X E)
  (ha:PA X (e::es) t) (hdb:#[3]:=by decide) (he:#[5]:=by rfl) (hpl:#[35].any (·.1)=false:=by rfl) :
  PE X #[42] (JP sp dvs E t):=by
 intro pins s σ H Q I h;refine RQ (mV I hg hm ?_ hdb);refine Uz (h₀:=X.base) I.ok.mod.Ku hk (eG (ha pos pins s σ H _ I h) λ us s1 hq5=>L2.ex5 hq5 λ vs H1 I1 r q=>⟨I1.qC,?_⟩) he hpl;exact KC F hr hb hd hx I1 r q
end
def PK (X:Cx)(kws:List Keyword)(t:TA):Prop:=
 ∀ (pos:Pos) (pins:#[12]) (s:Shared) (σ:St) (H:Hp) (Q:List V->Hp->Prop),Inv X pins σ H s->t σ H Q->wpAny #[11] X.A (evalAll ((backToKw pos (keywordEach kws X.env)).map (·.2))) (AP X pins σ Q) X.xe s
section
variable{k:Nat}{ks:#[79]}{E:XK}{m:Str}{apos kpos:Pos}{o:Expr}{kws:List Keyword}{t tk:TA}{nm:Option Str}
def KO:PK X [] Hn:=λ _ _ _ _ H Q I h=>wpAny_evalAll_nil ⟨[],H,I,.nil,h⟩
def Hi (ha:PE X e te)(hr:PK X kws t):PK X (⟨nm,e,kpos⟩::kws) (Br te t):=by
 intro pos pins s σ H Q I h;show wpAny _ _ (evalAll ((do let v <-eval e X.env;standAt pos;pure v)::(backToKw pos (keywordEach kws X.env)).map (·.2))) _ _ s;refine wpAny_evalAll_cons (Qn (eG #[114] λ u s1 hq5=>L2.ex5 hq5 λ x H1 I1 r1 q1=>Qn (UZ (Qu ?_))));exact eG (hr pos pins s1 σ H1 _ I1 q1) λ us s2 hq5=>L2.ex5 hq5 λ xs H2 I2 r2 q2=>⟨x::xs,H2,I2,.cons r1 r2,q2⟩
variable {g:List Value->List Value->List Value}{gV:List V->List V->List V}
end
structure aP (N P:List Str)(sc:Scope):Prop where
 kind:sc.kind=.function
 co:sc.isCoroutine=false
 gen:sc.isGenerator=false
 nd:N.Nodup
 pre:N.take P.length=P
 par:∀ x∈P,sc.names.lookup x=some .local\/sc.names.lookup x=some .cell
 Kv:∀ y∈sc.names,y.2 ≠ .free
def vt {kindOf:Str->Option NameKind}{x:Str}:∀ {binds:List (Str×Value)}{m:#[8]},(∀ v,(x,v)∉binds)->bindL kindOf binds m x=m x
 |[],_,_=>rfl
 | (n,v)::r,m,h=>by
  unfold bindL;rw[vt λ w hw=>h w (Qw _ hw)];split
  ·have:x≠n:=by rintro rfl;exact h v Qx
   simp[this]
  ·rfl
def vB {kindOf:Str->Option NameKind}{x:Str}:∀ {binds:List (Str×Value)}{m:#[8]},(∀ v,(x,v)∉binds)->bindC kindOf binds m x=m x
 |[],_,_=>rfl
 | (n,v)::r,m,h=>by
  unfold bindC;rw[vB λ w hw=>h w (Qw _ hw)];split
  ·rfl
  ·have:x≠n:=by rintro rfl;exact h v Qx
   simp[this]
def vz {kindOf:Str->Option NameKind}{x:Str}{v:Value}:∀ {P:#[79]}{vs:#[17]}{i:Nat}{m:#[8]},P.Nodup->P[i]?=some x->vs[i]?=some v->kindOf x=some .local ->
  bindL kindOf (P.zip vs) m x=some v
 |[],_,_,_,_,h,_,_=>by simp at h
 |_::_,[],_,_,_,_,h,_=>by simp at h
 | p::P,w::vs,0,m,nd,h1,h2,hk=>by
  simp at h1 h2;subst h1;subst h2;show bindL kindOf ((p,w)::P.zip vs) m p=_;unfold bindL;rw[vt λ v hv=>(Q8.mp nd).1 (Uj hv).1,QG hk];simp
 | p::P,w::vs,i+1,m,nd,h1,h2,hk=>by
  show bindL kindOf ((p,w)::P.zip vs) m x=_;unfold bindL;exact vz (i:=i) (Q8.mp nd).2 (by simpa using h1) (by simpa using h2) hk
def vy {kindOf:Str->Option NameKind}{x:Str}{v:Value}:∀ {P:#[79]}{vs:#[17]}{i:Nat}{m:#[8]},P.Nodup->P[i]?=some x->vs[i]?=some v->kindOf x≠some .local ->
  bindC kindOf (P.zip vs) m x=some v
 |[],_,_,_,_,h,_,_=>by simp at h
 |_::_,[],_,_,_,_,h,_=>by simp at h
 | p::P,w::vs,0,m,nd,h1,h2,hk=>by
  simp at h1 h2;subst h1;subst h2;show bindC kindOf ((p,w)::P.zip vs) m p=_;unfold bindC;rw[vB λ v hv=>(Q8.mp nd).1 (Uj hv).1,QK hk];simp
 | p::P,w::vs,i+1,m,nd,h1,h2,hk=>by
  show bindC kindOf ((p,w)::P.zip vs) m x=_;unfold bindC;exact vy (i:=i) (Q8.mp nd).2 (by simpa using h1) (by simpa using h2) hk
def start (N:#[79])(vs:List V):St:=vs.map some++List.replicate (N.length-vs.length) none
def jJ (CX:DP)(P:#[83])(w:World)(K:#[0])(mg:#[8])(base:Heap)(N:#[79])(qual:Str)(scope:Scope)(f:Addr)(cd:Value)(A:#[127])(outer:#[139])(s:Shared)(H:Hp)(E:XK):Cx where
 prog:=P
 w:=w
 K:=K
 mg:=mg
 base:=base
 A:=A.deeper #[53]
 N:=N
 s₀:=s
 H₀:=H
 env:=envOfC qual scope s.heap.objs.size f cd
 outer:=outer
 stack:=envOfC qual scope s.heap.objs.size f cd::outer
 ex:=[]
 calm:=true
 fn:=λ _=>true
 pn:=[]
 xe:=λ e s'=>wpAny (model P w) (A.deeper #[53]) (leaving #[53] e) (λ _ s''=>CX outer H s E e s'') (λ e' s''=>CX outer H s E e' s'') s'
def yk {sc:Scope}{n:Nat}(h:sc.names.lookup x=some .cell):∃ c,(cellsFrom n sc.names []).lookup x=some c:=by
 have q:=Sm sc.names n [] (.inl h);exact RY.mp q
def vv{K:#[0]}{qual:Str}{scope:Scope}{cd:Value}{outer:#[139]}{s1:Shared}{E:XK}{vs:List V}
  (S:aP N ps scope) (hd:A.handled=none) (e0:u4 P w K mg base A outer s H) (hl:vs.length=ps.length) (r:Vals vs us)
  (x:#[163]) :
  Inv (jJ CX P w K mg base N qual scope f cd A outer s H E) [] (start N vs) H s1:=by
 have hpl:ps.length<=N.length:=by have:=RL List.length S.pre;rw[RA]at this;omega
 obtain⟨h1,tk,rfl,hk⟩:=x.done;have noA:∀ b:Addr,b∉(jJ CX P w K mg base N qual scope f cd A outer s H E).ex:=λ b z=>absurd (show b∈([]:#[9]) from z) #[32];refine⟨⟨e0.mod,S.kind,rfl,rfl,QD _,λ y z c h1 h2=>?_,λ y hy=>?_,λ y c _ h=>?_,λ _=>hd,Around.frames_deeper e0.frames,.inr ⟨rfl,rfl⟩,λ b z=>absurd z (noA b),e0.bs,e0.zY,λ b _ _=>noA b,λ b z=>absurd z (noA b),e0.jZ,e0.Cq⟩,
  rfl,e0.bare,Un.kept hk,⟨_,x.toInCall.ns,λ i y v h1 h2 h3=>?_⟩,λ y c h=>⟨_,x.cell y c h⟩,e0.hok.fresh (QD _),λ y c h=>?_,λ p hp=>absurd (show p∈([]:#[12]) from hp) #[32],e0.hok.kept hk,?_⟩
 ·exact name_of_addr x.apart (SN h1) (SN h2)
 ·have hy:scope.names.lookup y=some .cell\/scope.names.lookup y=some .free:=hy;rcases hy with hy|hy
  ·exact yk hy
  ·exact absurd rfl (S.Kv _ (SN hy))
 ·exact Sk (x.above y c (SN h))
 ·have hi:i<vs.length:=by
   unfold start at h2;by_cases hi:i<vs.length
   ·exact hi
   ·rw[Ss (by simpa using hi)]at h2;rw[List.getElem?_replicate]at h2;split at h2<;>cases h2
  have ha:vs[i]?=some v:=by
   unfold start at h2;rw[Ri (by simpa using hi),QB]at h2;cases e:vs[i]? with
   |none=>rw[e]at h2;cases h2|some a=>rw[e]at h2;cases h2;rfl
  obtain⟨u,hu,rv⟩:=r.get ha;have hp:ps[i]?=some y:=by
   rw[<-S.pre,SM #[1]];exact h1
  have ndP:ps.Nodup:=by rw[<-S.pre];exact S.nd.sublist (List.take_sublist _ _)
  refine⟨u,rv,?_⟩;rcases S.par y (QN hp) with k|k
  ·exact .inl ⟨k,vz ndP hp hu k⟩
  ·obtain⟨c,e⟩:=yk (n:=s.heap.objs.size+1) k;refine .inr ⟨.inl k,c,e,?_⟩;have q:=x.cell y c e;rw[vy ndP hp hu (by show scope.names.lookup y≠_;rw[k];decide)]at q;exact q
 ·exact e0.hok.fresh (Sk (x.above y c (SN h)))
 ·unfold start;show _=N.length;rw[Qv,Qs,List.length_replicate];omega
def JL{K:#[0]}{k:Nat}{name qual:Str}{params:Arguments}{scope:Scope}{dV kV doc pm cdv ct oc:Value}{an od:Option Addr}
  {osl:Array (Option Value)} (lk:K.lookup f=some ⟨oc,od,.func #[104],osl⟩) (hcd:PySem.W.codeIn K cdv qual=true) (S:aP N ps scope)
  (len:∀ vs H Q E,sp vs H Q E->vs.length=ps.length)
  (hbody:∀ (A:#[127]) (outer:#[139]) (s:Shared) (H:Hp) (vs:List V) (Q:VK) (E:XK),dD k (A.deeper (envOfC qual scope s.heap.objs.size f cdv))->sp vs H Q E ->
   ∃ t,kF (jJ CX P w K mg base N qual scope f cdv A outer s H E) body t/\t { nx:=λ _ H'=>Q .bW H',rt:=Q } (start N vs) H) :
  nK P w K mg base CX (k+1) f #[104] ps sp:=by
 refine⟨len,λ A outer s H args us vs Q E hr e0 hb r hsp=>?_⟩;have hl:=len _ _ _ _ hsp;have KX:K.In s.heap:=e0.mod.Ku.keeps λ b o e=>(e0.bs b o e).1;have lim:s.heap.NoLimit:=e0.mod.nolimit.keeps λ b o e=>(e0.bs b o e).1;have hkind:∀ y∈ps.zip us,scope.names.lookup y.1=some .local\/(scope.names.lookup y.1=some .cell/\((cellsFrom #[92] scope.names []).lookup y.1).isSome=true):=λ ⟨n,v⟩ hy=>by
  rcases S.par n (Uj hy).1 with q|q
  ·exact .inl q
  ·exact .inr ⟨q,Sm _ _ _ (.inl q)⟩
 refine codeAny_call_function hr.depth (KX _ _ lk) rfl S.co S.gen rfl (PySem.W.codeRec_of KX hcd) (hb _ _ _ _ ?_);refine wpAny_newFunctionEnv_cells S.kind hkind λ env he s1 x=>?_;subst he;refine⟨lim.keeps x.toInCall.keep,codeAny_func ?_⟩;obtain⟨t,ht,hq⟩:=hbody A outer s H vs Q E (hr.deeper _) hsp;have I:Inv (jJ CX P w K mg base N qual scope f cdv A outer s H E) [] (start N vs) H s1:=vv S hr.hd e0 hl r x;refine RI (ht [] s1 (start N vs) H _ I hq) (λ fl s' hs=>?_) λ e s' hs=>hs;have fin:∀ {σ':St}{H':Hp}{v:V}{u:Value},Inv (jJ CX P w K mg base N qual scope f cdv A outer s H E) [] σ' H' s'->RelV v u->Q v H'->CE outer P w H s Q u s':=
  λ {σ' H' v u} J rv q=>⟨v,H',J.os,J.bare,J.base,J.hok,rv,q⟩
 cases fl with
 | ret u =>
  obtain⟨v,σ',H',J,rv,q⟩:=hs;exact fin J rv q
 | next =>
  obtain⟨σ',H',J,q⟩:=hs;exact fin (v:=V.bW) (u:=Value.none) J rfl q
 | brk =>
  obtain⟨_,_,_,q⟩:=hs;exact False.elim q
 | cont =>
  obtain⟨_,_,_,q⟩:=hs;exact False.elim q
section
variable{t:TA}{id T:String}{r:#[188]}
def PJ (r:#[188])(t:TA):TE:=λ σ H Q=>t σ H λ vs H1=>r vs H1 Q
def lO (hc:eK X (.builtin id) r)(hg:Gl X x)(hm:X.mg x=none)(hv:bootBuiltins x=some (.builtin id))(ha:PA X (e::es) t)(hn:#[115] :=by decide)(hdb:#[3]:=by decide)
  (he:#[5]:=by rfl) (hpl:#[35].any (·.1)=false:=by rfl):PE X #[42] (PJ r t):=by
 intro pins s σ H Q I h;refine RQ (lQ I hg hm hv ?_ hn hdb);exact Ue (eG (ha pos pins s σ H _ I h) λ us s1 hq5=>L2.ex5 hq5 λ vs H1 I1 r1 q1=>hc pins s1 σ H1 vs us Q I1 r1 q1) he hpl
def Cn (hc:eK X (.type T) r)(hg:Gl X x)(hm:X.mg x=none)(hv:bootBuiltins x=some (.type T))(ha:PA X (e::es) t)(hn:#[115] :=by decide)(hdb:#[3]:=by decide)
  (he:#[5]:=by rfl) (hpl:#[35].any (·.1)=false:=by rfl):PE X #[42] (PJ r t):=by
 intro pins s σ H Q I h;refine RQ (lQ I hg hm hv ?_ hn hdb);exact Sl (eG (ha pos pins s σ H _ I h) λ us s1 hq5=>L2.ex5 hq5 λ vs H1 I1 r1 q1=>hc pins s1 σ H1 vs us Q I1 r1 q1) he hpl
end
end L2
namespace HT
open PySem PyProof.Rows
section
open PySem.SeqAt
open PySem.AutoSeq1 (wpAny_loadPart')
open PySem.MeetsSeq PySem.MeetsSeq2 PySem.MeetsSeq3
end
section
variable {prog:#[83]}{w:World}{A:#[127]}{E:#[7]}{s:Shared}
def Hz {t b:Addr}{vs ws:#[17]}{Q:#[7]}(ht:IsTup s.heap t vs.toArray)(hb:IsTup s.heap b ws.toArray)(hv:vs≠[])
  (h1:ws=[]->Q (.ref t) s) (h2:ws≠[]->Q #[73] { s with heap:=s.heap.push { cls:=.type "tuple",data:=.seq (vs++ws).toArray } })
  (hsz:vs.length+ws.length<=sizeLine):wpAny #[14] A (binaryOp .Add (.ref t) (.ref b)) Q E s:=by
 obtain⟨⟨cls,dd,data,sl⟩,ho,hc,n,hd⟩:=id ht;obtain⟨⟨cls2,dd2,data2,sl2⟩,ho2,hc2,n2,hd2⟩:=id hb;simp only at hc hd hc2 hd2;subst hc hd hc2 hd2;have e:vs.toArray++ws.toArray=(vs++ws).toArray:=by simp
 by_cases hw:ws=[]
 ·exact concat_meets ⟨_,ho,rfl⟩ ⟨_,ho2,rfl⟩ noFill_tuple_add seq_tuple_add PySem.F.slot_tuple_add PySem.F.entry_tuple_add (PySem.F.args_tuple_add_2 _ _)
   (tuple_addW1 t b vs.toArray ws.toArray n n2 dd dd2 sl sl2 (by simpa using hv) (by simp[hw])) ⟨ho,ho2,h1 hw⟩
 ·refine concat_meets ⟨_,ho,rfl⟩ ⟨_,ho2,rfl⟩ noFill_tuple_add seq_tuple_add PySem.F.slot_tuple_add PySem.F.entry_tuple_add (PySem.F.args_tuple_add_2 _ _)
   (tuple_addW2 t b vs.toArray ws.toArray n n2 dd dd2 sl sl2 (by simpa using hv) (by simpa using hw) (by rw[Qz,Qz];exact hsz)) ⟨ho,ho2,?_⟩
  rw[e];exact h2 hw
def gi (n d:Nat):Option Int->Nat
 |none=>d
 |some v=>if v<0 then (v+(n:Int)).toNat else min v.toNat n
def K8 (n d:Nat)(hd:d<=n)(o:Option Int):gi n d o<=n:=by
 cases o with
 |none=>exact hd
 | some v =>
  show(if v<0 then (v+(n:Int)).toNat else min v.toNat n)<=n;by_cases hv:v<0
  ·rw[QG hv];omega
  ·rw[QK hv];exact Nat.min_le_right _ _
def Bt (v:Int)(n d:Nat):(if v<0 then max (v+(n:Int)) 0 else min v (n:Int))=((gi n d (some v):Nat):Int):=by
 show(if v<0 then max (v+(n:Int)) 0 else min v (n:Int))=(((if v<0 then (v+(n:Int)).toNat else min v.toNat n):Nat):Int);by_cases hv:v<0
 ·simp only[QG hv];omega
 ·simp only[QK hv];omega
def Ac (lo hi:Option Int)(n:Nat):Builtin.Slice.sliceAdjust lo hi 1 (n:Int)=(((gi n 0 lo:Nat):Int),((gi n n hi:Nat):Int)):=by
 have h1:¬ ((1:Int)<0):=by omega
 unfold Builtin.Slice.sliceAdjust;simp only[h1,SQ];refine Prod.ext ?_ ?_
 ·cases lo with
  |none=>rfl|some v=>exact Bt v n 0
 ·cases hi with
  |none=>rfl|some v=>exact Bt v n n
def Ae (i j:Nat):Builtin.Slice.slicePlaces (i:Int) (j:Int) 1=j-i:=by
 unfold Builtin.Slice.slicePlaces;have h1:(1:Int)>0:=by omega
 simp only[h1,TU,Int.ediv_one];split<;>omega
def tw {v:Value}{o:Option Int}{Q:Option Int->Shared->Prop}(p:IsPart v o)(h:Q o s):wpAny #[14] A (Builtin.Slice.slicePartIndex v) Q E s:=by
 cases p with
 |none=>exact slicePart_none h|int i t=>exact slicePart_int h
def qF {sl:Addr}{vl vu:Value}{lo hi:Option Int}{n:Nat}{Q:Int×Int×Nat->Shared->Prop}(hs:s.heap.IsSliceOf sl vl vu .none)(pl:IsPart vl lo)(pu:IsPart vu hi)
  (h:Q (((gi n 0 lo:Nat):Int),1,gi n n hi-gi n 0 lo) s):wpAny #[14] A (Builtin.Slice.sliceApplied (.ref sl) (pure (n:Int))) Q E s:=by
 obtain⟨os,hos,hcs,hds⟩:=id hs;unfold Builtin.Slice.sliceApplied Builtin.Slice.sliceFields;refine Qn (Qn (RN hos hds (x:=vl) rfl (Qn (RN hos hds (x:=vu) rfl (Qn (RN hos hds (x:=.none) rfl (Qu ?_)))))));refine Qn (slicePart_none ?_);show wpAny _ _ (if ((1:Int) == 0)=true then _ else _) _ _ s;rw[QK #[10]];refine Qn (tw pl (Qn (tw pu (Qn (Qu ?_)))));show wpAny _ _ (match Builtin.Slice.sliceAdjust lo hi 1 (n:Int) with|(lo,hi)=>pure (lo,(1:Int),Builtin.Slice.slicePlaces lo hi 1)) _ _ s;rw[Ac lo hi n];show wpAny _ _ (pure (((gi n 0 lo:Nat):Int),(1:Int),Builtin.Slice.slicePlaces ((gi n 0 lo:Nat):Int) ((gi n n hi:Nat):Int) 1)) _ _ s;rw[Ae];exact Qu h
def Ef (xs:#[152])(i k:Nat):((List.range k).filterMap λ (m:Nat)=>xs[((i:Int)+(m:Int)*1).toNat]?).toArray=((xs.toList.drop i).take k).toArray:=by
 have e:(λ (m:Nat)=>xs[((i:Int)+(m:Int)*1).toNat]?)=λ m=>xs[i+m]?:=by
  funext m;have:((i:Int)+(m:Int)*1).toNat=i+m:=by omega
  rw[this]
 rw[e];have:=pick_run xs i k;rw[List.filterMap_map]at this;have e2:((λ x=>xs[x]?)∘λ x=>i+x)=λ m=>xs[i+m]?:=rfl;rw[e2]at this;rw[this]
def oZ {t sl:Addr}{items:#[152]}{vl vu:Value}{lo hi:Option Int}{Q:#[7]}(ht:IsTup s.heap t items)(hs:s.heap.IsSliceOf sl vl vu .none)(pl:IsPart vl lo)(pu:IsPart vu hi)
  (hw:¬ (gi items.size 0 lo=0/\gi items.size items.size hi=items.size))
  (h:Q #[73] { s with heap:=s.heap.push { cls:=.type "tuple",data:=.seq #[101].toArray } })
  (hsz:items.size<=sizeLine):wpAny #[14] A (getItem (.ref t) (.ref sl)) Q E s:=by
 have htake:sizeOk (.seq #[101].toArray):=by
  show#[101].toArray.size<=sizeLine;rw[Qz,RA,R3,Rn];omega
 have hj:gi items.size items.size hi<=items.size:=K8 _ _ (QD _) hi;obtain⟨os,hos,hcs,hds⟩:=id hs;have hTs:s.TypeIs (.ref sl) "slice" :=⟨os,hos,hcs⟩;unfold getItem
 try with_reducible refine RG ?_
 first|refine Qn (Qu ?_)|skip
 refine Qn (wpAny_sequenceKey ht.typeIs #[10] ?_);refine Qn (Rw (name:=Str.ofString "__getitem__") ht.typeIs T8
  (RB T8 ht.typeIs entry_tuple_getitem ?_ (args_tuple_getitem _ _)))
 show wpAny _ _ (Builtin.Tuple.tupleItemsOf (.ref t) >>= _) _ _ s;refine Qn (tupleItemsOf_ ht ?_);refine Qn (wpAny_typeOf hTs ?_);rw[QG #[10]];refine Qn (qF hs pl pu ?_);have hno:¬ ((((gi items.size 0 lo:Nat):Int) == 0&&(1:Int) == 1&&(gi items.size items.size hi-gi items.size 0 lo) == items.size)=true):=by
  intro q;rw[Q4,Q4]at q;have q1:((gi items.size 0 lo:Nat):Int)=0:=eq_of_beq q.1.1;have q2:gi items.size items.size hi-gi items.size 0 lo=items.size:=eq_of_beq q.2;exact hw ⟨by omega,by omega⟩
 show wpAny _ _ (if (((gi items.size 0 lo:Nat):Int) == 0&&(1:Int) == 1&&(gi items.size items.size hi-gi items.size 0 lo) == items.size)=true then _ else _) _ _ s;rw[QK hno,Ef]
 first
  |exact Qn (m:=Builtin.Tuple.tupleExact _) (Rb (Qu ⟨_,rfl,Qu h⟩) htake)
  |exact Qn (m:=Builtin.Tuple.tupleExact _) (Rb (Qn (Qu (Qu ⟨_,rfl,Qu h⟩))) htake)
  |exact Qn (Qn (m:=Builtin.Tuple.tupleExact _) (Rb (Qu (Qu ⟨_,rfl,Qu h⟩)) htake))
  |exact Qn (Qn (m:=Builtin.Tuple.tupleExact _) (Rb (Qu ⟨_,rfl,Qu h⟩) htake))
end
end HT
namespace L2
open PySem PySem.Spec PyProof.Rows
variable {a b:Addr}{A:#[127]}{X:Cx}{e:Expr}{H:Hp}{pins:#[12]}{xs:List (List Key×Addr×Value)}{kvs:List (List Key×V)}{its us:#[17]}{n t':Nat}{o:Option V}{pos:Pos}{P:#[83]}{s:Shared}{σ:St}{T:String}{α:Type}{x y:V}{u:Value}{E:#[7]}{w:World}
abbrev TO:=St->Hp->(Option Int->Hp->Prop)->Prop
def PO (X:Cx)(e:Option Expr)(t:TO):Prop:=
 ∀ (pins:#[12]) (s:Shared) (σ:St) (H:Hp) (Q:Option Int->Hp->Prop),Inv X pins σ H s->t σ H Q ->
  wpAny #[11] X.A (evalPart e X.env) (λ u s'=>∃ o H',Inv X pins σ H' s'/\IsPart u o/\Q o H') X.xe s
def Hx:TO:=λ _ H Q=>Q none H
def Nd (t:TE):TO:=λ σ H Q=>t σ H λ x H1=>∃ i,x=.int i/\Q (some i) H1
def intsAre_of {ns:#[6]}:∀ {us:#[17]},Vals #[135] us->IntsAre us ns:=by
 induction ns with
 |nil=>intro us r;rw[List.map_nil]at r;cases r;exact .nil
 | cons n ns ih =>
  intro us r;rw[Rc]at r;cases r with
  | cons r1 r2 =>
   obtain⟨t,e⟩:=r1;subst e;exact .cons n t (ih r2)
section
variable{te:TE}{lo hi:Option Expr}{tl th:TO}{p2:Pos}
def HC:PO X none Hx:=by
 intro pins s σ H Q I h;rw[evalPart_none];exact Qu ⟨none,H,I,.none,h⟩
def HF (h:PE X e te):PO X (some e) (Nd te):=by
 intro pins s σ H Q I hw;rw[evalPart_some];refine eG (h pins s σ H _ I hw) λ u s1 hq5=>L2.ex5 hq5 λ x H1 I1 r1 q1=>?_;obtain⟨i,rfl,q⟩:=q1;obtain⟨t,rfl⟩:=r1;exact⟨some i,H1,I1,.int i t,q⟩
def JR (X:Cx)(r:V->Option Int->Option Int->Hp->VK->Prop):Prop:=
 ∀ (pins:#[12]) (s:Shared) (σ:St) (H:Hp) (x:V) (v vl vu:Value) (lo hi:Option Int) (sl:Addr) (Q:VK),Inv X pins σ H s->RelV x v->s.heap.IsSliceOf sl vl vu .none->IsPart vl lo->IsPart vu hi->r x lo hi H Q ->
  ∃ T id,typeLookup (.type T) "__getitem__" = pure (some (.builtin id))/\s.TypeIs v T/\wpAny #[11] X.A (getItem v (.ref sl)) (EP X pins σ Q) X.xe s
def JR.or {r r':V->Option Int->Option Int->Hp->VK->Prop}(h:JR X r)(h':JR X r'):JR X (λ x lo hi H Q=>r x lo hi H Q\/r' x lo hi H Q):=by
 intro pins s σ H x v vl vu lo hi sl Q I rx hs pl pu q;rcases q with q|q
 ·exact h pins s σ H x v vl vu lo hi sl Q I rx hs pl pu q
 ·exact h' pins s σ H x v vl vu lo hi sl Q I rx hs pl pu q
def Qd (r:V->Option Int->Option Int->Hp->VK->Prop)(te:TE)(tl th:TO):TE:=λ σ H Q=>te σ H λ x H1=>tl σ H1 λ l H2=>th σ H2 λ u H3=>r x l u H3 Q
def Ed {r:V->Option Int->Option Int->Hp->VK->Prop}(hr:JR X r)(he:PE X e te)(hl:PO X lo tl)(hu:PO X hi th):PE X (.Subscript e (.Slice lo hi none p2) pos) (Qd r te tl th):=by
 intro pins s σ H Q I h;refine Subscript_ (eG (he pins s σ H _ I h) λ v s1 hq5=>L2.ex5 hq5 λ x H1 I1 r1 q1=>?_);refine wpAny_Slice (eG (hl pins s1 σ H1 _ I1 q1) λ vl s2 hq5=>L2.ex5 hq5 λ l H2 I2 pl q2=>eG (hu pins s2 σ H2 _ I2 q2) λ vu s3 hq5=>L2.ex5 hq5 λ u H3 I3 pu q3=>?_);rw[evalPart_none];refine Qu ?_;have I4:Inv X pins σ H3 { s3 with heap:=s3.heap.push { cls:=.type "slice",data:=.fields #[vl,vu,.none] } }:=I3.kept (t':=s3.toks) λ b ob q=>Qp _ q;obtain⟨T,id,hT,ht,hg⟩:=hr pins { s3 with heap:=s3.heap.push { cls:=.type "slice",data:=.fields #[vl,vu,.none] } } σ H3 x v vl vu l u s3.heap.objs.size Q I4 r1 (Heap.IsSliceOf.new ..) pl pu q3;show wpAny #[11] X.A (subscriptTail e (.Slice lo hi none p2) v (.ref s3.heap.objs.size)) (EP X pins σ Q) X.xe { s3 with heap:=s3.heap.push { cls:=.type "slice",data:=.fields #[vl,vu,.none] } };exact tail_any (ops:=[.ref s3.heap.objs.size,v]) ht hT hg (by with_unfolding_all rfl)
def yo (xs:List V)(lo hi:Option Int):List V:=(xs.drop (HT.gi xs.length 0 lo)).take #[170]
def rC (xs:List V)(lo hi:Option Int):(yo xs lo hi).length<=xs.length:=by
 unfold yo;rw[RA,R3];omega
def O3 (K:#[0]):V->Option Int->Option Int->Hp->VK->Prop:=λ x lo hi H Q=>∃ a xs,x=.ref a/\k9 K H a xs /\
 ¬ (HT.gi xs.length 0 lo=0/\HT.gi xs.length xs.length hi=xs.length)/\∀ p,H p=none->Q (.ref p) (upd H p (.tup (yo xs lo hi)))
def Lc:JR X (O3 X.K):=by
 intro pins s σ H x v vl vu lo hi sl Q I rx hs pl pu h;obtain⟨a,xs,rfl,hx,hw,q⟩:=h;cases rx;obtain⟨its,r,ht,hz⟩:=I.tuple hx;have hlen:its.toArray.size=xs.length:=by rw[Qz];exact r.length.symm
 refine⟨"tuple",_,PyProof.Rows.slot_tuple_getitem.lookup,ht.typeIs,?_⟩;refine HT.oZ ht hs pl pu (by rw[hlen];exact hw) ?_ (by rw[hlen];exact hz);rw[hlen];refine⟨.ref s.heap.objs.size,_,I.laid (t':=s.toks) (o:=.tup (yo xs lo hi)) (λ b ob q=>Qp _ q) (QD _) ?_,rfl,q _ (I.hok.fresh (QD _))⟩;exact⟨QX (rC xs lo hi) hz,_,(r.drop (HT.gi xs.length 0 lo)).take #[170],yh.new _ _⟩
def JS (K:#[0]):R2:=λ x y H Q=>∃ a b xs ys,x=.ref a/\y=.ref b/\k9 K H a xs/\k9 K H b ys/\xs≠[]/\xs.length+ys.length<=sizeLine /\
 (ys=[]->Q (.ref a) H)/\(ys≠[]->∀ p,H p=none->Q (.ref p) (upd H p (.tup (xs++ys))))
def Vals.mX {xs:List V}(r:Vals xs us):us=[]↔xs=[]:=by
 cases r with
 |nil=>simp|cons _ _=>simp
def HE:jK X (binaryOp .Add) (JS X.K):=by
 intro pins s σ H x y v u Q I rx ry h;obtain⟨a,b,xs,ys,rfl,rfl,ha,hb,hx,hz,q1,q2⟩:=h;cases rx;cases ry;obtain⟨its,r1,p1,_⟩:=I.tuple ha;obtain⟨its2,r2,p2,_⟩:=I.tuple hb;refine HT.Hz p1 p2 (λ z=>hx (r1.mX.mp z)) (λ z=>⟨.ref a,H,I,rfl,q1 (r2.mX.mp z)⟩) (λ z=>?_) (by rw[<-r1.length,<-r2.length];exact hz);refine⟨.ref s.heap.objs.size,_,I.laid (t':=s.toks) (o:=.tup (xs++ys)) (λ b ob q=>Qp _ q) (QD _) ?_,rfl,q2 (λ w=>z (r2.mX.mpr w)) _ (I.hok.fresh (QD _))⟩;exact⟨by rw[Qv];exact hz,_,r1.append r2,yh.new _ _⟩
end
def DQ (n:Nat)(i:Int):Option Nat:=if 0<=i then (if i<n then some i.toNat else none) else if -(n:Int)<=i then some (i+n).toNat else none
def vI(xs:List α)(i:Int):Option α:=(DQ xs.length i).bind λ j=>xs[j]?
def Bw{i:Int}{j:Nat}(h:DQ n i=some j):seqIndex? i n=some j/\j<n /\ -(n:Int)<=i/\i<n:=by
 unfold DQ at h;by_cases h0:0<=i
 ·rw[QG h0]at h;by_cases h1:i<n
  ·rw[QG h1]at h;have e:i.toNat=j:=Rq h;exact⟨by rw[seqIndex_of h0 h1,e],by omega,by omega,h1⟩
  ·rw[QK h1]at h;cases h
 ·rw[QK h0]at h;by_cases h1 : -(n:Int)<=i
  ·rw[QG h1]at h;have e:(i+n).toNat=j:=Rq h;exact⟨by rw[seqIndex_neg #[1] h1,e],by omega,h1,by omega⟩
  ·rw[QK h1]at h;cases h
def w4{xs:List α}{i:Int}{v:α}(h:vI xs i=some v):∃ j,seqIndex? i xs.length=some j/\xs[j]?=some v/\j<xs.length /\ -(xs.length:Int)<=i/\i<xs.length:=by
 unfold vI at h;cases e:DQ xs.length i with
 |none=>rw[e]at h;cases h
 | some j =>
  rw[e]at h;obtain⟨h1,h2,h3,h4⟩:=Bw e;exact⟨j,h1,h,h2,h3,h4⟩
def HB{xs:List α}{j:Nat}{v:α}(h:xs[j]?=some v):vI xs (j:Int)=some v:=by
 have hj:j<xs.length:=(Qt.mp h).1;have e:DQ xs.length (j:Int)=some j:=by
  unfold DQ;rw[QG #[1],QG #[1]];simp
 unfold vI;rw[e];exact h
def w6 (b:Expr):Prop:=∀ o i,subscripted b false o i=operate [o,i] (getItem o i)
def G9 (X:Cx)(r:R2):Prop:=
 ∀ (value slice:Expr) (pins:#[12]) (s:Shared) (σ:St) (H:Hp) (x y:V) (v u:Value) (Q:VK),Inv X pins σ H s->RelV x v->RelV y u->r x y H Q ->
  subscripted slice false v u=operate [v,u] (getItem v u)->wpAny #[11] X.A (subscriptTail value slice v u) (EP X pins σ Q) X.xe s
def PQ (X:Cx)(id:String)(r:V->List V->Hp->VK->Prop):Prop:=
 ∀ (pins:#[12]) (s:Shared) (σ:St) (H:Hp) (x:V) (xs:List V) (v:Value) (us:#[17]) (Q:VK),Inv X pins σ H s->RelV x v->Vals xs us->r x xs H Q ->
  wpAny #[11] X.A (call (.builtin id) (v::us)) (EP X pins σ Q) X.xe s
section
variable{a b:Expr}{ta tb:TE}
def G9.or {r r':R2}(h:G9 X r)(h':G9 X r'):G9 X (λ x y H Q=>r x y H Q\/r' x y H Q):=by
 intro value slice pins s σ H x y v u Q I rx ry q hs;rcases q with q|q
 ·exact h value slice pins s σ H x y v u Q I rx ry q hs
 ·exact h' value slice pins s σ H x y v u Q I rx ry q hs
def M9 {r:R2}(hr:G9 X r)(ha:PE X a ta)(hb:PE X b tb)(hs:w6 b):PE X (.Subscript a b pos) (Om r ta tb):=by
 intro pins s σ H Q I h;exact Subscript_ (KI ha hb I h λ v u s2 x y H2 I2 rx ry q=>hr a b pins s2 σ H2 x y v u Q I2 rx ry q (hs _ _))
def Ng (K:#[0]):R2:=λ x y H Q=>∃ p xs i v,x=.ref p/\y=.int i/\fH K H p xs/\vI xs i=some v/\Q v H
def Nf (K:#[0]):R2:=λ x y H Q=>∃ p xs i v,x=.ref p/\y=.int i/\k9 K H p xs/\vI xs i=some v/\Q v H
def Na:R2:=λ x y H Q=>∃ z i c,x=.str z/\y=.int i/\z.length<=sizeLine/\vI z.cps.toList i=some c/\Q (.str ⟨#[c]⟩) H
def Hy:G9 X (Ng X.K):=by
 intro value slice pins s σ H x y v u Q I rx ry h hs;obtain⟨p,xs,i,z,rfl,rfl,hq,he,q⟩:=h;cases rx;obtain⟨t,rfl⟩:=ry;obtain⟨its,r,pl,hz⟩:=I.list hq;obtain⟨j,h1,h2,h3,h4,h5⟩:=w4 he;obtain⟨w,ew,rw'⟩:=r.get h2;have hl:=r.length;have hn:=oz;have fin:EP X pins σ Q w s:=⟨z,H,I,rw',q⟩;by_cases h0:0<=i
 ·have hj:i.toNat=j:=by
   rw[seqIndex_of h0 h5]at h1;exact Rq h1
  exact item_listR pl.isList h0 #[1] (by rw[hj];simpa using ew) fin hs
 ·have hj:(i+(its.toArray.size:Int)).toNat=j:=by
   rw[seqIndex_neg #[1] h4]at h1;rw[Qz,<-hl];exact Rq h1
  exact subscriptTail_builtinR (x:=w) pl.isList.typeIs slot_list_getitem.lookup
   (wpAny_getItem_list_neg (Q:=λ r s'=>r=w/\EP X pins σ Q r s') pl.isList #[1] (by rw[Qz]<;>omega) #[1] (by rw[hj];simpa using ew) ⟨rfl,fin⟩) hs
def dj:G9 X (Nf X.K):=by
 intro value slice pins s σ H x y v u Q I rx ry h hs;obtain⟨p,xs,i,z,rfl,rfl,hq,he,q⟩:=h;cases rx;obtain⟨t,rfl⟩:=ry;obtain⟨its,r,pl,hz⟩:=I.tuple hq;obtain⟨j,h1,h2,h3,h4,h5⟩:=w4 he;obtain⟨w,ew,rw'⟩:=r.get h2;have hl:=r.length;have hn:=oz;have fin:EP X pins σ Q w s:=⟨z,H,I,rw',q⟩;exact subscriptTail_builtinR (x:=w) pl.typeIs slot_tuple_getitem.lookup
  (getItem_tuple (j:=j) (Q:=λ r s'=>r=w/\EP X pins σ Q r s') pl #[1] #[1] (by rw[Qz,<-hl];exact h1) (by simpa using ew) ⟨rfl,fin⟩) hs
def Lb:G9 X Na:=by
 intro value slice pins s σ H x y v u Q I rx ry h hs;obtain⟨z,i,c,rfl,rfl,hz,he,q⟩:=h;obtain⟨t,rfl⟩:=rx;obtain⟨t',rfl⟩:=ry;obtain⟨j,h1,h2,h3,h4,h5⟩:=w4 he;have hl:z.cps.toList.length=z.length:=by simp[Str.length]
 rw[hl]at h1 h4 h5;have hn:=oz;exact tail_any (typeIs_str s z t) slot_str_getitem.lookup (getItem_str (c:=c) (by
  have e1:decide (i < -(2^63:Int))=false:=QF #[1];have e2:decide (i≥2^63)=false:=QF #[1];rw[e1,e2,Bool.or_false]) (by rw[h1];simpa using h2) ⟨.str ⟨#[c]⟩,H,I.tok _,⟨_,rfl⟩,q⟩) hs
def PN (K:#[0]):R2:=λ x y H Q=>Ng K x y H Q\/Nf K x y H Q\/Na x y H Q
def Ld:G9 X (PN X.K):=Hy.or (dj.or Lb)
def Aa (its:#[17])(n j:Nat)(u:Value):Obj.mapSeq (·.setIfInBounds j u) { cls:=.type "list",data:=.seq its.toArray n }={ cls:=.type "list",data:=.seq (its.set j u).toArray n }:=by
 simp[Obj.mapSeq]
def Inv.lst{p:Addr}{xs:List V}(I:#[4])(h:H p=some (.lst xs)) :
  ∃ (its:#[17]) (n:Nat),Vals xs its/\s.heap.get? p=some { cls:=.type "list",data:=.seq its.toArray n }/\xs.length<=sizeLine:=by
 obtain⟨z,its,n,r,e⟩:=I.hok p _ h;exact⟨its,n,r,e,z⟩
def Inv.K7{p:Addr}{xs ys:List V}{its':#[17]}{n':Nat}{f:Obj->Obj}(I:#[4])(h:H p=some (.lst xs))
  (ho:s.heap.get? p=some { cls:=.type "list",data:=.seq its.toArray n }) (hf:f { cls:=.type "list",data:=.seq its.toArray n }={ cls:=.type "list",data:=.seq its'.toArray n' }) (r:Vals ys its') (hz:ys.length<=sizeLine) (t:Nat) :
  Inv X pins σ (upd H p (.lst ys)) { s with heap:=s.heap.update p f,toks:=t }:=by
 have e:(s.heap.update p f).get? p=some { cls:=.type "list",data:=.seq its'.toArray n' }:=by
  rw[Ra f ho (by rw[hf]<;>rfl),hf]
 refine I.write (x:=p) (e:=p) (by rw[h];trivial) (.inl rfl) (λ b u hb q=>(Q2 _ _ (Rr hb)).trans q) ⟨_,e⟩ ?_;exact⟨hz,its',n',r,e⟩
def Nh:V->V->V->Hp->(Hp->Prop)->Prop:=λ o i v H Q=>∃ p xs k j,o=.ref p/\i=.int k/\H p=some (.lst xs)/\DQ xs.length k=some j/\Q (upd H p (.lst (xs.set j v)))
def set_list:MT X Nh:=by
 intro pins s σ H o i v ov iv u Q I ro ri rv h;obtain⟨p,xs,k,j,rfl,rfl,hp,hj,q⟩:=h;cases ro;obtain⟨t,rfl⟩:=ri;obtain⟨its,n,r,ho,hz⟩:=I.lst hp;obtain⟨h1,h2,h3,h4⟩:=Bw hj;have hl:=r.length;have hn:=oz;have I':Inv X pins σ (upd H p (.lst (xs.set j v))) { s with heap:=s.heap.update p (Obj.mapSeq (·.setIfInBounds j u)) }:=
  I.K7 hp ho (Aa its n j u) (r.set rv j) (by rw[List.length_set];exact hz) s.toks
 by_cases h0:0<=k
 ·have hk:k.toNat=j:=by
   rw[seqIndex_of h0 h4]at h1;exact Rq h1
  exact PySem.W.ki_setAt ho h0 #[1] (by rw[Qz,<-hl];exact h4) (by rw[hk];exact⟨_,I',q⟩)
 ·have hk:(k+(its.toArray.size:Int)).toNat=j:=by
   rw[seqIndex_neg #[1] h3]at h1;rw[Qz,<-hl];exact Rq h1
  exact PySem.W.ki_setBack ho #[1] (by rw[Qz,<-hl];exact h3) #[1] (by rw[hk];exact⟨_,I',q⟩)
def wX (lo hi:Option Int)(n:Nat):(sliceBounds lo hi none n).1=((HT.gi n 0 lo:Nat):Int)/\(sliceBounds lo hi none n).2.1=((HT.gi n n hi:Nat):Int)/\(sliceBounds lo hi none n).2.2=1:=by
 refine⟨?_,?_,rfl⟩
 ·cases lo with
  |none=>simp[sliceBounds,HT.gi]
  | some i =>
   simp only[sliceBounds,HT.gi,U3,show(1:Int)>0 by decide,TU];by_cases h:i<0
   ·simp only[h,TU]<;>omega
   ·simp only[h,SQ]<;>omega
 ·cases hi with
  |none=>simp[sliceBounds,HT.gi]
  | some i =>
   simp only[sliceBounds,HT.gi,U3,show(1:Int)>0 by decide,TU];by_cases h:i<0
   ·simp only[h,TU]<;>omega
   ·simp only[h,SQ]<;>omega
def vc (its:#[17])(lo hi:Option Int):slicePick its.toArray lo hi none=((its.drop (HT.gi its.length 0 lo)).take (HT.gi its.length its.length hi-HT.gi its.length 0 lo)).toArray:=by
 obtain⟨h1,h2,h3⟩:=wX lo hi its.toArray.size;unfold slicePick;rw[h1,h2,h3];simp only[sliceRange_one,pick_run,Qz]<;>rfl
def O5 (K:#[0]):V->Option Int->Option Int->Hp->VK->Prop:=λ x lo hi H Q=>∃ a xs,x=.ref a/\fH K H a xs/\∀ p,H p=none->Q (.ref p) (upd H p (.lst (yo xs lo hi)))
def HA:JR X (O5 X.K):=by
 intro pins s σ H x v vl vu lo hi sl Q I rx hs pl pu h;obtain⟨a,xs,rfl,hx,q⟩:=h;cases rx;obtain⟨its,r,ht,hz⟩:=I.list hx;have hlen:=r.length;refine⟨"list",_,slot_list_getitem.lookup,ht.isList.typeIs,?_⟩;refine wpAny_getItem_list_slice ht.isList hs pl pu .none #[32] ?_ (by rw[Qz]<;>omega);rw[vc,<-hlen];refine⟨.ref s.heap.objs.size,_,I.laid (t':=s.toks) (o:=.lst (yo xs lo hi)) (λ b ob q=>Qp _ q) (QD _) ?_,rfl,q _ (I.hok.fresh (QD _))⟩;exact⟨QX (rC xs lo hi) hz,_,0,(r.drop (HT.gi xs.length 0 lo)).take #[170],QI _ rfl⟩
def nO:V->Bool
 |.bW=>true
 |.bl _=>true
 |.int _=>true
 |.str _=>true
 |_=>false
def Ha:V->V->Bool
 |.bW,.bW=>true
 |.bl a,.bl b=>a == b
 |.bl a,.int b=>(if a then 1 else 0) == b
 |.int a,.bl b=>a == (if b then 1 else 0)
 |.int a,.int b=>a == b
 |.str a,.str b=>a == b
 |_,_=>false
def La{v:Value}(ry:RelV y u)(rx:RelV x v)(fy:nO y=true)(fx:nO x=true):SeqAt.EqAt A s u v (Ha y x):=by
 cases y with
 | bW =>
  cases ry;cases x with
  |bW=>cases rx;exact SeqAt.EqAt.same _|bl b=>cases rx;exact SeqAt.EqAt.none_bool b|int b=>obtain⟨t,rfl⟩:=rx;exact SeqAt.EqAt.none_int b t|str b=>obtain⟨t,rfl⟩:=rx;exact SeqAt.EqAt.none_str b t|_=>exact absurd (show false=true from fx) Qy
 | bl a =>
  cases ry;cases x with
  |bW=>cases rx;exact SeqAt.EqAt.bool_none a|bl b=>cases rx;exact SeqAt.EqAt.bool_bool a b|int b=>obtain⟨t,rfl⟩:=rx;exact SeqAt.EqAt.bool_int a b t|str b=>obtain⟨t,rfl⟩:=rx;exact SeqAt.EqAt.bool_str a b t|_=>exact absurd (show false=true from fx) Qy
 | int a =>
  obtain⟨t',rfl⟩:=ry;cases x with
  |bW=>cases rx;exact SeqAt.EqAt.int_none a t'| bl b=>cases rx;exact SeqAt.EqAt.int_bool a t' b|int b=>obtain⟨t,rfl⟩:=rx;exact SeqAt.EqAt.int_int a t' b t|str b=>obtain⟨t,rfl⟩:=rx;exact SeqAt.EqAt.int_str a t' b t|_=>exact absurd (show false=true from fx) Qy
 | str a =>
  obtain⟨t',rfl⟩:=ry;cases x with
  |bW=>cases rx;exact SeqAt.EqAt.str_none a t'| bl b=>cases rx;exact SeqAt.EqAt.str_bool a t' b|int b=>obtain⟨t,rfl⟩:=rx;exact SeqAt.EqAt.str_int a t' b t|str b=>obtain⟨t,rfl⟩:=rx;exact SeqAt.EqAt.str_str a t' b t|_=>exact absurd (show false=true from fx) Qy
 |_=>exact absurd (show false=true from fy) Qy
def Ad (x:V)(u:Value):Bool:=match u with
 |.none=>Ha .bW x
 |.bool b=>Ha (.bl b) x
 |.int i _=>Ha (.int i) x
 |.str z _=>Ha (.str z) x
 |_=>false
def Ec(r:RelV y u)(f:nO y=true):Ad x u=Ha y x:=by
 cases y with
 |bW=>cases r;rfl|bl b=>cases r;rfl|int i=>obtain⟨t,rfl⟩:=r;rfl|str z=>obtain⟨t,rfl⟩:=r;rfl|_=>exact absurd (show false=true from f) Qy
def pe {x:V}:∀ {xs:List V}{us:#[17]},Vals xs us->xs.all nO=true->us.any (Ad x)=xs.any λ y=>Ha y x
 |_,_,.nil,_=>rfl
 | y::xs,u::us,.cons r t,f=>by
  rw[U0,Q4]at f;rw[So,So,Ec r f.1,pe t f.2]
def lT {A:#[127]}{s:Shared}{x:V}{v:Value}(rx:RelV x v)(fx:nO x=true):∀ {xs:List V}{us:#[17]},Vals xs us->xs.all nO=true->∀ u∈us,SeqAt.EqAt A s u v (Ad x u)
 |_,_,.nil,_=>λ u hu=>by cases hu
 | y::xs,u::us,.cons r t,f=>λ u' hu=>by
  rw[U0,Q4]at f;rcases QA.mp hu with rfl|hu
  ·rw[Ec r f.1];exact La r rx f.1 fx
  ·exact lT rx fx t f.2 u' hu
def Oo (x:V)(xs:List V):Bool:=xs.any λ y=>Ha y x
def O2 (K:#[0])(neg:Bool):R2:=λ x y H Q=>∃ p xs,y=.ref p/\(fH K H p xs\/k9 K H p xs)/\nO x=true/\xs.all nO=true/\Q (.bl (if neg then !Oo x xs else Oo x xs)) H
def vF:jK X (compareOp .In) (O2 X.K false):=by
 intro pins s σ H x y v u Q I rx ry h;obtain⟨p,xs,rfl,hq,fx,fs,q⟩:=h;cases ry;rcases hq with hq|hq
 ·obtain⟨its,r,pl,hz⟩:=I.list hq;refine SeqAt.in_listAt (Ad x) pl.isList (λ w hw=>lT rx fx r fs w (by simpa using hw)) ⟨.bl _,H,I,rfl,?_⟩;rw[show its.toArray.any (Ad x)=its.any (Ad x) by simp,pe r fs];exact q
 ·obtain⟨its,r,pl,hz⟩:=I.tuple hq;refine SeqAt.in_tupleAt (Ad x) pl (λ w hw=>lT rx fx r fs w (by simpa using hw)) ⟨.bl _,H,I,rfl,?_⟩;rw[show its.toArray.any (Ad x)=its.any (Ad x) by simp,pe r fs];exact q
def kG:jK X (compareOp .NotIn) (O2 X.K true):=by
 intro pins s σ H x y v u Q I rx ry h;obtain⟨p,xs,rfl,hq,fx,fs,q⟩:=h;cases ry;rcases hq with hq|hq
 ·obtain⟨its,r,pl,hz⟩:=I.list hq;refine SeqAt.notIn_listAt (Ad x) pl.isList (λ w hw=>lT rx fx r fs w (by simpa using hw)) ⟨.bl _,H,I,rfl,?_⟩;rw[show its.toArray.any (Ad x)=its.any (Ad x) by simp,pe r fs];exact q
 ·obtain⟨its,r,pl,hz⟩:=I.tuple hq;refine SeqAt.notIn_tupleAt (Ad x) pl (λ w hw=>lT rx fx r fs w (by simpa using hw)) ⟨.bl _,H,I,rfl,?_⟩;rw[show its.toArray.any (Ad x)=its.any (Ad x) by simp,pe r fs];exact q
def wY:eK X (.builtin "len") (λ xs H Q=>∃ p ys,xs=[.ref p]/\(fH X.K H p ys\/k9 X.K H p ys)/\Q (.int ys.length) H):=by
 intro pins s σ H xs us Q I r h;obtain⟨p,ys,rfl,hq,q⟩:=h;obtain⟨u,rfl,rx⟩:=vals1 r;cases rx;have hn:=oz;rcases hq with hq|hq
 ·obtain⟨its,r',pl,hz⟩:=I.list hq;have hlen:=r'.length;exact Calls.call_len_list pl.isList (by simp only[Qz]<;>omega) ⟨.int ys.length,H,I.tok _,⟨s.toks+1,by rw[Qz,hlen]⟩,q⟩
 ·obtain⟨its,r',pl,hz⟩:=I.tuple hq;have hlen:=r'.length;exact len_tuple pl (by simp only[Qz]<;>omega) ⟨.int ys.length,H,I.tok _,⟨s.toks+1,by rw[Qz,hlen]⟩,q⟩
def wZ:eK X (.builtin "len") (λ xs H Q=>∃ z,xs=[.str z]/\z.length<=sizeLine/\Q (.int z.length) H):=by
 intro pins s σ H xs us Q I r h;obtain⟨z,rfl,hz,q⟩:=h;obtain⟨u,rfl,t,rfl⟩:=vals1 r;have hn:=oz;exact len_str #[1] ⟨.int z.length,H,I.tok _,⟨_,rfl⟩,q⟩
def eK.or {f:Value}{r r':#[188]}(h:eK X f r)(h':eK X f r'):eK X f (λ xs H Q=>r xs H Q\/r' xs H Q):=by
 intro pins s σ H xs us Q I rs q;rcases q with q|q
 ·exact h pins s σ H xs us Q I rs q
 ·exact h' pins s σ H xs us Q I rs q
def oY:eK X (.type "list") (λ xs H Q=>∃ p ys,xs=[.ref p]/\(fH X.K H p ys\/k9 X.K H p ys)/\∀ l,H l=none->Q (.ref l) (upd H l (.lst ys))):=by
 intro pins s σ H xs us Q I r h;obtain⟨p,ys,rfl,hq,q⟩:=h;obtain⟨u,rfl,rx⟩:=vals1 r;cases rx;have fin:∀ (its:#[17]),Vals ys its->ys.length<=sizeLine->∀ (h':Heap) (c':Nat),(∀ b o',s.heap.get? b=some o'->h'.get? b=some o') ->
   h'.get? s.heap.objs.size=some { cls:=.type "list",dict:=none,data:=.seq its.toArray c',slots:=#[] }->EP X pins σ Q #[73] { s with heap:=h' }:=λ its r' hz h' c' kp e=>
  ⟨.ref s.heap.objs.size,_,I.laid (t':=s.toks) kp (QD _) (show cY X.prog X.w _ h' _ (.lst ys) from ⟨hz,its,c',r',e⟩),rfl,q _ (I.hok.fresh (QD _))⟩
 rcases hq with hq|hq
 ·obtain⟨its,r',pl,hz⟩:=I.list hq;have hlen:=r'.length;obtain⟨o,ho,hc,n,hd⟩:=pl.isList;exact call_list_seq p (.inl rfl) ho hc hd (λ h' c' kp e=>fin its r' hz h' c' kp e) (by simp only[Qz]<;>omega)
 ·obtain⟨its,r',pl,hz⟩:=I.tuple hq;have hlen:=r'.length;obtain⟨o,ho,hc,n,hd⟩:=pl;exact call_list_seq p (.inr rfl) ho hc hd (λ h' c' kp e=>fin its r' hz h' c' kp e) (by simp only[Qz]<;>omega)
def dQ:eK X (.type "tuple") (λ xs H Q=>∃ p ys,xs=[.ref p]/\((fH X.K H p ys/\∀ l,H l=none->Q (.ref l) (upd H l (.tup ys)))\/(k9 X.K H p ys/\Q (.ref p) H))):=by
 intro pins s σ H xs us Q I r h;obtain⟨p,ys,rfl,h⟩:=h;obtain⟨u,rfl,rx⟩:=vals1 r;cases rx;rcases h with ⟨hq,q⟩|⟨hq,q⟩
 ·obtain⟨its,r',pl,hz⟩:=I.list hq;have hlen:=r'.length;refine call_tuple_list pl.isList (λ h' kp=>?_) (by simp only[Qz]<;>omega);have I1:Inv X pins σ H { s with heap:=h' }:=I.kept (t':=s.toks) kp;have I2:Inv X pins σ (upd H h'.objs.size (.tup ys)) { s with heap:=h'.push { cls:=.type "tuple",data:=.seq its.toArray } }:=
   I1.laid (t':=s.toks) (λ b o e=>Qp _ e) (QD _) (show cY X.prog X.w _ _ _ (.tup ys) from ⟨hz,its,r',yh.new _ _⟩)
  exact⟨.ref h'.objs.size,_,I2,rfl,q _ (I1.hok.fresh (QD _))⟩
 ·obtain⟨its,r',pl,hz⟩:=I.tuple hq;exact call_tuple_same pl ⟨.ref p,H,I,rfl,q⟩
def O1 (K:#[0])(T:String)(x:V)(H:Hp):Prop:=match x with
 |.str _=>T = "str"
 |.int _=>T = "int"
 | .ref p=>(T = "list" /\ ∃ xs,fH K H p xs)\/(T = "tuple" /\ ∃ o,K.lookup p=some o/\o.cls=.type "tuple" /\ o.dict=none) ∨
   (T = "dict" /\ ((∃ kvs ep,H p=some (.dK kvs ep))\/∃ kvs ep,H p=some (.dT kvs ep)))\/(T = "set" /\ ∃ S n,H p=some (.set S n))
 |_=>False
def Eb{v:Value}(I:#[4])(r:RelV x v)(ty:O1 X.K T x H) :
  s.TypeIs v T/\∀ a,v=.ref a->∃ ob,s.heap.get? a=some ob/\ob.dict=none:=by
 cases x with
 | str z =>
  obtain⟨t,rfl⟩:=r;cases (show T = "str" from ty);exact⟨typeIs_str s z t,λ _ e=>nomatch e⟩
 | int i =>
  obtain⟨t,rfl⟩:=r;cases (show T = "int" from ty);exact⟨typeIs_int s i t,λ _ e=>nomatch e⟩
 | ref p =>
  cases r;rcases ty with ⟨rfl,xs,hq⟩|⟨rfl,o,hk,hc,hd⟩|⟨rfl,hk⟩|⟨rfl,S,n,hk⟩
  ·obtain⟨its,_,pl,_⟩:=I.list hq;refine⟨pl.isList.typeIs,λ a e=>?_⟩;cases e;obtain⟨o,n,e,c,hd,_⟩:=pl;exact⟨o,e,hd⟩
  ·refine⟨⟨o,I.qC p o hk,hc⟩,λ a e=>?_⟩;cases e;exact⟨o,I.qC _ o hk,hd⟩
  ·have z:∃ o,s.heap.get? p=some o/\o.ExactDict:=by
    rcases hk with ⟨kvs,ep,hk⟩|⟨kvs,ep,hk⟩
    ·obtain⟨_,_,_,_,o,_,e,ex,_⟩:=I.hok p _ hk;exact⟨o,e,ex⟩
    ·obtain⟨_,_,_,_,o,_,e,ex,_⟩:=I.hok p _ hk;exact⟨o,e,ex⟩
   obtain⟨o,e,ex⟩:=z;refine⟨⟨o,e,ex.1⟩,λ a e2=>?_⟩;cases e2;exact⟨o,e,ex.2.1⟩
  ·obtain⟨o,_,_,_,e,ex,_⟩:=I.hok p _ hk;refine⟨⟨o,e,ex.1⟩,λ a e2=>?_⟩;cases e2;exact⟨o,e,ex.2.1⟩
 |_=>exact False.elim ty
def O4 (K:#[0])(T:String)(r:V->List V->Hp->VK->Prop)(to:TE):TE:=λ σ H Q=>to σ H λ x H1=>O1 K T x H1/\r x [] H1 Q
def Qe (K:#[0])(T:String)(r:V->List V->Hp->VK->Prop)(to:TE)(t:TA):TE:=λ σ H Q=>to σ H λ x H1=>O1 K T x H1/\t σ H1 λ xs H2=>r x xs H2 Q
variable {o:Expr}{es:List Expr}{to:TE}{t:TA}{name:Str}{apos cpos:Pos}{id:String}{r:V->List V->Hp->VK->Prop}
def K6 (pa:PlainAttrs T)(slot:Slot T name id)(hty:typeOf (.builtin id)=pure (.type "method_descriptor"))(hm:PQ X id r)(ho:PE X o to)
  (hbase:attributeBase o name X.env (eval o X.env)=eval o X.env:=by rfl) (hline:#[110]:=by rfl):PE X (.Call (.Attribute o name apos) [] [] cpos) (O4 X.K T r to):=by
 intro pins s σ H Q I h;refine wpAny_Call_method0_late hbase hline (eG (ho pins s σ H _ I h) λ v s1 ⟨x,H1,I1,r1,ty,q1⟩=>?_);obtain⟨h1,h2⟩:=Eb I1 r1 ty;exact⟨T,id,pa,slot,hty,h1,h2,Calls.callWith_builtin rfl (PySem.evalArgs_none (hm pins s1 σ H1 x [] v [] Q I1 r1 .nil q1))⟩
def Bu (pa:PlainAttrs T)(slot:Slot T name id)(hty:typeOf (.builtin id)=pure (.type "method_descriptor"))(hm:PQ X id r)(ho:PE X o to)(ha:PA X (e::es) t)
  (hbase:attributeBase o name X.env (eval o X.env)=eval o X.env:=by rfl)
  (hfew:((backTo cpos (starEach (e::es) X.env)).all (λ x=>!x.1)&&#[182].all (λ x=>x.1.isSome)
   && decide ((e::es).length+([]:List Keyword).length+(if ([]:List Keyword).isEmpty then 0 else 1)<30))=true:=by rfl)
  (hline:#[110]:=by rfl) (hs:#[5]:=by rfl) (hplain:(backTo cpos (starEach es X.env)).any (·.1)=false:=by rfl) :
  PE X (.Call (.Attribute o name apos) (e::es) [] cpos) (Qe X.K T r to t):=by
 intro pins s σ H Q I h;refine wpAny_Call_method_late hbase hfew hline rfl (eG (ho pins s σ H _ I h) λ v s1 ⟨x,H1,I1,r1,ty,q1⟩=>?_);obtain⟨h1,h2⟩:=Eb I1 r1 ty;refine⟨T,id,pa,slot,hty,h1,h2,?_⟩;have hA:=ha cpos pins s1 σ H1 _ I1 q1;rw[hs]at hA ⊢;refine Calls.callWith_builtin (by show(false||(backTo cpos (starEach es X.env)).any (·.1))=false;rw[hplain]<;>rfl) (Calls.evalArgs_plain ?_);exact eG hA λ us s2 hq5=>L2.ex5 hq5 λ vs H2 I2 r2 q2=>hm pins s2 σ H2 x vs v us Q I2 r1 r2 q2
end
def Nb (X:Cx)(id:String)(r:V->List V->Hp->VK->Prop):Prop:=
 ∀ (pins:#[12]) (s:Shared) (σ:St) (H:Hp) (x:V) (xs:List V) (v:Value) (us:#[17]) (Q:VK),Inv X pins σ H s->RelV x v->Vals xs us->r x xs H Q ->
  wpAny #[11] X.A (call (.builtin id) (v::us)) (EP X pins σ Q) X.xe s
def Vals.one(h:Vals [x] us):∃ u,us=[u]/\RelV x u:=by
 cases h with
 |cons r h=>cases h;exact⟨_,rfl,r⟩
def Vals.two(h:Vals [x,y] us):∃ u v,us=[u,v]/\RelV x u/\RelV y v:=by
 cases h with
 | cons r h =>
  cases h with
  |cons q h=>cases h;exact⟨_,_,rfl,r,q⟩
def Vals.zero:∀ {us:#[17]},Vals [] us->us=[]
 |_,.nil=>rfl
def Vals.dropLast {xs:List V}(h:Vals xs us):Vals xs.dropLast us.dropLast:=by
 induction h with
 |nil=>exact .nil
 | cons r t ih =>
  cases t with
  |nil=>exact .nil|cons q t'=>exact .cons r ih
def Ab(l:List α):l.eraseIdx (l.length-1)=l.dropLast:=by
 induction l with
 |nil=>rfl
 | cons a r ih =>
  cases r with
  |nil=>rfl
  | cons b r =>
   have e:(a::b::r).length-1=((b::r).length-1)+1:=by
    have h1:(a::b::r).length=r.length+2:=rfl;have h2:(b::r).length=r.length+1:=rfl;omega
   rw[e,List.eraseIdx_cons_succ,ih]
   all_goals rfl
section
variable{l:Addr}{xs ys zs:List V}
def Inv.Ea {its':#[17]}{f:Array Value->Array Value}(I:#[4])(hH:H l=some (.lst xs))
  (e:s.heap.get? l=some { cls:=.type "list",data:=.seq its.toArray n }) (hf:f its.toArray=its'.toArray) (hv:Vals ys its') (hz:ys.length<=sizeLine) :
  Inv X pins σ (upd H l (.lst ys)) { s with heap:=s.heap.update l (Obj.mapSeq f),toks:=t' }:=by
 have q:=PySem.IsL.update e f;rw[hf]at q;refine I.write (x:=l) (e:=l) (by rw[hH];exact trivial) (.inl rfl) (λ b' u hb hu=>(Q2 s.heap (Obj.mapSeq f) (Rr hb)).trans hu) ⟨_,q⟩ ?_;exact⟨hz,its',_,hv,q⟩
def Inv.Nc(I:#[4])(hv:Vals ys its)(hz:ys.length<=sizeLine) :
  Inv X pins σ (upd H s.heap.objs.size (.lst ys)) { s with heap:=s.heap.push { cls:=.type "list",data:=.seq its.toArray },toks:=t' }:=
 I.laid (λ _ _ q=>Qp _ q) (QD _) ⟨hz,its,0,hv,QI _ rfl⟩
def Inv.fresh (I:#[4]):H s.heap.objs.size=none:=I.hok.fresh (QD _)
def Inv.CD (I:#[4])(hH:H l=some (.lst xs)):xs.length<=sizeLine/\∃ (its:#[17]) (n:Nat),Vals xs its/\xs.length=its.length/\s.heap.get? l=some { cls:=.type "list",data:=.seq its.toArray n }:=by
 obtain⟨z,its,n,r,e⟩:=I.hok l _ hH;exact⟨z,its,n,r,r.length,e⟩
def yp(h:n<=sizeLine):Builtin.List.listTooLong n=false:=by
 unfold Builtin.List.listTooLong;exact QF #[1]
end
section
def HD:V->List V->Hp->VK->Prop:=λ x vs H Q=>∃ l xs y,x=.ref l/\vs=[y]/\H l=some (.lst xs)/\xs.length<sizeLine/\Q .bW (upd H l (.lst (xs++[y])))
def vH:Nb X "list.append" HD:=by
 intro pins s σ H x vs v us Q I rx rv h;obtain⟨l,xs,y,rfl,rfl,hH,hz,q⟩:=h;cases rx;obtain⟨u,rfl,ru⟩:=rv.one;obtain⟨z,its,n,r,hl,e⟩:=I.CD hH;refine Va F.slot_list_append ⟨_,e,rfl⟩ F.entry_list_append (F.args_list_append_2 _ _) (PySem.list_append l its.toArray n u (by rw[Qz];omega)) ⟨e,?_⟩;refine⟨.bW,_,I.Ea (its':=its++[u]) hH e #[32] (r.append (.cons ru .nil)) ?_,rfl,q⟩;rw[Qv,T9];omega
def HG:V->List V->Hp->VK->Prop:=λ x vs H Q=>∃ l b xs zs,x=.ref l/\vs=[.ref b]/\H l=some (.lst xs)/\H b=some (.lst zs)/\xs.length+zs.length<=sizeLine/\Q .bW (upd H l (.lst (xs++zs)))
def vG:Nb X "list.extend" HG:=by
 intro pins s σ H x vs v us Q I rx rv h;obtain⟨l,b,xs,zs,rfl,rfl,hH,hB,hz,q⟩:=h;cases rx;obtain⟨u,rfl,ru⟩:=rv.one;cases ru;obtain⟨z,its,n,r,hl,e⟩:=I.CD hH;obtain⟨z2,its2,n2,r2,hl2,e2⟩:=I.CD hB;have hsz:its.toArray.size+its2.toArray.size<=sizeLine:=by rw[Qz,Qz];omega
 have hlong:¬ (!its.toArray.isEmpty&&Builtin.List.listTooLong (its.toArray.size+its2.toArray.size))=true:=by
  rw[yp hsz,Vd];exact Qy
 refine Va F.slot_list_extend ⟨_,e,rfl⟩ F.entry_list_extend (F.args_list_extend_2 _ _)
  (AutoSeq1.list_extend_list_list_0 l its.toArray n b its2.toArray n2 hlong (by rw[Qz];omega) #[1]) ⟨e,e2,?_⟩
 refine⟨.bW,_,I.Ea (its':=its++its2) hH e #[32] (r.append r2) ?_,rfl,q⟩;rw[Qv];omega
def O0:V->List V->Hp->VK->Prop:=λ x vs H Q=>∃ l xs y,x=.ref l/\vs=[]/\H l=some (.lst xs)/\xs[xs.length-1]?=some y/\Q y (upd H l (.lst xs.dropLast))
def K9:Nb X "list.pop" O0:=by
 intro pins s σ H x vs v us Q I rx rv h;obtain⟨l,xs,y,rfl,rfl,hH,hy,q⟩:=h;cases rx;have hus:=rv.zero;subst hus;obtain⟨z,its,n,r,hl,e⟩:=I.CD hH;obtain⟨u,hu,ru⟩:=r.get hy;have hy':its.toArray[its.toArray.size-1]?=some u:=by
  show its.toArray[its.length-1]?=some u;rw[<-Ru,<-hl];exact hu
 refine Va F.slot_list_pop ⟨_,e,rfl⟩ F.entry_list_pop (F.args_list_pop_1 _) (MeetsSeq.list_pop_last l its.toArray n u hy' (by rw[Qz];omega)) ⟨e,?_⟩;refine⟨y,_,I.Ea (its':=its.dropLast) hH e ?_ r.dropLast ?_,ru,q⟩
 ·show its.toArray.eraseIdxIfInBounds (its.toArray.size-1)=its.dropLast.toArray;rw[Qz,List.eraseIdxIfInBounds_toArray,Ab]
 ·rw[List.length_dropLast];omega
end
section
variable {prog:#[83]}
end
section
end
section
variable {κ:Type}[DecidableEq κ]
def ph (kvs:List (κ×V))(k:κ):Option V:=(kvs.find? λ kv=>decide (kv.1=k)).map (·.2)
def putK (kvs:List (κ×V))(k:κ)(v:V):List (κ×V):=
 if (kvs.any λ kv=>decide (kv.1=k))=true then kvs.map (λ kv=>if kv.1=k then (kv.1,v) else kv) else kvs++[(k,v)]
def pj {p:κ×V}{r:List (κ×V)}{k:κ}(e:p.1=k):ph (p::r) k=some p.2:=by simp[ph,S2,e]
def lU {p:κ×V}{r:List (κ×V)}{k:κ}(e:¬ p.1=k):ph (p::r) k=ph r k:=by simp[ph,S2,e]
def yr (k:κ):∀ kvs:List (κ×V),(kvs.any λ kv=>decide (kv.1=k))=(ph kvs k).isSome
 |[]=>rfl
 | p::r=>by
  rw[So];by_cases e:p.1=k
  ·simp only[pj e,QO e,Bool.true_or,Option.isSome_some]
  ·rw[lU e,QF e,Bool.false_or];exact yr k r
def rE (kvs:List (κ×V))(k:κ)(v:V):(putK kvs k v).length<=kvs.length+1:=by
 unfold putK;split
 ·rw[Qs];omega
 ·rw[Qv,QP,Si];omega
def tm.CG{u:Option Value}(r:tm o u):o.isSome=u.isSome:=by
 cases o with
 | none=>cases u with
  |none=>rfl|some _=>exact(show False from r).elim
 | some _=>cases u with
  |none=>exact(show False from r).elim|some _=>rfl
def KV.val {kvs:List (κ×V)}{vs:List (κ×Value)}(r:KV kvs vs)(k:κ):tm (ph kvs k) (valueAt vs k):=by
 unfold KV at r
 induction r with
 |nil=>exact True.intro
 | @cons p q ps qs h t ih =>
  obtain⟨h1,h2⟩:=h;by_cases e:p.1=k
  ·have e':q.1=k:=h1.symm.trans e;have b:valueAt (q::qs) k=some q.2:=by simp[valueAt,S2,e']
   rw[pj e,b];exact h2
  ·have e':¬ q.1=k:=λ z=>e (h1.trans z);have b:valueAt (q::qs) k=valueAt qs k:=by simp[valueAt,S2,e']
   rw[lU e,b];exact ih
def KV.any {kvs:List (κ×V)}{vs:List (κ×Value)}(r:KV kvs vs)(k:κ):(kvs.any λ kv=>decide (kv.1=k))=vs.any λ kv=>decide (kv.1=k):=by
 unfold KV at r
 induction r with
 |nil=>rfl|cons h t ih=>rw[So,So,ih,h.1]
def KV.repl {kvs:List (κ×V)}{vs:List (κ×Value)}(r:KV kvs vs)(k:κ)(ry:RelV y u) :
  KV (kvs.map λ kv=>if kv.1=k then (kv.1,y) else kv) (vs.map λ kv=>if kv.1=k then (kv.1,u) else kv):=by
 unfold KV at r ⊢
 induction r with
 |nil=>exact .nil
 | @cons p q ps qs h t ih =>
  rw[Rc,Rc];refine .cons ?_ ih;obtain⟨h1,h2⟩:=h;by_cases e:p.1=k
  ·rw[QG e,QG (h1.symm.trans e)];exact⟨h1,ry⟩
  ·rw[QK e,QK (λ z=>e (h1.trans z))];exact⟨h1,h2⟩
def KV.put {kvs:List (κ×V)}{vs:List (κ×Value)}(r:KV kvs vs)(k:κ)(ry:RelV y u):KV (putK kvs k y) (stored vs k u):=by
 unfold putK stored;rw[r.any k];by_cases e:(vs.any λ kv=>decide (kv.1=k))=true
 ·rw[QG e,QG e];exact r.repl k ry
 ·rw[QK e,QK e];exact Paired.snoc r ⟨rfl,ry⟩
def KV.length {kvs:List (κ×V)}{vs:List (κ×Value)}(r:KV kvs vs):kvs.length=vs.length:=UY r
end
def Eg{k:Key}(r:RelV (kV k) u):(fE P w).is k u=true:=by
 cases k with
 |inl i=>obtain⟨t,e⟩:=(show ∃ t,u=Value.int i t from r);subst e;exact ym P w i t|inr x=>obtain⟨t,e⟩:=(show ∃ t,u=Value.str x t from r);subst e;exact yi P w x t
def vJ {P:#[83]}{w:World}:∀ {ks:List Key}{us:#[17]},Vals (ks.map kV) us->ItemsAre (fE P w) ks us
 |[],_,r=>by rw[List.map_nil]at r;cases r;exact .nil
 | k::ks,_,r=>by
  rw[Rc]at r;cases r with
  |cons h t=>exact .cons (Eg h) (vJ t)
abbrev KT (H:Hp):List (List Key×V)->List (List Key×Addr×Value)->Prop:=Paired λ p q=>p.1=q.1/\H q.2.1=some (.tup (p.1.map kV))/\RelV p.2 q.2.2
def KT.val(r:KT H kvs xs)(k:List Key):tm (ph kvs k) ((atKey xs k).map (·.2)):=by
 induction r with
 |nil=>exact True.intro
 | @cons p q ps qs h t ih =>
  obtain⟨h1,_,h2⟩:=h;by_cases e:p.1=k
  ·have e':q.1=k:=h1.symm.trans e;have b:atKey (q::qs) k=some q.2:=by simp[atKey,S2,e']
   rw[pj e,b];exact h2
  ·have e':¬ q.1=k:=λ z=>e (h1.trans z);have b:atKey (q::qs) k=atKey qs k:=by simp[atKey,S2,e']
   rw[lU e,b];exact ih
def KT.repl(r:KT H kvs xs)(k:List Key)(ry:RelV y u) :
  KT H (kvs.map λ kv=>if kv.1=k then (kv.1,y) else kv) (xs.map (putAt k u)):=by
 induction r with
 |nil=>exact .nil
 | @cons p q ps qs h t ih =>
  rw[Rc,Rc];refine .cons ?_ ih;obtain⟨h1,h2,h3⟩:=h;unfold putAt;by_cases e:p.1=k
  ·rw[QG e,QG (h1.symm.trans e)];exact⟨h1,h2,ry⟩
  ·rw[QK e,QK (λ z=>e (h1.trans z))];exact⟨h1,h2,h3⟩
def KT.put(r:KT H kvs xs)(k:List Key)(hb:H b=some (.tup (k.map kV)))(ry:RelV y u) :
  KT H (putK kvs k y) (storedH xs k b u):=by
 have e:(kvs.any λ kv=>decide (kv.1=k))=(atKey xs k).isSome:=by
  rw[yr,(r.val k).CG,Option.isSome_map]
 unfold putK storedH;rw[e];by_cases q:(atKey xs k).isSome=true
 ·rw[QG q,QG q];exact r.repl k ry
 ·rw[QK q,QK q];exact Paired.snoc r ⟨rfl,hb,ry⟩
def KT.keeps {H':Hp}(r:KT H kvs xs)(ht:∀ b ys,H b=some (.tup ys)->H' b=some (.tup ys)):KT H' kvs xs:=
 Paired.Kq r λ _ _ z=>⟨z.1,ht _ _ z.2.1,z.2.2⟩
section
variable{h:Heap}
def JT {u:HO}(ok:lj P w H h)(e:Rd H a u):cY P w H h a u:=e.ok ok
def O7 (H:Hp)(a:Addr)(kvs:List (Key×V)):Prop:=∃ ep,Rd H a (.dK kvs ep)
def O6 (H:Hp)(a:Addr)(kvs:List (List Key×V)):Prop:=∃ ep,Rd H a (.dT kvs ep)
def HK (H:Hp)(a:Addr)(kvs:List (Key×V)):Prop:=∃ ep,H a=some (.dK kvs ep)
def HT (H:Hp)(a:Addr)(kvs:List (List Key×V)):Prop:=∃ ep,H a=some (.dT kvs ep)
def HK.rd{kvs:List (Key×V)}(e:HK H a kvs):O7 H a kvs:=let ⟨ep,e⟩:=e;⟨ep,.inl e⟩
def HT.rd(e:HT H a kvs):O6 H a kvs:=let ⟨ep,e⟩:=e;⟨ep,.inl e⟩
def El {kvs:List (Key×V)}(ok:lj P w H h)(e:O7 H a kvs):kvs.length<=sizeLine/\(a == sysModules)=false/\∃ vs,KV kvs vs/\h.DictOf (fE P w) a vs:=
 by
 obtain⟨ep,e⟩:=e;obtain⟨z,y,vs,r,d⟩:=(show cY P w H h a (.dK kvs ep) from JT ok e);exact⟨z,y,vs,r,d.dictOf⟩
def Nm {kvs:List (Key×V)}(ok:lj P w H h)(e:HK H a kvs):kvs.length<=sizeLine/\(a == sysModules)=false/\∃ vs,KV kvs vs/\h.DictOf (fE P w) a vs:=El ok e.rd
def Af {ks:List Key}(ok:lj P w H h)(e:H a=some (.tup (ks.map kV))):(tupleKind (fE P w)).is h ks a:=by
 obtain⟨_,its,r,tn⟩:=(show cY P w H h a (.tup (ks.map kV)) from ok a _ e);obtain⟨o,h1,h2,n,h3⟩:=tn.is;exact⟨o,its.toArray,n,h1,h2,h3,by simpa using vJ r⟩
def Ek(ok:lj P w H h)(e:O6 H a kvs):kvs.length<=sizeLine/\(a == sysModules)=false /\
  ∃ xs,KT H kvs xs/\h.DictOfH (tupleKind (fE P w)) a xs:=by
 obtain⟨ep,e⟩:=e;obtain⟨z,y,xs,r,o,es,h1,h2,h3,h4,h5⟩:=(show cY P w H h a (.dT kvs ep) from JT ok e);refine⟨z,y,xs,r,o,es,ep,h1,h2,h3,h4,λ x hx=>?_,h5⟩;have all:∀ {l:List (List Key×V)}{m:List (List Key×Addr×Value)},KT H l m->∀ x∈m,(tupleKind (fE P w)).is h x.1 x.2.1:=by
  intro l m q
  induction q with
  |nil=>intro x hx;exact nomatch hx
  | @cons p q ps qs hq t ih =>
   intro x hx;rcases QA.mp hx with e|hx
   ·subst e;exact Af ok (by rw[<-hq.1];exact hq.2.1)
   ·exact ih x hx
 exact all r x hx
def Nk(ok:lj P w H h)(e:HT H a kvs):kvs.length<=sizeLine/\(a == sysModules)=false /\
  ∃ xs,KT H kvs xs/\h.DictOfH (tupleKind (fE P w)) a xs:=Ek ok e.rd
end
def qG (H:Hp)(a:Addr)(y:V)(r:Option V):Prop:=
 (∃ kvs k,O7 H a kvs/\y=kV k/\r=ph kvs k)\/∃ kvs k b,O6 H a kvs/\y=.ref b/\H b=some (.tup (k.map kV))/\r=ph kvs k
def Ni (H:Hp)(a:Addr)(y v:V)(K:Hp->Prop):Prop:=
 (∃ kvs k,HK H a kvs/\y=kV k/\kvs.length<sizeLine/\∀ ep,K (upd H a (.dK (putK kvs k v) ep))) ∨
 ∃ kvs k b,HT H a kvs/\y=.ref b/\H b=some (.tup (k.map kV))/\kvs.length<sizeLine/\∀ ep,K (upd H a (.dT (putK kvs k v) ep))
def qG.k{kvs:List (Key×V)}{k:Key}(e:HK H a kvs):qG H a (kV k) (ph kvs k):=.inl ⟨kvs,k,e.rd,rfl,rfl⟩
def qG.t{k:List Key}(e:HT H a kvs)(eb:H b=some (.tup (k.map kV))):qG H a (.ref b) (ph kvs k):=.inr ⟨kvs,k,b,e.rd,rfl,eb,rfl⟩
section
variable{v:V}{r:Value}
def Inv.big (I:#[4]):sysModules<s.heap.objs.size:=by
 have h:mainGlobals<s.heap.objs.size:=(I.mod.glob.keeps I.bk).lt;exact TV #[10] h
def CH {Q:#[7]}(hu:A.units+1<cLine)(I:#[4])(g:qG H a y (some v))(ry:RelV y u)(h:∀ w' s',Inv X pins σ H s'->RelV v w'->Q w' s') :
  wpAny #[11] A (getItem (.ref a) u) Q E s:=by
 rcases g with ⟨kvs,k,e,ey,l⟩|⟨kvs,k,b,e,ey,eb,l⟩
 ·subst ey;obtain⟨z,hd,vs,rel,dd⟩:=El I.hok e;obtain⟨w',hw,rw'⟩:=tm.some_of (v:=v) (o:=valueAt vs k) (by rw[l];exact rel.val k);exact wpAny_getItem_of (Eg ry) dd.mapOf hw (h w' _ (I.tok _) rw')
 ·subst ey;cases (show u=Value.ref b from ry);obtain⟨z,hd,xs,rel,dd⟩:=Ek I.hok e;obtain⟨w',hw,rw'⟩:=tm.some_of (v:=v) (o:=(atKey xs k).map (·.2)) (by rw[l];exact rel.val k);obtain⟨p,hp,hp2⟩:=TY.mp hw;refine wpAny_getItem_heap (tupleKind_room_in1 hu) (Af I.hok eb) dd hp ?_;rw[hp2];exact h w' _ (I.tok _) rw'
def By {h':Heap}{ob:HO}(I:#[4])(mu:M0 (H a))(hs:Heap.SameBut a s.heap h')(he:∃ q,h'.get? a=some q)(new:cY X.prog X.w (upd H a ob) h' a ob) :
  Inv X pins σ (upd H a ob) { s with heap:=h',toks:=t' }:=
 I.write (x:=a) (e:=a) mu (.inl rfl) (λ b q hb z=>(hs.2 b hb).trans z) he new
def Lf{H':Hp}{h':Heap}{kvs:List (Key×V)}{vs:List (Key×Value)}{ep:Nat}(z:kvs.length<=sizeLine)(hd:(a == sysModules)=false)(rel:KV kvs vs)(dd:h'.DictAt (fE P w) a vs ep) :
  cY P w H' h' a (.dK kvs ep):=⟨z,hd,vs,rel,dd⟩
def CF {K:Hp->Prop}{Q:Unit->Shared->Prop}(hu:A.units+1<cLine)(I:#[4])(g:Ni H a y v K)(ry:RelV y u)(rv:RelV v r)(h:∀ H' s',K H'->Inv X pins σ H' s'->Q () s') :
  wpAny #[11] A (setItem (.ref a) u r) Q E s:=by
 rcases g with ⟨kvs,k,e,ey,l,eH⟩|⟨kvs,k,b,e,ey,eb,l,eH⟩
 ·subst ey;obtain⟨ep0,e0⟩:=id e;obtain⟨z,hd,vs,rel,dd⟩:=Nm I.hok e;have hz:vs.length<=sizeLine:=by rw[<-rel.length];exact z
  have hl:(putK kvs k v).length<=sizeLine:=by have:=rE kvs k v;omega
  refine wpAny_setItem_pairs (hsz:=hz) (Eg ry) dd λ h' dd' hs=>?_;obtain⟨ep',dd'⟩:=dd'.dictAt;refine h _ _ (eH ep') ?_;have he:∃ q,h'.get? a=some q:=let ⟨q,_,hq,_⟩:=dd';⟨q,hq⟩
  exact By I (by rw[e0];exact True.intro) hs he (Lf hl hd (rel.put k rv) dd')
 ·subst ey;obtain⟨ep0,e0⟩:=id e;cases (show u=Value.ref b from ry);obtain⟨z,hd,xs,rel,dd⟩:=Nk I.hok e;have hz:xs.length<=sizeLine:=by rw[<-UY rel];exact z
  have hl:(putK kvs k v).length<=sizeLine:=by have:=rE kvs k v;omega
  refine wpAny_setItem_heap (hsz:=hz) (tupleKind_room_in1 hu) (Af I.hok eb) dd λ h' dd' hs=>?_;obtain⟨q,es,ep,hq,h2,h3,h4,_,h5⟩:=dd';refine h _ _ (eH ep) ?_;refine By I (by rw[e0];exact True.intro) hs ⟨q,hq⟩ ⟨hl,hd,_,(rel.put k eb rv).keeps λ c ys ec=>?_,q,es,hq,h2,h3,h4,h5⟩;rw[aZ (M4 ec e0 (λ z=>nomatch z))];exact ec
end
section
variable{kvs:List (Key×V)}{k:Key}
end
def Lg (i:Expr):Prop:=∀ ov iv,subscripted i false ov iv=operate [ov,iv] (getItem ov iv)
def HH {prog:#[83]}{env:Env}{value slice:Expr}{id:String}{Q:#[7]}
  (hl:typeLookup (.type T) "__getitem__" = pure (some (.builtin id))) (hs:Lg slice)
  (h:wpAny #[14] A (eval value env) (λ o s₁=>wpAny #[14] A (eval slice env) (λ i s₂=>s₂.TypeIs o T/\wpAny #[14] A (getItem o i) Q E s₂) E s₁) E s) :
  wpAny #[14] A (eval (.Subscript value slice pos) env) Q E s:=by
 refine Subscript_ (RI h (λ o s₁ h₁=>RI h₁ (λ i s₂ h₂=>?_) λ _ _ x=>x) λ _ _ x=>x);obtain⟨hT,h₂⟩:=h₂;unfold subscriptTail;refine Qn ?_;rw[getitemInPython_of_ne hT.not_modules];refine Qn (wpAny_specialOf hT hl ?_);have fin:wpAny #[14] A (subscripted slice false o i) (λ r s₃=>wpAny #[14] A (letTemporaryGo value o r >>= λ _=>pure r) Q E s₃) E s₂:=by
  rw[hs o i];exact wpAny_operating (RI h₂ (λ r s₃ h₃=>Qn (wpAny_letTemporaryGo (Qu h₃))) λ _ _ x=>x)
 first
  |exact Qu (Qn fin)
  |exact Qn (Qu (Qn fin))
  |exact Qn fin
def yq(I:#[4])(g:qG H a y o):s.TypeIs (.ref a) "dict" :=by
 rcases g with ⟨kvs,k,e,_,_⟩|⟨kvs,k,b,e,_,_,_⟩
 ·obtain⟨_,_,vs,_,dd⟩:=El I.hok e;exact dd.typeIs
 ·obtain⟨_,_,xs,_,dd⟩:=Ek I.hok e;exact dd.typeIs
def Nj (td ty:TE):TE:=λ σ H Q=>td σ H λ x H1=>ty σ H1 λ y H2=>∃ a v,x=.ref a/\qG H2 a y (some v)/\Q v H2
def Nl (td ty tv:TE):TS:=λ D σ H=>tv σ H λ v H1=>td σ H1 λ x H2=>ty σ H2 λ y H3=>∃ a,x=.ref a/\Ni H3 a y v (D.nx σ)
section
variable{o i value:Expr}{pos' tpos:Pos}{td ty tv:TE}
def HL (hu:X.A.units+1<cLine)(ho:PE X o td)(hi:PE X i ty)(hs:Lg i):PE X (.Subscript o i pos) (Nj td ty):=by
 intro pins s σ H Q I h;refine HH PySem.F.slot_dict_getitem.lookup hs (eG (ho pins s σ H _ I h) λ u s1 hq5=>L2.ex5 hq5 λ x H1 I1 rx q1=>eG (hi pins s1 σ H1 _ I1 q1) λ iv s2 ⟨y,H2,I2,ry,a,v,ex,g,q2⟩=>?_);subst ex;obtain rfl:u=Value.ref a:=rx;exact⟨yq I2 g,CH hu I2 g ry λ w' s3 I3 rw'=>⟨v,H2,I3,rw',q2⟩⟩
def HJ (hu:X.A.units+1<cLine)(ho:PE X o td)(hi:PE X i ty)(hv:PE X value tv)(hs:swapsWith value (some (.Subscript o i pos')) pos.line X.env=pure false) :
  PS X (.Assign [.Subscript o i pos'] value pos) (Nl td ty tv):=by
 intro pins s σ H D I h;refine wpAny_Assign_Subscript (eG (hv pins s σ H _ I h) λ r s1 hq5=>L2.ex5 hq5 λ v H1 I1 rv q1=>eG (ho pins s1 σ H1 _ I1 q1) λ u s2 hq5=>L2.ex5 hq5 λ x H2 I2 rx q2=>eG (hi pins s2 σ H2 _ I2 q2) λ iv s3 ⟨y,H3,I3,ry,a,ex,g⟩=>?_) hs;subst ex;obtain rfl:u=Value.ref a:=rx;exact CF hu I3 g ry rv λ H4 s4 q3 I4=>⟨σ,H4,I4,q3⟩
end
def Eh(h:Heap)(hb:sysModules<h.objs.size):cY P w H (h.push { cls:=.type "dict",data:=.dict #[] }) h.objs.size (.dT [] 0):=
 ⟨RS _,Ti.mpr (Rr (QT hb)),[],.nil,_,#[],QI _ rfl,⟨rfl,rfl,rfl⟩,rfl,rfl,Rl⟩
def Le:TE:=λ _ H Q=>∀ p,H p=none->Q (.ref p) (upd H p (.dT [] 0))
section
def Ei:PE X (.Dict [] [] pos) Le:=λ pins s σ H Q I h=>
 wpAny_Dict_empty ⟨.ref s.heap.objs.size,_,I.laid (a:=s.heap.objs.size) (o:=.dT [] 0) (t':=s.toks) (λ _ _ q=>Qp _ q) (QD _) (Eh s.heap I.big),rfl,h _ (I.hok.fresh (QD _))⟩
end
section
variable{d:V}{r:Value}
end
section
variable{o f:Expr}{apos cpos:Pos}{td ty tx:TE}
end
section
variable{kvs:List (Key×V)}
end
section
end
end L2
namespace PR
open PySem PySem.W PySem.Calls PyProof.Rows
def rW {P:Params}{h:Heap}:∀ (ns:#[6]) (vs:#[17]),WellAll P h vs (ns.map WData.int)->IntsAre vs ns:=by
 intro ns
 induction ns with
 | nil =>
  intro vs w;rw[List.map_nil]at w;cases w;exact .nil
 | cons n ns ih =>
  intro vs w;rw[Rc]at w;cases w with
  | cons a b =>
   cases a;exact .cons _ _ (ih _ b)
def CJ {l:OpenLaw}{n:Nat}(hn:l.most=some n){P:Params}{h:Heap}{args:List WData}{vals:#[17]}
  (hpre:l.row.toRowW.claim.pre args=true) (hwl:WellAll P h vals args) :
  ∃ a vs ns,vals=[Value.ref a]/\args=[WData.list (ns.map WData.int)]/\h.get? a=some { cls:=.type "list",data:=.seq vs.toArray }/\IntsAre vs ns/\ns.length<=n:=by
 have hsh:WShape.hasAll [] args [.list .int]=true:=(pre_splitW hpre).1;have hc:l.pre.holds [] { args:=args }=true:=(pre_splitW hpre).2;obtain⟨d,r,rfl,h1,h2⟩:=hasAllW_cons hsh;obtain rfl:=hasAllW_nil h2;obtain⟨xs,rfl,h3⟩:=hasW_list h1;obtain⟨ns,rfl⟩:=items_int h3;have hlen:ns.length<=n:=by
  unfold OpenLaw.pre at hc;have h4:(WTm.not (.lt (.lit (.int (n:Int))) (.len (.arg 0)))).holds [] { args:=[.list (ns.map .int)] }=true:=by
   have h4:=(holds_andW hc).1;rw[hn]at h4;exact h4
  have h5:=condW_of h4 (w_not (w_lt w_lit (w_len_list (w_arg rfl))));rw[Qs]at h5;refine Nat.le_of_not_lt λ q=>?_;have q':(n:Int)<((ns.length:Nat):Int):=by omega
  first
   |(rw[QO q']at h5;exact absurd h5 #[10])
   |(simp at h5;omega)
 cases hwl with
 | cons w1 w2 =>
  cases w2;cases w1 with
  |list ho hall=>exact⟨_,_,ns,rfl,rfl,ho,rW ns _ hall,hlen⟩
def CI (l:OpenLaw)(args:List WData):l.row.toRowW.claim.post args (.bool true) args=true:=
 postW_of (r:=l.row.toRowW) (X:=(true == true))
  (show WShape.has [] (.bool true) .bool=true by first|rfl|decide|simp[WShape.has,WShape.arms,WShape.armsAll])
  (show(WTm.eq .res (.lit (.bool true))).value [] { args:=args,res:=some (.bool true),after:=args }=some (.bool (true == true)) from w_eq_bool (w_res rfl) w_lit) rfl
def yt {l:OpenLaw}{n:Nat}{q:#[83]}{loose:#[79]}{XP:#[8]->Heap->Prop}{YP:World->Heap->Prop}{d:DefRec}
  (hn:l.most=some n) (hdf:d.params.defaults=[])
  (call:∀ (w:World) (s₀ s₁:Shared) (mg mb:#[8]) (fa:Addr) (o:Obj) (pm cd doc:Value) (a:Addr) (vs:#[17]) (ns:#[6]),
   Ground q loose [] XP w s₀ mg mb s₁.heap->YP w s₁.heap ->
   s₁.heap.get? fa=some o->o.data=.func (docDef d.name d.params d.body d.scope pm cd doc)->s₁.heap.CodeRec cd d.name->mg d.name=some (.ref fa) ->
   s₁.heap.get? a=some { cls:=.type "list",data:=.seq vs.toArray }->IntsAre vs ns->ns.length<=n->s₁.gens = #[] ->
   codeAny (model l.prog w) callerA (.call (.ref fa) ⟨[.ref a],[]⟩) #[111] s₁) :
  WalkO q loose XP YP l.row.toRowW d [] (λ f vs=>PySem.call f vs):=by
 intro w s₀ s₁ mg mb G Y fa o pm cd doc dV kV ho hd hcd hD hmg hg args vals as hpre hlay hrd hwl hlo;obtain rfl:dV=.none:=Dflts.none hD hdf;obtain rfl:kV=.none:=Dflts.noKw hD;obtain⟨a,vs,ns,rfl,rfl,hobj,hints,hlen⟩:=CJ hn hpre hwl;refine enter_call (SX (call w s₀ s₁ mg mb fa o pm cd doc a vs ns G Y ho (fd_plain hd) hcd hmg hobj hints hlen hg) λ r s' hq=>?_);obtain⟨rfl,h2,h3,h4⟩:=hq;exact⟨.inl ⟨.bool true,.bool true,[],rfl,λ _=>rfl,.bool true,CI l _,λ _=>⟨List.Pairwise.nil,λ _ hm=>(nomatch hm)⟩⟩,h2,h3,h4⟩
section
variable {prog:#[83]}{w:World}{A:#[127]}{E:#[7]}{s:Shared}{K:Frag}
end
end PR
namespace L2
open PySem PySem.Spec PyProof.Rows
variable {a e f it:Addr}{A:#[127]}{items:#[152]}{X:Cx}{cm:Cx->Prop}{env:Env}{fd:FuncData}{H H':Hp}{pins:#[12]}{cl:List (Str×Addr)}{cap:List (Str×Nat)}{fp:#[9]}{ps:#[79]}{i:Nat}{pos:Pos}{P:#[83]}{scope:Scope}{s:Shared}{sp:Sp}{σ:St}{qual x y:Str}{E Q:#[7]}{w:World}
def mY:∀ {vs:#[17]}{ns:#[6]},IntsAre vs ns->Vals #[135] vs
 |_,_,.nil=>.nil
 |_,_,.cons n t h=>.cons ⟨t,rfl⟩ (mY h)
def Lh (H:Hp):Prop:=∀ b,H b=none\/∃ o xs,H b=some (.av o (.lst xs))
def Eo{K:#[0]}{mg mb:#[8]}{CX:DP}{k:Nat}{fa:Addr}{s₁:Shared}{vs:#[17]}{ns:#[6]}
  (KX:K.In s₁.heap) (hns:s₁.heap.Ns mainGlobals mg) (hb:s₁.heap.Ns builtinsNs mb) (hbb:∀ x:Str,x ≠ "__name__" -> mb x=bootBuiltins x) (hlim:s₁.heap.NoLimit) (hg:s₁.gens = #[])
  (ha:s₁.heap.get? a=some { cls:=.type "list",data:=.seq vs.toArray }) (hi:IntsAre vs ns) (hl:ns.length<=sizeLine) (hr:dD k callerA)
  (F:∀ base:Heap,K.In base->base.Ns mainGlobals mg->nK P w K mg base CX k fa fd [x] sp) (hbind:∀ (s:Shared) (u:Value),BindsTo s fd ⟨[u],[]⟩ [(x,u)])
  (hsp:∀ H:Hp,Lh H->fH K H a #[135]->sp [.ref a] H (λ v _=>v=.bl true) λ _ _ _=>False)
  (hCX:∀ H e s',CX [] H s₁ (λ _ _ _=>False) e s'->False) :
  codeAny (model P w) callerA (.call (.ref fa) ⟨[.ref a],[]⟩) #[111] s₁:=by
 have rv:=mY hi;have lenV:=hi.length;have core:∀ H:Hp,Lh H->fH K H a #[135]->lj P w H s₁.heap->(∀ b,H b≠none->b=a)->(H a≠none->K.lookup a=none) ->
   codeAny (model P w) callerA (.call (.ref fa) ⟨[.ref a],[]⟩) #[111] s₁:=by
  intro H hO hS hok hA hK;have base_of:∀ {b:Addr}{o:Obj},s₁.heap.get? b=some o->H b=none->(wW s₁.heap H).get? b=some o:=λ e n=>D7 e n;have noA:∀ {b:Addr}{o:Obj}{es:Array DictEntry}{ep:Nat},s₁.heap.get? b=some o->o.data=.dict es ep->H b=none:=λ {b o es ep} e d=>by
   cases q:H b with
   |none=>rfl
   | some u =>
    have e':b=a:=hA b (by rw[q];simp);subst e';rw[ha]at e;cases e;have d':Data.seq vs.toArray _=Data.dict es ep:=d;cases d'
  have nsK:∀ {b:Addr}{m:#[8]},s₁.heap.Ns b m->(wW s₁.heap H).Ns b m:=λ {b m} ⟨o,es,ep,e,d,r⟩=>⟨o,es,ep,base_of e (noA e d),d,r⟩;have hKb:K.In (wW s₁.heap H):=λ b o e=>base_of (KX b o e) (by
   cases q:H b with
   |none=>rfl
   | some u =>
    have e':b=a:=hA b (by rw[q];simp);subst e';rw[hK (by rw[q];simp)]at e;cases e)
  have hM:Mod K mg (wW s₁.heap H):=⟨hKb,nsK hns,⟨mb,nsK hb,hbb⟩,let ⟨mc,h1,h2⟩:=hlim;⟨mc,nsK h1,h2⟩⟩;have e0:u4 P w K mg (wW s₁.heap H) callerA [] s₁ H:=⟨rfl,hM,λ b o e=>Hv e,Nat.le_of_eq (Ck _ _),trivial,λ b hb=>absurd (show b∈([]:#[9]) from hb) #[32],hok,.of_eq hg⟩;refine SX ((F _ hKb (nsK hns)).run callerA [] s₁ H ⟨[.ref a],[]⟩ [.ref a] [.ref a] _ _ hr e0 (hbind s₁ (.ref a)) (.cons rfl .nil) (hsp H hO hS)) λ r s' h=>?_;cases r with
  |error e=>exact(hCX H e s' h).elim
  | ok fl =>
   cases fl with
   |next=>exact False.elim h|brk=>exact False.elim h|cont=>exact False.elim h
   | ret u =>
    obtain⟨v,H',os,bare,un,hok',r',q⟩:=h;have q':v=.bl true:=q;subst q';obtain rfl:u=Value.bool true:=r';refine⟨rfl,OldK.of_keep λ b o e=>?_,os,bare⟩;cases q:H b with
    |none=>exact un.keep b o e q (by intro z;exact absurd (show b∈([]:#[9]) from z) #[32]) #[32]
    | some u =>
     rcases hO b with z|⟨ob,xs,z⟩
     ·rw[q]at z;cases z
     ·have z2:=un.oV b ob _ z;obtain⟨e1,_⟩:=hok b _ z;obtain⟨e2,_⟩:=hok' b _ z2;rw[e]at e1;cases e1;exact e2
 cases hk:K.lookup a with
 | some o =>
  have e:=KX a o hk;rw[ha]at e;cases e;refine core (λ _=>none) (λ _=>.inl rfl) (.inr ⟨_,vs.toArray,_,hk,rfl,rfl,rfl,by rw[Qz,lenV];exact hl,by simpa using rv⟩) (λ b u z=>by have z':(none:Option HO)=some u:=z;cases z') (λ b z=>absurd rfl z) λ z=>absurd rfl z
 | none =>
  refine core (λ b=>if b=a then some (.av { cls:=.type "list",data:=.seq vs.toArray } (.lst #[135])) else none) (λ b=>?_) (.inl (.inr ⟨{ cls:=.type "list",data:=.seq vs.toArray },QG rfl⟩)) (λ b u z=>?_) (λ b z=>?_) λ _=>hk
  ·by_cases hb:b=a
   ·exact .inr ⟨_,_,QG hb⟩
   ·exact .inl (QK hb)
  ·by_cases hb:b=a
   ·have z':=(QG hb).symm.trans z;cases z';subst hb;exact⟨ha,by rw[Qs];exact hl,vs,_,rv,ha⟩
   ·have z':=(QK hb).symm.trans z;cases z'
  ·by_cases hb:b=a
   ·exact hb
   ·exact absurd (QK hb) z
def HM {l:PySem.W.OpenLaw}{n k:Nat}{q:#[83]}{loose:#[79]}{XP:#[8]->Heap->Prop}{YP:World->Heap->Prop}{d:DefRec}{K:Params->PySem.W.Frag}{CX:World->DP}{sp:World->Sp}
  (hn:l.most=some n) (hn2:n<=sizeLine) (hdf:d.params.defaults=[]) (hr:dD k callerA)
  (hY:∀ (w:World) (h:Heap),YP w h->(K w.params).In h)
  (F:∀ (w:World) (mg:#[8]) (fa:Addr) (h:Heap),(K w.params).In h->h.Ns mainGlobals mg->mg d.name=some (.ref fa) ->
   ∃ fd:FuncData,(∀ (s:Shared) (u:Value),BindsTo s fd ⟨[u],[]⟩ [(x,u)]) /\
    ∀ base:Heap,(K w.params).In base->base.Ns mainGlobals mg->nK l.prog w (K w.params) mg base (CX w) k fa fd [x] (sp w))
  (hsp:∀ (w:World) (H:Hp) (a:Addr) (ns:#[6]),ns.length<=n->Lh H->fH (K w.params) H a #[135]->sp w [.ref a] H (λ v _=>v=.bl true) λ _ _ _=>False)
  (hCX:∀ (w:World) (H:Hp) (s:Shared) (e:Value) (s':Shared),CX w [] H s (λ _ _ _=>False) e s'->False) :
  PySem.W.WalkO q loose XP YP l.row.toRowW d [] (λ f vs=>PySem.call f vs):=by
 refine PR.yt hn hdf λ w s₀ s₁ mg mb fa o pm cd doc a vs ns G Y ho hd hcd hmg hobj hints hlen hg=>?_;have KX:=hY w _ Y;obtain⟨fd,hb,hF⟩:=F w mg fa _ KX G.T.g hmg;exact Eo KX G.T.g G.T.b G.T.builtins G.T.nolimit hg hobj hints (QX hlen hn2) hr hF hb (λ H hO hS=>hsp w H a ns hlen hO hS) λ H e s'=>hCX w H s₁ e s'
def jv (s:Stmt):Arguments:=match s with
 |.FunctionDef _ a _ _ _ _ _ _ _ _=>a
 |_=>{ posonlyargs:=[],args:=[],vararg:=none,kwonlyargs:=[],kw_defaults:=[],kwarg:=none,defaults:=[] }
def cQ (s:Stmt):List Stmt:=match s with
 |.FunctionDef _ _ b _ _ _ _ _ _ _=>b
 |_=>[]
def au (s:Stmt):Scope:=match s with
 |.FunctionDef _ _ _ _ _ _ sc _ _ _=>sc
 |_=>{ kind:=.function,names:=[],isGenerator:=false,isCoroutine:=false }
abbrev sE:DP:=λ _ _ _ _ _ _=>False
abbrev E0:XK:=λ _ _ _=>False
def Nn:Passes sE X E0:=λ _ _ _ _ _ _ _ h=>h.elim
structure Em (K:PySem.W.Frag)(x qual:Str)(st:Stmt)(f:Addr)(fd:FuncData):Prop where
 ex:∃ (oc:Value) (od:Option Addr) (kV doc pm:Value) (an:Option Addr) (cdv ct:Value) (osl:Array (Option Value)),
  fd=PySem.W.fnOf x qual (jv st) (cQ st) (au st) .none kV doc pm an cdv ct/\K.lookup f=some ⟨oc,od,.func fd,osl⟩/\PySem.W.codeIn K cdv qual=true
 kp:PySem.W.keepIn K (.ref f)=true
section
variable{K:#[0]}{mg:#[8]}{base:Heap}
def Em.ok{st:Stmt}{N:#[79]}{k:Nat}(F:Em K x qual st f fd)(S:aP N ps (au st))(len:∀ vs H Q E,sp vs H Q E->vs.length=ps.length)
  (hbody:∀ (cdv:Value) (A:#[127]) (outer:#[139]) (s:Shared) (H:Hp) (vs:List V) (Q:VK) (E:XK),dD k (A.deeper (envOfC qual (au st) s.heap.objs.size f cdv))->sp vs H Q E ->
   ∃ t,kF (jJ sE P w K mg base N qual (au st) f cdv A outer s H E).Cz (cQ st) t/\t { nx:=λ _ H'=>Q .bW H',rt:=Q } (start N vs) H):nK P w K mg base sE (k+1) f fd ps sp:=by
 obtain⟨oc,od,kV,doc,pm,an,cdv,ct,osl,rfl,lk,hcd⟩:=F.ex;refine JL lk hcd S len λ A outer s H vs Q E hr hsp=>?_;obtain⟨t,h,q⟩:=hbody cdv A outer s H vs Q E hr hsp;exact⟨t,h.Cz,q⟩
def Em.binds{st:Stmt}(F:Em K x qual st f fd)
  (h:∀ (kV doc pm:Value) (an:Option Addr) (cdv ct:Value) (us:#[17]),us.length=ps.length->bindArgs #[172] ⟨us,[]⟩=pure (ps.zip us)):Binds K fd ps []:=by
 obtain⟨oc,od,kV,doc,pm,an,cdv,ct,osl,rfl,lk,hcd⟩:=F.ex;exact .all (h kV doc pm an cdv ct)
def Ag{st:Stmt}{oc:Value}{od an:Option Addr}{osl:Array (Option Value)}{kV doc pm cdv ct:Value}(l:K.lookup f=some ⟨oc,od,.func #[172],osl⟩)
  (c:PySem.W.codeIn K cdv qual=true) (k:PySem.W.keepIn K (.ref f)=true):Em K x qual st f #[172]:=⟨⟨oc,od,kV,doc,pm,an,cdv,ct,osl,rfl,l,c⟩,k⟩
end
def cR{k:Nat}(hr:dD k A):A.units+1<cLine:=Nat.lt_of_le_of_lt (Nat.add_le_add_left (by decide:1<=64) _) hr.units
section
end
def aD (H H':Hp):Prop:=∀ b o,H b=some o->H' b=some o
def aD.refl (H:Hp):aD H H:=λ _ _ h=>h
def aD.trans {H1 H2:Hp}(a:aD H H1)(b:aD H1 H2):aD H H2:=λ c o h=>b c o (a c o h)
def aD.free(e:aD H H'){l:Addr}(h:H' l=Option.none):H l=Option.none:=by
 cases q:H l with
 |none=>rfl
 | some o =>
  rw[e l o q]at h;cases h
def aD.seq {K:#[0]}{xs:List V}(e:aD H H')(h:fH K H a xs):fH K H' a xs:=by
 rcases h with (h|⟨o,h⟩)|h
 ·exact .inl (.inl (e _ _ h))
 ·exact .inl (.inr ⟨o,e _ _ h⟩)
 ·exact .inr h
section
end
section
variable {κ:Type}[DecidableEq κ]
end
section
variable{s':Shared}
end
def lookup_mem {α:Type}{y:Str}{v:α}:∀ {l:List (Str×α)},l.lookup y=some v->(y,v)∈l
 |[],h=>by cases h
 | (n,k)::r,h=>by
  rw[R4]at h;cases hb:y == n with
  | true =>
   rw[hb]at h;cases h;rw[R7.mp hb];exact Qx
  | false =>
   rw[hb]at h;exact Qw _ (lookup_mem h)
def i8 {α:Type}{y:Str}{v:α}:∀ {l:List (Str×α)},(l.map (·.1)).Nodup->(y,v)∈l->l.lookup y=some v
 |[],_,h=>by cases h
 | (n,k)::r,hn,h=>by
  have hn':(n::r.map (·.1)).Nodup:=hn;obtain⟨h1,h2⟩:=Q8.mp hn';rw[R4];rcases QA.mp h with e|e
  ·cases e;simp
  ·have hne:(y == n)=false:=by
    refine Ti.mpr λ z=>h1 ?_;rw[<-z];exact QE.mpr ⟨(y,v),e,rfl⟩
   rw[hne];exact i8 h2 e
def CK (env:Env)(y:Str)(k:NameKind):NameKind:=if (k == NameKind.free&&env.scope.kind == .function&&env.kindOf y == some .cell)=true then .cell else k
def lV (scope:Scope)(env:Env)(y:Str):(relabel scope env).names.lookup y=(scope.names.lookup y).map (CK env y):=by
 show(scope.names.map λ (n,k)=>if (k == NameKind.free&&env.scope.kind == .function&&env.kindOf n == some .cell)=true then (n,NameKind.cell) else (n,k)).lookup y=_
 induction scope.names with
 |nil=>rfl
 | cons p r ih =>
  obtain⟨n,k⟩:=p;rw[Rc];by_cases hc:(k == NameKind.free&&env.scope.kind == .function&&env.kindOf n == some .cell)=true
  ·simp only[QG hc,R4];cases hb:y == n with
   | true =>
    have e:y=n:=R7.mp hb;subst e;simp only[Tv,CK,QG hc]
   |false=>exact ih
  ·simp only[QK hc,R4];cases hb:y == n with
   | true =>
    have e:y=n:=R7.mp hb;subst e;simp only[Tv,CK,QK hc]
   |false=>exact ih
def oA {env:Env}(f:Str×NameKind->List (Str×Addr)->Sem (ForInStep (List (Str×Addr))))
  (hf:∀ name kind cs,f (name,kind) cs=if (kind == .free)=true then (do let a <-cellOf env name;pure (.yield ((name,a)::cs))) else pure (.yield cs)) :
  ∀ (names:List (Str×NameKind)) (acc:List (Str×Addr)),(∀ y∈names,y.2=.free->∃ c,env.cells.lookup y.1=some c) ->
   ∃ cl,(forIn names acc f:Sem (List (Str×Addr)))=pure cl/\(∀ y c,cl.lookup y=some c->acc.lookup y=some c\/(env.cells.lookup y=some c/\#[102]∈names)) /\
    (∀ y,#[102]∈names\/(acc.lookup y).isSome=true->∃ c,cl.lookup y=some c)
 | [],acc,_=>⟨acc,by rw [Ve],λ y c e=>.inl e,λ y h=>by
   rcases h with h|h
   ·cases h
   ·exact RY.mp h⟩
 | (name,kind)::r,acc,h=>by
  have hr:∀ y∈r,y.2=.free->∃ c,env.cells.lookup y.1=some c:=λ y hy=>h y (Qw _ hy);by_cases hk:(kind == NameKind.free)=true
  ·have e:kind=.free:=R7.mp hk;subst e;obtain⟨c0,hc0⟩:=h (name,.free) Qx rfl;have hc0:env.cells.lookup name=some c0:=hc0;obtain⟨cl,h1,h2,h3⟩:=oA f hf r ((name,c0)::acc) hr;refine⟨cl,?_,λ y c e=>?_,λ y hy=>?_⟩
   ·rw[Uk,hf,QG hk];unfold cellOf;rw[hc0];exact h1
   ·rcases h2 y c e with q|⟨q1,q2⟩
    ·rw[R4]at q;cases hb:y == name with
     | true =>
      rw[hb]at q;cases q;have e:y=name:=R7.mp hb;subst e;exact .inr ⟨hc0,Qx⟩
     | false =>
      rw[hb]at q;exact .inl q
    ·exact .inr ⟨q1,Qw _ q2⟩
   ·refine h3 y ?_;rw[R4];cases hb:y == name with
    |true=>exact .inr rfl
    | false =>
     rcases hy with hy|hy
     ·rcases QA.mp hy with z|z
      ·cases z;simp at hb
      ·exact .inl z
     ·exact .inr hy
  ·obtain⟨cl,h1,h2,h3⟩:=oA f hf r acc hr;refine⟨cl,?_,λ y c e=>(h2 y c e).imp id λ q=>⟨q.1,Qw _ q.2⟩,λ y hy=>h3 y (hy.imp (λ hy=>?_) id)⟩
   ·rw[Uk,hf,QK hk];exact h1
   ·rcases QA.mp hy with z|z
    ·cases z;exact absurd rfl hk
    ·exact z
def Aj(h:∀ y∈scope.names,y.2=.free->∃ c,env.cells.lookup y.1=some c) :
  ∃ cl,closureFor scope env=pure cl/\(∀ y c,cl.lookup y=some c->env.cells.lookup y=some c/\#[102]∈scope.names)/\(∀ y,#[102]∈scope.names->∃ c,cl.lookup y=some c):=by
 have key:∀ f:Str×NameKind->List (Str×Addr)->Sem (ForInStep (List (Str×Addr))),
   (∀ name kind cs,f (name,kind) cs=if (kind == .free)=true then (do let a <-cellOf env name;pure (.yield ((name,a)::cs))) else pure (.yield cs)) ->
   closureFor scope env=(forIn scope.names [] f >>= λ r=>pure r) ->
   ∃ cl,closureFor scope env=pure cl/\(∀ y c,cl.lookup y=some c->env.cells.lookup y=some c/\#[102]∈scope.names)/\(∀ y,#[102]∈scope.names->∃ c,cl.lookup y=some c):=by
  intro f hf e;obtain⟨cl,h1,h2,h3⟩:=oA f hf scope.names [] h;refine⟨cl,?_,λ y c q=>(h2 y c q).resolve_left (λ z=>by cases z),λ y hy=>h3 y (.inl hy)⟩;rw[e,h1];rfl
 refine key _ (λ name kind cs=>?_) rfl;by_cases hk:(kind == NameKind.free)=true
 ·simp only[hk,TU]
 ·simp only[hk,SQ]
def lW:∀ (names:List (Str×NameKind)) (h:Heap) (acc:List (Str×Addr)) (y:Str) (c:Addr),(cellsFrom h.objs.size names acc).lookup y=some c ->
  acc.lookup y=some c\/(h.objs.size<=c/\(y,NameKind.cell)∈names/\(pushCells h names).IsCell c none)
 |[],_,_,_,_,e=>.inl e
 | (name,kind)::r,h,acc,y,c,e=>by
  unfold cellsFrom at e;unfold pushCells;by_cases hk:(kind == NameKind.cell)=true
  ·rw[QG hk]at e ⊢;have ek:kind=.cell:=R7.mp hk;subst ek;have sz:(h.push { cls:=.type "cell",data:=.cell none }).objs.size=h.objs.size+1:=RT ..;rw[<-sz]at e;rcases lW r _ _ y c e with q|⟨q1,q2,q3⟩
   ·rw[R4]at q;cases hb:y == name with
    | true =>
     rw[hb]at q;cases q;have e:y=name:=R7.mp hb;subst e;exact .inr ⟨QD _,Qx,⟨_,Ul _ _ _ _ (QI _ rfl),rfl⟩⟩
    | false =>
     rw[hb]at q;exact .inl q
   ·rw[sz]at q1;exact .inr ⟨S7 q1,Qw _ q2,q3⟩
  ·rw[QK hk]at e ⊢;rcases lW r _ _ y c e with q|⟨q1,q2,q3⟩
   ·exact .inl q
   ·exact .inr ⟨q1,Qw _ q2,q3⟩
def qI:∀ (names:List (Str×NameKind)) (n:Nat) (acc:List (Str×Addr)),(∀ y z c,acc.lookup y=some c->acc.lookup z=some c->y=z)->(∀ y c,acc.lookup y=some c->c<n) ->
  ∀ y z c,(cellsFrom n names acc).lookup y=some c->(cellsFrom n names acc).lookup z=some c->y=z
 |[],_,_,h,_,y,z,c,e1,e2=>h y z c e1 e2
 | (name,kind)::r,n,acc,h,hl,y,z,c,e1,e2=>by
  unfold cellsFrom at e1 e2;by_cases hk:(kind == NameKind.cell)=true
  ·rw[QG hk]at e1 e2;refine qI r (n+1) _ (λ y z c q1 q2=>?_) (λ y c q=>?_) y z c e1 e2
   ·rw[R4]at q1 q2;cases b1:y == name with
    | true =>
     rw[b1]at q1;cases q1;cases b2:z == name with
     |true=>rw[R7.mp b1,R7.mp b2]
     | false =>
      rw[b2]at q2;exact absurd (hl z _ q2) (RV _)
    | false =>
     rw[b1]at q1;cases b2:z == name with
     | true =>
      rw[b2]at q2;cases q2;exact absurd (hl y _ q1) (RV _)
     | false =>
      rw[b2]at q2;exact h y z c q1 q2
   ·rw[R4]at q;cases b:y == name with
    | true =>
     rw[b]at q;cases q;exact U4 _
    | false =>
     rw[b]at q;exact S8 (hl y c q)
  ·rw[QK hk]at e1 e2;exact qI r n acc h hl y z c e1 e2
def Ah {M:Model}{Q:Env->Shared->Prop}
  (hQ:Q { scope:=scope,locals:=s.heap.objs.size,globals:=env.globals,cells:=cellsFrom #[92] scope.names cl,qual:=env.qual,func:=none,code:=env.code,frame:=env.frame,builtins:=env.builtins }
   { s with heap:=pushCells #[100] scope.names }) :
  wpAny M A (newFunctionEnv scope env.globals cl [] env.qual none .none (some env)) Q E s:=by
 simp only[newFunctionEnv,Option.isSome_some,TU];refine Qn (wpAny_alloc ?_);refine Qn (wpAny_layCells _ (λ name kind cells=>by cases hkc:kind == NameKind.cell<;>simp[hkc]) _ _ _ _ ?_);rw[show({ s with heap:=s.heap.push { cls:=.type "dict",data:=.dict #[] } }:Shared).heap.objs.size=s.heap.objs.size+1 from RT ..];refine Qn ?_;rw[Ve];exact Qu (Qu hQ)
section
variable {prog:#[83]}{R:Result->Shared->Prop}
def CL {elt target iter:Expr}{ifs:List Expr}{it acc:Value}(I:Nat->Shared->Prop)
  (turn:∀ n s,I n s->wpAny #[14] A (pyNext it) (λ r s₁=>match r with
   |none=>R (.ok .next) s₁
   | some v=>wpAny #[14] A (letOwnedTupleGo target it v) (λ _ s₁'=>wpAny #[14] A (assign target env v) (λ _ s₂ =>
     wpAny #[14] A (forIn ifs true λ c r=>if r=true then do let ok <-isTrue c env (eval c env);pure (ForInStep.yield ok) else pure (ForInStep.yield r)) (λ ok s₂'=>
      if ok=true then wpAny #[14] A (eval elt env) (λ x s₃=>
       wpAny #[14] A (call (.builtin "list.append") [acc,x]) (λ _ s₄=>∃ m,m<n/\I m s₄) (λ _ _=>False) s₃) (λ _ _=>False) s₂'
      else ∃ m,m<n/\I m s₂') (λ _ _=>False) s₂) (λ _ _=>False) s₁') (λ _ _=>False) s₁) (λ _ _=>False) s)
  (n:Nat) (h:I n s):codeAny #[14] A (.compLoop (.ListComp elt [⟨target,iter,ifs,0⟩] scope pos) 0 it acc env) R s:=by
 refine codeAny_loop rfl I (λ n s hI=>?_) n h;show wpAny _ _ ((compTurn (.ListComp elt [⟨target,iter,ifs,0⟩] scope pos) 0 it acc env).onRaise (λ x=>do noteFrame x env;theTreesLotGoes x)) _ _ s;refine wpAny_noted ?_;rw[compTurn_list];refine Qn (UZ (Qn (RI (turn n s hI) (λ r s₁ h₁=>?_) λ _ _ h'=>h'.elim)));cases r with
 |none=>exact Qu h₁
 | some v =>
  refine Qn (RI h₁ (λ _ s₁' h₁'=>?_) λ _ _ h'=>h'.elim);refine Qn (RI h₁' (λ _ s₂ h₂=>Qn (RI h₂ (λ ok s₃ h₃=>?_) λ _ _ h'=>h'.elim)) λ _ _ h'=>h'.elim);cases ok with
  |false=>exact Qu ⟨rfl,h₃⟩
  | true =>
   exact Qn (Qn (RI h₃ (λ x s₄ h₄=>Qn (RI h₄ (λ _ s₅ h₅=>Qu (Qu ⟨rfl,h₅⟩)) λ _ _ h'=>h'.elim)) λ _ _ h'=>h'.elim))
def Np (X:Cx)(ifs:List Expr)(t:TT):Prop:=∀ (pins:#[12]) (s:Shared) (σ:St) (H:Hp) (Q:#[129]),Inv X pins σ H s->t σ H Q ->
 wpAny #[11] X.A (forIn ifs true λ c r=>if r=true then do let ok <-isTrue c X.env (eval c X.env);pure (ForInStep.yield ok) else pure (ForInStep.yield r)) (TP X pins σ Q) X.xe s
def O8:TT:=λ _ H Q=>Q true H
def HQ:Np X [] O8:=λ pins s σ H Q I h=>wpAny_tests_nil ⟨H,I,h⟩
def HP{c:Expr}{t:TT}(h:PT X c t):Np X [c] t:=λ pins s σ H Q I hw=>wpAny_tests_one (h pins s σ H Q I hw)
end
structure ie (X:Cx)(scope:Scope)(own:List Str)(cap:List (Str×Nat)):Prop where
 kind:scope.kind=.function
 nd:(scope.names.map (·.1)).Nodup
 free:∀ y∈scope.names,y.2=.free->X.env.kindOf y.1=some .cell\/X.env.kindOf y.1=some .free
 O9:∀ p∈cap,X.N[p.2]?=some p.1/\(p.1,NameKind.free)∈scope.names
def qH (σ:St)(cap:List (Str×Nat)):St:=cap.map λ p=>(σ[p.2]?).join
def jL (X:Cx)(scope:Scope)(cs:List (Str×Addr))(C:Addr)(N:#[79])(s0:Shared)(H0:Hp)(fp:#[9]):Cx where
 prog:=X.prog
 w:=X.w
 K:=X.K
 mg:=X.mg
 base:=X.base
 A:=X.A
 N:=N
 s₀:=s0
 H₀:=H0
 env:=compEnvC scope cs C X.env
 outer:=X.stack
 stack:=X.stack
 ex:=fp
 fn:=λ y=>decide (scope.names.lookup y=some .cell)
 calm:=X.calm
 pn:=X.pn
 xe:=λ _ _=>False
section
def yv(h:env.kindOf y=some .cell\/env.kindOf y=some .free):zS env.scope y:=.inr h
def Ep{own:#[79]}(I:#[4])(ok:#[140])
  (hcl:∀ y c,cl.lookup y=some c->X.env.cells.lookup y=some c/\#[102]∈scope.names) (hcl2:∀ y,#[102]∈scope.names->∃ c,cl.lookup y=some c)
  (f2:∀ b∈fp,ou X pins H b) (fo:∀ b∈fp,b<s.heap.objs.size) :
  Inv (jL X scope (cellsFrom #[92] scope.names cl) s.heap.objs.size (own++cap.map (·.1)) s H fp) pins (List.replicate own.length none++qH σ cap) H
   { s with heap:=pushCells #[100] scope.names }:=by
 have szC:#[100].objs.size=s.heap.objs.size+1:=RT ..;have kp:∀ b o,s.heap.get? b=some o->(pushCells #[100] scope.names).get? b=some o:=λ b o e=>Ul _ _ b o (Qp _ e);have sp:∀ y c,(cellsFrom #[92] scope.names cl).lookup y=some c->(X.env.cells.lookup y=some c/\#[102]∈scope.names) ∨
   (s.heap.objs.size+1<=c/\(y,NameKind.cell)∈scope.names/\(pushCells #[100] scope.names).IsCell c none):=λ y c e=>by
  rw[<-szC]at e;rcases lW _ _ _ y c e with q|q
  ·exact .inl (hcl y c q)
  ·rw[szC]at q;exact .inr q
 have clt:∀ y c,X.env.cells.lookup y=some c->c<s.heap.objs.size:=λ y c e=>by
  obtain⟨v,o,ho,_⟩:=I.cell y c e;exact QC ho
 have kfree:∀ y,#[102]∈scope.names->scope.names.lookup y=some .free:=λ y h=>i8 ok.nd h;have kcell:∀ y,(y,NameKind.cell)∈scope.names->scope.names.lookup y=some .cell:=λ y h=>i8 ok.nd h;have okY:(jL X scope (cellsFrom #[92] scope.names cl) s.heap.objs.size (own++cap.map (·.1)) s H fp).Ok:={
  mod:=I.ok.mod
  kind:=ok.kind
  glob:=I.ok.glob
  blt:=I.ok.blt
  above:=QD _
  inj:=λ x y c e1 e2=>qI scope.names #[92] cl (λ y z c q1 q2=>I.ok.inj y z c (hcl y c q1).1 (hcl z c q2).1) (λ y c q=>S8 (clt y c (hcl y c q).1)) x y c e1 e2
  has:=λ y hy=>by
   have hy':(relabel scope X.env).names.lookup y=some .cell\/(relabel scope X.env).names.lookup y=some .free:=hy;rw[lV]at hy';refine RY.mp (Sm scope.names _ _ ?_);cases q:scope.names.lookup y with
   | none =>
    rw[q]at hy';rcases hy' with z|z<;>cases z
   | some k =>
    by_cases hk:k=.cell
    ·subst hk;exact .inl rfl
    ·by_cases hf:k=.free
     ·subst hf;obtain⟨c,hc⟩:=hcl2 y (lookup_mem q);exact .inr (by rw[hc];rfl)
     ·rw[q]at hy';exfalso;have hb:(k == NameKind.free)=false:=by simpa using hf
      rcases hy' with z|z
      ·simp[CK,hb]at z;exact hk z
      ·simp[CK,hb]at z;exact hf z
  G8:=λ y c hf e=>by
   have hf':scope.names.lookup y=some .cell:=R8 hf;rcases sp y c e with ⟨_,q⟩|⟨q,_⟩
   ·rw[kfree y q]at hf';cases hf'
   ·exact S7 q
  hd:=I.ok.hd
  frames:=I.ok.frames
  Hh:=.inl rfl
  JO:=λ b hb=>⟨QT (fo b hb),λ x c e z=>by
   subst z;rcases sp x c e with ⟨q,_⟩|⟨q,_⟩
   ·exact(f2 c hb).2.2.2.2.1 x c q rfl
   ·exact absurd (Q0 (fo c hb) (S7 q)) (RV _)⟩
  bs:=I.bs
  zY:=QX I.ok.zY I.sz
  u7:=λ b o e hb=>by
   rcases (f2 b hb).2.2.2.1 with q|q
   ·exact I.ok.u7 b o e q
   ·exact absurd (Q0 (QC e) (QX I.ok.zY q)) (RV _)
  u9:=λ b hb z=>by
   rcases QA.mp (I.qD b z) with q|q
   ·exact(f2 b hb).2.1 q
   ·exact(f2 b hb).2.2.1 q
  jZ:=I.stack
  Cq:=I.wU }
 obtain⟨m,hns,hl⟩:=id I.loc;refine⟨okY,rfl,I.bare,Un.kept kp,⟨λ _=>none,(Heap.Ns.new s.heap (.type "dict")).keeps (Ul _ _),λ i x v e1 e2 e3=>?_⟩,λ y c e=>?_,I.fresh,λ y c e=>?_,λ p hp=>?_,I.hok.kept kp,?_⟩
 ·
  have e1:(own++cap.map (·.1))[i]?=some x:=e1;by_cases hi:i<own.length
  ·rw[Ri (by simpa using hi)]at e2;simp[hi]at e2
  ·have hi':own.length<=i:=Nat.not_lt.mp hi;rw[Ss (by simpa using hi')]at e2;rw[Ss hi']at e1;rw[List.length_replicate]at e2;unfold qH at e2;rw[QB]at e1 e2;cases q:cap[i-own.length]? with
   | none =>
    rw[q]at e1;cases e1
   | some p =>
    rw[q]at e1 e2;obtain⟨p1,p2⟩:=p;have e1:p1=x:=Rq e1;subst e1;have e2:(σ[p2]?).join=some v:=Rq e2;have e2:σ[p2]?=some (some v):=by
     cases z:σ[p2]? with
     |none=>rw[z]at e2;cases e2|some z'=>rw[z]at e2;exact RL some e2
    obtain⟨hN,hfr⟩:=ok.O9 (p1,p2) (QN q);have hk:=ok.free (p1,.free) hfr rfl;obtain⟨u,r,L⟩:=hl p2 p1 v hN e2 (yv hk);refine⟨u,r,?_⟩;rcases L with ⟨k,_⟩|⟨_,c,hc,hcell⟩
    ·have hk:X.env.kindOf p1=some .cell\/X.env.kindOf p1=some .free:=hk;rw[k]at hk;rcases hk with z|z<;>cases z
    ·refine .inr ⟨?_,c,?_,hcell.keeps kp⟩
     ·show(relabel scope X.env).names.lookup p1=some .cell\/(relabel scope X.env).names.lookup p1=some .free;rw[lV,kfree _ hfr,Tv];unfold CK;split
      ·exact .inl rfl
      ·exact .inr rfl
     ·obtain⟨c',hc'⟩:=hcl2 p1 hfr;obtain⟨c2,hc2⟩:=RY.mp (Sm scope.names #[92] cl (.inr (by rw[hc'];rfl):scope.names.lookup p1=some .cell\/(cl.lookup p1).isSome=true));have hc2':(cellsFrom #[92] scope.names cl).lookup p1=some c2:=hc2;rcases sp p1 c2 hc2' with ⟨q1,_⟩|⟨_,q2,_⟩
      ·rw[hc]at q1;cases q1;exact hc2'
      ·have:=kcell p1 q2;rw[kfree p1 hfr]at this;cases this
 ·rcases sp y c e with ⟨q,_⟩|⟨_,_,q⟩
  ·obtain⟨v,hv⟩:=I.cell y c q;exact⟨v,hv.keeps kp⟩
  ·exact⟨none,q⟩
 ·rcases sp y c e with ⟨q,_⟩|⟨q,_⟩
  ·exact I.gO y c q
  ·exact I.hok.fresh (S7 q)
 ·obtain⟨a1,a2,a3,a4,a5⟩:=I.pin p hp;refine⟨kp _ _ a1,a2,QT (QC a1),λ z=>?_,a5⟩;rcases QA.mp (I.qD p.1 z) with q|q
  ·exact a3 q
  ·exact a4 q
 ·show(List.replicate own.length none++qH σ cap).length=(own++cap.map (·.1)).length;simp[qH]
def yu{cs:List (Str×Addr)}{C:Addr}{N:#[79]}{τ:St}{s':Shared}{h':Heap}(I:#[4])(f2:∀ b∈fp,ou X pins H b)
  (hC:s.heap.objs.size<=C) (J:Inv (jL X scope cs C N s H fp) pins τ H' s') (hs:Heap.SameBut C s'.heap h'):Inv X pins σ H' { s' with heap:=h' }:=by
 have u:Un (frs X.stack) fp H H' s.heap s'.heap:=J.base;have ne:∀ b o,s.heap.get? b=some o->b≠C:=λ b o e=>QT (Q0 (QC e) hC);refine I.JQ (s':={ s' with heap:=h' }) (ch:=fp) J.os ⟨λ b o e n hf hx=>?_,λ b o e n hf hx=>?_,u.free,λ b o e hx=>?_,u.tups,u.oV,u.qE⟩ (λ a o e=>?_) J.bare λ b hb=>⟨(f2 b hb).2.2.2.1,(f2 b hb).2.1,(f2 b hb).2.2.2.2.1,(f2 b hb).2.2.2.2.2⟩
 ·exact(hs.2 b (ne b o e)).trans (u.keep b o e n hf hx)
 ·obtain⟨sl,q⟩:=u.slot b o e n hf hx;exact⟨sl,(hs.2 b (ne b o e)).trans q⟩
 ·obtain⟨o',q⟩:=u.there b o e hx;exact⟨o',(hs.2 b (ne b o e)).trans q⟩
 ·refine(J.hok a o e).stay (λ b v hb q=>(hs.2 b ?_).trans q) (λ _ q=>q) λ _ _ q=>q;rintro rfl;have fr:H' b=none:=J.free;rcases hb with rfl|hb
  ·rw[fr]at e;cases e
  ·rw[fr]at hb;cases hb
end
def tG (wi:TI)(g:TG)(tt:TT)(te:TE)(k:Nat)(cap:List (Str×Nat)):TE:=λ σ H Q=>wi σ H λ J H1=>∀ acc,H1 acc=none->∃ W:Nat->Nat->St->List V->Hp->Prop,
 (∃ m,W 0 m (List.replicate k none++qH σ cap) [] (upd H1 acc (.lst []))) /\
 ∀ i m τ ys H,W i m τ ys H->(J.stop i H/\Q (.ref acc) H)\/(J.go i H/\∀ x H',J.Cp i H x H'->g x τ H' λ τ2 H2=>tt τ2 H2 λ b H2'=>if b=true then te τ2 H2' λ v H3=>
  H3 acc=some (.lst ys)/\ys.length<sizeLine/\∃ m',m' < m/\W (i+1) m' τ2 (ys++[v]) (upd H3 acc (.lst (ys++[v]))) else ∃ m',m' < m/\W (i+1) m' τ2 ys H2')
structure i9 (X:Cx)(scope:Scope)(own:List Str)(cap:List (Str×Nat))(tg:Expr)(ifs:List Expr)(elt:Expr)(g:TG)(tt:TT)(te:TE):Prop where
 Qf:∀ cs C s0 H0 fp,PG (jL X scope cs C (own++cap.map (·.1)) s0 H0 fp) tg g
 Qh:∀ cs C s0 H0 fp,Np (jL X scope cs C (own++cap.map (·.1)) s0 H0 fp) ifs tt
 Qg:∀ cs C s0 H0 fp,PE (jL X scope cs C (own++cap.map (·.1)) s0 H0 fp) elt te
section
variable{tg elt iter:Expr}{ifs:List Expr}{tt:TT}{own:#[79]}{wi:TI}{g:TG}{te:TE}
def tD{H2:Hp}{s2:Shared}{Q:VK}{tn:Nat->Heap->Prop}{J:It}{RR:Value->Addr->Result->Shared->Prop} (ok:#[140]) (hc:∀ cs C N s0 H0 fp,Inv X pins σ H0 s0->cm (jL X scope cs C N s0 H0 fp)) (B:#[173])
  (hcl:∀ y c,cl.lookup y=some c->X.env.cells.lookup y=some c/\#[102]∈scope.names) (hcl2:∀ y,#[102]∈scope.names->∃ c,cl.lookup y=some c)
  (I2:Inv X pins σ H2 s2) (T:DT cm X.prog X.w X.K tg J fp it tn) (st2:tn 0 s2.heap) (f2:∀ b∈fp,ou X pins H2 b)
  (h:∀ acc,H2 acc=none->∃ W:Nat->Nat->St->List V->Hp->Prop,(∃ m,W 0 m (List.replicate own.length none++qH σ cap) [] (upd H2 acc (.lst []))) /\
   ∀ i m τ ys H,W i m τ ys H->(J.stop i H/\Q (.ref acc) H)\/(J.go i H/\∀ x H',J.Cp i H x H'->g x τ H' λ τ2 H2=>tt τ2 H2 λ b H2'=>if b=true then te τ2 H2' λ v H3=>
    H3 acc=some (.lst ys)/\ys.length<sizeLine/\∃ m',m' < m/\W (i+1) m' τ2 (ys++[v]) (upd H3 acc (.lst (ys++[v]))) else ∃ m',m' < m/\W (i+1) m' τ2 ys H2'))
  (hR:∀ D C H' s',(∀ h',Heap.SameBut C s'.heap h'->Inv X pins σ H' { s' with heap:=h' })->(∃ m,s'.heap.Ns C m)->H' C=none->X.s₀.heap.objs.size<=C->C≠X.env.locals->(∀ x c,X.env.cells.lookup x=some c->c≠C)->(∀ p∈X.pn++pins,p.1≠C) ->
   Q (.ref D) H'->RR (.ref D) C (.ok .next) s') :
  wpAny #[11] X.A (newList []) (λ acc s₃=>wpAny #[11] X.A (newFunctionEnv scope X.env.globals cl [] X.env.qual none .none (some X.env)) (λ cenv s₄=>
   codeAny #[11] X.A (.compStart #[20] 0 (.ref it) acc { cenv with scope:=relabel scope X.env }) (RR acc cenv.locals) s₄) E s₃) E s2:=by
 refine Rb ?_;have fresh:H2 s2.heap.objs.size=none:=I2.fresh;have I3:Inv X pins σ (upd H2 s2.heap.objs.size (.lst [])) { s2 with heap:=s2.heap.push { cls:=.type "list",data:=.seq ([]:#[17]).toArray } }:=I2.Nc (its:=[]) (ys:=[]) (t':=s2.toks) .nil (RS _);have ob2:=T.obj _ _ st2;have lt2:∀ b∈fp,b<s2.heap.objs.size:=λ b hb=>let ⟨o,e,_⟩:=ob2 b hb;QC e
 have f3:∀ b∈fp,ou X pins (upd H2 s2.heap.objs.size (.lst [])) b:=λ b hb=>⟨by rw[aZ (QT (lt2 b hb))];exact(f2 b hb).1,(f2 b hb).2⟩;have kp3:∀ b o,s2.heap.get? b=some o->(s2.heap.push { cls:=.type "list",data:=.seq ([]:#[17]).toArray }).get? b=some o:=λ b o e=>Qp _ e;generalize hs3:({ s2 with heap:=s2.heap.push { cls:=.type "list",data:=.seq ([]:#[17]).toArray } }:Shared)=s3 at I3 ⊢;have k3:∀ b o,s2.heap.get? b=some o->s3.heap.get? b=some o:=λ b o e=>by rw[<-hs3];exact kp3 b o e
 refine Ah ?_;have Kd:∀ b∈fp,b<s3.heap.objs.size:=λ b hb=>let ⟨o,e,_⟩:=ob2 b hb;QC (k3 b o e)
 have I4:=Ep (own:=own) (cap:=cap) (fp:=fp) I3 ok hcl hcl2 f3 Kd;have st4:tn 0 (pushCells (s3.heap.push { cls:=.type "dict",data:=.dict #[] }) scope.names):=T.keep _ _ _ st2 λ b _ o e=>Ul _ _ b o (Qp _ (k3 b o e));obtain⟨W,⟨m0,w0⟩,turn⟩:=h s2.heap.objs.size fresh
 let Y:=jL X scope (cellsFrom (s3.heap.objs.size+1) scope.names cl) s3.heap.objs.size (own++cap.map (·.1)) s3 (upd H2 s2.heap.objs.size (.lst [])) fp
 have I4:Inv Y pins (List.replicate own.length none++qH σ cap) (upd H2 s2.heap.objs.size (.lst [])) { s3 with heap:=pushCells (s3.heap.push { cls:=.type "dict",data:=.dict #[] }) scope.names }:=I4;have f4:∀ {H':Hp},(∀ b∈fp,H' b=none)->∀ b∈fp,ou Y pins H' b:=λ {H'} hn b hb=>by
  refine⟨hn b hb,QT (Kd b hb),λ z=>?_,.inl hb,(I4.ok.JO b hb).2,(f2 b hb).2.2.2.2.2⟩;exact I4.ok.u9 b hb z
 have loop:codeAny #[11] X.A (.compLoop #[20] 0 (.ref it) (.ref s2.heap.objs.size) Y.env) (RR (.ref s2.heap.objs.size) s3.heap.objs.size)
   { s3 with heap:=pushCells (s3.heap.push { cls:=.type "dict",data:=.dict #[] }) scope.names }:=by
  refine CL (λ n s'=>∃ i τ ys H',Inv Y pins τ H' s'/\tn i s'.heap/\(∀ b∈fp,H' b=none)/\W i n τ ys H') ?_ m0 ⟨0,_,[],_,I4,st4,λ b hb=>(f3 b hb).1,w0⟩;rintro n s5 ⟨i,τ,ys,H5,I5,st5,fr5,w5⟩;rcases turn i n τ ys H5 w5 with ⟨stop,q⟩|⟨go,step⟩
  ·refine eG (T.done Y rfl rfl rfl (hc _ _ _ _ _ _ I3) i pins s5 τ H5 (λ _ _=>False) I5 (f4 fr5) st5 stop) λ r s6 ⟨hr,I6⟩=>?_;subst hr;obtain⟨m,hns,_⟩:=I6.loc;have hC:X.s₀.heap.objs.size<=s3.heap.objs.size:=I3.sz;refine hR _ _ H5 s6 (λ h' hs'=>yu I3 f3 (QD _) I6 hs') ⟨m,hns⟩ I6.free hC (λ z=>?_) (λ x c e z=>?_) (λ p hp z=>?_) q
   ·exact RV _ (z▸I3.lt)
   ·obtain⟨v,o,ho,_⟩:=I3.cell x c e;rw[z]at ho;exact RV _ (QC ho)
   ·have e:=(I3.pin p hp).1;rw[z]at e;exact RV _ (QC e)
  ·refine eG (T.item Y rfl rfl rfl (hc _ _ _ _ _ _ I3) i pins s5 τ H5 (λ _ _=>False) I5 (f4 fr5) st5 go) λ r s6 ⟨u,hr,h6⟩=>?_;subst hr;refine eG h6 λ _ s7 ⟨x,H7,I7,r7,y7,st7,fr7⟩=>?_;have I7':=I7.pinned (f4 fr7) (T.obj _ _ st7);refine eG (B.Qf _ _ _ _ _ _ s7 τ H7 x u _ I7' r7 (step x H7 y7)) λ _ s8 ⟨τ8,H8,I8,q8⟩=>?_;refine eG (B.Qh _ _ _ _ _ _ s8 τ8 H8 _ I8 q8) λ ok s8' ⟨H8',I8',q8'⟩=>?_;have again:∀ {H':Hp}{s':Shared},Inv Y (pins++tu fp s7.heap) τ8 H' s'->Inv Y pins τ8 H' s'/\tn (i+1) s'.heap/\∀ b∈fp,H' b=none:=λ {H' s'} I'=>by
    refine⟨I'.lR,T.keep _ _ _ st7 λ b hb o e=>(I'.pin (b,o) (QJ _ (QJ _ (kD hb e)))).1,λ b hb=>?_⟩;obtain⟨o,e,d⟩:=T.obj _ _ st7 b hb;exact(I'.pin (b,o) (QJ _ (QJ _ (kD hb e)))).2.1
   cases ok with
   | false =>
    rw[QK Qy]at q8' ⊢;obtain⟨m',hm,w9⟩:=q8';obtain⟨z1,z2,z3⟩:=again I8';exact⟨m',hm,i+1,τ8,ys,H8',z1,z2,z3,w9⟩
   | true =>
    rw[QG rfl]at q8' ⊢;refine eG (B.Qg _ _ _ _ _ _ s8' τ8 H8' _ I8' q8') λ v s9 ⟨y,H9,I9,r9,hacc,hlen,m',hm,w9⟩=>?_;refine eG (vH _ s9 τ8 H9 (.ref s2.heap.objs.size) [y] (.ref s2.heap.objs.size) [v] (λ z H'=>z=.bW/\H'=upd H9 s2.heap.objs.size (.lst (ys++[y]))) I9 rfl (.cons r9 .nil) ⟨_,ys,y,rfl,rfl,hacc,hlen,rfl,rfl⟩) λ _ s10 ⟨z,H10,I10,_,_,e10⟩=>?_;subst e10;obtain⟨z1,z2,z3⟩:=again I10;exact⟨m',hm,i+1,τ8,ys++[y],_,z1,z2,z3,w9⟩
 exact codeAny_compStart_list loop (T.self X.A 0 _ _ _ st4 loop)
def pA(I:#[4])(ok:#[140]):∃ cl,closureFor scope X.env=pure cl/\(∀ y c,cl.lookup y=some c->X.env.cells.lookup y=some c/\#[102]∈scope.names)/\(∀ y,#[102]∈scope.names->∃ c,cl.lookup y=some c):=
 Aj λ y hy hk=>I.ok.has y.1 (ok.free y hy hk)
def tF (ok:#[140]):∀ x∈scope.names,x.2=.local->scope.names.lookup x.1=some .local:=λ x hx hl=>i8 ok.nd (by rw[<-hl];exact hx)
def Pa (cm:Cx->Prop)(X:Cx)(pins:#[12])(σ:St)(tg:Expr)(R:It->Hp->Prop)(itv:Value)(s2:Shared):Prop:=
 ∃ (it:Addr) (fp:#[9]) (tn:Nat->Heap->Prop) (J:It) (H':Hp),itv=.ref it/\Inv X pins σ H' s2/\DT cm X.prog X.w X.K tg J fp it tn/\tn 0 s2.heap/\(∀ b∈fp,ou X pins H' b)/\R J H'
def PU (cm:Cx->Prop)(X:Cx)(tg iter:Expr)(wi:TI):Prop:=
 ∀ (pins:#[12]) (s:Shared) (σ:St) (H:Hp) (R:It->Hp->Prop),Inv X pins σ H s->wi σ H R ->
  wpAny #[11] X.A (eval iter X.env) (λ v s1=>wpAny #[11] X.A (pyIter v) (Pa cm X pins σ tg R) X.xe s1) X.xe s
def Er(ok:#[140])(hc:∀ pins σ cs C N s0 H0 fp,Inv X pins σ H0 s0->cm (jL X scope cs C N s0 H0 fp))(hi:PU cm X tg iter wi)(B:#[173])(hs:#[39]:=by intro _;rfl) :
  PE X #[20] (tG wi g tt te own.length cap):=by
 intro pins s σ H Q I h;obtain⟨cl,hclos,hcl,hcl2⟩:=pA I ok;rw[eval_ListComp];refine wpAny_comprehension_free (use:=none) rfl hs hclos ok.kind (tF ok) (eG (hi pins s σ H _ I h) λ xv s1 h1=>eG h1 λ itv s2 h2=>?_);obtain⟨it,fp,tn,J,H2,e,I2,T,st2,f2,hW⟩:=h2;subst e;refine tD (Q:=Q) (RR:=λ acc C=>compPost #[11] X.A X.xe none (EP X pins σ Q) acc C) ok (hc pins σ) B hcl hcl2 I2 T st2 f2 hW ?_;rintro D C H' s' hI ⟨m,hm⟩ _ _ _ _ _ q;exact⟨m,hm,λ h' hs'=>⟨.ref D,H',hI h' hs',rfl,q⟩⟩
def yw{py spos:Pos}(hN:X.N.Nodup)(hi':X.N[i]?=some y)(hy:Loc X.env.scope y)(ok:#[140])(hc:∀ pins σ cs C N s0 H0 fp,Inv X pins σ H0 s0->cm (jL X scope cs C N s0 H0 fp))(hi:PU cm X tg iter wi)(B:#[173])
  (hsw:#[158]:=by rfl)
  (hf:#[63]:=by first|exact .inl rfl|exact .inr rfl) (hs:#[39]:=by intro _;rfl) :
  PS X (.Assign [.Name y py] #[20] spos) (Hm (tG wi g tt te own.length cap) (vC i)):=by
 intro pins s σ H D I h;obtain⟨cl,hclos,hcl,hcl2⟩:=pA I ok;rw[exec_Assign_Name_used _ _ _ _ hsw];refine Qn (UZ (Qn ?_));show wpAny _ X.A (do let _ <-comprehension #[20] scope X.env _ (newList []) false (eval iter X.env) (some (assign (.Name y py) X.env))) _ _ s;refine Qn (RI (wpAny_comprehension_free (use:=some (assign (.Name y py) X.env)) (Q:=λ _ s'=>SP X pins D .next s') rfl hs hclos ok.kind (tF ok) (eG (hi pins s σ H _ I h) λ xv s1 h1=>eG h1 λ itv s2 h2=>?_)) (λ _ s' hq=>Qu (Qu hq)) λ _ _ e=>e);obtain⟨it,fp,tn,J,H2,e,I2,T,st2,f2,hW⟩:=h2;subst e;refine tD (Q:=λ v H'=>vC i v σ H' D.nx) (RR:=λ acc C=>compPost #[11] X.A X.xe (some (assign (.Name y py) X.env)) (λ _ s'=>SP X pins D .next s') acc C) ok (hc pins σ) B hcl hcl2 I2 T st2 f2 hW ?_;rintro D' C H' s' hI ⟨m,hm⟩ hHC hC1 hC2 hC3 hC4 q;have I':Inv X pins σ H' s':=hI s'.heap (.refl ..);show wpAny _ X.A (assign (.Name y py) X.env (.ref D')) _ _ s';refine wpAny_assign_Name (vE I' hN hi' hy (show RelV (.ref D') (.ref D') from rfl) (λ s'' I'' ⟨a,hsa,ha⟩=>?_) hf);have ne:C≠a:=by
  rcases ha with rfl|ha
  ·exact hC2
  ·exact λ z=>hC3 y a ha z.symm
 refine⟨m,hm.sameBut hsa ne,λ h' hs'=>?_⟩;refine⟨_,H',I''.turned (t':=s''.toks) (h':=h') (it:=C) (λ b o hb e=>(hs'.2 b hb).trans e) hHC hC2 (.inr hC1) (λ x c e z=>hC3 x c e z) hC4,q⟩
def HR (ok:#[140])(hc:X.calm=true)(hi:PI X tg iter wi)(B:#[173])(hs:#[39]:=by intro _;rfl) :
  PE X #[20] (tG wi g tt te own.length cap):=Er (cm:=λ X=>X.calm=true) ok (λ _ _ _ _ _ _ _ _ _=>hc) hi B hs
def tE{py spos:Pos}(hN:X.N.Nodup)(hi':X.N[i]?=some y)(hy:Loc X.env.scope y)(ok:#[140])(hc:X.calm=true)(hi:PI X tg iter wi)(B:#[173])
  (hsw:#[158]:=by rfl)
  (hf:#[63]:=by first|exact .inl rfl|exact .inr rfl) (hs:#[39]:=by intro _;rfl) :
  PS X (.Assign [.Name y py] #[20] spos) (Hm (tG wi g tt te own.length cap) (vC i)):=
 yw (cm:=λ X=>X.calm=true) hN hi' hy ok (λ _ _ _ _ _ _ _ _ _=>hc) hi B hsw hf hs
end
section
variable {prog:#[83]}
def rX {t:Addr}{x:Value}(hit:s.heap.IsTupleIter it t i)(ht:s.heap.IsTuple t items)(hx:items[i]?=some x)
  (hQ:∀ h',h'.IsTupleIter it t (i+1)->Heap.SameBut it s.heap h'->Q x { s with heap:=h' }):wpAny #[14] A #[123] Q E s:=by
 obtain⟨o,ho,hc,hd⟩:=id hit;obtain⟨ot,hot,_,nt,hdt⟩:=ht;unfold Builtin.SmallTypes.nextOf;refine Qn #[177];show wpAny _ _ (field (.ref it) 0 >>= _) _ _ s;refine Qn (RN ho hd (x:=.ref t) rfl ?_);show wpAny _ _ (if (Value.ref t == Value.none)=true then _ else _) _ _ s;rw[QK (λ z:(Value.ref t == Value.none)=true=>Qy z)];show wpAny _ _ (field (.ref it) 1 >>= _) _ _ s;refine Qn (RN ho hd (x:=.int i 0) rfl ?_);show wpAny _ _ (seqItems? (.ref t) >>= _) _ _ s;refine Qn (UA hot hdt ?_);simp only[RC,hx];refine Qn (SS ho hd #[32] (Qu ⟨x,rfl,Qu (hQ _ ⟨_,Ra _ ho (S5 (Sv hd _)),(Obj.cls_mapFields ..).trans hc,?_⟩ (Sj ..))⟩));rw[Sv hd];simp[rawInt]
def tH {t:Addr}(hh:A.handled=none)(hit:s.heap.IsTupleIter it t i)(ht:s.heap.IsTuple t items)(hx:items[i]?=none)
  (hE:∀ h' e,Heap.ExtBut it s.heap h'->(∃ o,h'.get? e=some o/\o.cls=.type "StopIteration")->E (.ref e) { s with heap:=h' }):wpAny #[14] A #[123] Q E s:=by
 obtain⟨o,ho,hc,hd⟩:=id hit;obtain⟨ot,hot,_,nt,hdt⟩:=ht;unfold Builtin.SmallTypes.nextOf;refine Qn #[177];show wpAny _ _ (field (.ref it) 0 >>= _) _ _ s;refine Qn (RN ho hd (x:=.ref t) rfl ?_);show wpAny _ _ (if (Value.ref t == Value.none)=true then _ else _) _ _ s;rw[QK (λ z:(Value.ref t == Value.none)=true=>Qy z)];show wpAny _ _ (field (.ref it) 1 >>= _) _ _ s;refine Qn (RN ho hd (x:=.int i 0) rfl ?_);show wpAny _ _ (seqItems? (.ref t) >>= _) _ _ s;refine Qn (UA hot hdt ?_);simp only[RC,hx];refine Qn (TF (Qn (SS ho hd #[32] ?_)));show wpAny _ _ (newExc (.type "StopIteration") [] >>= _) _ _ _;refine Qn ?_;simp only[newExc,newTuple];refine Qn (Rb ?_ (by size_fits));refine Qn (m:=firstArgMember _ _) #[178];refine Rb ?_ (by size_fits);simp only[raiseNew];refine Qn (wpAny_handled ?_)
 first|rw[show A.in1.handled=none from hh]|rw[hh]
 exact Qn (Qu (wpAny_throw (hE _ _ (((Sj ..).extBut.push _).push _) ⟨_,QI _ rfl,rfl⟩)))
def CM{x old:Value}{R:Obj->Prop}{Q:Option Value->Shared->Prop}(he:IsEnum s.heap e it i old)(hne:e≠it)
  (hn:∀ (A':#[127]) (E' Q':#[7]),(∀ h',(∃ o,h'.get? it=some o/\R o)->Heap.SameBut it s.heap h'->Q' x { s with heap:=h' })->wpAny #[14] A' #[123] Q' E' s)
  (hQ:∀ h',IsEnumOut h' e it ((i:Int)+1) x s.heap.objs.size->(∃ o,h'.get? it=some o/\R o)->h'.get? s.heap.objs.size=some { cls:=.type "tuple",data:=.seq #[.int i s.toks,x] }->h'.objs.size=s.heap.objs.size+1 ->
   (∀ b o,b≠e->b≠it->s.heap.get? b=some o->h'.get? b=some o)->Q (some #[73]) { s with heap:=h',toks:=s.toks+1 }) :
  wpAny #[14] A (pyNext (.ref e)) Q E s:=by
 have hT:s.TypeIs (.ref e) "enumerate" :=⟨_,he,rfl⟩;unfold pyNext;refine Qn (Sq (Rw (name:=Str.ofString "__next__") hT S6 (RB S6 hT F.entry_enumerate_next ?_ (F.args_enumerate_next_1 _))));obtain⟨hp,g,d,tk,os⟩:=s;show wpAny _ _ (field (.ref e) 2 >>= _) _ _ _;refine Qn (RN he rfl (x:=.ref it) rfl (Qn (hn _ _ _ λ h₁ hit₁ hs₁=>?_)));replace hs₁:Heap.SameBut it hp h₁:=hs₁;have he₁:IsEnum h₁ e it i old:=(hs₁.2 e hne).trans he;show wpAny _ _ (field (.ref e) 3 >>= _) _ _ ⟨h₁,g,d,tk,os⟩;refine Qn (RN he₁ rfl (x:=rawInt i) rfl ?_);show wpAny _ _ (field (.ref e) 4 >>= _) _ _ ⟨h₁,g,d,tk,os⟩;refine Qn (RN he₁ rfl (x:=.none) rfl ?_);show wpAny _ _ (mkInt i >>= _) _ _ ⟨h₁,g,d,tk,os⟩;refine Qn (wpAny_mkInt ?_);show wpAny _ _ (setField (.ref e) 3 (rawInt ((i:Int)+1)) >>= _) _ _ ⟨h₁,g,d,tk+1,os⟩;refine Qn (RU he₁ #[32] λ h₂ he₂ hs₂=>?_);replace hs₂:Heap.SameBut e h₁ h₂:=hs₂;replace he₂:IsEnum h₂ e it ((i:Int)+1) old:=he₂;show wpAny _ _ (setField (.ref e) 4 .none >>= _) _ _ ⟨h₂,g,d,tk+1,os⟩;refine Qn (RU he₂ #[32] λ h₃ he₃ hs₃=>?_);replace hs₃:Heap.SameBut e h₂ h₃:=hs₃;replace he₃:IsEnum h₃ e it ((i:Int)+1) old:=he₃;show wpAny _ _ (newTuple [.int i tk,x] >>= _) _ _ ⟨h₃,g,d,tk+1,os⟩;refine Qn (wpAny_newTuple ?_);have sz:h₃.objs.size=hp.objs.size:=by rw[hs₃.1,hs₂.1,hs₁.1]
 have hel:e<hp.objs.size:=QC he;obtain⟨h₄,hh₄⟩:∃ h₄,h₄=h₃.push { cls:=.type "tuple",data:=.seq #[.int i tk,x] }:=⟨_,rfl⟩;have he₄:IsEnum h₄ e it ((i:Int)+1) old:=by rw[hh₄];exact Qp _ he₃
 have ht₄:h₄.get? hp.objs.size=some { cls:=.type "tuple",data:=.seq #[.int i tk,x] }:=by rw[hh₄,<-sz];exact QI _ rfl
 have hz₄:h₄.objs.size=hp.objs.size+1:=by rw[hh₄,RT,sz]
 have hk₄:∀ b o,b≠e->b≠it->hp.get? b=some o->h₄.get? b=some o:=λ b o hbe hbi hb=>by
  rw[hh₄];exact Qp _ (hs₃.extBut b o hbe (hs₂.extBut b o hbe (hs₁.extBut b o hbi hb)))
 have hit₄:∃ o,h₄.get? it=some o/\R o:=by
  obtain⟨o,ho,r⟩:=hit₁;rw[hh₄];exact⟨o,Qp _ (hs₃.extBut it o (Rr hne) (hs₂.extBut it o (Rr hne) ho)),r⟩
 rw[<-hh₄];show wpAny _ _ (Builtin.SmallTypes.ownedTupleIsFree (.ref e) >>= _) _ _ ⟨h₄,g,d,tk+1,os⟩;rw[sz];clear hh₄ he₃ hs₃ he₂ hs₂ he₁ hs₁ hit₁ sz h₃ h₂ h₁;refine Qn ?_;unfold Builtin.SmallTypes.ownedTupleIsFree;refine Qn (RN he₄ rfl (x:=.none) rfl (Qu ?_));simp only[TU];refine Qn (TF (Qn (RN he₄ rfl (x:=old) rfl (Qn (RU he₄ #[32] λ h₅ he₅ hs₅=>?_)))));replace hs₅:Heap.SameBut e h₄ h₅:=hs₅;replace he₅:IsEnum h₅ e it ((i:Int)+1) x:=he₅;show wpAny _ _ (Builtin.SmallTypes.ownedTupleHandOut (.ref e) (.ref hp.objs.size) >>= _) _ _ ⟨h₅,g,d,tk+1,os⟩;refine Qn ?_;unfold Builtin.SmallTypes.ownedTupleHandOut;refine Qn (RU he₅ #[32] λ h₆ he₆ hs₆=>?_);replace hs₆:Heap.SameBut e h₅ h₆:=hs₆;replace he₆:IsEnumOut h₆ e it ((i:Int)+1) x hp.objs.size:=he₆;refine RU he₆ #[32] λ h₇ he₇ hs₇=>?_;replace hs₇:Heap.SameBut e h₆ h₇:=hs₇;replace he₇:IsEnumOut h₇ e it ((i:Int)+1) x hp.objs.size:=he₇;have up:∀ b o,b≠e->h₄.get? b=some o->h₇.get? b=some o:=λ b o hb q=>hs₇.extBut b o hb (hs₆.extBut b o hb (hs₅.extBut b o hb q));refine Qn (wpAny_letGo (Qu ⟨_,rfl,Qu (hQ h₇ he₇ ?_ (up _ _ (TR hel) ht₄) (by rw[hs₇.1,hs₆.1,hs₅.1,hz₄]) λ b o hbe hbi hb=>up b o hbe (hk₄ b o hbe hbi hb))⟩));obtain⟨o,ho,r⟩:=hit₄;exact⟨o,up it o (Rr hne) ho,r⟩
def Es{old:Value}{Q:Option Value->Shared->Prop}(he:IsEnum s.heap e it i old)
  (hn:∀ (A':#[127]) (E' Q':#[7]),A'.handled=A.handled->(∀ h' x,Heap.ExtBut it s.heap h'->(∃ o,h'.get? x=some o/\o.cls=.type "StopIteration")->E' (.ref x) { s with heap:=h' })->wpAny #[14] A' #[123] Q' E' s)
  (hQ:∀ h',Heap.ExtBut it s.heap h'->Q none { s with heap:=h' }):wpAny #[14] A (pyNext (.ref e)) Q E s:=by
 have hT:s.TypeIs (.ref e) "enumerate" :=⟨_,he,rfl⟩;unfold pyNext;refine Qn (Sq (Rw (name:=Str.ofString "__next__") hT S6 (RB S6 hT F.entry_enumerate_next ?_ (F.args_enumerate_next_1 _))));show wpAny _ _ (field (.ref e) 2 >>= _) _ _ _;refine Qn (RN he rfl (x:=.ref it) rfl (Qn (hn _ _ _ rfl λ h' x he' hx'=>?_)));obtain⟨o,ho,hc⟩:=hx';exact Qn (Ug (T:="StopIteration") (b:=true) ⟨o,ho,hc⟩ isSubtype_stop (Qu (hQ _ he')))
set_option maxHeartbeats 4000000 in
def rY (t:Addr)(items:#[152])(n:Nat)(dct:Option Addr)(sl:Array (Option Value)) :
  Meets (Builtin.«enumerate.__new__» ⟨[.type "enumerate",.ref t],[]⟩) (λ _ R s=>s.heap.get? t=some { cls:=.type "tuple",dict:=dct,data:=.seq items n,slots:=sl } /\
   R (.ok (.ret (.ref #[72].objs.size)))
    { s with heap:=#[72].push { cls:=.type "enumerate",data:=.fields #[.none,.bool false,.ref s.heap.objs.size,rawInt 0,.none,.none] } }):=
 .of_wp λ prog w A R s h=>by
  obtain⟨hp,g,d,tk,os⟩:=s;obtain⟨ht,h⟩:=h;have hsub:=sub_enumerate;have hT:Heap.IsTuple (Shared.heap ⟨hp,g,d,tk,os⟩) t items:=⟨_,ht,rfl,n,rfl⟩
  wp_walk using Tq ht
  refine wpAny_stack_any λ st=>Qu ?_;split
  ·rename_i c _ _ _ _ _;cases (c == Value.type "enumerate")<;>(wp_walk using Tq ht,TH hT;exact⟨_,rfl,h⟩)
  ·wp_walk using Tq ht,TH hT
   exact⟨_,rfl,h⟩
def vd {t:Addr}(hT:s.heap.IsTuple t items)
  (h:∀ h',IsEnum h' #[92] s.heap.objs.size 0 .none->h'.IsTupleIter s.heap.objs.size t 0->#[103]->Q (.ref #[92]) { s with heap:=h' }) :
  wpAny #[14] A (call (.type "enumerate") [.ref t]) Q E s:=by
 obtain⟨⟨c,dct,dt,sl⟩,hl,hc,n,hd⟩:=hT;have hc:c=.type "tuple" :=hc;have hd:dt=.seq items n:=hd;subst hc hd;refine callType_new F.called_enumerate #[10] (F.typeCall_enumerate_1 _) (F.newCall_enumerate_1 _) (λ obj=>F.args_object_init_2 obj _) F.entry_enumerate_new (rY t items n dct sl) ⟨hl,?_⟩;have hz:#[72].objs.size=s.heap.objs.size+1:=RT ..;show _/\_;rw[hz];have q:=QI #[72] (o:={ cls:=.type "enumerate",data:=.fields #[.none,.bool false,.ref s.heap.objs.size,rawInt 0,.none,.none] }) rfl;rw[hz]at q;exact⟨⟨_,q,rfl⟩,h _ q ⟨_,Qp _ (QI _ rfl),rfl,rfl⟩ λ b o x=>Qp _ (Qp _ x)⟩
end
def HU{h:Heap}{p:Addr}{o:HO}(x:lj P w H h)(hn:H p=none)(new:cY P w (upd H p o) h p o):lj P w (upd H p o) h:=λ a u e=>by
 by_cases q:a=p
 ·subst q;rw[bI]at e;cases e;exact new
 ·rw[aZ q]at e;exact(x a u e).stay (λ _ _ _ z=>z) (λ b z=>by rw[aZ (dh z hn)];exact z) λ b xs z=>by rw[aZ (dh z hn)];exact z
def Ot (src:Hp->List V->Prop):It:=
 ⟨λ i H=>∃ xs x,src H xs/\xs[i]?=some x,λ i H x H'=>∃ p y,x=.ref p/\H p=none/\H'=upd H p (.tup [.int i,y])/\∀ xs,src H xs->xs[i]?=some y,λ i H=>∃ xs,src H xs/\xs.length<=i⟩
structure Src (P:Program)(w:World)(K:PySem.W.Frag)(a it:Addr)(src:Hp->List V->Prop)(nx:Nat->Obj->Prop):Prop where
 dat:∀ i o,nx i o->∀ v,o.data ≠ .cell v
 item:∀ (X:Cx),X.prog=P->X.w=w->X.K=K->∀ (pins:#[12]) (σ:St) (H:Hp) (s:Shared) (xs:List V) (i:Nat) (x:V),Inv X pins σ H s->src H xs->xs[i]?=some x->(∃ o,s.heap.get? it=some o/\nx i o) ->
  ∃ u,RelV x u/\∀ (A':#[127]) (E' Q':#[7]),(∀ h',(∃ o,h'.get? it=some o/\nx (i+1) o)->Heap.SameBut it s.heap h'->Q' u { s with heap:=h' })->wpAny (model P w) A' #[123] Q' E' s
 done:∀ (X:Cx),X.prog=P->X.w=w->X.K=K->∀ (pins:#[12]) (σ:St) (H:Hp) (s:Shared) (xs:List V) (i:Nat),Inv X pins σ H s->src H xs->xs.length<=i->(∃ o,s.heap.get? it=some o/\nx i o) ->
  ∀ (A':#[127]) (E' Q':#[7]),A'.handled=none->(∀ h' x,Heap.ExtBut it s.heap h'->(∃ o,h'.get? x=some o/\o.cls=.type "StopIteration")->E' (.ref x) { s with heap:=h' })->wpAny (model P w) A' #[123] Q' E' s
 inj:∀ (X:Cx),X.prog=P->X.w=w->X.K=K->∀ (pins:#[12]) (σ:St) (H:Hp) (s:Shared) (xs ys:List V),Inv X pins σ H s->src H xs->src H ys->xs=ys
def src_list{K:#[0]}(a it:Addr):Src P w K a it (λ H xs=>fH K H a xs) (λ i o=>o.cls=.type "list_iterator" /\ o.data=.fields #[.ref a,.int i 0]) where
 dat:=λ i o h v z=>by rw[h.2]at z;cases z
 item:=by
  intro X hP hw hK pins σ H s xs i x I hq hx ho;subst hP hw hK;obtain⟨its,rv,p,hz⟩:=I.list hq;obtain⟨u,hu,ru⟩:=rv.get hx;obtain⟨o,h1,h2,h3⟩:=ho;exact⟨u,ru,λ A' E' Q' hQ=>wpAny_nextOf_list_item ⟨o,h1,h2,h3⟩ p.isList (by simpa using hu) λ h' st sb=>hQ h' st sb⟩
 done:=by
  intro X hP hw hK pins σ H s xs i I hq hx ho A' E' Q' hh hE;subst hP hw hK;obtain⟨its,rv,p,hz⟩:=I.list hq;obtain⟨o,h1,h2,h3⟩:=ho;have hl:=rv.length;exact wpAny_nextOf_list_end hh ⟨o,h1,h2,h3⟩ p.isList (by simp;omega) hE
 inj:=by
  intro X hP hw hK pins σ H s xs ys I h1 h2;subst hP hw hK;exact I.yl h1 h2
def kH {h:Heap}{its:#[152]}(x:IsTup h a its):h.IsTuple a its:=by
 obtain⟨o,h1,h2,h3⟩:=x;exact⟨o,h1,h2,h3⟩
def HS{K:#[0]}(a it:Addr):Src P w K a it (λ H xs=>k9 K H a xs) (λ i o=>o.cls=.type "tuple_iterator" /\ o.data=.fields #[.ref a,.int i 0]) where
 dat:=λ i o h v z=>by rw[h.2]at z;cases z
 item:=by
  intro X hP hw hK pins σ H s xs i x I hq hx ho;subst hP hw hK;obtain⟨its,rv,p,hz⟩:=I.tuple hq;obtain⟨u,hu,ru⟩:=rv.get hx;obtain⟨o,h1,h2,h3⟩:=ho;exact⟨u,ru,λ A' E' Q' hQ=>rX ⟨o,h1,h2,h3⟩ (kH p) (by simpa using hu) λ h' st sb=>hQ h' st sb⟩
 done:=by
  intro X hP hw hK pins σ H s xs i I hq hx ho A' E' Q' hh hE;subst hP hw hK;obtain⟨its,rv,p,hz⟩:=I.tuple hq;obtain⟨o,h1,h2,h3⟩:=ho;have hl:=rv.length;exact tH hh ⟨o,h1,h2,h3⟩ (kH p) (by simp;omega) hE
 inj:=by
  intro X hP hw hK pins σ H s xs ys I h1 h2;subst hP hw hK;exact I.vA h1 h2
def vK{K:#[0]}{elts:List Expr}{x1:Nat}{tp:Pos}{src:Hp->List V->Prop}{nx:Nat->Obj->Prop}(S:Src P w K a it src nx)(hne:e≠it) :
  Turn P w K (.Tuple elts x1 tp) (Ot src) [e,it] e (λ i h=>(∃ old,IsEnum h e it (i:Nat) old)/\∃ o,h.get? it=some o/\nx i o) where
 mem:=by simp
 obj:=λ i h st b hb=>by
  obtain⟨⟨old,h1⟩,o,h2,h3⟩:=st;rcases QA.mp hb with q|q
  ·subst q;exact⟨_,h1,λ v z=>by cases z⟩
  ·have q:b=it:=by simpa using q
   subst q;exact⟨o,h2,S.dat i o h3⟩
 keep:=λ i h h' st k=>by
  obtain⟨⟨old,h1⟩,o,h2,h3⟩:=st;exact⟨⟨old,k e #[32] _ h1⟩,o,k it #[32] o h2,h3⟩
 item:=by
  intro X hP hw hK hc i pins s σ H E I hf st hg;obtain⟨xs,x,hq,hx⟩:=hg;obtain⟨⟨old,h1⟩,ho⟩:=st;obtain⟨u,ru,hnx⟩:=S.item X hP hw hK pins σ H s xs i x I hq hx ho;have inj:=λ ys (hy:src H ys)=>S.inj X hP hw hK pins σ H s ys xs I hy hq;obtain⟨f0,f1,f2,f3,f4,f5⟩:=hf e #[32];obtain⟨g0,g1,g2,g3,g4,g5⟩:=hf it #[32];subst hP hw hK;have hel:e<s.heap.objs.size:=QC h1;refine CM h1 hne hnx λ h' k1 k2 k3 k4 k5=>⟨_,rfl,wpAny_letOwnedTupleGo_enum k1 λ h'' m1 m2=>?_⟩;have m2:Heap.SameBut e h' h'':=m2;have fr:H s.heap.objs.size=none:=I.fresh;have kp:∀ b o,b≠e->b≠it->s.heap.get? b=some o->h''.get? b=some o:=λ b o hb hb' q=>(m2.2 b hb).trans (k5 b o hb hb' q);have tp:h''.get? s.heap.objs.size=some { cls:=.type "tuple",data:=.seq #[.int i s.toks,u] }:=(m2.2 _ (TR hel)).trans k3;have ok1:lj X.prog X.w H h'':=λ b o hb=>(I.hok b o hb).stay (λ c v hcb q=>kp c v (λ z=>by
    subst z;rcases hcb with z|z
    ·subst z;rw[f0]at hb;cases hb
    ·rw[f0]at z;cases z) (λ z=>by
    subst z;rcases hcb with z|z
    ·subst z;rw[g0]at hb;cases hb
    ·rw[g0]at z;cases z) q) (λ _ z=>z) λ _ _ z=>z
  have ok2:lj X.prog X.w (upd H s.heap.objs.size (.tup [.int i,x])) h'':=HU ok1 fr ⟨by show 2<=sizeLine;decide,[.int i s.toks,u],.cons ⟨_,rfl⟩ (.cons ru .nil),⟨_,tp⟩⟩;have I2:Inv X pins σ (upd H s.heap.objs.size (.tup [.int i,x])) { s with heap:=h'',toks:=s.toks+1 }:=by
   refine I.step (g':=s.gens) (d':=s.drawn) (ch:=[e,it]) (λ b hb=>?_) (λ b o _ _ hb q _=>kp b o #[175] #[175] q) (λ b o _ _ hb q _=>⟨o.slots,kp b o #[175] #[175] q⟩)
    (λ b o _ q n=>by rw[aZ (QT (QC q))];exact n) (λ b o hb q=>⟨o,kp b o #[175] #[175] q⟩)
    (λ b ys q=>by rw[aZ (dh q fr)];exact q) (λ b o v q=>by rw[aZ (dh q fr)];exact q) (λ b ps q=>⟨#[],by rw[aZ (dh q fr),Array.append_empty];exact q⟩)
    (λ m hm=>hm.at λ o q=>kp _ o (Rr f1) (Rr g1) q) ok2 I.bare
   rcases QA.mp hb with z|z
   ·subst z;exact⟨f3,f1,f4,f5⟩
   ·have z:b=it:=by simpa using z
    subst z;exact⟨g3,g1,g4,g5⟩
  obtain⟨oi,hoi,ri⟩:=k2;refine⟨.ref s.heap.objs.size,_,I2,rfl,⟨_,x,rfl,fr,rfl,λ ys hy=>by rw[inj ys hy];exact hx⟩,⟨⟨u,?_⟩,oi,(m2.2 it (Rr hne)).trans hoi,ri⟩,λ b hb=>?_⟩
  ·have m1:IsEnum h'' e it ((i:Int)+1) u:=m1;have z:(((i+1:Nat)):Int)=(i:Int)+1:=by omega
   rw[z];exact m1
  ·have lt:b<s.heap.objs.size:=by
    rcases QA.mp hb with z|z
    ·rw[z];exact hel
    ·have z:b=it:=by simpa using z
     obtain⟨o,q,_⟩:=ho;rw[z];exact QC q
   rw[aZ (QT lt)];exact(hf b hb).1
 done:=by
  intro X hP hw hK hc i pins s σ H E I hf st hg;obtain⟨xs,hq,hx⟩:=hg;obtain⟨⟨old,h1⟩,ho⟩:=st;have hd:=S.done X hP hw hK pins σ H s xs i I hq hx ho;obtain⟨g0,g1,g2,g3,g4,g5⟩:=hf it #[32];subst hP hw hK;exact Es h1 (λ A' E' Q' hA hE=>hd A' E' Q' (hA.trans (I.ok.hd hc)) hE) λ h' eb=>⟨rfl,I.turned (t':=s.toks) (λ b o hb q=>eb b o hb q) g0 g1 g3 g4 g5⟩
 self:=λ _ _ _ _ _ st h=>by
  obtain⟨⟨old,h1⟩,_⟩:=st;exact UT h1 h
section
variable{elts:List Expr}{x1:Nat}{tp p:Pos}{l:Expr}{ta:TA}
end
section
def jw:eK X (.builtin "sorted") (λ xs H Q=>∃ (a:Addr) (ns:#[6]),xs=[.ref a]/\fH X.K H a #[135]/\ns.length<64/\∀ (p:Addr) (ns':#[6]),H p=none->ns'.Perm ns->ns'.Pairwise (· <= ·)->Q (.ref p) (upd H p (.lst (ns'.map V.int)))):=by
 intro pins s σ H xs us Q I r h;obtain⟨a,ns,rfl,hq,hl,q⟩:=h;obtain⟨u,rfl,ru⟩:=vals1 r;cases ru;obtain⟨its,rv,pl,hz⟩:=I.list hq;have hi:=intsAre_of rv;have hlen:=rv.length;rw[Qs]at hlen;refine sorted_ints pl.isList hi #[1] λ out ns' a1 a2 a3=>?_;obtain⟨e,he⟩:=sortedAll_at s.heap its out;refine⟨.ref #[92],_,I.laid (t':=s.toks) (λ b o z=>sortedAll_old z) (SA _) ?_,rfl,q _ ns' (I.hok.fresh (SA _)) a2 a3⟩;refine⟨?_,out.toList,e,mY a1,by rw[Array.toArray_toList];exact he⟩;rw[Qs,a2.length_eq];exact QX (Sk hl) #[10]
def dd (ns:#[6]):List Int:=firstMet (λ i=>ns.getD i 0) ns.length
end
def Et (scope sc:Scope):Scope:=
 { scope with names:=scope.names.map λ (n,k)=>if (k == .free&&sc.kind == .function&&sc.names.lookup n == some .cell) then (n,.cell) else (n,k) }
def Li (scope:Scope)(env:Env):relabel scope env=Et scope env.scope:=rfl
def BA (sc:Scope)(N:#[79])(scope:Scope)(cap:List (Str×Nat)):Bool:=
 decide (scope.kind=.function)&&decide ((scope.names.map (·.1)).Nodup) &&
 (scope.names.all λ y=>!(y.2 == .free)||(sc.names.lookup y.1 == some .cell||sc.names.lookup y.1 == some .free)) &&
 (cap.all λ p=>(N[p.2]? == some p.1)&&scope.names.contains (p.1,NameKind.free))
def bX{own:#[79]}(sc:Scope)(hsc:X.env.scope=sc)(N:#[79])(hN:X.N=N)(h:BA sc N scope cap=true):ie X scope own cap:=by
 simp only[BA,Q4,TZ]at h;obtain⟨⟨⟨h1,h2⟩,h3⟩,h4⟩:=h;refine⟨h1,h2,λ y hy hk=>?_,λ p hp=>?_⟩
 ·have q:=Td.mp h3 y hy;show X.env.scope.names.lookup y.1=some .cell\/X.env.scope.names.lookup y.1=some .free;rw[hsc];rw[hk]at q;simpa using q
 ·have q:=Td.mp h4 p hp;rw[Q4]at q;rw[hN];exact⟨by simpa using q.1,by simpa using q.2⟩
structure jq (P:Program)(w:World)(K:PySem.W.Frag)(mg:Str->Option Value)(base:Heap)(k:Nat)(x:Str)(ps:List Str)(sp:Sp):Prop where
 ex:∃ f fd,mg x=some (.ref f)/\PySem.W.keepIn K (.ref f)=true/\Binds K fd ps []/\nK P w K mg base sE k f fd ps sp
structure jM (K:PySem.W.Frag)(mg:Str->Option Value)(x:Str)(st:Stmt)(ps:List Str):Prop where
 ex:∃ f fd,Em K x x st f fd/\mg x=some (.ref f)/\Binds K fd ps []
section
variable{k:Nat}{p:Pos}{e:Expr}{es:List Expr}{t:TA}
def tK (C:jq X.prog X.w X.K X.mg X.base k x ps sp)(hr:dD k X.A)(hg:Gl X x)(ha:PA X (e::es) t)(hdb:#[3]:=by decide)
  (he:#[5]:=by rfl) (hpl:#[35].any (·.1)=false:=by rfl):PE X #[42] (JP sp [] E0 t):=by
 obtain⟨f,fd,hm,hk,hb,F⟩:=C.ex;exact Hr F hr hg hm hk hb .nil Nn ha hdb he hpl
end
end L2
namespace DL
open PySem PySem.Spec PyProof.Rows L2
variable {a:Addr}{F F' S:#[30]}{fl:Bool}{X:Cx}{e l tg:Expr}{o:HO}{base:Heap}{B B' B0 B1 H H' H0 H1:Hp}{σ:L2.St}{cap:List (Str×Nat)}{P f fp:#[9]}{es rest:List Expr}{N ps:#[79]}{vs:List V}{i n:Nat}{p pos pos':Pos}{C:Prop}{r:R2}{x:Str}{mg:#[8]}{T:String}{α β:Type}{v:V}{Q:VK}{w:World}
inductive Tg where|own|bor|av|len (a:Addr)
 deriving DecidableEq
abbrev KT:=Sum Key (List Key)
variable {ks:List KT}
inductive D where
 |bW|bl (b:Bool)|int (i:Int)|str (x:Str)
 |tup (xs:List D)|lst (t:Tg) (xs:List D)|dct (t:Tg) (k:Bool) (ks:List KT) (vs:List D)
 |exc (C:Addr)
variable {ds xs:List D}
abbrev SD:=List #[91]
variable {τ:SD}
inductive Res (α:Type) where|ok (a:α)|dY (C:Addr)|bad
variable {g:D->D->Res D}{it:#[136]}{c gc tt:#[59]}{elt fe:#[29]}
def Res.bind:Res α->(α->Res β)->Res β
 |.ok a,f=>f a
 |.dY c,_=>.dY c
 |.bad,_=>.bad
def Res.map(f:α->β)(r:Res α):Res β:=r.bind λ a=>.ok (f a)
@[simp] theorem Res.aU(a:α)(f:α->Res β):(Res.ok a).bind f=f a:=rfl
@[simp] theorem Res.tO(c:Addr)(f:α->Res β):(Res.dY c:Res α).bind f=.dY c:=rfl
@[simp] theorem Res.tN(f:α->Res β):(Res.bad:Res α).bind f=.bad:=rfl
@[simp] theorem Res.Eu(a:α)(f:α->β):Res.map f (Res.ok a)=.ok (f a):=rfl
def Tg.jh:Tg->Bool|.own=>true|.len _=>true|_=>false
def Tg.view:Tg->Tg|.own=>.bor|.len _=>.bor|t=>t
def Tg.dm:Tg->Tg|.av=>.bor|t=>t
mutual
def D.view:D->D
 |.tup xs=>.tup (eN xs)
 |.lst t xs=>.lst t.view (eN xs)
 |.dct t k ks vs=>.dct t.view k ks (eN vs)
 |d=>d
def eN:List D->List D
 |[]=>[]
 |d::r=>d.view::eN r
end
mutual
def D.av:D->D
 |.tup xs=>.tup (aK xs)
 |.lst _ xs=>.lst .av (aK xs)
 |.dct _ k ks vs=>.dct .av k ks (aK vs)
 |d=>d
def aK:List D->List D
 |[]=>[]
 |d::r=>d.av::aK r
end
mutual
def D.dm:D->D
 |.tup xs=>.tup (ig xs)
 |.lst t xs=>.lst t.dm (ig xs)
 |.dct t k ks vs=>.dct t.dm k ks (ig vs)
 |d=>d
def ig:List D->List D
 |[]=>[]
 |d::r=>d.dm::ig r
end
mutual
def D.aN:D->Bool
 |.tup xs=>aJ xs
 |.lst t xs=>decide (t=.bor)||aJ xs
 |.dct t _ _ vs=>decide (t=.bor)||aJ vs
 |_=>false
def aJ:List D->Bool
 |[]=>false
 |d::r=>d.aN||aJ r
end
mutual
def D.pure:D->Bool
 |.tup xs=>aX xs
 |.lst _ _=>false
 |.dct _ _ _ _=>false
 |_=>true
def aX:List D->Bool
 |[]=>true
 |d::r=>d.pure&&aX r
end
mutual
def qJ:∀ d:D,d.pure=true->d.view=d
 |.bW,_=>rfl|.bl _,_=>rfl|.int _,_=>rfl|.str _,_=>rfl|.exc _,_=>rfl
 | .tup xs,h=>by
  have h:aX xs=true:=h;show D.tup (eN xs)=_;rw[fJ xs h]
 |.lst _ _,h=>by cases h
 |.dct _ _ _ _,h=>by cases h
def fJ:∀ xs:List D,aX xs=true->eN xs=xs
 |[],_=>rfl
 | d::r,h=>by
  have h:(d.pure&&aX r)=true:=h;rw[Q4]at h;show d.view::eN r=_;rw[qJ d h.1,fJ r h.2]
end
mutual
def cz:∀ d:D,d.pure=true->d.av=d
 |.bW,_=>rfl|.bl _,_=>rfl|.int _,_=>rfl|.str _,_=>rfl|.exc _,_=>rfl
 | .tup xs,h=>by
  have h:aX xs=true:=h;show D.tup (aK xs)=_;rw[br xs h]
 |.lst _ _,h=>by cases h
 |.dct _ _ _ _,h=>by cases h
def br:∀ xs:List D,aX xs=true->aK xs=xs
 |[],_=>rfl
 | d::r,h=>by
  have h:(d.pure&&aX r)=true:=h;rw[Q4]at h;show d.av::aK r=_;rw[cz d h.1,br r h.2]
end
mutual
def tL:∀ d:D,d.pure=true->d.dm=d
 |.bW,_=>rfl|.bl _,_=>rfl|.int _,_=>rfl|.str _,_=>rfl|.exc _,_=>rfl
 | .tup xs,h=>by
  have h:aX xs=true:=h;show D.tup (ig xs)=_;rw[eO xs h]
 |.lst _ _,h=>by cases h
 |.dct _ _ _ _,h=>by cases h
def eO:∀ xs:List D,aX xs=true->ig xs=xs
 |[],_=>rfl
 | d::r,h=>by
  have h:(d.pure&&aX r)=true:=h;rw[Q4]at h;show d.dm::ig r=_;rw[tL d h.1,eO r h.2]
end
mutual
def aQ:∀ d:D,d.pure=true->d.aN=false
 |.bW,_=>rfl|.bl _,_=>rfl|.int _,_=>rfl|.str _,_=>rfl|.exc _,_=>rfl|.tup xs,h=>cB xs h
 |.lst _ _,h=>by cases h
 |.dct _ _ _ _,h=>by cases h
def cB:∀ xs:List D,aX xs=true->aJ xs=false
 |[],_=>rfl
 | d::r,h=>by
  have h:(d.pure&&aX r)=true:=h;rw[Q4]at h;show(d.aN||aJ r)=false;rw[aQ d h.1,cB r h.2];rfl
end
def cG:∀ {xs:List D},(∀ d∈xs,d.pure=true)->aX xs=true
 |[],_=>rfl
 | d::r,h=>by
  show(d.pure&&aX r)=true;rw[h d Qx,cG λ x hx=>h x (Qw _ hx)];rfl
def vL:∀ {xs:List D},aX xs=true->∀ d∈xs,d.pure=true
 | d::r,h,x,hx=>by
  have h:(d.pure&&aX r)=true:=h;rw[Q4]at h;rcases QA.mp hx with e|e
  ·rw[e];exact h.1
  ·exact vL h.2 x e
def xf:∀ xs:List D,aK xs=xs.map D.av
 |[]=>rfl|d::r=>by rw[aK,xf r];rfl
def DictAt (H:Hp)(a:Addr)(k:Bool)(ks:List KT)(vs:List V):Prop:=
 (k=false/\∃ (kvs:List (Key×V)) (ep:Nat),H a=some (.dK kvs ep)/\ks=kvs.map (λ p=>Sum.inl p.1)/\vs=kvs.map (·.2)) ∨
 (k=true/\∃ (kvs:List (List Key×V)) (ep:Nat),H a=some (.dT kvs ep)/\ks=kvs.map (λ p=>Sum.inr p.1)/\vs=kvs.map (·.2))
def ExcAt (H:Hp)(a C:Addr):Prop:=∃ (t:Addr) (tb:Value) (u:HO),H a=some (.av { cls:=.ref C,data:=.fields #[.ref t,tb,.none,.none,.bool false,.none] } u)
mutual
def Rep (K:#[0])(B:Hp)(S:#[30])(H:Hp):D->V->List Addr->Prop
 |.bW,v,fp=>v=.bW/\fp=[]
 |.bl b,v,fp=>v=.bl b/\fp=[]
 |.int i,v,fp=>v=.int i/\fp=[]
 |.str x,v,fp=>v=.str x/\fp=[]
 |.exc x,v,fp=>(∃ a,v=.ref a/\ExcAt H a x)/\fp=[]
 |.tup xs,v,fp=>∃ a vs,v=.ref a/\H a=some (.tup vs)/\az K B S H xs vs fp
 |.lst .own xs,v,fp=>∃ a vs f,v=.ref a/\H a=some (.lst vs)/\az K B S H xs vs f/\fp=a::f
 |.lst .bor xs,v,fp=>∃ a vs,v=.ref a/\((S a/\fH K H a vs)\/fH K B a vs)/\az K B S H xs vs []/\fp=[]
 |.lst .av xs,v,fp=>∃ a vs,v=.ref a/\fH K B a vs/\az K B (λ _=>False) H xs vs []/\fp=[]
 |.lst (.len _) _,_,_=>False
 |.dct (.len p) k ks xs,v,fp=>∃ vs f,v=.ref p/\DictAt H p k ks vs/\az K B S H xs vs f/\fp=p::f
 |.dct .own k ks xs,v,fp=>∃ a vs f,v=.ref a/\DictAt H a k ks vs/\az K B S H xs vs f/\fp=a::f
 |.dct .bor k ks xs,v,fp=>∃ a vs,v=.ref a/\((S a/\DictAt H a k ks vs)\/DictAt B a k ks vs)/\az K B S H xs vs []/\fp=[]
 |.dct .av k ks xs,v,fp=>∃ a vs,v=.ref a/\DictAt B a k ks vs/\az K B (λ _=>False) H xs vs []/\fp=[]
def az (K:#[0])(B:Hp)(S:#[30])(H:Hp):List D->List V->List Addr->Prop
 |[],vs,fp=>vs=[]/\fp=[]
 |d::ds,vs,fp=>∃ v r f g,vs=v::r/\Rep K B S H d v f/\az K B S H ds r g/\fp=f++g
end
def eV {K:#[0]}(s:aD H H'){xs:List V}(h:fH K H a xs):fH K H' a xs:=s.seq h
def DictAt.mono(s:aD H H'){k:Bool}(h:DictAt H a k ks vs):DictAt H' a k ks vs:=by
 rcases h with ⟨z,kvs,ep,h,r⟩|⟨z,kvs,ep,h,r⟩
 ·exact .inl ⟨z,kvs,ep,s _ _ h,r⟩
 ·exact .inr ⟨z,kvs,ep,s _ _ h,r⟩
def ExcAt.mono(s:aD H H'){C:Addr}(h:ExcAt H a C):ExcAt H' a C:=let ⟨t,tb,u,h⟩:=h;⟨t,tb,u,s _ _ h⟩
section
variable {K:#[0]}
mutual
def Rep.mono {B B' H H':Hp}{S S':#[30]}(sH:aD H H')(sB:aD B B')(sS:∀ a,S a->S' a):∀ {d:D}{v:V}{fp:#[9]},Rep K B S H d v fp->Rep K B' S' H' d v fp
 |.bW,_,_,h=>h
 |.bl _,_,_,h=>h
 |.int _,_,_,h=>h
 |.str _,_,_,h=>h
 |.exc _,_,_,h=>let ⟨⟨a,e,z⟩,r⟩:=h;⟨⟨a,e,z.mono sH⟩,r⟩
 |.tup xs,v,fp,h=>let ⟨a,vs,e,q,r⟩:=h;⟨a,vs,e,sH _ _ q,az.mono sH sB sS r⟩
 |.lst .own xs,v,fp,h=>let ⟨a,vs,f,e,q,r,z⟩:=h;⟨a,vs,f,e,sH _ _ q,az.mono sH sB sS r,z⟩
 |.lst .bor xs,v,fp,h=>let ⟨a,vs,e,q,r,z⟩:=h;⟨a,vs,e,q.imp (λ y=>⟨sS _ y.1,eV sH y.2⟩) (λ y=>eV sB y),az.mono sH sB sS r,z⟩
 |.lst .av xs,v,fp,h=>let ⟨a,vs,e,q,r,z⟩:=h;⟨a,vs,e,eV sB q,az.mono sH sB (λ _ x=>x) r,z⟩
 |.lst (.len _) _,_,_,h=>h.elim
 |.dct (.len a) k ks xs,v,fp,h=>let ⟨vs,f,e,q,r,z⟩:=h;⟨vs,f,e,q.mono sH,az.mono sH sB sS r,z⟩
 |.dct .own k ks xs,v,fp,h=>let ⟨a,vs,f,e,q,r,z⟩:=h;⟨a,vs,f,e,q.mono sH,az.mono sH sB sS r,z⟩
 |.dct .bor k ks xs,v,fp,h=>let ⟨a,vs,e,q,r,z⟩:=h;⟨a,vs,e,q.imp (λ y=>⟨sS _ y.1,y.2.mono sH⟩) (λ y=>y.mono sB),az.mono sH sB sS r,z⟩
 |.dct .av k ks xs,v,fp,h=>let ⟨a,vs,e,q,r,z⟩:=h;⟨a,vs,e,q.mono sB,az.mono sH sB (λ _ x=>x) r,z⟩
def az.mono {B B' H H':Hp}{S S':#[30]}(sH:aD H H')(sB:aD B B')(sS:∀ a,S a->S' a):∀ {ds:List D}{vs:List V}{fp:#[9]},az K B S H ds vs fp->az K B' S' H' ds vs fp
 |[],_,_,h=>h
 |d::ds,vs,fp,h=>let ⟨v,r,f,g,e,h1,h2,z⟩:=h;⟨v,r,f,g,e,Rep.mono sH sB sS h1,az.mono sH sB sS h2,z⟩
end
def az.length {B H:Hp}{S:#[30]}:∀ {ds:List D}{vs:List V}{fp:#[9]},az K B S H ds vs fp->ds.length=vs.length
 |[],_,_,h=>by rw[h.1];rfl
 | d::ds,vs,fp,h=>by
  obtain⟨v,r,f,g,e,h1,h2,z⟩:=h;rw[e,QP,QP,az.length h2]
def nP {g:#[9]}(h:([]:#[9])=f++g):f=[]/\g=[]:=T4.mp h.symm
def az.get {B H:Hp}{S:#[30]}:∀ {ds:List D}{vs:List V}{fp:#[9]}{i:Nat}{d:D},az K B S H ds vs fp->ds[i]?=some d->∃ v f,vs[i]?=some v/\Rep K B S H d v f/\List.Sublist f fp
 |[],_,_,i,_,_,e=>by simp at e
 | d::ds,vs,fp,0,d',h,e=>by
  obtain⟨v,r,f,g,e1,h1,h2,z⟩:=h;have e:d=d':=by simpa using e
  subst e e1 z;exact⟨v,f,rfl,h1,Rp _ _⟩
 | d::ds,vs,fp,i+1,d',h,e=>by
  obtain⟨v,r,f,g,e1,h1,h2,z⟩:=h;subst e1 z;obtain⟨w,f',a1,a2,a3⟩:=az.get (i:=i) h2 (by simpa using e);exact⟨w,f',by simpa using a1,a2,a3.trans (QZ _ _)⟩
def az.append {B H:Hp}{S:#[30]}:∀ {xs ys:List D}{us vs:List V}{f g:#[9]},az K B S H xs us f->az K B S H ys vs g->az K B S H (xs++ys) (us++vs) (f++g)
 | [],ys,us,vs,f,g,h,h'=>by
  obtain⟨rfl,rfl⟩:=h;exact h'
 | d::ds,ys,us,vs,f,g,h,h'=>by
  obtain⟨v,r,f1,f2,e1,h1,h2,z⟩:=h;subst e1 z;exact⟨v,r++vs,f1,f2++g,rfl,h1,az.append h2 h',by rw[QY]⟩
def az.one{d:D}(h:Rep K B S H d v f):az K B S H [d] [v] f:=⟨v,[],f,[],rfl,h,⟨rfl,rfl⟩,(QQ _).symm⟩
def sF:(∀ (d:D) {v:V}{fp:#[9]},d.pure=true->Rep K B S H d v fp->fp=[])/\(∀ (ds:List D) {vs:List V}{fp:#[9]},aX ds=true->az K B S H ds vs fp->fp=[]):=by
 refine⟨λ d=>?_,λ ds=>?_⟩
 ·exact D.rec (motive_1:=λ d=>∀ {v:V}{fp:#[9]},d.pure=true->Rep K B S H d v fp->fp=[]) (motive_2:=λ ds=>∀ {vs:List V}{fp:#[9]},aX ds=true->az K B S H ds vs fp->fp=[])
   (λ _ h=>h.2) (λ _ _ _ _ h=>h.2) (λ _ _ _ _ h=>h.2) (λ _ _ _ _ h=>h.2) (λ xs ih _ _ p h=>let ⟨_,_,_,_,r⟩:=h;ih p r) (λ _ _ _ _ _ p=>by cases p) (λ _ _ _ _ _ _ _ p=>by cases p) (λ _ _ _ _ h=>h.2) (λ _ h=>h.2)
   (λ d r ih1 ih2 _ _ p h=>by
    have p:(d.pure&&aX r)=true:=p;rw[Q4]at p;obtain⟨_,_,_,_,_,h1,h2,z⟩:=h;rw[z,ih1 p.1 h1,ih2 p.2 h2];rfl) d
 ·exact D.rec_1 (motive_1:=λ d=>∀ {v:V}{fp:#[9]},d.pure=true->Rep K B S H d v fp->fp=[]) (motive_2:=λ ds=>∀ {vs:List V}{fp:#[9]},aX ds=true->az K B S H ds vs fp->fp=[])
   (λ _ h=>h.2) (λ _ _ _ _ h=>h.2) (λ _ _ _ _ h=>h.2) (λ _ _ _ _ h=>h.2) (λ xs ih _ _ p h=>let ⟨_,_,_,_,r⟩:=h;ih p r) (λ _ _ _ _ _ p=>by cases p) (λ _ _ _ _ _ _ _ p=>by cases p) (λ _ _ _ _ h=>h.2) (λ _ h=>h.2)
   (λ d r ih1 ih2 _ _ p h=>by
    have p:(d.pure&&aX r)=true:=p;rw[Q4]at p;obtain⟨_,_,_,_,_,h1,h2,z⟩:=h;rw[z,ih1 p.1 h1,ih2 p.2 h2];rfl) ds
end
abbrev No:Addr->Prop:=λ _=>False
section
variable {K:#[0]}
mutual
def Rep.view {B H:Hp}{S:#[30]}:∀ {d:D}{v:V}{fp:#[9]},Rep K B No H d v fp->(∀ a∈fp,S a)->Rep K B S H d.view v []
 |.bW,_,_,h,_=>⟨h.1,rfl⟩
 |.bl _,_,_,h,_=>⟨h.1,rfl⟩
 |.int _,_,_,h,_=>⟨h.1,rfl⟩
 |.str _,_,_,h,_=>⟨h.1,rfl⟩
 |.exc _,_,_,h,_=>⟨h.1,rfl⟩
 |.tup xs,v,fp,h,hs=>let ⟨a,vs,e,q,r⟩:=h;⟨a,vs,e,q,az.view r hs⟩
 | .lst .own xs,v,fp,h,hs=>by
  obtain⟨a,vs,f,e,q,r,z⟩:=h;subst z;exact⟨a,vs,e,.inl ⟨hs a Qx,fH.of q⟩,az.view r λ b hb=>hs b (Qw _ hb),rfl⟩
 |.lst .bor xs,v,fp,h,hs=>let ⟨a,vs,e,q,r,z⟩:=h;⟨a,vs,e,.inr #[116],az.view r #[120],rfl⟩
 |.lst .av xs,v,fp,h,hs=>let ⟨a,vs,e,q,r,z⟩:=h;⟨a,vs,e,q,az.view (S:=No) r #[120],rfl⟩
 |.lst (.len _) _,_,_,h,_=>h.elim
 | .dct (.len a) kd ks xs,v,fp,h,hs=>by
  obtain⟨vs,f,e,q,r,z⟩:=h;subst z;exact⟨a,vs,e,.inl ⟨hs a Qx,q⟩,az.view r λ b hb=>hs b (Qw _ hb),rfl⟩
 | .dct .own kd ks xs,v,fp,h,hs=>by
  obtain⟨a,vs,f,e,q,r,z⟩:=h;subst z;exact⟨a,vs,e,.inl ⟨hs a Qx,q⟩,az.view r λ b hb=>hs b (Qw _ hb),rfl⟩
 |.dct .bor kd ks xs,v,fp,h,hs=>let ⟨a,vs,e,q,r,z⟩:=h;⟨a,vs,e,.inr #[116],az.view r #[120],rfl⟩
 |.dct .av kd ks xs,v,fp,h,hs=>let ⟨a,vs,e,q,r,z⟩:=h;⟨a,vs,e,q,az.view (S:=No) r #[120],rfl⟩
def az.view {B H:Hp}{S:#[30]}:∀ {ds:List D}{vs:List V}{fp:#[9]},az K B No H ds vs fp->(∀ a∈fp,S a)->az K B S H (eN ds) vs []
 |[],_,_,h,_=>⟨h.1,rfl⟩
 | d::ds,vs,fp,h,hs=>by
  obtain⟨v,r,f,g,e,h1,h2,z⟩:=h;subst z;exact⟨v,r,[],[],e,Rep.view h1 (λ b hb=>hs b (QR _ hb)),az.view h2 (λ b hb=>hs b (QJ _ hb)),rfl⟩
end
def Ew(sB:aD B B')(hs:#[122])(q:(S a/\fH K H a vs)\/fH K B a vs):fH K B' a vs:=by
 rcases q with ⟨s,(q|⟨o,q⟩)|q⟩|q
 ·exact .inl (.inl (hs _ _ s q))
 ·exact .inl (.inr ⟨o,hs _ _ s q⟩)
 ·exact .inr q
 ·exact sB.seq q
def mZ{kd:Bool}(sB:aD B B')(hs:#[122])(q:(S a/\DictAt H a kd ks vs)\/DictAt B a kd ks vs):DictAt B' a kd ks vs:=by
 rcases q with ⟨s,⟨z,kvs,ep,q,r⟩|⟨z,kvs,ep,q,r⟩⟩|q
 ·exact .inl ⟨z,kvs,ep,hs _ _ s q,r⟩
 ·exact .inr ⟨z,kvs,ep,hs _ _ s q,r⟩
 ·exact q.mono sB
mutual
def Rep.av {B B' H:Hp}{S:#[30]}(sB:aD B B')(hs:#[122]):∀ {d:D}{v:V}{fp:#[9]},Rep K B S H d v fp->(∀ a∈fp,∀ o,H a=some o->B' a=some o)->Rep K B' No H d.av v []
 |.bW,_,_,h,_=>⟨h.1,rfl⟩
 |.bl _,_,_,h,_=>⟨h.1,rfl⟩
 |.int _,_,_,h,_=>⟨h.1,rfl⟩
 |.str _,_,_,h,_=>⟨h.1,rfl⟩
 |.exc _,_,_,h,_=>⟨h.1,rfl⟩
 |.tup xs,v,fp,h,hf=>let ⟨a,vs,e,q,r⟩:=h;⟨a,vs,e,q,az.av sB hs r hf⟩
 | .lst .own xs,v,fp,h,hf=>by
  obtain⟨a,vs,f,e,q,r,z⟩:=h;subst z;exact⟨a,vs,e,fH.of (hf a Qx _ q),az.av sB hs r λ b hb=>hf b (Qw _ hb),rfl⟩
 |.lst .bor xs,v,fp,h,hf=>let ⟨a,vs,e,q,r,z⟩:=h;⟨a,vs,e,Ew sB hs q,az.av sB hs r #[120],rfl⟩
 |.lst .av xs,v,fp,h,hf=>let ⟨a,vs,e,q,r,z⟩:=h;⟨a,vs,e,eV sB q,az.av sB (λ _ _ x=>x.elim) r #[120],rfl⟩
 |.lst (.len _) _,_,_,h,_=>h.elim
 | .dct (.len a) kd ks xs,v,fp,h,hf=>by
  obtain⟨vs,f,e,q,r,z⟩:=h;subst z;refine⟨a,vs,e,?_,az.av sB hs r λ b hb=>hf b (Qw _ hb),rfl⟩;exact mZ (S:=λ b=>b=a) sB (λ b o eb=>by rw[eb];exact hf a Qx o) (.inl ⟨rfl,q⟩)
 | .dct .own kd ks xs,v,fp,h,hf=>by
  obtain⟨a,vs,f,e,q,r,z⟩:=h;subst z;refine⟨a,vs,e,?_,az.av sB hs r λ b hb=>hf b (Qw _ hb),rfl⟩;exact mZ (S:=λ b=>b=a) sB (λ b o eb=>by rw[eb];exact hf a Qx o) (.inl ⟨rfl,q⟩)
 |.dct .bor kd ks xs,v,fp,h,hf=>let ⟨a,vs,e,q,r,z⟩:=h;⟨a,vs,e,mZ sB hs q,az.av sB hs r #[120],rfl⟩
 |.dct .av kd ks xs,v,fp,h,hf=>let ⟨a,vs,e,q,r,z⟩:=h;⟨a,vs,e,q.mono sB,az.av sB (λ _ _ x=>x.elim) r #[120],rfl⟩
def az.av {B B' H:Hp}{S:#[30]}(sB:aD B B')(hs:#[122]):∀ {ds:List D}{vs:List V}{fp:#[9]},az K B S H ds vs fp->(∀ a∈fp,∀ o,H a=some o->B' a=some o)->az K B' No H (aK ds) vs []
 |[],_,_,h,_=>⟨h.1,rfl⟩
 | d::ds,vs,fp,h,hf=>by
  obtain⟨v,r,f,g,e,h1,h2,z⟩:=h;subst z;exact⟨v,r,[],[],e,Rep.av sB hs h1 (λ b hb=>hf b (QR _ hb)),az.av sB hs h2 (λ b hb=>hf b (QJ _ hb)),rfl⟩
end
def yx(sH:aD B H)(hb:∀ a o,B a=some o->B' a=some o\/S a)(q:fH K B a vs):(S a/\fH K H a vs)\/fH K B' a vs:=by
 rcases q with (q|⟨o,q⟩)|q
 ·exact(hb _ _ q).symm.imp (λ s=>⟨s,fH.of (sH _ _ q)⟩) λ z=>.inl (.inl z)
 ·exact(hb _ _ q).symm.imp (λ s=>⟨s,.inl (.inr ⟨o,sH _ _ q⟩)⟩) λ z=>.inl (.inr ⟨o,z⟩)
 ·exact .inr (.inr q)
def rF{kd:Bool}(sH:aD B H)(hb:∀ a o,B a=some o->B' a=some o\/S a)(q:DictAt B a kd ks vs):(S a/\DictAt H a kd ks vs)\/DictAt B' a kd ks vs:=by
 rcases q with ⟨y,kvs,ep,q,r⟩|⟨y,kvs,ep,q,r⟩
 ·exact(hb _ _ q).symm.imp (λ s=>⟨s,.inl ⟨y,kvs,ep,sH _ _ q,r⟩⟩) λ z=>.inl ⟨y,kvs,ep,z,r⟩
 ·exact(hb _ _ q).symm.imp (λ s=>⟨s,.inr ⟨y,kvs,ep,sH _ _ q,r⟩⟩) λ z=>.inr ⟨y,kvs,ep,z,r⟩
mutual
def Rep.dm {B B' H:Hp}{S:#[30]}(sH:aD B H)(hb:∀ a o,B a=some o->B' a=some o\/S a):∀ {d:D}{v:V}{fp:#[9]},Rep K B No H d v fp->Rep K B' S H d.dm v fp
 |.bW,_,_,h=>h
 |.bl _,_,_,h=>h
 |.int _,_,_,h=>h
 |.str _,_,_,h=>h
 |.exc _,_,_,h=>h
 |.tup xs,v,fp,h=>let ⟨a,vs,e,q,r⟩:=h;⟨a,vs,e,q,az.dm sH hb r⟩
 |.lst .own xs,v,fp,h=>let ⟨a,vs,f,e,q,r,z⟩:=h;⟨a,vs,f,e,q,az.dm sH hb r,z⟩
 |.lst .bor xs,v,fp,h=>let ⟨a,vs,e,q,r,z⟩:=h;⟨a,vs,e,yx sH hb #[116],az.dm sH hb r,z⟩
 |.lst .av xs,v,fp,h=>let ⟨a,vs,e,q,r,z⟩:=h;⟨a,vs,e,yx sH hb q,az.dm sH hb r,z⟩
 |.lst (.len _) _,_,_,h=>h.elim
 |.dct (.len a) kd ks xs,v,fp,h=>let ⟨vs,f,e,q,r,z⟩:=h;⟨vs,f,e,q,az.dm sH hb r,z⟩
 |.dct .own kd ks xs,v,fp,h=>let ⟨a,vs,f,e,q,r,z⟩:=h;⟨a,vs,f,e,q,az.dm sH hb r,z⟩
 |.dct .bor kd ks xs,v,fp,h=>let ⟨a,vs,e,q,r,z⟩:=h;⟨a,vs,e,rF sH hb #[116],az.dm sH hb r,z⟩
 |.dct .av kd ks xs,v,fp,h=>let ⟨a,vs,e,q,r,z⟩:=h;⟨a,vs,e,rF sH hb q,az.dm sH hb r,z⟩
def az.dm {B B' H:Hp}{S:#[30]}(sH:aD B H)(hb:∀ a o,B a=some o->B' a=some o\/S a):∀ {ds:List D}{vs:List V}{fp:#[9]},az K B No H ds vs fp->az K B' S H (ig ds) vs fp
 |[],_,_,h=>h
 |d::ds,vs,fp,h=>let ⟨v,r,f,g,e,h1,h2,z⟩:=h;⟨v,r,f,g,e,Rep.dm sH hb h1,az.dm sH hb h2,z⟩
end
mutual
def Rep.gj {B H:Hp}{S:#[30]}:∀ {d:D}{v:V}{fp:#[9]},d.aN=false->Rep K B S H d v fp->Rep K B No H d v fp
 |.bW,_,_,_,h=>h
 |.bl _,_,_,_,h=>h
 |.int _,_,_,_,h=>h
 |.str _,_,_,_,h=>h
 |.exc _,_,_,_,h=>h
 |.tup xs,v,fp,p,h=>let ⟨a,vs,e,q,r⟩:=h;⟨a,vs,e,q,az.gj (ds:=xs) p r⟩
 |.lst .own xs,v,fp,p,h=>let ⟨a,vs,f,e,q,r,z⟩:=h;⟨a,vs,f,e,q,az.gj (ds:=xs) (by simpa[D.aN] using p) r,z⟩
 |.lst .bor xs,v,fp,p,h=>by simp[D.aN]at p
 |.lst .av xs,v,fp,p,h=>h
 |.lst (.len _) _,_,_,_,h=>h.elim
 |.dct (.len a) kd ks xs,v,fp,p,h=>let ⟨vs,f,e,q,r,z⟩:=h;⟨vs,f,e,q,az.gj (ds:=xs) (by simpa[D.aN] using p) r,z⟩
 |.dct .own kd ks xs,v,fp,p,h=>let ⟨a,vs,f,e,q,r,z⟩:=h;⟨a,vs,f,e,q,az.gj (ds:=xs) (by simpa[D.aN] using p) r,z⟩
 |.dct .bor kd ks xs,v,fp,p,h=>by simp[D.aN]at p
 |.dct .av kd ks xs,v,fp,p,h=>h
def az.gj {B H:Hp}{S:#[30]}:∀ {ds:List D}{vs:List V}{fp:#[9]},aJ ds=false->az K B S H ds vs fp->az K B No H ds vs fp
 |[],_,_,_,h=>h
 | d::ds,vs,fp,p,h=>by
  obtain⟨v,r,f,g,e,h1,h2,z⟩:=h;have p:(d.aN||aJ ds)=false:=p;rw[Sf]at p;exact⟨v,r,f,g,e,Rep.gj p.1 h1,az.gj p.2 h2,z⟩
end
def rZ:HO->Prop
 |.lst _=>True
 |.dK _ _=>True
 |.dT _ _=>True
 |_=>False
structure kI (H H':Hp)(M:List Addr):Prop where
 keep:∀ a o,H a=some o->a∉M->H' a=some o
 Pc:∀ a∈M,∃ o,H a=some o/\rZ o
def kI.DR{M:#[9]}(k:kI H H' M)(h:H a=some o)(n:¬ rZ o):H' a=some o:=k.keep a o h λ m=>by
 obtain⟨u,e,z⟩:=k.Pc a m;rw[h]at e;cases e;exact n z
mutual
def Rep.keep {B H H':Hp}{M:#[9]}(k:kI H H' M):∀ {d:D}{v:V}{fp:#[9]},Rep K B No H d v fp->(∀ a∈fp,a∉M)->Rep K B No H' d v fp
 |.bW,_,_,h,_=>h
 |.bl _,_,_,h,_=>h
 |.int _,_,_,h,_=>h
 |.str _,_,_,h,_=>h
 |.exc _,_,_,h,_=>let ⟨⟨a,e,t,tb,u,h1⟩,r⟩:=h;⟨⟨a,e,t,tb,u,k.DR h1 (λ x=>x)⟩,r⟩
 | .tup xs,v,fp,h,hf=>by
  obtain⟨a,vs,e,q,r⟩:=h;exact⟨a,vs,e,k.DR q (λ x=>x),az.keep k r hf⟩
 | .lst .own xs,v,fp,h,hf=>by
  obtain⟨a,vs,f,e,q,r,z⟩:=h;subst z;exact⟨a,vs,f,e,k.keep _ _ q (hf a Qx),az.keep k r λ b hb=>hf b (Qw _ hb),rfl⟩
 |.lst .bor xs,v,fp,h,hf=>let ⟨a,vs,e,q,r,z⟩:=h;⟨a,vs,e,.inr #[116],az.keep k r #[120],z⟩
 |.lst .av xs,v,fp,h,hf=>let ⟨a,vs,e,q,r,z⟩:=h;⟨a,vs,e,q,az.keep k r #[120],z⟩
 |.lst (.len _) _,_,_,h,_=>h.elim
 | .dct (.len a) kd ks xs,v,fp,h,hf=>by
  obtain⟨vs,f,e,q,r,z⟩:=h;subst z;have hm:=hf a Qx;refine⟨vs,f,e,?_,az.keep k r λ b hb=>hf b (Qw _ hb),rfl⟩;rcases q with ⟨y,kvs,ep,q,w⟩|⟨y,kvs,ep,q,w⟩
  ·exact .inl ⟨y,kvs,ep,k.keep _ _ q hm,w⟩
  ·exact .inr ⟨y,kvs,ep,k.keep _ _ q hm,w⟩
 | .dct .own kd ks xs,v,fp,h,hf=>by
  obtain⟨a,vs,f,e,q,r,z⟩:=h;subst z;have hm:=hf a Qx;refine⟨a,vs,f,e,?_,az.keep k r λ b hb=>hf b (Qw _ hb),rfl⟩;rcases q with ⟨y,kvs,ep,q,w⟩|⟨y,kvs,ep,q,w⟩
  ·exact .inl ⟨y,kvs,ep,k.keep _ _ q hm,w⟩
  ·exact .inr ⟨y,kvs,ep,k.keep _ _ q hm,w⟩
 |.dct .bor kd ks xs,v,fp,h,hf=>let ⟨a,vs,e,q,r,z⟩:=h;⟨a,vs,e,.inr #[116],az.keep k r #[120],z⟩
 |.dct .av kd ks xs,v,fp,h,hf=>let ⟨a,vs,e,q,r,z⟩:=h;⟨a,vs,e,q,az.keep k r #[120],z⟩
def az.keep {B H H':Hp}{M:#[9]}(k:kI H H' M):∀ {ds:List D}{vs:List V}{fp:#[9]},az K B No H ds vs fp->(∀ a∈fp,a∉M)->az K B No H' ds vs fp
 |[],_,_,h,_=>h
 | d::ds,vs,fp,h,hf=>by
  obtain⟨v,r,f,g,e,h1,h2,z⟩:=h;subst z;exact⟨v,r,f,g,e,Rep.keep k h1 (λ b hb=>hf b (QR _ hb)),az.keep k h2 (λ b hb=>hf b (QJ _ hb)),rfl⟩
end
mutual
def Rep.own {B H:Hp}{S:#[30]}:∀ {d:D}{v:V}{fp:#[9]},Rep K B S H d v fp->∀ a∈fp,∃ o,H a=some o/\rZ o
 |.bW,_,_,h=>by rw[h.2];intro a m;cases m
 |.bl _,_,_,h=>by rw[h.2];intro a m;cases m
 |.int _,_,_,h=>by rw[h.2];intro a m;cases m
 |.str _,_,_,h=>by rw[h.2];intro a m;cases m
 |.exc _,_,_,h=>by rw[h.2];intro a m;cases m
 |.tup xs,v,fp,h=>let ⟨a,vs,e,q,r⟩:=h;az.own r
 | .lst .own xs,v,fp,h=>by
  obtain⟨a,vs,f,e,q,r,z⟩:=h;subst z;intro b hb;rcases QA.mp hb with e|e
  ·subst e;exact⟨_,q,trivial⟩
  ·exact az.own r b e
 |.lst .bor xs,v,fp,h=>by obtain⟨a,vs,e,q,r,z⟩:=h;rw[z];intro a m;cases m
 |.lst .av xs,v,fp,h=>by obtain⟨a,vs,e,q,r,z⟩:=h;rw[z];intro a m;cases m
 |.lst (.len _) _,_,_,h=>h.elim
 | .dct (.len a) kd ks xs,v,fp,h=>by
  obtain⟨vs,f,e,q,r,z⟩:=h;subst z;intro b hb;rcases QA.mp hb with e|e
  ·subst e;rcases q with ⟨y,kvs,ep,q,w⟩|⟨y,kvs,ep,q,w⟩
   ·exact⟨_,q,trivial⟩
   ·exact⟨_,q,trivial⟩
  ·exact az.own r b e
 | .dct .own kd ks xs,v,fp,h=>by
  obtain⟨a,vs,f,e,q,r,z⟩:=h;subst z;intro b hb;rcases QA.mp hb with e|e
  ·subst e;rcases q with ⟨y,kvs,ep,q,w⟩|⟨y,kvs,ep,q,w⟩
   ·exact⟨_,q,trivial⟩
   ·exact⟨_,q,trivial⟩
  ·exact az.own r b e
 |.dct .bor kd ks xs,v,fp,h=>by obtain⟨a,vs,e,q,r,z⟩:=h;rw[z];intro a m;cases m
 |.dct .av kd ks xs,v,fp,h=>by obtain⟨a,vs,e,q,r,z⟩:=h;rw[z];intro a m;cases m
def az.own {B H:Hp}{S:#[30]}:∀ {ds:List D}{vs:List V}{fp:#[9]},az K B S H ds vs fp->∀ a∈fp,∃ o,H a=some o/\rZ o
 |[],_,_,h=>by rw[h.2];intro a m;cases m
 | d::ds,vs,fp,h=>by
  obtain⟨v,r,f,g,e,h1,h2,z⟩:=h;subst z;intro b hb;rcases QH.mp hb with e|e
  ·exact Rep.own h1 b e
  ·exact az.own h2 b e
end
def cU (K:#[0])(B H:Hp):SD->L2.St->List Addr->Prop
 |[],σ,P=>σ=[]/\P=[]
 |none::r,σ,P=>∃ o τ,σ=o::τ/\cU K B H r τ P
 |some d::r,σ,P=>∃ v τ f g,σ=some v::τ/\Rep K B No H d v f/\cU K B H r τ g/\P=f++g
structure SI (K:PySem.W.Frag)(H0 B0 B H:Hp)(σ:L2.St)(τ:SD)(P:List Addr)(F:Addr->Prop):Prop where
 bh:aD B H
 h0:aD H0 H
 b0:aD B0 B
 nb:∀ a,B a≠none->B0 a≠none\/H0 a=none
 rep:cU K B H τ σ P
 nd:P.Nodup
 own:∀ a∈P,B a=none/\H0 a=none/\¬ F a
 fr:∀ a,F a->B a=none/\H a≠none
structure fK (H0 B H:Hp)(P:List Addr)(F:Addr->Prop)(fp:List Addr):Prop where
 nd:fp.Nodup
 own:∀ a∈fp,B a=none/\H0 a=none/\H a≠none/\a∉P/\¬ F a
def fK.nil:fK H0 B H P F []:=⟨Rl,λ a m=>by cases m⟩
def fK.sub{fq:#[9]}(h:fK H0 B H P F fp)(s:List.Sublist fq fp):fK H0 B H P F fq:=⟨h.nd.sublist s,λ a m=>h.own a (s.subset m)⟩
def cU.own {B H:Hp}:∀ {τ:SD}{σ:L2.St}{P:#[9]},cU K B H τ σ P->∀ a∈P,∃ o,H a=some o/\rZ o
 |[],_,_,h=>by rw[h.2];intro a m;cases m
 |none::r,σ,P,h=>by obtain⟨o,τ,e,h⟩:=h;exact cU.own h
 | some d::r,σ,P,h=>by
  obtain⟨v,τ,f,g,e,h1,h2,z⟩:=h;subst z;intro b hb;rcases QH.mp hb with e|e
  ·exact Rep.own h1 b e
  ·exact cU.own h2 b e
def cU.mono {B B' H H':Hp}(sH:aD H H')(sB:aD B B'):∀ {τ:SD}{σ:L2.St}{P:#[9]},cU K B H τ σ P->cU K B' H' τ σ P
 |[],_,_,h=>h
 |none::r,σ,P,h=>let ⟨o,τ,e,h⟩:=h;⟨o,τ,e,cU.mono sH sB h⟩
 |some d::r,σ,P,h=>let ⟨v,τ,f,g,e,h1,h2,z⟩:=h;⟨v,τ,f,g,e,Rep.mono sH sB (λ _ x=>x) h1,cU.mono sH sB h2,z⟩
def cU.get {B H:Hp}:∀ {τ:SD}{σ:L2.St}{P:#[9]}{i:Nat}{d:D},cU K B H τ σ P->τ[i]?=some (some d)->∃ v f,σ[i]?=some (some v)/\Rep K B No H d v f/\List.Sublist f P
 |[],_,_,i,_,_,e=>by simp at e
 |none::r,σ,P,0,d,h,e=>by simp at e
 | none::r,σ,P,i+1,d,h,e=>by
  obtain⟨o,τ,e1,h⟩:=h;subst e1;obtain⟨v,f,a1,a2,a3⟩:=cU.get (i:=i) h (by simpa using e);exact⟨v,f,by simpa using a1,a2,a3⟩
 | some d::r,σ,P,0,d',h,e=>by
  obtain⟨v,τ,f,g,e1,h1,h2,z⟩:=h;have e:d=d':=by simpa using e
  subst e e1 z;exact⟨v,f,rfl,h1,Rp _ _⟩
 | some d::r,σ,P,i+1,d',h,e=>by
  obtain⟨v,τ,f,g,e1,h1,h2,z⟩:=h;subst e1 z;obtain⟨w,f',a1,a2,a3⟩:=cU.get (i:=i) h2 (by simpa using e);exact⟨w,f',by simpa using a1,a2,a3.trans (QZ _ _)⟩
def SI.stands (I:#[15])(h:a∈P):H a≠none:=by
 obtain⟨o,e,_⟩:=I.rep.own a h;rw[e];exact λ z=>by cases z
def SI.xg(I:#[15])(h:∀ a,F' a->F a):SI K H0 B0 B H σ τ P F':=
 ⟨I.bh,I.h0,I.b0,I.nb,I.rep,I.nd,λ a m=>let ⟨x,y,z⟩:=I.own a m;⟨x,y,λ q=>z (h a q)⟩,λ a m=>I.fr a (h a m)⟩
def SI.hold(I:#[15])(v:fK H0 B H P F fp):SI K H0 B0 B H σ τ P (λ a=>a∈fp\/F a):=
 ⟨I.bh,I.h0,I.b0,I.nb,I.rep,I.nd,λ a m=>let ⟨x,y,z⟩:=I.own a m;⟨x,y,λ q=>q.elim (λ r=>(v.own a r).2.2.2.1 m) z⟩,λ a m=>m.elim (λ r=>⟨(v.own a r).1,(v.own a r).2.2.1⟩) (I.fr a)⟩
def SI.grow(I:#[15])(s:aD H H'):SI K H0 B0 B H' σ τ P F:=
 ⟨I.bh.trans s,I.h0.trans s,I.b0,I.nb,I.rep.mono s (λ _ _ x=>x),I.nd,I.own,λ a m=>⟨(I.fr a m).1,λ z=>(I.fr a m).2 (s.free z)⟩⟩
def fK.grow(v:fK H0 B H P F fp)(s:aD H H')(hb:∀ a∈fp,B' a=none):fK H0 B' H' P F fp:=
 ⟨v.nd,λ a m=>let ⟨x,y,z,p,q⟩:=v.own a m;⟨hb a m,y,λ n=>z (s.free n),p,q⟩⟩
def SI.yy (I:#[15]){p:Addr}(h:H p=none):B p=none/\H0 p=none/\p∉P/\¬ F p:=
 ⟨I.bh.free h,I.h0.free h,λ m=>I.stands m h,λ m=>(I.fr p m).2 h⟩
end
def ex8 {α β γ δ ε ζ:Sort _}{p q:α->β->γ->δ->ε->ζ->Prop}(h:∃ a b c d e f,p a b c d e f/\q a b c d e f)(k:∀ a b c d e f,p a b c d e f->q a b c d e f->C):C:=h.elim λ a h=>h.elim λ b h=>h.elim λ c h=>h.elim λ d h=>h.elim λ e h=>h.elim λ f h=>k a b c d e f h.1 h.2
def ex7 {α β γ δ ε:Sort _}{p q:α->β->γ->δ->ε->Prop}(h:∃ a b c d e,p a b c d e/\q a b c d e)(k:∀ a b c d e,p a b c d e->q a b c d e->C):C:=h.elim λ a h=>h.elim λ b h=>h.elim λ c h=>h.elim λ d h=>h.elim λ e h=>k a b c d e h.1 h.2
def ex12 {α β γ δ ε ζ η θ:Sort _}{p q r s:α->β->γ->δ->ε->ζ->η->θ->Prop}(h:∃ a b c d e f g i,p a b c d e f g i/\q a b c d e f g i/\r a b c d e f g i/\s a b c d e f g i)(k:∀ a b c d e f g i,p a b c d e f g i->q a b c d e f g i->r a b c d e f g i->s a b c d e f g i->C):C:=h.elim λ a h=>h.elim λ b h=>h.elim λ c h=>h.elim λ d h=>h.elim λ e h=>h.elim λ f h=>h.elim λ g h=>h.elim λ i h=>k a b c d e f g i h.1 h.2.1 h.2.2.1 h.2.2.2
structure XY where
 ex:Addr->L2.St->Hp->Prop
 ln:Bool
variable {Y:XY}
instance:CoeFun XY λ _=>Addr->L2.St->Hp->Prop:=⟨XY.ex⟩
abbrev tQ:XY:=⟨λ _ _ _=>False,false⟩
abbrev PV:XY:=⟨λ _ _ _=>False,true⟩
section
variable (K:#[0])(Y:XY)(H0 B0 B H:Hp)(σ:L2.St)(τ:SD)(P:#[9])(F:#[30])
def Out (Q:VK)(d:D):Prop:=∀ v H' B' fp,SI K H0 B0 B' H' σ τ P F->aD H H'->aD B B'->Rep K B' (· ∈ P) H' d v fp->fK H0 B' H' P F fp->Q v H'
def oB (C:Addr):Prop:=∀ H' B',SI K H0 B0 B' H' σ τ P F->aD H H'->aD B B'->Y C σ H'
def Pe (Q:List V->Hp->Prop)(ds:List D):Prop:=∀ vs H' B' fp,SI K H0 B0 B' H' σ τ P F->aD H H'->aD B B'->az K B' (· ∈ P) H' ds vs fp->fK H0 B' H' P F fp->Q vs H'
def Pd (Q:#[129])(b:Bool):Prop:=∀ H' B',SI K H0 B0 B' H' σ τ P F->aD H H'->aD B B'->Q b H'
def Goal (Q:VK):Res D->Prop
 |.ok d=>Out K H0 B0 B H σ τ P F Q d
 |.dY C=>oB K Y H0 B0 B H σ τ P F C
 |.bad=>False
def Nt (Q:List V->Hp->Prop):Res (List D)->Prop
 |.ok d=>Pe K H0 B0 B H σ τ P F Q d
 |.dY C=>oB K Y H0 B0 B H σ τ P F C
 |.bad=>False
def pD (Q:#[129]):Res Bool->Prop
 |.ok d=>Pd K H0 B0 B H σ τ P F Q d
 |.dY C=>oB K Y H0 B0 B H σ τ P F C
 |.bad=>False
end
def tM (K:#[0])(Y:XY)(f:#[29]):TE:=λ σ H Q=>∃ H0 B0 B τ P F,SI K H0 B0 B H σ τ P F/\Goal K Y H0 B0 B H σ τ P F Q (f τ)
def pB (K:#[0])(Y:XY)(f:#[34]):TA:=λ σ H Q=>∃ H0 B0 B τ P F,SI K H0 B0 B H σ τ P F/\Nt K Y H0 B0 B H σ τ P F Q (f τ)
def kJ (K:#[0])(Y:XY)(f:#[59]):TT:=λ σ H Q=>∃ H0 B0 B τ P F,SI K H0 B0 B H σ τ P F/\pD K Y H0 B0 B H σ τ P F Q (f τ)
section
variable {K:#[0]}
def oB.later{C:Addr}(h:oB K Y H0 B0 B H σ τ P F C)(sH:aD H H1)(sB:aD B B1)(hF:∀ a,F a->F' a):oB K Y H0 B0 B1 H1 σ τ P F' C:=
 λ H' B' I s b=>h H' B' (I.xg hF) (sH.trans s) (sB.trans b)
def Out.later{d:D}(h:Out K H0 B0 B H σ τ P F Q d)(sH:aD H H1)(sB:aD B B1):Out K H0 B0 B1 H1 σ τ P F Q d:=
 λ v H' B' fp I s b r k=>h v H' B' fp I (sH.trans s) (sB.trans b) r k
def Goal.later{r:Res D}(h:Goal K Y H0 B0 B H σ τ P F Q r)(sH:aD H H1)(sB:aD B B1):Goal K Y H0 B0 B1 H1 σ τ P F Q r:=by
 cases r with
 |ok d=>exact Out.later h sH sB|dY C=>exact oB.later h sH sB λ _ x=>x
 |bad=>exact h
def Out.here{d:D}(h:Out K H0 B0 B H σ τ P F Q d)(I:#[15])(r:Rep K B (· ∈ P) H d v []):Q v H:=h v H B [] I #[52] #[52] r fK.nil
def Out.BB{d:D}(h:Out K H0 B0 B H σ τ P F Q d)(I:#[15])(r:Rep K B (· ∈ P) H d v fp)(k:fK H0 B H P F fp):Q v H:=h v H B fp I #[52] #[52] r k
def iJ {p:Addr}(h:H p=none):aD H (upd H p o):=λ b u e=>by
 rw[aZ (dh e h)];exact e
def Out.xh{p:Addr}(h:Out K H0 B0 B H σ τ P F Q (.lst .own ds))(I:#[15])(r:az K B (· ∈ P) H ds vs fp)(k:fK H0 B H P F fp)(hp:H p=none):Q (.ref p) (upd H p (.lst vs)):=by
 have s:=iJ (o:=.lst vs) hp;obtain⟨n1,n2,n3,n4⟩:=I.yy hp;refine h (.ref p) _ B (p::fp) (I.grow s) s #[52] ⟨p,vs,fp,rfl,bI,r.mono s #[52] (λ _ x=>x),rfl⟩ ⟨Q8.mpr ⟨λ m=>(k.own p m).2.2.1 hp,k.nd⟩,λ a m=>?_⟩;rcases QA.mp m with e|e
 ·subst e;exact⟨n1,n2,(by rw[bI];exact Rx _),n3,n4⟩
 ·obtain⟨a1,a2,a3,a4,a5⟩:=k.own a e;exact⟨a1,a2,λ z=>a3 (s.free z),a4,a5⟩
def Out.HV{p:Addr}(h:Out K H0 B0 B H σ τ P F Q (.tup ds))(I:#[15])(r:az K B (· ∈ P) H ds vs fp)(k:fK H0 B H P F fp)(hp:H p=none):Q (.ref p) (upd H p (.tup vs)):=by
 have s:=iJ (o:=.tup vs) hp;exact h (.ref p) _ B fp (I.grow s) s #[52] ⟨p,vs,rfl,bI,r.mono s #[52] (λ _ x=>x)⟩ (k.grow s λ a m=>(k.own a m).1)
def fK.both{g:#[9]}(k:fK H0 B H P F f)(sH:aD H H1)(I1:SI K H0 B0 B1 H1 σ τ P (λ a=>a∈f\/F a))(k':fK H0 B1 H1 P (λ a=>a∈f\/F a) g):fK H0 B1 H1 P F (f++g):=by
 refine⟨QL.mpr ⟨k.nd,k'.nd,λ a ha b hb e=>?_⟩,λ a m=>?_⟩
 ·subst e;exact(k'.own a hb).2.2.2.2 (.inl ha)
 ·rcases QH.mp m with e|e
  ·obtain⟨a1,a2,a3,a4,a5⟩:=k.own a e;exact⟨(I1.fr a (.inl e)).1,a2,(I1.fr a (.inl e)).2,a4,a5⟩
  ·obtain⟨a1,a2,a3,a4,a5⟩:=k'.own a e;exact⟨a1,a2,a3,a4,λ z=>a5 (.inr z)⟩
def fK.left {g:#[9]}(k:fK H0 B H P F (f++g)):fK H0 B H P F f:=k.sub (Rp _ _)
def fK.right {g:#[9]}(k:fK H0 B H P F (f++g)):fK H0 B H P F g:=k.sub (QZ _ _)
def PE.imp{t t':TE}(h:PE X e t)(hi:∀ σ H Q,t' σ H Q->t σ H Q):PE X e t':=λ pins s σ H Q I hw=>h pins s σ H Q I (hi σ H Q hw)
def PT.imp{t t':TT}(h:PT X e t)(hi:∀ σ H Q,t' σ H Q->t σ H Q):PT X e t':=λ pins s σ H Q I hw=>h pins s σ H Q I (hi σ H Q hw)
def PA.imp{t t':TA}(h:PA X es t)(hi:∀ σ H Q,t' σ H Q->t σ H Q):PA X es t':=λ pos pins s σ H Q I hw=>h pos pins s σ H Q I (hi σ H Q hw)
def PS.imp{st:Stmt}{t t':TS}(h:PS X st t)(hi:∀ E σ H,t' E σ H->t E σ H):PS X st t':=λ pins s σ H E I hw=>h pins s σ H E I (hi E σ H hw)
def kF.imp{st:List Stmt}{t t':TS}(h:kF X st t)(hi:∀ E σ H,t' E σ H->t E σ H):kF X st t':=λ pins s σ H E I hw=>h pins s σ H E I (hi E σ H hw)
def tM.seq {f:#[29]}{Q':V->Hp->Prop}{g:D->Res D}(I:#[15])(h:Goal K Y H0 B0 B H σ τ P F Q ((f τ).bind g))
  (k:∀ d v H1 B1 fp,f τ=.ok d->SI K H0 B0 B1 H1 σ τ P F->aD H H1->aD B B1->Rep K B1 (· ∈ P) H1 d v fp->fK H0 B1 H1 P F fp->Goal K Y H0 B0 B1 H1 σ τ P F Q (g d)->Q' v H1):tM K Y f σ H Q':=by
 refine⟨H0,B0,B,τ,P,F,I,?_⟩;cases e:f τ with
 | ok d =>
  rw[e]at h;intro v H1 B1 fp I1 s1 b1 r1 k1;exact k d v H1 B1 fp e I1 s1 b1 r1 k1 (Goal.later h s1 b1)
 |dY C=>rw[e]at h;exact h|bad=>rw[e]at h;exact h
def tM.CN {f1 f2:#[29]}{Q':V->V->Hp->Prop}(I:#[15])(h:Goal K Y H0 B0 B H σ τ P F Q ((f1 τ).bind λ x=>(f2 τ).bind (g x)))
  (k:∀ d1 d2 v1 v2 H2 B2 fp1 fp2,f1 τ=.ok d1->f2 τ=.ok d2->SI K H0 B0 B2 H2 σ τ P F->aD H H2->aD B B2->Rep K B2 (· ∈ P) H2 d1 v1 fp1->Rep K B2 (· ∈ P) H2 d2 v2 fp2->fK H0 B2 H2 P F (fp1++fp2)->Goal K Y H0 B0 B2 H2 σ τ P F Q (g d1 d2)->Q' v1 v2 H2) :
  tM K Y f1 σ H λ x H1=>tM K Y f2 σ H1 λ y H2=>Q' x y H2:=by
 refine tM.seq (g:=λ x=>(f2 τ).bind (g x)) I h λ d1 v1 H1 B1 fp1 e1 I1 s1 b1 r1 k1 h1=>?_;refine⟨H0,B0,B1,τ,P,_,I1.hold k1,?_⟩;cases e:f2 τ with
 | ok d2 =>
  rw[e]at h1;intro v2 H2 B2 fp2 I2 s2 b2 r2 k2;exact k d1 d2 v1 v2 H2 B2 fp1 fp2 e1 e (I2.xg λ a x=>.inr x) (s1.trans s2) (b1.trans b2) (r1.mono s2 b2 λ _ x=>x) r2 (k1.both s2 I2 k2) (Goal.later h1 s2 b2)
 | dY C =>
  rw[e]at h1;exact oB.later h1 #[52] #[52] λ a x=>.inr x
 |bad=>rw[e]at h1;exact h1
def ae (i:Nat)(τ:SD):Res D:=match τ[i]? with
 |some (some d)=>.ok d.view
 |_=>.bad
def eC (d:D)(_:SD):Res D:=.ok d
def qv(i:Nat)(hN:#[78]:=by rfl)(hv:zS X.env.scope x:=by first|exact Or.inl rfl|exact Or.inr (Or.inl rfl)|exact Or.inr (Or.inr rfl))(hd:#[3]:=by decide)
  (hcd:#[44]:=by decide):PE X (.Name x pos) (tM X.K Y (ae i)):=by
 refine PE.imp (ic hN hv hd hcd) ?_;rintro σ H Q ⟨H0,B0,B,τ,P,F,I,h⟩;unfold ae at h;cases e:τ[i]? with
 |none=>rw[e]at h;exact h.elim
 | some o =>
  cases o with
  |none=>rw[e]at h;exact h.elim
  | some d =>
   rw[e]at h;obtain⟨v,f,h1,h2,h3⟩:=I.rep.get e;exact⟨v,h1,Out.here h I (h2.view λ a m=>h3.subset m)⟩
def qc{d:D}(h:PE X e (tC v))(hr:∀ K B S H,Rep K B S H d v []):PE X e (tM X.K Y (eC d)):=PE.imp h λ σ H Q hq=>ex8 hq λ H0 B0 B τ P F I h=>Out.here h I (hr _ _ _ _)
def aw{i:Int}{j pos}:PE X (.Constant (.int i) j pos) (tM X.K Y (eC (.int i))):=qc KS λ _ _ _ _=>⟨rfl,rfl⟩
def Ex{b:Bool}{j pos}:PE X (.Constant (.bool b) j pos) (tM X.K Y (eC (.bl b))):=qc M5 λ _ _ _ _=>⟨rfl,rfl⟩
def jx{j pos}:PE X (.Constant (.str x) j pos) (tM X.K Y (eC (.str x))):=qc KW λ _ _ _ _=>⟨rfl,rfl⟩
def tP (K:#[0])(Y:XY)(r:R2)(g:D->D->Res D):Prop:=∀ {H0 B0 B H:Hp}{σ:L2.St}{τ:SD}{P:#[9]}{F:#[30]}{d1 d2:D}{x y:V}{f1 f2:#[9]}{Q:VK},
 SI K H0 B0 B H σ τ P F->Rep K B (· ∈ P) H d1 x f1->Rep K B (· ∈ P) H d2 y f2->fK H0 B H P F (f1++f2)->Goal K Y H0 B0 B H σ τ P F Q (g d1 d2)->r x y H Q
def ai (g:D->D->Res D)(a b:#[29])(τ:SD):Res D:=(a τ).bind λ x=>(b τ).bind (g x)
def jK.or{f:Value->Value->Sem Value}{r':R2}(h:jK X f r)(h':jK X f r'):jK X f (λ x y H Q=>r x y H Q\/r' x y H Q):=by
 intro pins s σ H x y v u Q I rx ry q;rcases q with q|q
 ·exact h pins s σ H x y v u Q I rx ry q
 ·exact h' pins s σ H x y v u Q I rx ry q
variable{a b c:Expr}{fa fb fc:#[29]}
def bH {op:Operator}(ho:jK X (binaryOp op) r)(hg:tP X.K Y r g)(ha:#[65])(hb:#[133]):PE X (.BinOp a op b pos) (tM X.K Y (ai g fa fb)):=
 PE.imp (MV ho ha hb) λ σ H Q hq=>ex8 hq λ H0 B0 B τ P F I h=>tM.CN I h λ d1 d2 v1 v2 H2 B2 f1 f2 _ _ I2 _ _ r1 r2 k h2=>hg I2 r1 r2 k h2
def Nr {op:CmpOp}(ho:jK X (compareOp op) r)(hg:tP X.K Y r g)(ha:#[65])(hb:#[133])(hm:behindInMarks op b=false):PE X (.Compare a [op] [b] pos) (tM X.K Y (ai g fa fb)):=
 PE.imp (Hs ho ha hb hm) λ σ H Q hq=>ex8 hq λ H0 B0 B τ P F I h=>tM.CN I h λ d1 d2 v1 v2 H2 B2 f1 f2 _ _ I2 _ _ r1 r2 k h2=>hg I2 r1 r2 k h2
def Pg(ho:G9 X r)(hg:tP X.K Y r g)(ha:#[65])(hb:#[133])(hs:w6 b):PE X (.Subscript a b pos) (tM X.K Y (ai g fa fb)):=
 PE.imp (M9 ho ha hb hs) λ σ H Q hq=>ex8 hq λ H0 B0 B τ P F I h=>tM.CN I h λ d1 d2 v1 v2 H2 B2 f1 f2 _ _ I2 _ _ r1 r2 k h2=>hg I2 r1 r2 k h2
def Nq:D->Res Bool|.bl b=>.ok b|_=>.bad
def yz {Q:#[129]}{r:Res D}(h:pD K Y H0 B0 B H σ τ P F Q (r.bind Nq)):Goal K Y H0 B0 B H σ τ P F (λ x H1=>∃ c,x=.bl c/\Q c H1) r:=by
 cases r with
 | ok d =>
  intro v H' B' fp I s b r k;cases d with
  |bl c=>obtain⟨rfl,rfl⟩:=r;exact⟨c,rfl,h H' B' I s b⟩| _=>exact h.elim
 |dY C=>exact h|bad=>exact h
def eT (f:#[29])(τ:SD):Res Bool:=(f τ).bind Nq
def f7 (ha:#[65])(he:#[117]:=by intro _;rfl):PT X a (kJ X.K Y (eT fa)):=
 PT.imp (Kn ha he) λ σ H Q hq=>ex8 hq λ H0 B0 B τ P F I h=>⟨H0,B0,B,τ,P,F,I,yz h⟩
def lX {op:CmpOp}(ho:jK X (compareOp op) r)(hg:tP X.K Y r g)(ha:#[65])(hb:#[133])(hm:behindInMarks op b=false):PT X (.Compare a [op] [b] pos) (kJ X.K Y (eT (ai g fa fb))):=
 PT.imp (Hq ho ha hb hm) λ σ H Q hq=>ex8 hq λ H0 B0 B τ P F I h=>tM.CN I (yz h) λ d1 d2 v1 v2 H2 B2 f1 f2 _ _ I2 _ _ r1 r2 k h2=>hg I2 r1 r2 k h2
end
section
variable {K:#[0]}
def Rep.lst (I:#[15]){t:Tg}(r:Rep K B (· ∈ P) H (.lst t xs) v f):∃ a vs g,v=.ref a/\fH K H a vs/\az K B (· ∈ P) H xs vs g/\List.Sublist g f:=by
 cases t with
 |len a=>exact False.elim r
 | own =>
  obtain⟨a,vs,g,e,q,r,z⟩:=r;subst z;exact⟨a,vs,g,e,fH.of q,r,SY _ _⟩
 | bor =>
  obtain⟨a,vs,e,q,r,z⟩:=r;subst z;exact⟨a,vs,[],e,q.elim (λ y=>y.2) λ y=>eV I.bh y,r,Rm _⟩
 | av =>
  obtain⟨a,vs,e,q,r,z⟩:=r;subst z;exact⟨a,vs,[],e,eV I.bh q,r.mono #[52] #[52] (λ _ x=>x.elim),Rm _⟩
def Rep.tp(r:Rep K B (· ∈ P) H (.tup xs) v f):∃ a vs,v=.ref a/\k9 K H a vs/\az K B (· ∈ P) H xs vs f:=let ⟨a,vs,e,q,r⟩:=r;⟨a,vs,e,k9.of q,r⟩
def f9(h:fH K H a vs):fH K H a vs:=h
def JU (K:#[0]):R2:=λ x y H Q=>∃ l b xs zs,x=.ref l/\y=.ref b/\fH K H l xs/\fH K H b zs/\xs.length+zs.length<=sizeLine/\∀ p,H p=none->Q (.ref p) (upd H p (.lst (xs++zs)))
def HX:jK X (binaryOp .Add) (JU X.K):=by
 intro pins s σ H x y v u Q I rx ry h;obtain⟨l,b,xs,zs,rfl,rfl,hH,hB,hz,q⟩:=h;cases rx;cases ry;obtain⟨its,r,pl,z⟩:=I.list hH;obtain⟨its2,r2,pl2,z2⟩:=I.list hB;obtain⟨⟨cls,dd,data,sl⟩,ho,hc,n,hd⟩:=id pl.isList;obtain⟨⟨cls2,dd2,data2,sl2⟩,ho2,hc2,n2,hd2⟩:=id pl2.isList;simp only at hc hd hc2 hd2;subst hc hd hc2 hd2;have e:its.toArray++its2.toArray=(its++its2).toArray:=by simp
 have l1:=r.length;have l2:=r2.length;refine concat_meets ⟨_,ho,rfl⟩ ⟨_,ho2,rfl⟩ noFill_list_add seq_list_add PySem.F.slot_list_add PySem.F.entry_list_add (PySem.F.args_list_add_2 _ _) (list_addW l b its.toArray its2.toArray n n2 dd dd2 sl sl2 (by rw[Qz,Qz];omega)) ⟨ho,ho2,?_⟩;rw[e];exact⟨.ref _,_,I.Nc (t':=s.toks) (r.append r2) (by rw[Qv];omega),rfl,q _ I.fresh⟩
def bE:D->D->Res D
 |.int i,.int j=>.ok (.int (i+j))
 |.str i,.str j=>if i.length+j.length<=16777216 then .ok (.str (i++j)) else .bad
 |.lst _ xs,.lst _ ys=>if xs.length+ys.length<=16777216 then .ok (.lst .own (xs++ys)) else .bad
 |.tup xs,.tup ys=>if xs≠[]/\ys≠[]/\xs.length+ys.length<=16777216 then .ok (.tup (xs++ys)) else .bad
 |_,_=>.bad
def Lj(h:n<=16777216):n<=sizeLine:=by rw[Rg];exact h
def az.mX(r:az K B S H xs vs f):vs=[]↔xs=[]:=by
 have:=r.length;cases xs<;>cases vs<;>simp_all
abbrev MW (K:#[0]):R2:=λ x y H Q=>Cm (λ i j=>.int (i+j)) x y H Q\/((∃ i j,x=.str i/\y=.str j/\i.length+j.length<=sizeLine/\Q (.str (i++j)) H)\/(JU K x y H Q\/JS K x y H Q))
def bj:jK X (binaryOp .Add) (MW X.K):=jK.or KY (jK.or zW (jK.or HX HE))
def cO:tP K Y (MW K) bE:=by
 intro H0 B0 B H σ τ P F d1 d2 x y f1 f2 Q I r1 r2 k h;unfold bE at h;split at h
 ·obtain⟨rfl,rfl⟩:=r1;obtain⟨rfl,rfl⟩:=r2;exact .inl ⟨_,_,rfl,rfl,Out.here h I ⟨rfl,rfl⟩⟩
 ·obtain⟨rfl,rfl⟩:=r1;obtain⟨rfl,rfl⟩:=r2;split at h
  ·rename_i hl;exact .inr (.inl ⟨_,_,rfl,rfl,Lj hl,Out.here h I ⟨rfl,rfl⟩⟩)
  ·exact h.elim
 ·obtain⟨a,vs,g1,rfl,q1,l1,s1⟩:=r1.lst I;obtain⟨b,ws,g2,rfl,q2,l2,s2⟩:=r2.lst I;split at h
  ·rename_i hl;refine .inr (.inr (.inl ⟨_,_,_,_,rfl,rfl,q1,q2,by rw[<-l1.length,<-l2.length];exact Lj hl,λ p hp=>?_⟩));exact Out.xh h I (l1.append l2) (k.sub (s1.append s2)) hp
  ·exact h.elim
 ·obtain⟨a,vs,rfl,q1,l1⟩:=r1.tp;obtain⟨b,ws,rfl,q2,l2⟩:=r2.tp;split at h
  ·rename_i hl;obtain⟨n1,n2,hl⟩:=hl;refine .inr (.inr (.inr ⟨_,_,_,_,rfl,rfl,q1,q2,λ z=>n1 (l1.mX.mp z),by rw[<-l1.length,<-l2.length];exact Lj hl,λ z=>absurd (l2.mX.mp z) n2,λ _ p hp=>?_⟩));exact Out.HV h I (l1.append l2) k hp
  ·exact h.elim
 ·exact h.elim
def Hb (C:Int->Int->Prop)[∀ i j,Decidable (C i j)](g:Int->Int->D):D->D->Res D
 |.int i,.int j=>if C i j then .ok (g i j) else .bad
 |_,_=>.bad
def ML (g:Int->Int->D):D->D->Res D
 |.int i,.int j=>.ok (g i j)
 |_,_=>.bad
def HW {C:Int->Int->Prop}[∀ i j,Decidable (C i j)]{g:Int->Int->D}{gv:Int->Int->V}(hg:∀ i j K B S H,Rep K B S H (g i j) (gv i j) []):tP K Y (rI C gv) (Hb C g):=by
 intro H0 B0 B H σ τ P F d1 d2 x y f1 f2 Q I r1 r2 k h;unfold Hb at h;split at h
 ·obtain⟨rfl,rfl⟩:=r1;obtain⟨rfl,rfl⟩:=r2;split at h
  ·rename_i hc;exact⟨_,_,rfl,rfl,hc,Out.here h I (hg ..)⟩
  ·exact h.elim
 ·exact h.elim
def BD {g:Int->Int->D}{gv:Int->Int->V}(hg:∀ i j K B S H,Rep K B S H (g i j) (gv i j) []):tP K Y (Cm gv) (ML g):=by
 intro H0 B0 B H σ τ P F d1 d2 x y f1 f2 Q I r1 r2 k h;unfold ML at h;split at h
 ·obtain⟨rfl,rfl⟩:=r1;obtain⟨rfl,rfl⟩:=r2;exact⟨_,_,rfl,rfl,Out.here h I (hg ..)⟩
 ·exact h.elim
instance (i j:Int):Decidable (DZ i j):=inferInstanceAs (Decidable (_/\_))
instance (i j:Int):Decidable (Hu i j):=inferInstanceAs (Decidable (_/\_/\_))
instance (i j:Int):Decidable (D0 i j):=inferInstanceAs (Decidable ((_/\_)\/(_/\_)))
def tR (i j:Int):Prop:=D0 i j\/(i.natAbs<2^1024/\j.natAbs<2^1024)
instance (i j:Int):Decidable (tR i j):=inferInstanceAs (Decidable (_\/(_/\_)))
def vM {i:Int}(h:i.natAbs<2^1024):Builtin.Int.intBits i<=2^20:=by
 unfold Builtin.Int.intBits;split
 ·exact RS _
 ·by_cases e:i.natAbs=0
  ·rw[e];decide
  ·have:=(Nat.log2_lt e).mpr h;omega
def jy:jK X (binaryOp .Mult) (rI tR λ i j=>.int (i*j)):=Oi λ _ _ _ _ _ _ _ hc q=>mul_int q (hc.elim D0.ok λ z=>IntMulOk.of_bits (vM z.1) (vM z.2))
abbrev Nv (g:Int->Int->Int):∀ i j K B S H,Rep K B S H (.int (g i j)) (.int (g i j)) []:=λ _ _ _ _ _ _=>⟨rfl,rfl⟩
abbrev Pj (g:Int->Int->Bool):∀ i j K B S H,Rep K B S H (.bl (g i j)) (.bl (g i j)) []:=λ _ _ _ _ _ _=>⟨rfl,rfl⟩
abbrev Ey:=ML λ i j=>.int (i-j)
abbrev jN:=Hb tR λ i j=>.int (i*j)
abbrev lq:=Hb DZ λ i j=>.int (i/j)
abbrev cE:=Hb (λ _ j=>0<j) λ i j=>.int (i%j)
abbrev j2:=Hb Hu λ i j=>.int (i^j.toNat)
abbrev Ez:=ML λ i j=>.bl (decide (i<j))
abbrev BC:=ML λ i j=>.bl (decide (j<i))
abbrev PX:=ML λ i j=>.bl (decide (j<=i))
def Nu:tP K Y (Cm λ i j=>.int (i-j)) Ey:=BD (Nv _)
def rG:tP K Y (rI tR λ i j=>.int (i*j)) jN:=HW (Nv _)
def xj:tP K Y (rI DZ λ i j=>.int (i/j)) lq:=HW (Nv _)
def fY:tP K Y (rI (λ _ j=>0<j) λ i j=>.int (i%j)) cE:=HW (Nv _)
def yC:tP K Y (rI Hu λ i j=>.int (i^j.toNat)) j2:=HW (Nv λ i j=>i^j.toNat)
def CO:tP K Y (Cm λ i j=>.bl (decide (i<j))) Ez:=BD (Pj λ i j=>decide (i<j))
def EA:tP K Y (Cm λ i j=>.bl (decide (j<i))) BC:=BD (Pj λ i j=>decide (j<i))
def Ph:tP K Y (Cm λ i j=>.bl (decide (j<=i))) PX:=BD (Pj λ i j=>decide (j<=i))
end
section
variable {K:#[0]}{a b c:Expr}{fa fb fc:#[29]}{ga gb:#[59]}
def fK.NF(k:fK H0 B H P F f)(sH:aD H H1)(I1:SI K H0 B0 B1 H1 σ τ P (λ a=>a∈f\/F a)):fK H0 B1 H1 P F f:=⟨k.nd,λ a m=>let ⟨_,a2,_,a4,a5⟩:=k.own a m;⟨(I1.fr a (.inl m)).1,a2,(I1.fr a (.inl m)).2,a4,a5⟩⟩
def D.flat:D->Bool|.bW=>true|.bl _=>true|.int _=>true|.str _=>true|_=>false
def tS:D->D->Option Bool
 |.bW,.bW=>some true|.bW,.int _=>some false|.int _,.bW=>some false|.bW,.bl _=>some false|.bl _,.bW=>some false|.bW,.str _=>some false|.str _,.bW=>some false
 |.int i,.int j=>some (decide (i=j))|.bl i,.bl j=>some (decide (i=j))|.str i,.str j=>some (decide (i=j))
 |.int _,.str _=>some false|.str _,.int _=>some false|.bl _,.str _=>some false|.str _,.bl _=>some false
 |_,_=>none
def vQ {S':#[30]}{d1 d2:D}{x y:V}{f1 f2:#[9]}{r:Bool}(e:tS d1 d2=some r)(r1:Rep K B S H d1 x f1)(r2:Rep K B S' H d2 y f2):K2 x y=true/\decide (x=y)=r:=by
 cases d1<;>cases d2<;>first|(cases e;done)|(obtain⟨rfl,rfl⟩:=r1;obtain⟨rfl,rfl⟩:=r2;cases e;first|exact⟨rfl,rfl⟩|exact⟨rfl,by simp⟩)
def PY (neg:Bool):Option Bool->Res D|some b=>.ok (.bl (xor neg b))|none=>.bad
def j3 (d1 d2:D):Res D:=PY false (tS d1 d2)
def Nz (d1 d2:D):Res D:=PY true (tS d1 d2)
def nN:tP K Y PM j3:=by
 intro H0 B0 B H σ τ P F d1 d2 x y f1 f2 Q I r1 r2 k h;unfold j3 at h;cases e:tS d1 d2 with
 |none=>rw[e]at h;exact h.elim
 | some r =>
  rw[e]at h;obtain⟨s,z⟩:=vQ e r1 r2;refine⟨s,?_⟩;rw[z];exact Out.here h I ⟨by simp,rfl⟩
def Nx:tP K Y OR Nz:=by
 intro H0 B0 B H σ τ P F d1 d2 x y f1 f2 Q I r1 r2 k h;unfold Nz at h;cases e:tS d1 d2 with
 |none=>rw[e]at h;exact h.elim
 | some r =>
  rw[e]at h;obtain⟨s,z⟩:=vQ e r1 r2;refine⟨s,?_⟩;rw[z];exact Out.here h I ⟨by simp,rfl⟩
def Ny:D->D->Bool
 |.bW,.bW=>true
 |.bl a,.bl b=>a == b
 |.bl a,.int b=>(if a then 1 else 0) == b
 |.int a,.bl b=>a == (if b then 1 else 0)
 |.int a,.int b=>a == b
 |.str a,.str b=>a == b
 |_,_=>false
def Hc (x:D)(xs:List D):Bool:=xs.any λ y=>Ny y x
def tT{d:D}(h:d.flat=true)(r:Rep K B S H d v f):nO v=true:=by
 cases d<;>first|exact absurd (show false=true from h) Qy|(obtain⟨rfl,_⟩:=r;rfl)
def Lk{d e:D}{u:V}{g:#[9]}(h:d.flat=true)(h':e.flat=true)(r:Rep K B S H d v f)(r':Rep K B S H e u g):Ha v u=Ny d e:=by
 cases d<;>cases e<;>first|exact absurd (show false=true from h) Qy|exact absurd (show false=true from h') Qy|(obtain⟨rfl,_⟩:=r;obtain⟨rfl,_⟩:=r';rfl)
def tW {S:#[30]}{x:D}{u:V}{g:#[9]}(hx:x.flat=true)(rx:Rep K B S H x u g):∀ {xs:List D}{vs:List V}{f:#[9]},xs.all D.flat=true->az K B S H xs vs f->vs.all nO=true/\Oo u vs=Hc x xs
 |[],vs,f,_,r=>by obtain⟨rfl,_⟩:=r;exact⟨rfl,rfl⟩
 | d::ds,vs,f,h,r=>by
  obtain⟨v,w,f1,f2,rfl,r1,r2,_⟩:=r;rw[U0,Q4]at h;obtain⟨i1,i2⟩:=tW hx rx h.2 r2;refine⟨by rw[U0,tT h.1 r1,i1];rfl,?_⟩;show(Ha v u||Oo u w)=(Ny d x||Hc x ds);rw[i2,Lk h.1 hx r1 rx]
def inD (neg:Bool):D->D->Res D
 |x,.lst _ xs=>if x.flat=true/\xs.all D.flat=true then .ok (.bl (if neg then !Hc x xs else Hc x xs)) else .bad
 |x,.tup xs=>if x.flat=true/\xs.all D.flat=true then .ok (.bl (if neg then !Hc x xs else Hc x xs)) else .bad
 |_,_=>.bad
def Ej (neg:Bool):tP K Y (O2 K neg) (inD neg):=by
 intro H0 B0 B H σ τ P F d1 d2 x y f1 f2 Q I r1 r2 k h;unfold inD at h;split at h
 ·split at h
  ·rename_i hc;obtain⟨a,vs,g,rfl,q,l,s⟩:=r2.lst I;obtain⟨z1,z2⟩:=tW hc.1 r1 hc.2 l;refine⟨a,vs,rfl,.inl (f9 q),tT hc.1 r1,z1,?_⟩;rw[z2];exact Out.here h I ⟨rfl,rfl⟩
  ·exact h.elim
 ·split at h
  ·rename_i hc;obtain⟨a,vs,rfl,q,l⟩:=r2.tp;obtain⟨z1,z2⟩:=tW hc.1 r1 hc.2 l;refine⟨a,vs,rfl,.inr q,tT hc.1 r1,z1,?_⟩;rw[z2];exact Out.here h I ⟨rfl,rfl⟩
  ·exact h.elim
 ·exact h.elim
def bB:D->D->Res D
 |.lst _ xs,.int i=>match vI xs i with|some d=>.ok d|none=>.bad
 |.tup xs,.int i=>match vI xs i with|some d=>.ok d|none=>.bad
 |.str z,.int i=>if z.length<=16777216 then match vI z.cps.toList i with|some c=>.ok (.str ⟨#[c]⟩)|none=>.bad else .bad
 |_,_=>.bad
def az.vI{i:Int}{d:D}(r:az K B S H xs vs f)(e:vI xs i=some d):∃ v g,L2.vI vs i=some v/\Rep K B S H d v g/\List.Sublist g f:=by
 unfold L2.vI at e ⊢;rw[r.length]at e;cases z:DQ vs.length i with
 |none=>rw[z]at e;cases e
 | some j =>
  rw[z]at e;obtain⟨v,g,h1,h2,h3⟩:=r.get (i:=j) e;exact⟨v,g,h1,h2,h3⟩
def Pn:tP K Y (PN K) bB:=by
 intro H0 B0 B H σ τ P F d1 d2 x y f1 f2 Q I r1 r2 k h;unfold bB at h;split at h
 ·obtain⟨rfl,rfl⟩:=r2;obtain⟨a,vs,g,rfl,q,l,s⟩:=r1.lst I;split at h
  ·rename_i d e;obtain⟨v,g',e1,r',s'⟩:=l.vI e;exact .inl ⟨a,vs,_,v,rfl,rfl,f9 q,e1,Out.BB h I r' (k.left.sub (s'.trans s))⟩
  ·exact h.elim
 ·obtain⟨rfl,rfl⟩:=r2;obtain⟨a,vs,rfl,q,l⟩:=r1.tp;split at h
  ·rename_i d e;obtain⟨v,g',e1,r',s'⟩:=l.vI e;exact .inr (.inl ⟨a,vs,_,v,rfl,rfl,q,e1,Out.BB h I r' (k.left.sub s')⟩)
  ·exact h.elim
 ·obtain⟨rfl,rfl⟩:=r2;obtain⟨rfl,rfl⟩:=r1;split at h
  ·rename_i hl;split at h
   ·rename_i c e;exact .inr (.inr ⟨_,_,c,rfl,rfl,Lj hl,e,Out.here h I ⟨rfl,rfl⟩⟩)
   ·exact h.elim
  ·exact h.elim
 ·exact h.elim
def pD.later{Q:#[129]}{r:Res Bool}(h:pD K Y H0 B0 B H σ τ P F Q r)(sH:aD H H1)(sB:aD B B1):pD K Y H0 B0 B1 H1 σ τ P F Q r:=by
 cases r with
 |ok d=>exact λ H' B' I s b=>h H' B' I (sH.trans s) (sB.trans b)
 |dY C=>exact oB.later h sH sB λ _ x=>x
 |bad=>exact h
def kJ.seq {f:#[59]}{Q':#[129]}{g:Bool->Res Bool}{Q:#[129]}(I:#[15])(h:pD K Y H0 B0 B H σ τ P F Q ((f τ).bind g))
  (k:∀ d H1 B1,SI K H0 B0 B1 H1 σ τ P F->pD K Y H0 B0 B1 H1 σ τ P F Q (g d)->Q' d H1):kJ K Y f σ H Q':=by
 refine⟨H0,B0,B,τ,P,F,I,?_⟩;cases e:f τ with
 |ok d=>rw[e]at h;exact λ H1 B1 I1 s1 b1=>k d H1 B1 I1 (pD.later h s1 b1)
 |dY C=>rw[e]at h;exact h|bad=>rw[e]at h;exact h
def kJ.Pk {f:#[59]}{Q':#[129]}{g:Bool->Res D}(I:#[15])(h:Goal K Y H0 B0 B H σ τ P F Q ((f τ).bind g))
  (k:∀ d H1 B1,SI K H0 B0 B1 H1 σ τ P F->Goal K Y H0 B0 B1 H1 σ τ P F Q (g d)->Q' d H1):kJ K Y f σ H Q':=by
 refine⟨H0,B0,B,τ,P,F,I,?_⟩;cases e:f τ with
 |ok d=>rw[e]at h;exact λ H1 B1 I1 s1 b1=>k d H1 B1 I1 (Goal.later h s1 b1)
 |dY C=>rw[e]at h;exact h|bad=>rw[e]at h;exact h
def r6 (f:#[59])(τ:SD):Res Bool:=(f τ).bind λ b=>.ok (!b)
def lK (f g:#[59])(τ:SD):Res Bool:=(f τ).bind λ b=>if b=true then g τ else .ok false
def JW (f g:#[59])(τ:SD):Res Bool:=(f τ).bind λ b=>if b=true then .ok true else g τ
def tU (ha:PT X a (kJ X.K Y ga)):PT X (.UnaryOp .Not a pos) (kJ X.K Y (r6 ga)):=
 PT.imp (KZ ha) λ σ H Q hq=>ex8 hq λ H0 B0 B τ P F I h=>kJ.seq I h λ d H1 B1 I1 h1=>h1 H1 B1 I1 #[52] #[52]
def PW.imp{t t':TT}(h:PW X e t)(hi:∀ σ H Q,t' σ H Q->t σ H Q):PW X e t':=λ wh pins s σ H Q I hw=>h wh pins s σ H Q I (hi σ H Q hw)
def pF (ha:PT X a (kJ X.K Y ga)):PW X (.BoolOp .And [a] pos) (kJ X.K Y ga):=Hk ha
def EF (ha:PT X a (kJ X.K Y ga)):PW X (.BoolOp .Or [a] pos) (kJ X.K Y ga):=KD ha
def oE(ha:PT X a (kJ X.K Y ga))(hb:PW X (.BoolOp .And (b::rest) pos) (kJ X.K Y gb)):PW X (.BoolOp .And (a::b::rest) pos) (kJ X.K Y (lK ga gb)):=
 PW.imp (KP ha hb) λ σ H Q hq=>ex8 hq λ H0 B0 B τ P F I h=>kJ.seq I h λ d H1 B1 I1 h1=>by
  cases d with
  |true=>rw[QG rfl]at h1 ⊢;exact⟨H0,B0,B1,τ,P,F,I1,h1⟩| false=>rw[QK Qy]at h1 ⊢;exact h1 H1 B1 I1 #[52] #[52]
def EG(ha:PT X a (kJ X.K Y ga))(hb:PW X (.BoolOp .Or (b::rest) pos) (kJ X.K Y gb)):PW X (.BoolOp .Or (a::b::rest) pos) (kJ X.K Y (JW ga gb)):=
 PW.imp (M8 ha hb) λ σ H Q hq=>ex8 hq λ H0 B0 B τ P F I h=>kJ.seq I h λ d H1 B1 I1 h1=>by
  cases d with
  |true=>rw[QG rfl]at h1 ⊢;exact h1 H1 B1 I1 #[52] #[52]|false=>rw[QK Qy]at h1 ⊢;exact⟨H0,B0,B1,τ,P,F,I1,h1⟩
def NC (c:#[59])(f g:#[29])(τ:SD):Res D:=(c τ).bind λ b=>if b=true then f τ else g τ
def NB (hc:PT X c (kJ X.K Y ga))(ha:#[65])(hb:#[133]):PE X (.IfExp c a b pos) (tM X.K Y (NC ga fa fb)):=
 PE.imp (DW hc ha hb) λ σ H Q hq=>ex8 hq λ H0 B0 B τ P F I h=>kJ.Pk I h λ d H1 B1 I1 h1=>by
  cases d with
  |true=>rw[QG rfl]at h1 ⊢;exact⟨H0,B0,B1,τ,P,F,I1,h1⟩| false=>rw[QK Qy]at h1 ⊢;exact⟨H0,B0,B1,τ,P,F,I1,h1⟩
def Ak (f g:#[29])(τ:SD):Res D:=(f τ).bind λ d=>(Nq d).bind λ b=>if b=true then g τ else .ok (.bl false)
def EB (f:#[29])(τ:SD):Res D:=(f τ).bind λ d=>(Nq d).bind λ b=>.ok (.bl (!b))
def vP {d:D}{g:Bool->Res D}(r:Rep K B (· ∈ P) H d v f)(h:Goal K Y H0 B0 B H σ τ P F Q ((Nq d).bind g)):∃ c,v=.bl c/\f=[]/\Goal K Y H0 B0 B H σ τ P F Q (g c):=by
 cases d with
 |bl c=>exact⟨c,r.1,r.2,h⟩| _=>exact h.elim
def JY {op}(h:#[65]):PE X (.BoolOp op [a] pos) (tM X.K Y fa):=KH h
def EC(ha:#[65])(hb:PE X (.BoolOp .And (b::rest) pos) (tM X.K Y fb)):PE X (.BoolOp .And (a::b::rest) pos) (tM X.K Y (Ak fa fb)):=
 PE.imp (Kr ha hb) λ σ H Q hq=>ex8 hq λ H0 B0 B τ P F I h=>tM.seq I h λ d v H1 B1 fp _ I1 _ _ r1 _ h1=>by
  obtain⟨c,rfl,_,h2⟩:=vP r1 h1;refine⟨c,rfl,?_⟩;cases c with
  |true=>rw[QG rfl]at h2 ⊢;exact⟨H0,B0,B1,τ,P,F,I1,h2⟩| false=>rw[QK Qy]at h2 ⊢;exact Out.here h2 I1 ⟨rfl,rfl⟩
def JX (ha:#[65]):PE X (.UnaryOp .Not a pos) (tM X.K Y (EB fa)):=
 PE.imp (K0 ha) λ σ H Q hq=>ex8 hq λ H0 B0 B τ P F I h=>tM.seq I h λ d v H1 B1 fp _ I1 _ _ r1 _ h1=>by
  obtain⟨c,rfl,_,h2⟩:=vP r1 h1;exact⟨c,rfl,Out.here h2 I1 ⟨rfl,rfl⟩⟩
def gD (g:D->Res D)(f:#[29])(τ:SD):Res D:=(f τ).bind g
def lY:D->Res D|.int i=>.ok (.int (-i))|_=>.bad
def vO (ha:#[65]):PE X (.UnaryOp .USub a pos) (tM X.K Y (gD lY fa)):=
 PE.imp (MS Kw ha) λ σ H Q hq=>ex8 hq λ H0 B0 B τ P F I h=>tM.seq I h λ d v H1 B1 fp _ I1 _ _ r1 _ h1=>by
  cases d with
  |int i=>exact⟨i,r1.1,Out.here h1 I1 ⟨rfl,rfl⟩⟩| _=>exact h1.elim
def ak (_:SD):Res (List D):=.ok []
def aa (f:#[29])(g:#[34])(τ:SD):Res (List D):=(f τ).bind λ d=>(g τ).bind λ ds=>.ok (d::ds)
variable{fs:#[34]}
def bu:PA X [] (pB X.K Y ak):=PA.imp gP λ σ H Q hq=>ex8 hq λ H0 B0 B τ P F I h=>h [] H B [] I #[52] #[52] ⟨rfl,rfl⟩ fK.nil
def aB (ha:#[46])(hr:PA X es (pB X.K Y fs))(hs:#[5]:=by rfl):PA X (e::es) (pB X.K Y (aa fe fs)):=by
 refine PA.imp (cN ha hr hs) λ σ H Q hq=>ex8 hq λ H0 B0 B τ P F I h=>?_;refine⟨H0,B0,B,τ,P,F,I,?_⟩;unfold aa at h;cases z:fe τ with
 |dY C=>rw[z]at h;exact h|bad=>rw[z]at h;exact h
 | ok d =>
  rw[z]at h;intro v H1 B1 fp I1 s1 b1 r1 k1;refine⟨H0,B0,B1,τ,P,_,I1.hold k1,?_⟩;cases y:fs τ with
  |dY C=>rw[y]at h;exact oB.later h s1 b1 λ a x=>.inr x
  |bad=>rw[y]at h;exact h
  | ok ds =>
   rw[y]at h;intro vs H2 B2 fq I2 s2 b2 r2 k2;exact h (v::vs) H2 B2 (fp++fq) (I2.xg λ a x=>.inr x) (s1.trans s2) (b1.trans b2) ⟨v,vs,fp,fq,rfl,r1.mono s2 b2 (λ _ x=>x),r2,rfl⟩ (k1.both s2 I2 k2)
def pB.seq {f:#[34]}{Q':List V->Hp->Prop}{g:List D->Res D}(I:#[15])(h:Goal K Y H0 B0 B H σ τ P F Q ((f τ).bind g))
  (k:∀ ds vs H1 B1 fp,f τ=.ok ds->SI K H0 B0 B1 H1 σ τ P F->aD H H1->aD B B1->az K B1 (· ∈ P) H1 ds vs fp->fK H0 B1 H1 P F fp->Goal K Y H0 B0 B1 H1 σ τ P F Q (g ds)->Q' vs H1):pB K Y f σ H Q':=by
 refine⟨H0,B0,B,τ,P,F,I,?_⟩;cases e:f τ with
 | ok d =>
  rw[e]at h;intro v H1 B1 fp I1 s1 b1 r1 k1;exact k d v H1 B1 fp e I1 s1 b1 r1 k1 (Goal.later h s1 b1)
 |dY C=>rw[e]at h;exact h|bad=>rw[e]at h;exact h
def r8 (ds:List D):Res D:=if ds.length<=16777216 then .ok (.tup ds) else .bad
def bw (ds:List D):Res D:=if ds.length<=16777216 then .ok (.lst .own ds) else .bad
def eA (g:List D->Res D)(f:#[34])(τ:SD):Res D:=(f τ).bind g
def rH {x1}(h:PA X es (pB X.K Y fs)):PE X (.Tuple es x1 pos) (tM X.K Y (eA r8 fs)):=
 PE.imp (KG h) λ σ H Q hq=>ex8 hq λ H0 B0 B τ P F I h=>pB.seq I h λ ds vs H1 B1 fp _ I1 _ _ r1 k1 h1=>by
  unfold r8 at h1;split at h1
  ·rename_i hl;exact⟨by rw[<-r1.length];exact Lj hl,λ p hp=>Out.HV h1 I1 r1 k1 hp⟩
  ·exact h1.elim
def cP (h:PA X es (pB X.K Y fs)):PE X (.List es pos) (tM X.K Y (eA bw fs)):=
 PE.imp (K3 h) λ σ H Q hq=>ex8 hq λ H0 B0 B τ P F I h=>pB.seq I h λ ds vs H1 B1 fp _ I1 _ _ r1 k1 h1=>by
  unfold bw at h1;split at h1
  ·rename_i hl;exact⟨by rw[<-r1.length];exact Lj hl,λ p hp=>Out.xh h1 I1 r1 k1 hp⟩
  ·exact h1.elim
def jz (K:#[0])(Y:XY)(r:#[188])(g:List D->Res D):Prop:=∀ {H0 B0 B H:Hp}{σ:L2.St}{τ:SD}{P:#[9]}{F:#[30]}{ds:List D}{vs:List V}{f:#[9]}{Q:VK},
 SI K H0 B0 B H σ τ P F->az K B (· ∈ P) H ds vs f->fK H0 B H P F f->Goal K Y H0 B0 B H σ τ P F Q (g ds)->r vs H Q
def HY{id:String}{r:#[188]}{g:List D->Res D}(hc:eK X (.builtin id) r)(hgd:jz X.K Y r g)(hg:Gl X x)(hm:X.mg x=none)(hv:bootBuiltins x=some (.builtin id))(ha:#[97])(hn:#[115] :=by decide)(hdb:#[3]:=by decide)
  (he:#[5]:=by rfl) (hpl:#[35].any (·.1)=false:=by rfl) :
  PE X #[42] (tM X.K Y (eA g fs)):=
 PE.imp (lO hc hg hm hv ha hn hdb he hpl) λ σ H Q hq=>ex8 hq λ H0 B0 B τ P F I h=>pB.seq I h λ ds vs H1 B1 fp _ I1 _ _ r1 k1 h1=>hgd I1 r1 k1 h1
def EE{r:#[188]}{g:List D->Res D}(hc:eK X (.type T) r)(hgd:jz X.K Y r g)(hg:Gl X x)(hm:X.mg x=none)(hv:bootBuiltins x=some (.type T))(ha:#[97])(hn:#[115] :=by decide)(hdb:#[3]:=by decide)
  (he:#[5]:=by rfl) (hpl:#[35].any (·.1)=false:=by rfl) :
  PE X #[42] (tM X.K Y (eA g fs)):=
 PE.imp (Cn hc hg hm hv ha hn hdb he hpl) λ σ H Q hq=>ex8 hq λ H0 B0 B τ P F I h=>pB.seq I h λ ds vs H1 B1 fp _ I1 _ _ r1 k1 h1=>hgd I1 r1 k1 h1
def iK{d:D}(r:az K B S H [d] vs f):∃ v,vs=[v]/\Rep K B S H d v f:=by
 obtain⟨v,w,f1,f2,rfl,r1,r2,rfl⟩:=r;obtain⟨rfl,rfl⟩:=r2;exact⟨v,rfl,by rw[QQ];exact r1⟩
def JV{d e:D}(r:az K B S H [d,e] vs f):∃ v u f1 f2,vs=[v,u]/\f=f1++f2/\Rep K B S H d v f1/\Rep K B S H e u f2:=by
 obtain⟨v,w,f1,f2,rfl,r1,r2,rfl⟩:=r;obtain⟨u,rfl,r3⟩:=iK r2;exact⟨v,u,f1,f2,rfl,rfl,r1,r3⟩
def bP:List D->Res D
 |[.lst _ xs]=>.ok (.int xs.length)
 |[.tup xs]=>.ok (.int xs.length)
 |[.str z]=>if z.length<=16777216 then .ok (.int z.length) else .bad
 |_=>.bad
abbrev ND (K:#[0]):List V->Hp->VK->Prop:=λ xs H Q=>(∃ p ys,xs=[.ref p]/\(fH K H p ys\/k9 K H p ys)/\Q (.int ys.length) H)\/∃ z,xs=[.str z]/\z.length<=sizeLine/\Q (.int z.length) H
def bc:eK X (.builtin "len") (ND X.K):=eK.or wY wZ
def eL:jz K Y (ND K) bP:=by
 intro H0 B0 B H σ τ P F ds vs f Q I r k h;unfold bP at h;split at h
 ·obtain⟨v,rfl,r'⟩:=iK r;obtain⟨a,ws,g,rfl,q,l,s⟩:=r'.lst I;refine .inl ⟨a,ws,rfl,.inl (f9 q),?_⟩;rw[<-l.length];exact Out.here h I ⟨rfl,rfl⟩
 ·obtain⟨v,rfl,r'⟩:=iK r;obtain⟨a,ws,rfl,q,l⟩:=r'.tp;refine .inl ⟨a,ws,rfl,.inr q,?_⟩;rw[<-l.length];exact Out.here h I ⟨rfl,rfl⟩
 ·obtain⟨v,rfl,r'⟩:=iK r;obtain⟨rfl,rfl⟩:=r';split at h
  ·rename_i hl;exact .inr ⟨_,rfl,Lj hl,Out.here h I ⟨rfl,rfl⟩⟩
  ·exact h.elim
 ·exact h.elim
def j4:List D->Res D|[.int i,.int j]=>.ok (.int (if j>i then j else i))|_=>.bad
def j5:List D->Res D|[.int i,.int j]=>.ok (.int (if j<i then j else i))|_=>.bad
def xm:jz K Y (λ xs H Q=>∃ i j,xs=[.int i,.int j]/\Q (.int (if j>i then j else i)) H) j4:=by
 intro H0 B0 B H σ τ P F ds vs f Q I r k h;unfold j4 at h;split at h
 ·obtain⟨v,u,f1,f2,rfl,rfl,⟨rfl,rfl⟩,⟨rfl,rfl⟩⟩:=JV r;exact⟨_,_,rfl,Out.here h I ⟨rfl,rfl⟩⟩
 ·exact h.elim
def tV:jz K Y (λ xs H Q=>∃ i j,xs=[.int i,.int j]/\Q (.int (if j<i then j else i)) H) j5:=by
 intro H0 B0 B H σ τ P F ds vs f Q I r k h;unfold j5 at h;split at h
 ·obtain⟨v,u,f1,f2,rfl,rfl,⟨rfl,rfl⟩,⟨rfl,rfl⟩⟩:=JV r;exact⟨_,_,rfl,Out.here h I ⟨rfl,rfl⟩⟩
 ·exact h.elim
def vN:List D->Res D
 |[.lst _ xs]=>.ok (.lst .own xs)
 |[.tup xs]=>.ok (.lst .own xs)
 |_=>.bad
def ED:jz K Y (λ xs H Q=>∃ p ys,xs=[.ref p]/\(fH K H p ys\/k9 K H p ys)/\∀ l,H l=none->Q (.ref l) (upd H l (.lst ys))) vN:=by
 intro H0 B0 B H σ τ P F ds vs f Q I r k h;unfold vN at h;split at h
 ·obtain⟨v,rfl,r'⟩:=iK r;obtain⟨a,ws,g,rfl,q,l,s⟩:=r'.lst I;exact⟨a,ws,rfl,.inl (f9 q),λ p hp=>Out.xh h I l (k.sub s) hp⟩
 ·obtain⟨v,rfl,r'⟩:=iK r;obtain⟨a,ws,rfl,q,l⟩:=r'.tp;exact⟨a,ws,rfl,.inr q,λ p hp=>Out.xh h I l k hp⟩
 ·exact h.elim
def iV:List D->Res D
 |[.lst _ xs]=>.ok (.tup xs)
 |[.tup xs]=>.ok (.tup xs)
 |_=>.bad
def kK:jz K Y (λ xs H Q=>∃ p ys,xs=[.ref p]/\((fH K H p ys/\∀ l,H l=none->Q (.ref l) (upd H l (.tup ys)))\/(k9 K H p ys/\Q (.ref p) H))) iV:=by
 intro H0 B0 B H σ τ P F ds vs f Q I r k h;unfold iV at h;split at h
 ·obtain⟨v,rfl,r'⟩:=iK r;obtain⟨a,ws,g,rfl,q,l,s⟩:=r'.lst I;exact⟨a,ws,rfl,.inl ⟨f9 q,λ p hp=>Out.HV h I l (k.sub s) hp⟩⟩
 ·obtain⟨v,rfl,r'⟩:=iK r;obtain⟨a,ws,rfl,q,l⟩:=r'.tp;exact⟨a,ws,rfl,.inr ⟨q,Out.BB h I r' k⟩⟩
 ·exact h.elim
def eP (f:#[29])(τ:SD):Res (Option Int):=(f τ).bind λ d=>match d with|.int i=>.ok (some i)|_=>.bad
def MM (_:SD):Res (Option Int):=.ok none
def Ou (K:#[0])(Y:XY)(f:SD->Res (Option Int)):TO:=λ σ H Q=>∃ H0 B0 B τ P F,SI K H0 B0 B H σ τ P F/\match f τ with
 |.ok o=>∀ H' B',SI K H0 B0 B' H' σ τ P F->aD H H'->aD B B'->Q o H'
 |.dY C=>oB K Y H0 B0 B H σ τ P F C
 |.bad=>False
def PO.imp {e:Option Expr}{t t':TO}(h:PO X e t)(hi:∀ σ H Q,t' σ H Q->t σ H Q):PO X e t':=λ pins s σ H Q I hw=>h pins s σ H Q I (hi σ H Q hw)
def BE:PO X none (Ou X.K Y MM):=PO.imp HC λ σ H Q hq=>ex8 hq λ H0 B0 B τ P F I h=>h H B I #[52] #[52]
def jA (h:#[46]):PO X (some e) (Ou X.K Y (eP fe)):=by
 refine PO.imp (HF h) λ σ H Q hq=>ex8 hq λ H0 B0 B τ P F I h=>?_;refine⟨H0,B0,B,τ,P,F,I,?_⟩;unfold eP at h;cases z:fe τ with
 |dY C=>rw[z]at h;exact h|bad=>rw[z]at h;exact h
 | ok d =>
  rw[z]at h;intro v H1 B1 fp I1 s1 b1 r1 k1;cases d with
  |int i=>exact⟨i,r1.1,h H1 B1 I1 s1 b1⟩| _=>exact h.elim
def cut(xs:List α)(lo hi:Option Int):List α:=(xs.drop (HT.gi xs.length 0 lo)).take #[170]
def az.drop {S:#[30]}:∀ (n:Nat) {xs:List D}{vs:List V}{f:#[9]},az K B S H xs vs f->∃ g,az K B S H (xs.drop n) (vs.drop n) g/\List.Sublist g f
 |0,xs,vs,f,r=>⟨f,r,Rm _⟩
 | n+1,[],vs,f,r=>by
  obtain⟨rfl,rfl⟩:=r;exact⟨[],⟨rfl,rfl⟩,Rm _⟩
 | n+1,d::ds,vs,f,r=>by
  obtain⟨v,w,f1,f2,rfl,r1,r2,rfl⟩:=r;obtain⟨g,h1,h2⟩:=az.drop n r2;exact⟨g,h1,h2.trans (QZ _ _)⟩
def az.take {S:#[30]}:∀ (n:Nat) {xs:List D}{vs:List V}{f:#[9]},az K B S H xs vs f->∃ g,az K B S H (xs.take n) (vs.take n) g/\List.Sublist g f
 |0,xs,vs,f,r=>⟨[],⟨rfl,rfl⟩,List.nil_sublist _⟩
 | n+1,[],vs,f,r=>by
  obtain⟨rfl,rfl⟩:=r;exact⟨[],⟨rfl,rfl⟩,Rm _⟩
 | n+1,d::ds,vs,f,r=>by
  obtain⟨v,w,f1,f2,rfl,r1,r2,rfl⟩:=r;obtain⟨g,h1,h2⟩:=az.take n r2;exact⟨f1++g,⟨v,_,f1,g,rfl,r1,h1,rfl⟩,Ur (Rm _) h2⟩
def az.cut(r:az K B S H xs vs f)(lo hi:Option Int):∃ g,az K B S H (cut xs lo hi) (yo vs lo hi) g/\List.Sublist g f:=by
 unfold DL.cut yo;rw[r.length];obtain⟨g,h1,h2⟩:=r.drop (HT.gi vs.length 0 lo);obtain⟨g',h3,h4⟩:=h1.take (HT.gi vs.length vs.length hi-HT.gi vs.length 0 lo);exact⟨g',h3,h4.trans h2⟩
def cutD (d:D)(lo hi:Option Int):Res D:=match d with
 |.lst _ xs=>.ok (.lst .own (cut xs lo hi))
 |.tup xs=>if HT.gi xs.length 0 lo=0/\HT.gi xs.length xs.length hi=xs.length then .bad else .ok (.tup (cut xs lo hi))
 |_=>.bad
def lZ (f:#[29])(lo hi:SD->Res (Option Int))(τ:SD):Res D:=(f τ).bind λ d=>(lo τ).bind λ l=>(hi τ).bind λ u=>cutD d l u
def pG {lo hi:Option Expr}{fl fh:SD->Res (Option Int)}{p2:Pos}(he:#[46])(hl:PO X lo (Ou X.K Y fl))(hu:PO X hi (Ou X.K Y fh)):PE X (.Subscript e (.Slice lo hi none p2) pos) (tM X.K Y (lZ fe fl fh)):=by
 refine PE.imp (Ed (JR.or HA Lc) he hl hu) λ σ H Q hq=>ex8 hq λ H0 B0 B τ P F I h=>?_;refine tM.seq I h λ d v H1 B1 fp _ I1 s1 b1 r1 k1 h1=>?_;refine⟨H0,B0,B1,τ,P,_,I1.hold k1,?_⟩;cases z:fl τ with
 |dY C=>rw[z]at h1;exact oB.later h1 #[52] #[52] λ a x=>.inr x
 |bad=>rw[z]at h1;exact h1
 | ok l =>
  rw[z]at h1;intro H2 B2 I2 s2 b2;refine⟨H0,B0,B2,τ,P,_,I2,?_⟩;cases y:fh τ with
  |dY C=>rw[y]at h1;exact oB.later h1 s2 b2 λ a x=>.inr x
  |bad=>rw[y]at h1;exact h1
  | ok u =>
   rw[y]at h1;intro H3 B3 I3 s3 b3;have I4:=I3.xg (F':=F) λ a x=>.inr x;have k4:=k1.NF (s2.trans s3) I3;have r4:=r1.mono (s2.trans s3) (b2.trans b3) λ _ x=>x;have h4:Goal X.K Y H0 B0 B3 H3 σ τ P F Q (cutD d l u):=Goal.later h1 (s2.trans s3) (b2.trans b3);unfold cutD at h4;split at h4
   ·obtain⟨a,vs,g,rfl,q,l',s⟩:=r4.lst I4;obtain⟨g',l2,s2⟩:=l'.cut l u;exact .inl ⟨a,vs,rfl,f9 q,λ p hp=>Out.xh h4 I4 l2 (k4.sub (s2.trans s)) hp⟩
   ·obtain⟨a,vs,rfl,q,l'⟩:=r4.tp;obtain⟨g',l2,s2⟩:=l'.cut l u;split at h4
    ·exact h4.elim
    ·rename_i hc;rw[l'.length]at hc;exact .inr ⟨a,vs,rfl,q,hc,λ p hp=>Out.HV h4 I4 l2 (k4.sub s2) hp⟩
   ·exact h4.elim
end
inductive Fl where|nx (τ:SD)|rt (d:D)|bk (τ:SD)|ct (τ:SD)|ex (C:Addr)(τ:SD)|bad
abbrev SF:=SD->Fl
def Tg.fg:Tg->Tg|.bor=>.av|t=>t
mutual
def D.fg:D->D
 |.tup xs=>.tup (ji xs)
 |.lst t xs=>.lst t.fg (ji xs)
 |.dct t k ks vs=>.dct t.fg k ks (ji vs)
 |d=>d
def ji:List D->List D
 |[]=>[]
 |d::r=>d.fg::ji r
end
mutual
def tX:∀ d:D,d.aN=false->d.fg=d
 |.bW,_=>rfl|.bl _,_=>rfl|.int _,_=>rfl|.str _,_=>rfl|.exc _,_=>rfl
 | .tup xs,h=>by
  have h:aJ xs=false:=h;show D.tup (ji xs)=_;rw[j8 xs h]
 | .lst t xs,h=>by
  have h:(decide (t=.bor)||aJ xs)=false:=h;rw[Sf]at h;show D.lst t.fg (ji xs)=_;rw[j8 xs h.2];cases t<;>first|rfl|exact absurd h.1 #[10]
 | .dct t k ks vs,h=>by
  have h:(decide (t=.bor)||aJ vs)=false:=h;rw[Sf]at h;show D.dct t.fg k ks (ji vs)=_;rw[j8 vs h.2];cases t<;>first|rfl|exact absurd h.1 #[10]
def j8:∀ xs:List D,aJ xs=false->ji xs=xs
 |[],_=>rfl
 | d::r,h=>by
  have h:(d.aN||aJ r)=false:=h;rw[Sf]at h;show d.fg::ji r=_;rw[tX d h.1,j8 r h.2]
end
section
variable {K:#[0]}
mutual
def Rep.fg {B B' H:Hp}{S:#[30]}(sB:aD B B')(hs:#[122]):∀ {d:D}{v:V}{fp:#[9]},Rep K B S H d v fp->Rep K B' No H d.fg v fp
 |.bW,_,_,h=>h
 |.bl _,_,_,h=>h
 |.int _,_,_,h=>h
 |.str _,_,_,h=>h
 |.exc _,_,_,h=>h
 |.tup xs,v,fp,h=>let ⟨a,vs,e,q,r⟩:=h;⟨a,vs,e,q,az.fg sB hs r⟩
 |.lst .own xs,v,fp,h=>let ⟨a,vs,f,e,q,r,z⟩:=h;⟨a,vs,f,e,q,az.fg sB hs r,z⟩
 |.lst .bor xs,v,fp,h=>let ⟨a,vs,e,q,r,z⟩:=h;⟨a,vs,e,Ew sB hs q,az.fg sB hs r,z⟩
 |.lst .av xs,v,fp,h=>let ⟨a,vs,e,q,r,z⟩:=h;⟨a,vs,e,eV sB q,az.fg sB (λ _ _ x=>x.elim) r,z⟩
 |.lst (.len _) _,_,_,h=>h.elim
 |.dct (.len a) kd ks xs,v,fp,h=>let ⟨vs,f,e,q,r,z⟩:=h;⟨vs,f,e,q,az.fg sB hs r,z⟩
 |.dct .own kd ks xs,v,fp,h=>let ⟨a,vs,f,e,q,r,z⟩:=h;⟨a,vs,f,e,q,az.fg sB hs r,z⟩
 |.dct .bor kd ks xs,v,fp,h=>let ⟨a,vs,e,q,r,z⟩:=h;⟨a,vs,e,mZ sB hs q,az.fg sB hs r,z⟩
 |.dct .av kd ks xs,v,fp,h=>let ⟨a,vs,e,q,r,z⟩:=h;⟨a,vs,e,q.mono sB,az.fg sB (λ _ _ x=>x.elim) r,z⟩
def az.fg {B B' H:Hp}{S:#[30]}(sB:aD B B')(hs:#[122]):∀ {ds:List D}{vs:List V}{fp:#[9]},az K B S H ds vs fp->az K B' No H (ji ds) vs fp
 |[],_,_,h=>h
 |d::ds,vs,fp,h=>let ⟨v,r,f,g,e,h1,h2,z⟩:=h;⟨v,r,f,g,e,Rep.fg sB hs h1,az.fg sB hs h2,z⟩
end
def j6 (H H':Hp):Prop:=∀ a o,H a=some o->¬ rZ o->H' a=some o
def j6.of(s:aD H H'):j6 H H':=λ a o h _=>s a o h
def j6.refl (H:Hp):j6 H H:=λ _ _ h _=>h
def j6.trans {H2:Hp}(a:j6 H H1)(b:j6 H1 H2):j6 H H2:=λ x o h n=>b x o (a x o h n) n
structure l4 (K:PySem.W.Frag)(H0 B0 B H:Hp)(B' H':Hp)(σ':L2.St)(τ':SD)(P':List Addr):Prop where
 si:SI K H0 B0 B' H' σ' τ' P' No
 b:aD B B'
 DR:j6 H H'
structure g6 (K:PySem.W.Frag)(H0 B0 B' H':Hp)(d:D)(v:V)(fp:List Addr):Prop where
 h0:aD H0 H'
 b0:aD B0 B'
 bh:aD B' H'
 nb:∀ a,B' a≠none->B0 a≠none\/H0 a=none
 rep:Rep K B' No H' d v fp
 nd:fp.Nodup
 own:∀ a∈fp,B' a=none/\H0 a=none/\H' a≠none
def MN (K:#[0])(H0 B0:Hp)(E:Ends):D->Prop
 |.tup [r,x]=>∀ B' H' v u f1 f2,g6 K H0 B0 B' H' r v f1->Rep K B' No H' x u f2->(f1++f2).Nodup->(∀ b∈f2,B' b=none/\H0 b=none/\H' b≠none)->E.rt v H'
 |_=>False
def bY (K:#[0])(Y:XY)(H0 B0 B H:Hp)(E:Ends):Fl->Prop
 |.nx τ'=>∀ B' H' σ' P',l4 K H0 B0 B H B' H' σ' τ' P'->E.nx σ' H'
 |.bk τ'=>∀ B' H' σ' P',l4 K H0 B0 B H B' H' σ' τ' P'->E.bk σ' H'
 |.ct τ'=>∀ B' H' σ' P',l4 K H0 B0 B H B' H' σ' τ' P'->E.ct σ' H'
 |.ex C τ'=>∀ B' H' σ' P',l4 K H0 B0 B H B' H' σ' τ' P'->Y C σ' H'
 | .rt d=>match Y.ln with
  |false=>∀ B' H' v fp,g6 K H0 B0 B' H' d v fp->E.rt v H'
  |true=>MN K H0 B0 E d
 |.bad=>False
def jf (K:#[0])(Y:XY)(g:SF):TS:=λ E σ H=>∃ H0 B0 B τ P,SI K H0 B0 B H σ τ P No/\bY K Y H0 B0 B H E (g τ)
variable{E:Ends}
def l4.refl (I:SI K H0 B0 B H σ τ P No):l4 K H0 B0 B H B H σ τ P:=⟨I,aD.refl _,j6.refl _⟩
def l4.grow(I:SI K H0 B0 B' H' σ τ P No)(sB:aD B B')(sH:aD H H'):l4 K H0 B0 B H B' H' σ τ P:=⟨I,sB,j6.of sH⟩
def l4.trans {B2 H2:Hp}{σ1 σ2:L2.St}{τ1 τ2:SD}{P1 P2:#[9]}(a:l4 K H0 B0 B H B1 H1 σ1 τ1 P1)(b:l4 K H0 B0 B1 H1 B2 H2 σ2 τ2 P2):l4 K H0 B0 B H B2 H2 σ2 τ2 P2:=⟨b.si,a.b.trans b.b,a.DR.trans b.DR⟩
def bY.later{σ1:L2.St}{τ1:SD}{P1:#[9]}{r:Fl}(h:bY K Y H0 B0 B H E r)(a:l4 K H0 B0 B H B1 H1 σ1 τ1 P1):bY K Y H0 B0 B1 H1 E r:=by
 cases r with
 |nx τ'=>exact λ B' H' σ' P' b=>h B' H' σ' P' (a.trans b)
 |bk τ'=>exact λ B' H' σ' P' b=>h B' H' σ' P' (a.trans b)
 |ct τ'=>exact λ B' H' σ' P' b=>h B' H' σ' P' (a.trans b)
 |ex C τ'=>exact λ B' H' σ' P' b=>h B' H' σ' P' (a.trans b)
 |rt d=>exact h|bad=>exact h
def bY.rt {d:D}(hl:Y.ln=false)(h:bY K Y H0 B0 B H E (.rt d)):∀ B' H' v fp,g6 K H0 B0 B' H' d v fp->E.rt v H':=by
 have h:(match Y.ln with|false=>∀ B' H' v fp,g6 K H0 B0 B' H' d v fp->E.rt v H'|true=>MN K H0 B0 E d):=h;rw[hl]at h;exact h
def bY.PZ {d:D}(hl:Y.ln=true)(h:bY K Y H0 B0 B H E (.rt d)):MN K H0 B0 E d:=by
 have h:(match Y.ln with|false=>∀ B' H' v fp,g6 K H0 B0 B' H' d v fp->E.rt v H'|true=>MN K H0 B0 E d):=h;rw[hl]at h;exact h
def Fl.andThen (r:Fl)(s:SF):Fl:=match r with|.nx τ=>s τ|r=>r
def aE (a b:SF)(τ:SD):Fl:=(a τ).andThen b
def bD (τ:SD):Fl:=.nx τ
variable{st:Stmt}{rest:List Stmt}{g g1 g2:SF}
def du:kF X [] (jf X.K Y bD):=kF.imp Ht λ E σ H hq=>ex7 hq λ H0 B0 B τ P I h=>h B H σ P (l4.refl I)
def aC (h:PS X st (jf X.K Y g)):kF X [st] (jf X.K Y g):=Bk h
def aq (h1:PS X st (jf X.K Y g1))(h2:kF X rest (jf X.K Y g2)):kF X (st::rest) (jf X.K Y (aE g1 g2)):=by
 refine kF.imp (DV h1 h2) λ E σ H hq=>ex7 hq λ H0 B0 B τ P I h=>⟨H0,B0,B,τ,P,I,?_⟩;unfold aE at h;cases e:g1 τ with
 |nx τ'=>rw[e]at h;exact λ B' H' σ' P' a=>⟨H0,B0,B',τ',P',a.si,bY.later h a⟩
 |bk τ'=>rw[e]at h;exact h|ct τ'=>rw[e]at h;exact h|ex C τ'=>rw[e]at h;exact h|rt d=>rw[e]at h;exact h|bad=>rw[e]at h;exact h
def Res.ja (τ:SD)(r:Res D)(k:D->Fl):Fl:=match r with|.ok d=>k d|.dY C=>.ex C τ|.bad=>.bad
def Res.tZ (τ:SD)(r:Res Bool)(k:Bool->Fl):Fl:=match r with|.ok d=>k d|.dY C=>.ex C τ|.bad=>.bad
def j7 {f:#[29]}{k:D->Fl}(I:SI K H0 B0 B H σ τ P No)(h:bY K Y H0 B0 B H E ((f τ).ja τ k))
  (c:∀ d v H1 B1 fp,f τ=.ok d->SI K H0 B0 B1 H1 σ τ P No->aD H H1->aD B B1->Rep K B1 (· ∈ P) H1 d v fp->fK H0 B1 H1 P No fp->bY K Y H0 B0 B1 H1 E (k d)->Q v H1):tM K Y f σ H Q:=by
 refine⟨H0,B0,B,τ,P,No,I,?_⟩;cases e:f τ with
 | ok d =>
  rw[e]at h;intro v H1 B1 fp I1 s1 b1 r1 k1;exact c d v H1 B1 fp e I1 s1 b1 r1 k1 (bY.later h (l4.grow I1 b1 s1))
 |dY C=>rw[e]at h;exact λ H1 B1 I1 s1 b1=>h B1 H1 σ P (l4.grow I1 b1 s1)
 |bad=>rw[e]at h;exact h
def JZ {f:#[59]}{k:Bool->Fl}{Q:#[129]}(I:SI K H0 B0 B H σ τ P No)(h:bY K Y H0 B0 B H E ((f τ).tZ τ k))
  (c:∀ d H1 B1,f τ=.ok d->SI K H0 B0 B1 H1 σ τ P No->aD H H1->aD B B1->bY K Y H0 B0 B1 H1 E (k d)->Q d H1):kJ K Y f σ H Q:=by
 refine⟨H0,B0,B,τ,P,No,I,?_⟩;cases e:f τ with
 |ok d=>rw[e]at h;exact λ H1 B1 I1 s1 b1=>c d H1 B1 e I1 s1 b1 (bY.later h (l4.grow I1 b1 s1))
 |dY C=>rw[e]at h;exact λ H1 B1 I1 s1 b1=>h B1 H1 σ P (l4.grow I1 b1 s1)
 |bad=>rw[e]at h;exact h
variable {c:Expr}
def tY (f:#[29])(τ:SD):Fl:=(f τ).ja τ λ _=>.nx τ
def EI (he:#[46])(hs:swapsWith e none pos.line X.env=pure false:=by rfl):PS X (.Expr e pos) (jf X.K Y (tY fe)):=
 PS.imp (oX he hs) λ E σ H hq=>ex7 hq λ H0 B0 B τ P I h=>j7 I h λ d v H1 B1 fp _ I1 _ _ _ _ h1=>h1 B1 H1 σ P (l4.refl I1)
def fZ (c:#[59])(a b:SF)(τ:SD):Fl:=(c τ).tZ τ λ t=>if t=true then a τ else b τ
def gB {a b:List Stmt}(hc:PT X c (kJ X.K Y gc))(ha:kF X a (jf X.K Y g1))(hb:kF X b (jf X.K Y g2)):PS X (.If c a b pos) (jf X.K Y (fZ gc g1 g2)):=
 PS.imp (MR hc ha hb) λ E σ H hq=>ex7 hq λ H0 B0 B τ P I h=>JZ I h λ d H1 B1 _ I1 _ _ h1=>by
  cases d with
  |true=>rw[QG rfl]at h1 ⊢;exact⟨H0,B0,B1,τ,P,I1,h1⟩| false=>rw[QK Qy]at h1 ⊢;exact⟨H0,B0,B1,τ,P,I1,h1⟩
def atRest (B H:Hp)(S:#[30]):Hp:=λ a=>by classical exact if S a then H a else B a
def dZ(h:aD B H):aD B (atRest B H S):=λ a o e=>by
 unfold atRest;split
 ·exact h a o e
 ·exact e
def fS(s:S a)(h:H a=some o):atRest B H S a=some o:=by unfold atRest;rw[QG s];exact h
def iD(h:aD B H):aD (atRest B H S) H:=λ a o e=>by
 unfold atRest at e;split at e
 ·exact e
 ·exact h a o e
def iL(s:¬ S a):atRest B H S a=B a:=by unfold atRest;rw[QK s]
def dX (f:#[29])(τ:SD):Fl:=(f τ).ja τ λ d=>.rt d.fg
def EH {d:D}(I:#[15])(r:Rep K B (· ∈ P) H d v fp)(k:fK H0 B H P F fp):g6 K H0 B0 (atRest B H (· ∈ P)) H d.fg v fp where
 h0:=I.h0
 b0:=I.b0.trans (dZ I.bh)
 bh:=iD I.bh
 nb:=λ a n=>by
  by_cases m:a∈P
  ·exact .inr (I.own a m).2.1
  ·rw[iL m]at n;exact I.nb a n
 rep:=r.fg (dZ I.bh) λ a o s h=>fS s h
 nd:=k.nd
 own:=λ a m=>let ⟨a1,a2,a3,a4,_⟩:=k.own a m;⟨by rw[iL a4];exact a1,a2,a3⟩
def dH (he:#[46])(hl:Y.ln=false:=by rfl):PS X (.Return (some e) pos) (jf X.K Y (dX fe)):=
 PS.imp (sX he) λ E σ H hq=>ex7 hq λ H0 B0 B τ P I h=>j7 I h λ d v H1 B1 fp _ I1 _ _ r1 k1 h1=>(bY.rt hl h1) _ H1 v fp (EH I1 r1 k1)
def iM (i:Nat)(τ:SD):Fl:=match τ[i]? with|some (some d)=>.rt d|_=>.bad
def jO (i:Nat)(hN:#[78]:=by rfl)(hv:zS X.env.scope x:=by first|exact Or.inl rfl|exact Or.inr (Or.inl rfl)|exact Or.inr (Or.inr rfl))(hd:#[3]:=by decide)
  (hcd:#[44]:=by decide) (hl:Y.ln=false:=by rfl):PS X (.Return (some (.Name x pos')) pos) (jf X.K Y (iM i)):=by
 refine PS.imp (sX (ic hN hv hd hcd)) λ E σ H hq=>ex7 hq λ H0 B0 B τ P I h=>?_;unfold iM at h;cases e:τ[i]? with
 |none=>rw[e]at h;exact h.elim
 | some o =>
  cases o with
  |none=>rw[e]at h;exact h.elim
  | some d =>
   rw[e]at h;obtain⟨v,f,h1,h2,h3⟩:=I.rep.get e;refine⟨v,h1,(bY.rt hl h) B H v f ⟨I.h0,I.b0,I.bh,I.nb,h2,I.nd.sublist h3,λ a m=>?_⟩⟩;obtain⟨a1,a2,a3⟩:=I.own a (h3.subset m);exact⟨a1,a2,I.stands (h3.subset m)⟩
def cU.length {B H:Hp}:∀ {τ:SD}{σ:L2.St}{P:#[9]},cU K B H τ σ P->τ.length=σ.length
 |[],_,_,h=>by rw[h.1];rfl
 |none::r,σ,P,h=>by obtain⟨o,t,rfl,h⟩:=h;rw[QP,QP,cU.length h]
 |some d::r,σ,P,h=>by obtain⟨v,t,f,g,rfl,_,h,_⟩:=h;rw[QP,QP,cU.length h]
def cU.cut {B H:Hp}:∀ {τ:SD}{σ:L2.St}{P:#[9]}{i:Nat},cU K B H τ σ P->i<τ.length->∃ A f C,P=A++f++C/\(∀ d,τ[i]?=some (some d)->∃ v,σ[i]?=some (some v)/\Rep K B No H d v f) /\
  ∀ {B' H':Hp}{d':D}{v':V}{f':#[9]},(∀ d v g,Rep K B No H d v g->(∀ a∈g,a∈A++C)->Rep K B' No H' d v g)->Rep K B' No H' d' v' f'->cU K B' H' (τ.set i (some d')) (σ.set i (some v')) (A++f'++C)
 |[],σ,P,i,h,hi=>absurd hi (Sz _)
 | none::r,σ,P,0,h,hi=>by
  obtain⟨o,t,rfl,h⟩:=h;refine⟨[],[],P,rfl,λ d e=>by simp at e,λ {B' H' d' v' f'} hm hr=>⟨v',t,f',P,rfl,hr,?_,rfl⟩⟩
  revert hm
  have key:∀ {τ:SD}{σ:L2.St}{Q:#[9]},cU K B H τ σ Q->(∀ d v g,Rep K B No H d v g->(∀ a∈g,a∈Q)->Rep K B' No H' d v g)->cU K B' H' τ σ Q:=by
   intro τ
   induction τ with
   |nil=>intro σ Q h _;exact h
   | cons o r ih =>
    intro σ Q h hm;cases o with
    |none=>obtain⟨o,t,e,h⟩:=h;exact⟨o,t,e,ih h hm⟩
    | some d =>
     obtain⟨v,t,f,g,e,h1,h2,z⟩:=h;subst z;exact⟨v,t,f,g,e,hm d v f h1 (λ a m=>QR _ m),ih h2 (λ d v g' hr hg=>hm d v g' hr λ a m=>QJ _ (hg a m)),rfl⟩
  exact λ hm=>key h hm
 | some d::r,σ,P,0,h,hi=>by
  obtain⟨v,t,f,g,rfl,h1,h2,rfl⟩:=h;refine⟨[],f,g,by simp,λ d' e=>⟨v,rfl,?_⟩,λ {B' H' d' v' f'} hm hr=>⟨v',t,f',g,rfl,hr,?_,rfl⟩⟩
  ·have e:d=d':=by simpa using e
   subst e;exact h1
  ·have key:∀ {τ:SD}{σ:L2.St}{Q:#[9]},cU K B H τ σ Q->(∀ d v g,Rep K B No H d v g->(∀ a∈g,a∈Q)->Rep K B' No H' d v g)->cU K B' H' τ σ Q:=by
    intro τ
    induction τ with
    |nil=>intro σ Q h _;exact h
    | cons o r ih =>
     intro σ Q h hm;cases o with
     |none=>obtain⟨o,t,e,h⟩:=h;exact⟨o,t,e,ih h hm⟩
     | some d =>
      obtain⟨v,t,f,g,e,h1,h2,z⟩:=h;subst z;exact⟨v,t,f,g,e,hm d v f h1 (λ a m=>QR _ m),ih h2 (λ d v g' hr hg=>hm d v g' hr λ a m=>QJ _ (hg a m)),rfl⟩
   exact key h2 hm
 | none::r,σ,P,i+1,h,hi=>by
  obtain⟨o,t,rfl,h⟩:=h;obtain⟨A,f,C,e,h1,h2⟩:=cU.cut (i:=i) h (by simpa using hi);exact⟨A,f,C,e,λ d z=>h1 d (by simpa using z),λ hm hr=>⟨o,_,rfl,h2 hm hr⟩⟩
 | some d::r,σ,P,i+1,h,hi=>by
  obtain⟨v,t,f,g,rfl,r1,r2,rfl⟩:=h;obtain⟨A,f',C,e,h1,h2⟩:=cU.cut (i:=i) r2 (by simpa using hi);subst e;refine⟨f++A,f',C,by simp,λ d z=>h1 d (by simpa using z),λ {B' H' d' v' f''} hm hr=>?_⟩;refine⟨v,_,f,A++f''++C,rfl,hm d v f r1 λ a m=>by simp[m],h2 (λ d v g hr hg=>hm d v g hr λ a m=>?_) hr,by simp⟩;have:=hg a m;simp at this ⊢;rcases this with z|z
  ·exact .inr (.inl z)
  ·exact .inr (.inr z)
def SI.put{d':D}{v':V}{f':#[9]}(I:#[15])(hi:i<τ.length){A C:#[9]}(eP:P=A++f++C)
  (put:∀ {B' H':Hp}{d':D}{v':V}{f':#[9]},(∀ d v g,Rep K B No H d v g->(∀ a∈g,a∈A++C)->Rep K B' No H' d v g)->Rep K B' No H' d' v' f'->cU K B' H' (τ.set i (some d')) (σ.set i (some v')) (A++f'++C))
  (kp:kI H H1 f) (r:Rep K B No H1 d' v' f') (nd:f'.Nodup) (own:∀ a∈f',a∈f\/(B a=none/\H0 a=none/\H a=none/\¬ F a)\/(a∉P/\B a=none/\H0 a=none/\¬ F a)) :
  SI K H0 B0 B H1 (σ.set i (some v')) (τ.set i (some d')) (A++f'++C) F:=by
 have nd0:=I.nd;rw[eP]at nd0;have ndA:A.Nodup:=(nd0.sublist #[32]).sublist (Rp A (f++C));have kb:∀ a o,B a=some o->a∉f:=λ a o e m=>by
  have:=(I.own a (by rw[eP];simp[m])).1;rw[e]at this;cases this
 have k0:∀ a o,H0 a=some o->a∉f:=λ a o e m=>by
  have:=(I.own a (by rw[eP];simp[m])).2.1;rw[e]at this;cases this
 have kf:∀ a,F a->a∉f:=λ a e m=>(I.own a (by rw[eP];simp[m])).2.2 e;have notin:∀ a∈f',a∉A/\a∉C:=λ a m=>by
  rcases own a m with q|q|q
  ·rw[QY,QL]at nd0;obtain⟨n1,n2,n3⟩:=nd0;rw[QL]at n2;exact⟨λ z=>n3 a z a (by simp[q]) rfl,λ z=>n2.2.2 a q a z rfl⟩
  ·exact⟨λ z=>I.stands (a:=a) (by rw[eP];simp[z]) q.2.2.1,λ z=>I.stands (a:=a) (by rw[eP];simp[z]) q.2.2.1⟩
  ·exact⟨λ z=>q.1 (by rw[eP];simp[z]),λ z=>q.1 (by rw[eP];simp[z])⟩
 refine⟨λ a o e=>kp.keep a o (I.bh a o e) (kb a o e),λ a o e=>kp.keep a o (I.h0 a o e) (k0 a o e),I.b0,I.nb,?_,?_,λ a m=>?_,λ a m=>⟨(I.fr a m).1,λ z=>?_⟩⟩
 ·refine put (λ d v g hr hg=>hr.keep kp λ a m z=>?_) r;have h1:=hg a m;rw[QY,QL]at nd0;obtain⟨n1,n2,n3⟩:=nd0;rw[QL]at n2;rcases QH.mp h1 with q|q
  ·exact n3 a q a (by simp[z]) rfl
  ·exact n2.2.2 a z a q rfl
 ·rw[QY,QL]at nd0 ⊢;obtain⟨n1,n2,n3⟩:=nd0;rw[QL]at n2;refine⟨n1,QL.mpr ⟨nd,n2.2.1,λ a ha b hb e=>?_⟩,λ a ha b hb e=>?_⟩
  ·subst e;exact(notin a ha).2 hb
  ·subst e;rcases QH.mp hb with q|q
   ·exact(notin a q).1 ha
   ·exact n3 a ha a (by simp[q]) rfl
 ·rcases QH.mp m with q|q
  ·rcases QH.mp q with q|q
   ·exact I.own a (by rw[eP];simp[q])
   ·rcases own a q with q|q|q
    ·exact I.own a (by rw[eP];simp[q])
    ·exact⟨q.1,q.2.1,q.2.2.2⟩
    ·exact⟨q.2.1,q.2.2.1,q.2.2.2⟩
  ·exact I.own a (by rw[eP];simp[q])
 ·obtain⟨o,e⟩:=S9.mp (I.fr a m).2;rw[kp.keep a o e (kf a m)]at z;cases z
def kI.same(h:∀ a∈f,∃ o,H a=some o/\rZ o):kI H H f:=⟨λ _ _ h _=>h,h⟩
def eQ (A f C:#[9]):∀ a∈f,a∈A++f++C:=λ a m=>by simp[m]
def SI.set {d:D}(i:Nat)(I:#[15])(r:Rep K B No H d v fp)(k:fK H0 B H P F fp):∃ P',SI K H0 B0 B H (σ.set i (some v)) (τ.set i (some d)) P' F/\∀ a∈P',a∈P\/a∈fp:=by
 by_cases hi:i<τ.length
 ·obtain⟨A,f,C,e,h1,h2⟩:=I.rep.cut hi;refine⟨_,I.put hi e h2 (kI.same λ a m=>I.rep.own a (by rw[e];exact eQ A f C a m)) r k.nd λ a m=>.inr (.inr ?_),λ a m=>?_⟩
  ·obtain⟨a1,a2,a3,a4,a5⟩:=k.own a m;exact⟨a4,a1,a2,a5⟩
  ·rw[e];simp at m ⊢;rcases m with m|m|m<;>simp[m]
 ·have e1:τ.set i (some d)=τ:=List.set_eq_of_length_le #[1];have e2:σ.set i (some v)=σ:=List.set_eq_of_length_le (by rw[<-I.rep.length];omega);rw[e1,e2];exact⟨P,I,λ a m=>.inl m⟩
def Ia (i:Nat)(τ:SD)(d:D):Fl:=if d.aN=true then .bad else .nx (τ.set i (some d))
def aL (i:Nat)(f:#[29])(τ:SD):Fl:=(f τ).ja τ (Ia i τ)
def NH(hN:X.N.Nodup)(hi:#[78])(hx:#[189])(he:#[46])(hs:#[70]:=by rfl)(hf:#[23]:=by first|exact .inl rfl|exact .inr rfl) :
  PS X (.Assign [.Name x pos'] e pos) (jf X.K Y (aL i fe)):=
 PS.imp (wV hN hi hx he hs hf) λ E σ H hq=>ex7 hq λ H0 B0 B τ P I h=>j7 I h λ d v H1 B1 fp _ I1 _ _ r1 k1 h1=>by
  unfold Ia at h1;split at h1
  ·exact h1.elim
  ·rename_i hb;obtain⟨P',I',_⟩:=I1.set i (r1.gj (by simpa using hb)) k1;exact h1 B1 H1 _ P' ⟨I',aD.refl _,j6.refl _⟩
def fj (js:#[118])(τ:SD):SD:=js.foldl (λ t j=>match t[j]? with|some (some d)=>t.set j (some d.av)|_=>t) τ
def SI.sd (j:Nat){d:D}(I:SI K H0 B0 B H σ τ P No)(hd:τ[j]?=some (some d)):∃ B' P',aD B B'/\SI K H0 B0 B' H σ (τ.set j (some d.av)) P' No:=by
 have hi:j<τ.length:=(Qt.mp hd).1;obtain⟨A,f,C,e,h1,h2⟩:=I.rep.cut hi;obtain⟨v,e1,r1⟩:=h1 d hd;have sB:aD B (atRest B H (· ∈ f)):=dZ I.bh;have nd0:=I.nd;rw[e]at nd0;have dis:∀ a∈A++C,a∉f:=λ a m z=>by
  rw[QY,QL]at nd0;obtain⟨n1,n2,n3⟩:=nd0;rw[QL]at n2;rcases QH.mp m with q|q
  ·exact n3 a q a (by simp[z]) rfl
  ·exact n2.2.2 a z a q rfl
 have es:σ.set j (some v)=σ:=by
  refine SE λ k=>?_;by_cases hk:k=j
  ·subst hk;rw[RW (Qt.mp e1).1,e1]
  ·rw[Se (Rr hk)]
 have rr:=h2 (B':=atRest B H (· ∈ f)) (H':=H) (d':=d.av) (v':=v) (f':=[]) (λ d v g hr hg=>hr.mono #[52] sB λ _ x=>x) (r1.av sB (λ a o s=>s.elim) λ a m o ho=>fS m ho);rw[es]at rr;refine⟨atRest B H (· ∈ f),A++[]++C,sB,iD I.bh,I.h0,I.b0.trans sB,λ a n=>?_,rr,?_,λ a m=>?_,λ a m=>m.elim⟩
 ·by_cases m:a∈f
  ·exact .inr (I.own a (by rw[e];exact eQ A f C a m)).2.1
  ·rw[iL m]at n;exact I.nb a n
 ·rw[QQ];refine nd0.sublist ?_;rw[QY];exact Ur (Rm _) (QZ _ _)
 ·rw[QQ]at m;obtain⟨a1,a2,a3⟩:=I.own a (by rw[e];rcases QH.mp m with q|q<;>simp[q]);exact⟨by rw[iL (dis a m)];exact a1,a2,λ x=>x⟩
def SI.fj:∀ (js:#[118]) {B:Hp}{τ:SD}{P:#[9]},SI K H0 B0 B H σ τ P No->∃ B' P',aD B B'/\SI K H0 B0 B' H σ (DL.fj js τ) P' No
 |[],B,τ,P,I=>⟨B,P,aD.refl _,I⟩
 | j::js,B,τ,P,I=>by
  unfold DL.fj;rw[List.foldl_cons];cases e:τ[j]? with
  |none=>exact SI.fj js I
  | some o =>
   cases o with
   |none=>exact SI.fj js I
   | some d =>
    obtain⟨B1,P1,s1,I1⟩:=I.sd j e;obtain⟨B2,P2,s2,I2⟩:=SI.fj js I1;exact⟨B2,P2,s1.trans s2,I2⟩
def HZ (js:#[118])(g:SF)(τ:SD):Fl:=g (fj js τ)
def NG (js:#[118])(h:PS X st (jf X.K Y g)):PS X st (jf X.K Y (HZ js g)):=PS.imp h λ E σ H hq=>ex7 hq λ H0 B0 B τ P I h=>by
 obtain⟨B',P',s,I'⟩:=I.fj js;exact⟨H0,B0,B',_,P',I',bY.later h (l4.grow I' s #[52])⟩
def gY (τ:SD)(i:Nat):Option (List D):=match τ[i]? with|some (some (.lst .own xs))=>some xs|_=>none
def ik(h:gY τ i=some xs):τ[i]?=some (some (.lst .own xs)):=by
 unfold gY at h;split at h
 ·rename_i e;cases h;exact e
 ·cases h
def SI.CP{xs':List D}{gp:#[9]}{vs':List V}(I:SI K H0 B0 B H σ τ P No)(hi:τ[i]?=some (some (.lst .own xs)))(ev:σ[i]?=some (some (.ref a)))
  (k:fK H0 B H P No gp)
  (items:∀ f,H a=some (.lst vs)->az K B No H xs vs f->∃ f',az K B No H xs' vs' f'/\(∀ b∈f',b∈f\/b∈gp)/\(f.Nodup->(∀ b∈gp,b∉f)->f'.Nodup)) (hv:H a=some (.lst vs)) :
  ∃ P',l4 K H0 B0 B H B (upd H a (.lst vs')) σ (τ.set i (some (.lst .own xs'))) P':=by
 have hi':i<τ.length:=(Qt.mp hi).1;obtain⟨A,f,C,e,h1,h2⟩:=I.rep.cut hi';obtain⟨v,e1,r1⟩:=h1 _ hi;rw[ev]at e1;cases e1;obtain⟨a',ws,g,ea,hq,rl,ef⟩:=r1;cases ea;rw[hv]at hq;cases hq;subst ef;have nd0:=I.nd;rw[e]at nd0;have ndf:(a::g).Nodup:=(nd0.sublist (Rp _ _)).sublist (QZ _ _);have gdis:∀ b∈gp,b∉a::g:=λ b m z=>(k.own b m).2.2.2.1 (by rw[e];exact eQ _ _ _ b z);obtain⟨f',r',s',n'⟩:=items g hv rl;obtain⟨na,ng⟩:=Q8.mp ndf;have hna:a∉f':=λ m=>(s' a m).elim na λ z=>gdis a z Qx;have es:σ.set i (some (.ref a))=σ:=by
  refine SE λ k=>?_;by_cases hk:k=i
  ·subst hk;rw[RW (Qt.mp ev).1,ev]
  ·rw[Se (Rr hk)]
 have kp:kI H (upd H a (.lst vs')) [a]:=⟨λ b o h n=>by rw[aZ (by simpa using n)];exact h,λ b m=>by
  have:b=a:=by simpa using m
  subst this;exact⟨_,hv,trivial⟩⟩
 have kpf:kI H (upd H a (.lst vs')) (a::g):=⟨λ b o h n=>kp.keep b o h (λ z=>n (QA.mpr (.inl (QM.mp z)))),λ b m=>I.rep.own b (by rw[e];exact eQ _ _ _ b m)⟩;have key:=I.put (i:=i) (H1:=upd H a (.lst vs')) (d':=.lst .own xs') (v':=.ref a) (f':=a::f') hi' e h2 kpf ⟨a,vs',f',rfl,bI,r'.keep kp λ b m=>by
   have:b≠a:=λ z=>hna (z▸m);simpa using this,rfl⟩ (Q8.mpr ⟨hna,n' ng λ b m z=>gdis b m (Qw _ z)⟩) λ b m=>?_
 ·rw[es]at key;exact⟨_,key,aD.refl _,λ b o h n=>kp.DR h n⟩
 ·rcases QA.mp m with q|q
  ·exact .inl (by simp[q])
  ·rcases s' b q with z|z
   ·exact .inl (Qw _ z)
   ·obtain⟨a1,a2,a3,a4,a5⟩:=k.own b z;exact .inr (.inr ⟨a4,a1,a2,a5⟩)
end
section
variable {K:#[0]}{E:Ends}{c:Expr}
def SI.listAt(I:#[15])(h:τ[i]?=some (some (.lst .own xs))):∃ a vs,σ[i]?=some (some (.ref a))/\H a=some (.lst vs)/\xs.length=vs.length:=by
 obtain⟨v,f,h1,h2,h3⟩:=I.rep.get h;obtain⟨a,vs,g,rfl,q,r,z⟩:=h2;exact⟨a,vs,h1,q,r.length⟩
def iq (i:Nat)(f:#[29])(τ:SD):Fl:=match gY τ i with
 |some xs=>(f τ).ja τ λ d=>if d.aN=true then .bad else if xs.length<16777216 then .nx (τ.set i (some (.lst .own (xs++[d])))) else .bad
 |none=>.bad
def ly (i:Nat){p1 apos cpos:Pos}(he:#[46])(hN:#[78]:=by rfl)(hv:zS X.env.scope x:=by first|exact Or.inl rfl|exact Or.inr (Or.inl rfl)|exact Or.inr (Or.inr rfl))(hd:#[3]:=by decide)(hcd:#[44]:=by decide)
  (hbase:attributeBase #[68] "append" X.env (eval #[68] X.env)=eval #[68] X.env:=by rfl)
  (hfew:((backTo cpos (starEach [e] X.env)).all (λ x=>!x.1)&&#[182].all (λ x=>x.1.isSome)
   && decide #[124])=true:=by rfl)
  (hline:#[110]:=by rfl) (hs:#[26]:=by rfl) (hplain:(backTo cpos (starEach [] X.env)).any (·.1)=false:=by rfl)
  (hsw:swapsWith (.Call (.Attribute #[68] "append" apos) [e] [] cpos) none pos.line X.env=pure false:=by rfl) :
  PS X (.Expr (.Call (.Attribute #[68] "append" apos) [e] [] cpos) pos) (jf X.K Y (iq i fe)):=by
 refine PS.imp (oX (Bu Sg PySem.F.slot_list_append PySem.F.type_list_append vH (ic hN hv hd hcd) (cN he gP hs) hbase hfew hline hs hplain) hsw) λ E σ H hq=>ex7 hq λ H0 B0 B τ P I h=>?_;unfold iq at h;cases z:gY τ i with
 |none=>rw[z]at h;exact h.elim
 | some xs =>
  rw[z]at h;have hi:=ik z;obtain⟨a,vs,ea,ha,hl⟩:=I.listAt hi;refine⟨.ref a,ea,.inl ⟨rfl,vs,fH.of ha⟩,j7 I h λ d v H1 B1 fp _ I1 s1 b1 r1 k1 h1=>?_⟩;split at h1
  ·exact h1.elim
  ·rename_i hb;split at h1
   ·rename_i hz;have ha1:=s1 a _ ha;refine⟨a,vs,v,rfl,rfl,ha1,by rw[<-hl,Rg];exact hz,?_⟩;obtain⟨P',I'⟩:=I1.CP (xs':=xs++[d]) (vs':=vs++[v]) hi ea k1 (λ f _ rl=>⟨f++fp,rl.append (az.one (r1.gj (by simpa using hb))),λ b m=>QH.mp m,λ nf dis=>QL.mpr ⟨nf,k1.nd,λ a ha b hb e=>dis b hb (e▸ha)⟩⟩) ha1;exact h1 B1 _ σ P' I'
   ·exact h1.elim
structure Lm (K:PySem.W.Frag)(J:It)(ds:List D)(B H:Hp):Prop where
 go:∀ B' H' i d,aD B B'->aD B' H'->j6 H H'->ds[i]?=some d->J.go i H'
 Cp:∀ B' H' i d x H'',aD B B'->aD B' H'->j6 H H'->ds[i]?=some d->J.Cp i H' x H''->aD H' H''/\Rep K B' No H'' d x []
 stop:∀ B' H',aD B B'->aD B' H'->j6 H H'->J.stop ds.length H'
def J2 (K:#[0])(J:It)(ds:List D)(fl:Bool)(B H:Hp)(P fp:#[9]):Prop:=
 ∀ Bx:Hp,aD B Bx->aD Bx H->(∀ a∈fp,∀ o,H a=some o->Bx a=some o)->(fl=true->∀ a∈P,∀ o,H a=some o->Bx a=some o)->Lm K J (aK ds) Bx H
def EJ (K:#[0])(Y:XY)(f:#[136]):TI:=λ σ H R=>∃ H0 B0 B τ P F,SI K H0 B0 B H σ τ P F/\match f τ with
 |.ok (fl,ds)=>∀ J H' B' fp,SI K H0 B0 B' H' σ τ P F->aD H H'->aD B B'->fK H0 B' H' P F fp->J2 K J ds fl B' H' P fp->R J H'
 |.dY C=>oB K Y H0 B0 B H σ τ P F C
 |.bad=>False
def PI.imp {it:Expr}{t t':TI}(h:PI X tg it t)(hi:∀ σ H R,t' σ H R->t σ H R):PI X tg it t':=λ pins s σ H R I hw=>h pins s σ H R I (hi σ H R hw)
def qK:D->Res (Bool×List D)
 |.lst t xs=>.ok ((D.lst t xs).aN,xs)
 |.tup xs=>.ok ((D.tup xs).aN,xs)
 |_=>.bad
def jo (f:#[29])(τ:SD):Res (Bool×List D):=(f τ).bind qK
def Ln{tl:TE}(hl:PE X l tl):PI X tg l (λ σ H R=>tl σ H λ x H1=>(∃ a,x=.ref a/\(∃ xs,fH X.K H1 a xs)/\R (OJ X.K a) H1)\/∃ a,x=.ref a/\(∃ xs,k9 X.K H1 a xs)/\R (OL X.K a) H1):=by
 intro pins s σ H R I h;refine eG (hl pins s σ H _ I h) λ v s1 hq5=>L2.ex5 hq5 λ x H1 I1 r1 q1=>?_;rcases q1 with ⟨a,e,⟨xs,hq⟩,q⟩|⟨a,e,⟨xs,hq⟩,q⟩
 ·subst e;cases r1;obtain⟨its,rv,p,hz⟩:=I1.list hq;refine UU p.isList ?_;refine⟨s1.heap.objs.size,[s1.heap.objs.size],_,_,H1,rfl,I1.kept (t':=s1.toks) λ b o e=>Qp _ e,CA a _,⟨_,QI _ rfl,rfl,rfl⟩,λ b hb=>?_,q⟩;have e:b=s1.heap.objs.size:=by simpa using hb
  subst e;exact I1.wR (QD _) (I1.hok.fresh (QD _))
 ·subst e;cases r1;obtain⟨its,rv,p,hz⟩:=I1.tuple hq;refine TH (show s1.heap.IsTuple a its.toArray from p) ?_;refine⟨s1.heap.objs.size,[s1.heap.objs.size],_,_,H1,rfl,I1.kept (t':=s1.toks) λ b o e=>Qp _ e,zX a _,⟨_,QI _ rfl,rfl,rfl⟩,λ b hb=>?_,q⟩;have e:b=s1.heap.objs.size:=by simpa using hb
  subst e;exact I1.wR (QD _) (I1.hok.fresh (QD _))
def SI.J0(I:#[15])(k:fK H0 B H P F fp):SI K H0 B0 (atRest B H (· ∈ fp)) H σ τ P F/\aD B (atRest B H (· ∈ fp)):=by
 have sB:aD B (atRest B H (· ∈ fp)):=dZ I.bh;refine⟨⟨iD I.bh,I.h0,I.b0.trans sB,λ a n=>?_,I.rep.mono #[52] sB,I.nd,λ a m=>?_,λ a m=>?_⟩,sB⟩
 ·by_cases m:a∈fp
  ·exact .inr (k.own a m).2.1
  ·rw[iL m]at n;exact I.nb a n
 ·obtain⟨a1,a2,a3⟩:=I.own a m;exact⟨by rw[iL λ z=>(k.own a z).2.2.2.1 m];exact a1,a2,a3⟩
 ·obtain⟨a1,a2⟩:=I.fr a m;exact⟨by rw[iL λ z=>(k.own a z).2.2.2.2 m];exact a1,a2⟩
mutual
def Rep.stay {B B' H H':Hp}(sB:aD B B')(im:j6 H H'):∀ {d:D}{v:V}{fp:#[9]},fp=[]->Rep K B No H d v fp->Rep K B' No H' d v fp
 |.bW,_,_,_,h=>h
 |.bl _,_,_,_,h=>h
 |.int _,_,_,_,h=>h
 |.str _,_,_,_,h=>h
 |.exc _,_,_,_,h=>let ⟨⟨a,e,t,tb,u,h1⟩,r⟩:=h;⟨⟨a,e,t,tb,u,im _ _ h1 (λ x=>x)⟩,r⟩
 | .tup xs,v,fp,ef,h=>by
  obtain⟨a,vs,e,q,r⟩:=h;exact⟨a,vs,e,im _ _ q (λ x=>x),az.stay sB im ef r⟩
 |.lst .own xs,v,fp,ef,h=>by obtain⟨a,vs,f,e,q,r,z⟩:=h;rw[ef]at z;cases z
 |.lst .bor xs,v,fp,ef,h=>let ⟨a,vs,e,q,r,z⟩:=h;⟨a,vs,e,.inr (eV sB #[116]),az.stay sB im rfl r,z⟩
 |.lst .av xs,v,fp,ef,h=>let ⟨a,vs,e,q,r,z⟩:=h;⟨a,vs,e,eV sB q,az.stay sB im rfl r,z⟩
 |.lst (.len _) _,_,_,_,h=>h.elim
 |.dct (.len a) kd ks xs,v,fp,ef,h=>by obtain⟨vs,f,e,q,r,z⟩:=h;rw[ef]at z;cases z
 |.dct .own kd ks xs,v,fp,ef,h=>by obtain⟨a,vs,f,e,q,r,z⟩:=h;rw[ef]at z;cases z
 |.dct .bor kd ks xs,v,fp,ef,h=>let ⟨a,vs,e,q,r,z⟩:=h;⟨a,vs,e,.inr (#[116].mono sB),az.stay sB im rfl r,z⟩
 |.dct .av kd ks xs,v,fp,ef,h=>let ⟨a,vs,e,q,r,z⟩:=h;⟨a,vs,e,q.mono sB,az.stay sB im rfl r,z⟩
def az.stay {B B' H H':Hp}(sB:aD B B')(im:j6 H H'):∀ {ds:List D}{vs:List V}{fp:#[9]},fp=[]->az K B No H ds vs fp->az K B' No H' ds vs fp
 |[],_,_,_,h=>h
 | d::ds,vs,fp,ef,h=>by
  obtain⟨v,r,f,g,e,h1,h2,z⟩:=h;rw[ef]at z;obtain⟨z1,z2⟩:=nP z;exact⟨v,r,f,g,e,Rep.stay sB im z1 h1,az.stay sB im z2 h2,by rw[ef,z1,z2];rfl⟩
end
def xn(h:List.Sublist f []):f=[]:=List.sublist_nil.mp h
def EM(q:fH K B a vs)(r:az K B No H ds vs []):Lm K (OJ K a) ds B H where
 go:=λ B' H' i d s1 s2 im e=>by
  obtain⟨v,f,h1,_⟩:=r.get e;exact⟨vs,v,f9 (eV (s1.trans s2) q),h1⟩
 Cp:=λ B' H' i d x H'' s1 s2 im e y=>by
  obtain⟨rfl,y⟩:=y;obtain⟨v,f,h1,h2,h3⟩:=r.get e;have z:=y vs (f9 (eV (s1.trans s2) q));rw[h1]at z;cases z;cases xn h3;exact⟨aD.refl _,h2.stay s1 im rfl⟩
 stop:=λ B' H' s1 s2 im=>⟨vs,f9 (eV (s1.trans s2) q),by rw[r.length];exact QD _⟩
def sG(im:j6 H H')(q:k9 K H a vs):k9 K H' a vs:=by
 rcases q with (q|⟨o,q⟩)|q
 ·exact .inl (.inl (im _ _ q (λ x=>x)))
 ·exact .inl (.inr ⟨o,im _ _ q (λ x=>x)⟩)
 ·exact .inr q
def Ic(q:k9 K H a vs)(r:az K B No H ds vs []):Lm K (OL K a) ds B H where
 go:=λ B' H' i d s1 s2 im e=>by
  obtain⟨v,f,h1,_⟩:=r.get e;exact⟨vs,v,sG im q,h1⟩
 Cp:=λ B' H' i d x H'' s1 s2 im e y=>by
  obtain⟨rfl,y⟩:=y;obtain⟨v,f,h1,h2,h3⟩:=r.get e;have z:=y vs (sG im q);rw[h1]at z;cases z;cases xn h3;exact⟨aD.refl _,h2.stay s1 im rfl⟩
 stop:=λ B' H' s1 s2 im=>⟨vs,sG im q,by rw[r.length];exact QD _⟩
def CS {lo:Int}:Lm K (Ol lo n) (#[131].map λ k:Nat=>D.int (lo+k)) B H where
 go:=λ B' H' i d s1 s2 im e=>by
  have:=(Qt.mp e).1;show i<n;simpa using this
 Cp:=λ B' H' i d x H'' s1 s2 im e y=>by
  obtain⟨rfl,rfl⟩:=y;have hi:=(Qt.mp e).1;rw[Qs,Q6]at hi;rw[QB,Ry hi]at e;cases e;exact⟨aD.refl _,rfl,rfl⟩
 stop:=λ B' H' s1 s2 im=>by
  show n<=_;rw[Qs,Q6];exact QD _
def sI {Bx:Hp}{d:D}(r:Rep K B (· ∈ P) H d v fp)(sB:aD B Bx)(h1:∀ a∈fp,∀ o,H a=some o->Bx a=some o)(h2:d.aN=true->∀ a∈P,∀ o,H a=some o->Bx a=some o):Rep K Bx No H d.av v []:=by
 by_cases hb:d.aN=true
 ·exact r.av sB (λ a o s h=>h2 hb a s o h) h1
 ·exact(r.gj (by simpa using hb)).av sB (λ a o s=>s.elim) h1
def fL(he:#[46]):PI X tg e (EJ X.K Y (jo fe)):=by
 refine PI.imp (Ln he) λ σ H R hq=>ex8 hq λ H0 B0 B τ P F I h=>⟨H0,B0,B,τ,P,F,I,?_⟩;cases z:fe τ with
 |dY C=>simp only[jo,z,Res.tO]at h;exact h|bad=>simp only[jo,z,Res.tN]at h
 | ok d =>
  simp only[jo,z,Res.aU]at h;intro v H1 B1 fp I1 s1 b1 r1 k1;cases d with
  | lst t xs =>
   simp only[qK]at h;obtain⟨a,vs,g,rfl,q,_⟩:=r1.lst I1;refine .inl ⟨a,rfl,⟨vs,f9 q⟩,h _ H1 _ fp I1 s1 b1 k1 λ Bx sB sH h1 h2=>?_⟩;obtain⟨a',ws,ea,q',rl,_⟩:Rep X.K Bx No H1 (D.lst .av (aK xs)) (.ref a) []:=sI r1 sB h1 h2;cases ea;exact EM q' rl
  | tup xs =>
   simp only[qK]at h;obtain⟨a,vs,rfl,q,_⟩:=r1.tp;refine .inr ⟨a,rfl,⟨vs,q⟩,h _ H1 _ fp I1 s1 b1 k1 λ Bx sB sH h1 h2=>?_⟩;obtain⟨a',ws,ea,q',rl⟩:Rep X.K Bx No H1 (D.tup (aK xs)) (.ref a) []:=sI r1 sB h1 h2;cases ea;exact Ic (k9.of q') rl
  |_=>exact h.elim
def CQ (f:Nat->Int)(l:#[118]):aK (l.map λ k=>D.int (f k))=l.map λ k=>D.int (f k):=by
 induction l with
 |nil=>rfl|cons a r ih=>rw[Rc,aK,ih];rfl
def m9:List D->Res (Bool×List D)
 |[.int j]=>if -1000000000<=j/\j<=1000000000 then .ok (false,(List.range j.toNat).map λ k:Nat=>.int (0+k)) else .bad
 |_=>.bad
def bV (f:#[34])(τ:SD):Res (Bool×List D):=(f τ).bind m9
def ER {fs:#[34]}{R:It->Hp->Prop}:EJ X.K Y (bV fs) σ H R->JK (pB X.K Y fs) σ H R:=by
 rintro⟨H0,B0,B,τ,P,F,I,h⟩;refine⟨H0,B0,B,τ,P,F,I,?_⟩;cases z:fs τ with
 |dY C=>simp only[bV,z,Res.tO]at h;exact h|bad=>simp only[bV,z,Res.tN]at h
 | ok ds =>
  simp only[bV,z,Res.aU]at h;intro vs H1 B1 fp I1 s1 b1 r1 k1;cases y:m9 ds with
  |dY C=>exfalso;unfold m9 at y;split at y<;>first|(split at y<;>cases y)|cases y
  |bad=>rw[y]at h;exact h.elim
  | ok es =>
   rw[y]at h;unfold m9 at y;split at y
   ·split at y
    ·rename_i hc;cases y;obtain⟨v,rfl,rfl,rfl⟩:=iK r1;exact⟨_,rfl,#[1],#[1],h _ H1 B1 [] I1 s1 b1 fK.nil λ Bx _ _ _ _=>by rw[CQ];exact CS⟩
    ·cases y
   ·cases y
def bZ {a:Expr}{fs:#[34]}(hg:Gl X "range")(hm:X.mg "range" = none)(ha:PA X [a] (pB X.K Y fs))(hs:starEach [a] X.env=[(false,eval a X.env)]:=by rfl):PI X tg (.Call (.Name "range" p) [a] [] pos) (EJ X.K Y (bV fs)):=
 PI.imp (Ct hg hm ha hs) λ σ H R h=>ER h
def nQ (xs:List D):List D:=xs.mapIdx λ i d=>.tup [.int i,d]
def pH (f:#[34])(τ:SD):Res (Bool×List D):=(f τ).bind λ ds=>match ds with|[d]=>(qK d).map λ p=>(p.1,nQ p.2)|_=>.bad
def yE (xs:List D):∀ (f:Nat->Nat),aK (xs.mapIdx λ i d=>D.tup [.int (f i),d])=(aK xs).mapIdx λ i d=>D.tup [.int (f i),d]:=by
 induction xs with
 |nil=>intro f;rfl
 | cons a r ih =>
  intro f;rw[List.mapIdx_cons,aK,aK,List.mapIdx_cons];exact RL _ (ih λ i=>f (i+1))
def vU (xs:List D):aK (nQ xs)=nQ (aK xs):=yE xs id
def yD {src:Hp->List V->Prop}(r:az K B No H ds vs [])(q:∀ B' H':Hp,aD B B'->aD B' H'->j6 H H'->src H' vs):Lm K (Ot src) (nQ ds) B H where
 go:=λ B' H' i d s1 s2 im e=>by
  have hi:=(Qt.mp e).1;unfold nQ at hi;rw[UB,r.length]at hi;exact⟨vs,vs[i],q B' H' s1 s2 im,Qo hi⟩
 Cp:=λ B' H' i d x H'' s1 s2 im e y=>by
  obtain⟨p,w,rfl,hp,rfl,hy⟩:=y;have hi:=(Qt.mp e).1;unfold nQ at hi e;rw[UB]at hi;rw[List.getElem?_mapIdx,Qo hi]at e;cases e;have z:=hy vs (q B' H' s1 s2 im);obtain⟨v,f,h1,h2,h3⟩:=r.get (Qo hi);rw[z]at h1;cases h1;cases xn h3;have s:=iJ (o:=.tup [.int i,w]) hp;exact⟨s,p,[.int i,w],rfl,bI,.int i,[w],[],[],rfl,⟨rfl,rfl⟩,az.one ((h2.stay s1 im rfl).mono s #[52] (λ _ x=>x)),rfl⟩
 stop:=λ B' H' s1 s2 im=>⟨vs,q B' H' s1 s2 im,by unfold nQ;rw[UB,r.length];exact QD _⟩
def EK {elts:List Expr}{x1:Nat}{tp:Pos}{ta:TA}(hg:Gl X "enumerate")(hm:X.mg "enumerate" = none)(ha:PA X [l] ta)(hs:starEach [l] X.env=[(false,eval l X.env)]:=by rfl) :
  PI X (.Tuple elts x1 tp) (.Call (.Name "enumerate" p) [l] [] pos) (λ σ H R=>ta σ H λ vs H1=>(∃ a xs,vs=[.ref a]/\fH X.K H1 a xs/\R (Ot λ H xs=>fH X.K H a xs) H1)\/∃ a xs,vs=[.ref a]/\k9 X.K H1 a xs/\R (Ot λ H xs=>k9 X.K H a xs) H1):=by
 intro pins s σ H R I h;refine RQ (lQ I hg hm (by decide +kernel:bootBuiltins "enumerate" = some (.type "enumerate")) ?_);refine Sl (eG (ha pos pins s σ H _ I h) λ us s1 hq5=>L2.ex5 hq5 λ vs H1 I1 r1 q1=>?_) hs rfl;rcases q1 with ⟨a,xs,rfl,hq,q⟩|⟨a,xs,rfl,hq,q⟩
 ·obtain⟨u,rfl,ru⟩:=vals1 r1;cases ru;obtain⟨its,rv,pl,hz⟩:=I1.list hq;refine call_enumerate_list pl.isList λ h' e1 e2 e3 e4=>UT e1 ?_;have I2:Inv X pins σ H1 { s1 with heap:=h' }:=I1.kept (t':=s1.toks) e4;obtain⟨o,c1,c2,c3⟩:=e2;refine⟨_,_,_,_,H1,rfl,I2,vK (src_list a s1.heap.objs.size) (Nat.succ_ne_self _),⟨⟨_,e1⟩,o,c1,c2,c3⟩,λ b hb=>?_,q⟩;rcases QA.mp hb with z|z
  ·subst z;exact I1.wR (SA _) (I1.hok.fresh (SA _))
  ·have z:b=s1.heap.objs.size:=by simpa using z
   subst z;exact I1.wR (QD _) (I1.hok.fresh (QD _))
 ·obtain⟨u,rfl,ru⟩:=vals1 r1;cases ru;obtain⟨its,rv,pl,hz⟩:=I1.tuple hq;refine vd (kH pl) λ h' e1 e2 e4=>UT e1 ?_;have I2:Inv X pins σ H1 { s1 with heap:=h' }:=I1.kept (t':=s1.toks) e4;obtain⟨o,c1,c2,c3⟩:=e2;refine⟨_,_,_,_,H1,rfl,I2,vK (HS a s1.heap.objs.size) (Nat.succ_ne_self _),⟨⟨_,e1⟩,o,c1,c2,c3⟩,λ b hb=>?_,q⟩;rcases QA.mp hb with z|z
  ·subst z;exact I1.wR (SA _) (I1.hok.fresh (SA _))
  ·have z:b=s1.heap.objs.size:=by simpa using z
   subst z;exact I1.wR (QD _) (I1.hok.fresh (QD _))
def Ib {elts:List Expr}{x1:Nat}{tp:Pos}{fs:#[34]}(hg:Gl X "enumerate")(hm:X.mg "enumerate" = none)(ha:PA X [l] (pB X.K Y fs))(hs:starEach [l] X.env=[(false,eval l X.env)]:=by rfl) :
  PI X (.Tuple elts x1 tp) (.Call (.Name "enumerate" p) [l] [] pos) (EJ X.K Y (pH fs)):=by
 refine PI.imp (EK hg hm ha hs) λ σ H R hq=>ex8 hq λ H0 B0 B τ P F I h=>⟨H0,B0,B,τ,P,F,I,?_⟩;cases z:fs τ with
 |dY C=>simp only[pH,z,Res.tO]at h;exact h|bad=>simp only[pH,z,Res.tN]at h
 | ok ds =>
  simp only[pH,z,Res.aU]at h;intro vs H1 B1 fp I1 s1 b1 r1 k1
  match ds,r1,h with
  | [d],r1,h =>
   obtain⟨v,rfl,r1'⟩:=iK r1;simp only at h;cases d with
   | lst t xs =>
    simp only[qK,Res.Eu]at h;obtain⟨a,vs,g,rfl,q,_⟩:=r1'.lst I1;refine .inl ⟨a,vs,rfl,f9 q,h _ H1 _ fp I1 s1 b1 k1 λ Bx sB sH h1 h2=>?_⟩;obtain⟨a',ws,ea,q',rl,_⟩:Rep X.K Bx No H1 (D.lst .av (aK xs)) (.ref a) []:=sI r1' sB h1 h2;cases ea;rw[vU];exact yD rl λ B' H' z1 z2 _=>f9 (eV (z1.trans z2) q')
   | tup xs =>
    simp only[qK,Res.Eu]at h;obtain⟨a,vs,rfl,q,_⟩:=r1'.tp;refine .inr ⟨a,vs,rfl,q,h _ H1 _ fp I1 s1 b1 k1 λ Bx sB sH h1 h2=>?_⟩;obtain⟨a',ws,ea,q',rl⟩:Rep X.K Bx No H1 (D.tup (aK xs)) (.ref a) []:=sI r1' sB h1 h2;cases ea;rw[vU];exact yD rl λ B' H' z1 z2 im=>sG im (k9.of q')
   |_=>exact h.elim
  |[],r1,h=>exact h.elim|_::_::_,r1,h=>exact h.elim
abbrev xo:=D->SD->Option SD
def EO (K:#[0])(g:xo):TG:=λ v σ H Q=>∃ H0 B0 B τ P F d fp,SI K H0 B0 B H σ τ P F/\Rep K B No H d v fp/\fK H0 B H P F fp/\match g d τ with
 |some τ'=>∀ H' σ' P',SI K H0 B0 B H' σ' τ' P' F->H'=H->Q σ' H'
 |none=>False
def gN (i:Nat)(d:D)(τ:SD):Option SD:=some (τ.set i (some d))
def PG.imp{t t':TG}(h:PG X tg t)(hi:∀ v σ H Q,t' v σ H Q->t v σ H Q):PG X tg t':=λ pins s σ H v u Q I r hw=>h pins s σ H v u Q I r (hi v σ H Q hw)
def Ll(hN:X.N.Nodup)(hi:#[78])(hx:#[189])(hf:#[23]:=by first|exact .inl rfl|exact .inr rfl):PG X (.Name x pos) (EO X.K (gN i)):=
 PG.imp (Bq hN hi hx hf) λ v σ H Q hq=>ex12 hq λ H0 B0 B τ P F d fp I r k h=>by
  obtain⟨P',I',_⟩:=I.set i r k;exact h H _ P' I' rfl
abbrev EL:=List D->SD->Option SD
def Ie (K:#[0])(g:EL):Hj:=λ vs σ H Q=>∃ H0 B0 B τ P F ds fp,SI K H0 B0 B H σ τ P F/\az K B No H ds vs fp/\fK H0 B H P F fp/\match g ds τ with
 |some τ'=>∀ H' σ' P',SI K H0 B0 B H' σ' τ' P' F->H'=H->Q σ' H'
 |none=>False
def lz (ds:List D)(τ:SD):Option SD:=match ds with|[]=>some τ|_=>none
def dw (i:Nat)(g:EL)(ds:List D)(τ:SD):Option SD:=match ds with|d::r=>g r (τ.set i (some d))|[]=>none
def CC.imp {tgs:List Expr}{t t':Hj}(h:CC X tgs t)(hi:∀ v σ H Q,t' v σ H Q->t v σ H Q):CC X tgs t':=λ pins s σ H v u Q I r hw=>h pins s σ H v u Q I r (hi v σ H Q hw)
def Al:CC X [] (Ie X.K lz):=CC.imp Hl λ vs σ H Q hq=>ex12 hq λ H0 B0 B τ P F ds fp I r k h=>by
 cases ds with
 |nil=>exact⟨r.1,h H σ P I rfl⟩| cons d ds=>exact h.elim
def nh{g:EL}(hN:X.N.Nodup)(hi:#[78])(hx:#[189])(h2:CC X es (Ie X.K g))(hf:#[23]:=by first|exact .inl rfl|exact .inr rfl)
  (hs:(assignEach (.Name x pos::es) X.env).map (·.2)=assign (.Name x pos) X.env::(assignEach es X.env).map (·.2):=by rfl):CC X (.Name x pos::es) (Ie X.K (dw i g)):=
 CC.imp (DX (Bq hN hi hx hf) h2 hs) λ vs σ H Q hq=>ex12 hq λ H0 B0 B τ P F ds fp I r k h=>by
  cases ds with
  |nil=>exact h.elim
  | cons d ds =>
   obtain⟨v,w,f1,f2,rfl,r1,r2,rfl⟩:=r;obtain⟨P',I',s'⟩:=I.set i r1 k.left;refine⟨v,w,rfl,H0,B0,B,_,P',F,ds,f2,I',r2,⟨k.right.nd,λ a m=>?_⟩,h⟩;obtain⟨a1,a2,a3,a4,a5⟩:=k.right.own a m;refine⟨a1,a2,a3,λ z=>?_,a5⟩;rcases s' a z with y|y
   ·exact a4 y
   ·exact(QL.mp k.nd).2.2 a y a m rfl
def gT (n:Nat)(g:EL)(d:D)(τ:SD):Option SD:=match d with|.tup ds=>if ds.length=n then g ds τ else none|_=>none
def EN{k:Nat}{g:EL}(hc:X.calm=true)(h:CC X es (Ie X.K g))
  (hn:(assignEach es X.env).length=n:=by rfl) (hst:(assignEach es X.env).findIdx? (·.1)=none:=by rfl):PG X (.Tuple es k pos) (EO X.K (gT n g)):=
 PG.imp (Ks hc h hn hst) λ v σ H Q hq=>ex12 hq λ H0 B0 B τ P F d fp I r k h=>by
  cases d with
  | tup ds =>
   obtain⟨a,vs,rfl,q,rl⟩:=r;unfold gT at h;by_cases hl:ds.length=n
   ·simp only[hl,TU]at h;exact⟨a,vs,rfl,k9.of q,by rw[<-rl.length];exact hl,H0,B0,B,τ,P,F,ds,fp,I,rl,k,h⟩
   ·simp only[hl,SQ]at h
  |_=>exact h.elim
def fm (tg:xo)(body:SF):List D->SF
 |[],τ=>.nx τ
 | d::r,τ=>match tg d τ with
  |none=>.bad
  | some τ'=>match body τ' with
   |.nx t=>fm tg body r t
   |.ct t=>fm tg body r t
   |.bk t=>.nx t
   |o=>o
def gM (js:#[118])(it:#[136])(tg:xo)(body:SF)(τ:SD):Fl:=match it (fj js τ) with
 |.ok (false,ds)=>fm tg body (aK ds) (fj js τ)
 |.ok (true,_)=>.bad
 |.dY C=>.ex C (fj js τ)
 |.bad=>.bad
def g7 (js:#[118]){iter:Expr}{body:List Stmt}{tgd:xo}{g:SF}(hp:PassesOwn #[11] X.A X.env X.xe)(hc:X.calm=true)(hi:PI X tg iter (EJ X.K Y it))(hg:PG X tg (EO X.K tgd))(hb:kF X body (jf X.K Y g))
  (hs:#[39]:=by intro _;rfl):PS X (.For tg iter body [] pos) (jf X.K Y (gM js it tgd g)):=by
 refine PS.imp (KA hp hc hi hg hb hs) λ E σ H hq=>ex7 hq λ H0 B0 B τ P I h=>?_;obtain⟨Bf,Pf,sf,If⟩:=I.fj js;have h:bY X.K Y H0 B0 Bf H E (gM js it tgd g τ):=bY.later h (l4.grow If sf #[52]);unfold gM at h;refine⟨H0,B0,Bf,_,Pf,No,If,?_⟩;cases z:it (fj js τ) with
 |dY C=>rw[z]at h;exact λ H1 B1 I1 s1 b1=>h B1 H1 σ Pf (l4.grow I1 b1 s1)
 |bad=>rw[z]at h;exact h.elim
 | ok q =>
  obtain⟨fl,ds0⟩:=q;rw[z]at h;intro J H1 B1' fp I1' s1 b1' k1 JA;cases fl with
  |true=>exact h.elim|false=>
  obtain⟨I1,b2⟩:=I1'.J0 k1;have b1:=b1'.trans b2;have J1:=JA _ b2 (iD I1'.bh) (λ a m o h=>fS m h) (λ z=>Bool.noConfusion z);generalize atRest B1' H1 (· ∈ fp)=B1 at I1 b1 J1;have h:bY X.K Y H0 B0 Bf H E (fm tgd g (aK ds0) (fj js τ)):=h;generalize aK ds0=ds at h J1;have h:bY X.K Y H0 B0 B1 H1 E (fm tgd g ds (fj js τ)):=bY.later h (l4.grow I1 b1 s1);refine⟨λ i m σ' H'=>m=ds.length-i/\i<=ds.length/\∃ B' τ' P',l4 X.K H0 B0 B1 H1 B' H' σ' τ' P'/\bY X.K Y H0 B0 B' H' E (fm tgd g (ds.drop i) τ'),⟨_,rfl,RS _,B1,_,Pf,l4.refl I1,h⟩,?_⟩;rintro i m σ' H' ⟨rfl,hle,B',τ',P',a,gl⟩;by_cases hlt:i<ds.length
  ·obtain⟨d,hd⟩:∃ d,ds[i]?=some d:=⟨ds[i],Qo hlt⟩;have hdrop:ds.drop i=d::ds.drop (i+1):=by
    rw[R9 hlt]
    congr 1
    rw[Qo hlt]at hd;exact Rq hd
   rw[hdrop]at gl;unfold fm at gl;refine .inr ⟨J1.go B' H' i d a.b a.si.bh a.DR hd,λ σ2 H2=>∃ B2 τ2 P2,l4 X.K H0 B0 B1 H1 B2 H2 σ2 τ2 P2/\bY X.K Y H0 B0 B2 H2 E (fm tgd g (ds.drop (i+1)) τ2),λ σ2 H2 w=>⟨_,by omega,rfl,hlt,w⟩,λ x H'' y=>?_⟩;obtain⟨sy,ry⟩:=J1.Cp B' H' i d x H'' a.b a.si.bh a.DR hd y;have Iy:=a.si.grow sy;refine⟨H0,B0,B',τ',P',No,d,[],Iy,ry,fK.nil,?_⟩;cases w:tgd d τ' with
   |none=>rw[w]at gl;exact gl.elim
   | some τ2 =>
    rw[w]at gl;intro H3 σ3 P3 I3 e3;subst e3;have ay:l4 X.K H0 B0 B' H' B' H3 σ3 τ2 P3:=⟨I3,aD.refl _,j6.of sy⟩;refine⟨H0,B0,B',τ2,P3,I3,?_⟩;cases u:g τ2 with
    | nx t =>
     simp only[u]at gl;exact λ B4 H4 σ4 P4 a4=>⟨B4,t,P4,(a.trans ay).trans a4,bY.later gl (ay.trans a4)⟩
    | ct t =>
     simp only[u]at gl;exact λ B4 H4 σ4 P4 a4=>⟨B4,t,P4,(a.trans ay).trans a4,bY.later gl (ay.trans a4)⟩
    | bk t =>
     simp only[u]at gl;exact λ B4 H4 σ4 P4 a4=>gl B4 H4 σ4 P4 (ay.trans a4)
    |rt d=>simp only[u]at gl;exact gl|ex C t=>simp only[u]at gl;exact λ B4 H4 σ4 P4 a4=>gl B4 H4 σ4 P4 (ay.trans a4)
    |bad=>simp only[u]at gl;exact gl
  ·have e:i=ds.length:=by omega
   subst e;rw[U5]at gl;exact .inl ⟨J1.stop B' H' a.b a.si.bh a.DR,gl B' H' σ' P' (l4.refl a.si)⟩
def aS (c:#[59])(body:SF):Nat->SF
 |0,_=>.bad
 | n+1,τ=>(c τ).tZ τ λ b=>if b=true then (match body τ with
   |.nx t=>aS c body n t
   |.ct t=>aS c body n t
   |.bk t=>.nx t
   |o=>o) else .nx τ
def fM (c:#[59])(body:SF)(τ:SD):Fl:=by classical exact if h:∃ n,aS c body n τ ≠ .bad then aS c body h.choose τ else .bad
def l6 {c:#[59]}{body:SF}:∀ {n:Nat}{τ:SD},aS c body n τ ≠ .bad->aS c body (n+1) τ=aS c body n τ
 |0,_,h=>absurd rfl h
 | n+1,τ,h=>by
  rw[aS]at h
  conv=>lhs;rw[aS]
  conv=>rhs;rw[aS]
  cases e:c τ with
  |dY C=>rfl|bad=>rfl
  | ok b =>
   rw[e]at h;cases b with
   |false=>rfl
   | true =>
    simp only[Res.tZ,TU]at h ⊢;cases u:body τ with
    |nx t=>simp only[u]at h ⊢;exact l6 h|ct t=>simp only[u]at h ⊢;exact l6 h|bk t=>rfl|rt d=>rfl|ex C t=>rfl|bad=>rfl
def vS {c:#[59]}{body:SF}(h:aS c body n τ ≠ .bad):∀ {m:Nat},n<=m->aS c body m τ=aS c body n τ:=by
 intro m hm
 induction hm with
 |refl=>rfl|step hm ih=>rw[l6 (by rw[ih];exact h),ih]
def ir {c:#[59]}{body:SF}(h:aS c body n τ ≠ .bad):fM c body τ=aS c body n τ:=by
 have ex:∃ n,aS c body n τ ≠ .bad:=⟨n,h⟩;unfold fM;rw[dif_pos ex];rcases Nat.le_total n ex.choose with q|q
 ·exact vS h q
 ·exact(vS ex.choose_spec q).symm
def nc {body:List Stmt}{g:SF}(hp:PassesOwn #[11] X.A X.env X.xe)(hc:PT X c (kJ X.K Y gc))(hb:kF X body (jf X.K Y g)):PS X (.While c body [] pos) (jf X.K Y (fM gc g)):=by
 refine PS.imp (DY hp hc hb) λ E σ H hq=>ex7 hq λ H0 B0 B τ P I h=>?_;obtain⟨n,hn⟩:∃ n,bY X.K Y H0 B0 B H E (aS gc g n τ):=by
  unfold fM at h;split at h
  ·exact⟨_,h⟩
  ·exact h.elim
 refine⟨λ m σ' H'=>∃ B' τ' P',SI X.K H0 B0 B' H' σ' τ' P' No/\bY X.K Y H0 B0 B' H' E (aS gc g m τ'),⟨n,B,τ,P,I,hn⟩,?_⟩;rintro m σ' H' ⟨B',τ',P',I',gl⟩;cases m with
 |zero=>exact gl.elim
 | succ m =>
  rw[aS]at gl;refine JZ I' gl λ d H1 B1 _ I1 s1 b1 h1=>?_;cases d with
  |false=>rw[QK Qy]at h1 ⊢;exact h1 B1 H1 σ' P' (l4.refl I1)
  | true =>
   rw[QG rfl]at h1 ⊢;refine⟨λ σ2 H2=>∃ B2 τ2 P2,SI X.K H0 B0 B2 H2 σ2 τ2 P2 No/\bY X.K Y H0 B0 B2 H2 E (aS gc g m τ2),λ σ2 H2 w=>⟨m,U4 _,w⟩,H0,B0,B1,τ',P',I1,?_⟩;cases u:g τ' with
   |nx t=>simp only[u]at h1;exact λ B4 H4 σ4 P4 a4=>⟨B4,t,P4,a4.si,bY.later h1 a4⟩
   |ct t=>simp only[u]at h1;exact λ B4 H4 σ4 P4 a4=>⟨B4,t,P4,a4.si,bY.later h1 a4⟩
   |bk t=>simp only[u]at h1;exact h1|rt d=>simp only[u]at h1;exact h1|ex C t=>simp only[u]at h1;exact h1|bad=>simp only[u]at h1;exact h1
end
variable {tgd:xo}
abbrev DF:=List D->Res D
variable {G:DF}
def jr (K:#[0])(G:DF):Sp:=λ vs H Q _=>∃ B0 ds,aD B0 H/\az K B0 No H ds vs []/\match G ds with
 |.ok d=>∀ B' H' v fp,g6 K H B0 B' H' d v fp->Q v H'
 |.dY _=>False
 |.bad=>False
def Res.NI (r:Res D):Res D:=match r with|.dY _=>.bad|r=>r
@[simp] theorem Res.Po (d:D):(Res.ok d).NI=.ok d:=rfl
def t6 (G:DF)(ds:List D):Res D:=if aJ ds=true then (G (aK ds)).NI.map D.dm else (G (aK ds)).NI
def aF (G:DF)(fs:#[34])(τ:SD):Res D:=(fs τ).bind (t6 G)
section
variable {K:#[0]}{fs:#[34]}
def SI.called{d:D}{fq:#[9]}(I:#[15])(k:fK H0 B H P F fp)(hS:∀ a,S a->a∈P)(r:g6 K H (atRest B H (λ a=>S a\/a∈fp)) B' H' d v fq) :
  ∃ B'',SI K H0 B0 B'' H' σ τ P F/\aD B B''/\fK H0 B'' H' P F fq/\(∀ a o,B' a=some o->B'' a=some o\/(S a/\a∈P)):=by
 classical
 have sP:∀ a o,B a=some o->a∉P:=λ a o e m=>by
  have:=(I.own a m).1;rw[e]at this;cases this
 have up:∀ a,B' a≠none->B a≠none\/S a\/a∈fp\/H a=none:=λ a n=>by
  rcases r.nb a n with q|q
  ·by_cases hs:S a\/a∈fp
   ·exact .inr (hs.elim .inl λ z=>.inr (.inl z))
   ·rw[iL hs]at q;exact .inl q
  ·exact .inr (.inr (.inr q))
 refine⟨λ a=>if a∈P then none else B' a,?_,λ a o e=>?_,⟨r.nd,λ a m=>?_⟩,λ a o e=>?_⟩
 ·have sB:aD B (λ a=>if a∈P then none else B' a):=λ a o e=>by
   show#[109]=some o;rw[QK (sP a o e)];exact r.b0 a o (dZ I.bh a o e)
  refine⟨λ a o e=>?_,I.h0.trans r.h0,I.b0.trans sB,λ a n=>?_,I.rep.mono r.h0 sB,I.nd,λ a m=>?_,λ a m=>?_⟩
  ·have e:#[109]=some o:=e;split at e
   ·cases e
   ·exact r.bh a o e
  ·have n:#[109]≠none:=n;split at n
   ·exact absurd rfl n
   ·rename_i hp;rcases up a n with q|q|q|q
    ·exact I.nb a q
    ·exact absurd (hS a q) hp
    ·exact .inr (k.own a q).2.1
    ·exact .inr (I.h0.free q)
  ·refine⟨?_,(I.own a m).2⟩;show#[109]=none;rw[QG m]
  ·obtain⟨a1,a2⟩:=I.fr a m;refine⟨?_,λ z=>a2 (r.h0.free z)⟩;show#[109]=none;split
   ·rfl
   ·rename_i hp;cases e:B' a with
    |none=>rfl
    | some o =>
     exfalso;rcases up a (by rw[e];exact Rx _) with q|q|q|q
     ·exact q a1
     ·exact hp (hS a q)
     ·exact(k.own a q).2.2.2.2 m
     ·exact a2 q
 ·show#[109]=some o;rw[QK (sP a o e)];exact r.b0 a o (dZ I.bh a o e)
 ·obtain⟨a1,a2,a3⟩:=r.own a m;obtain⟨n1,n2,n3,n4⟩:=I.yy a2;refine⟨?_,n2,a3,n3,n4⟩;show#[109]=none;rw[QK n3];exact a1
 ·by_cases hp:a∈P
  ·rcases up a (by rw[e];exact Rx _) with q|q|q|q
   ·obtain⟨o',e'⟩:=S9.mp q;exact absurd hp (sP a o' e')
   ·exact .inr ⟨q,hp⟩
   ·exact absurd hp (k.own a q).2.2.2.1
   ·exact absurd q (I.stands hp)
  ·left;show#[109]=some o;rw[QK hp];exact e
def NJ {k:Nat}(C:jq X.prog X.w X.K X.mg X.base k x ps (jr X.K G))(hr:dD k X.A)(hg:Gl X x)(ha:#[97])(hdb:#[3]:=by decide)
  (he:#[5]:=by rfl) (hpl:#[35].any (·.1)=false:=by rfl):PE X #[42] (tM X.K Y (aF G fs)):=by
 refine PE.imp (tK C hr hg ha hdb he hpl) λ σ H Q hq=>ex8 hq λ H0 B0 B τ P F I h=>pB.seq I h λ ds vs H1 B1 fp _ I1 s1 b1 r1 k1 h1=>?_;rw[QQ];unfold t6 at h1;split at h1
 ·refine⟨atRest B1 H1 (λ a=>a∈P\/a∈fp),aK ds,iD I1.bh,r1.av (dZ I1.bh) (λ a o s h=>fS (.inl s) h) (λ a m o h=>fS (.inr m) h),?_⟩;cases z:G (aK ds) with
  |dY c=>rw[z]at h1;exact h1.elim|bad=>rw[z]at h1;exact h1.elim
  | ok d =>
   rw[z]at h1;intro B' H' v fq r;obtain⟨B2,I2,s2,k2,hb⟩:=I1.called k1 (S:=λ a=>a∈P) (λ a s=>s) r;exact h1 v H' B2 fq I2 r.h0 s2 (r.rep.dm r.bh λ a o e=>(hb a o e).imp id λ z=>z.2) k2
 ·rename_i hb;have hb:aJ ds=false:=by simpa using hb
  refine⟨atRest B1 H1 (λ a=>False\/a∈fp),aK ds,iD I1.bh,(r1.gj hb).av (dZ I1.bh) (λ a o s=>s.elim) (λ a m o h=>fS (.inr m) h),?_⟩;cases z:G (aK ds) with
  |dY c=>rw[z]at h1;exact h1.elim|bad=>rw[z]at h1;exact h1.elim
  | ok d =>
   rw[z]at h1;intro B' H' v fq r;obtain⟨B2,I2,s2,k2,hb⟩:=I1.called k1 (S:=λ _=>False) (λ a s=>s.elim) r;refine h1 v H' B2 fq I2 r.h0 s2 ?_ k2;have sb:aD B' B2:=λ a o e=>(hb a o e).resolve_right λ z=>z.1;exact r.rep.mono #[52] sb λ _ x=>x.elim
def Fl.out:Fl->Res D
 |.rt d=>.ok d
 |.nx _=>.ok .bW
 |.ex C _=>.dY C
 |_=>.bad
def cF (n N:Nat)(g:SF)(ds:List D):Res D:=if ds.length=n then (g (ds.map some++List.replicate (N-n) none)).out else .bad
def kL:∀ {ds:List D}{vs:List V} (m:Nat),az K B No H ds vs []->cU K B H (ds.map some++List.replicate m none) (vs.map some++List.replicate m none) []
 | [],vs,m,r=>by
  obtain⟨rfl,_⟩:=r
  induction m with
  |zero=>exact⟨rfl,rfl⟩| succ m ih=>exact⟨none,_,rfl,ih⟩
 | d::ds,vs,m,r=>by
  obtain⟨v,w,f1,f2,rfl,r1,r2,z⟩:=r;obtain⟨rfl,rfl⟩:=nP z;exact⟨v,_,[],[],rfl,r1,kL m r2,rfl⟩
def BF {P:#[83]}{st:Stmt}{k:Nat}{g:SF}{f:Addr}{fd:FuncData}(D:Em K x x st f fd)(S:aP N ps (au st))
  (hbody:∀ (f:Addr) (cdv:Value) (A:#[127]) (outer:#[139]) (s:Shared) (H:Hp),dD k #[24] ->
   kF #[33].Cz (cQ st) (jf K tQ g)):nK P w K mg base sE (k+1) f fd ps (jr K (cF ps.length N.length g)):=by
 refine D.ok S (λ vs H Q E h=>?_) λ cdv A outer s H vs Q E hr h=>?_
 ·obtain⟨B0,ds,_,r,h⟩:=h;rw[<-r.length];unfold cF at h;by_cases hl:ds.length=ps.length
  ·exact hl
  ·rw[QK hl]at h;exact h.elim
 ·obtain⟨B0,ds,sB,r,h⟩:=h;unfold cF at h;by_cases hl:ds.length=ps.length
  ·rw[QG hl]at h;have e:L2.start N vs=vs.map some++List.replicate #[75] none:=by
    unfold L2.start;rw[<-r.length,hl]
   refine⟨_,hbody f cdv A outer s H hr,H,B0,B0,ds.map some++List.replicate #[75] none,[],⟨sB,aD.refl _,aD.refl _,λ a n=>.inl n,by rw[e];exact kL _ r,Rl,(λ a m=>by cases m),λ a m=>m.elim⟩,?_⟩;cases z:g (ds.map some++List.replicate #[75] none) with
   |rt d=>rw[z]at h;exact λ B' H' v fp q=>h B' H' v fp q
   | nx t =>
    rw[z]at h;intro B' H' σ' P' a;exact h B' H' .bW [] ⟨a.si.h0,a.si.b0,a.si.bh,a.si.nb,⟨rfl,rfl⟩,Rl,λ a m=>by cases m⟩
   |bk t=>rw[z]at h;exact h.elim|ct t=>rw[z]at h;exact h.elim|ex C t=>rw[z]at h;exact h.elim|bad=>rw[z]at h;exact h.elim
  ·rw[QK hl]at h;exact h.elim
def Lo {P:#[83]}{st:Stmt}{k:Nat}{g:SF}(D:jM K mg x st ps)(S:aP N ps (au st))
  (hbody:∀ (f:Addr) (cdv:Value) (A:#[127]) (outer:#[139]) (s:Shared) (H:Hp),dD k #[24] ->
   kF #[33].Cz (cQ st) (jf K tQ g)):jq P w K mg base (k+1) x ps (jr K (cF ps.length N.length g)):=by
 obtain⟨f,fd,F,hm,hb⟩:=D.ex;exact⟨f,fd,hm,F.kp,hb,BF F S hbody⟩
end
mutual
def D.jP:D->Bool
 |.tup xs=>jb xs
 |.lst t xs=>t.jh||jb xs
 |.dct t _ _ vs=>t.jh||jb vs
 |_=>false
def jb:List D->Bool
 |[]=>false
 |d::r=>d.jP||jb r
end
mutual
def yF:∀ d:D,d.pure=true->d.jP=false
 |.bW,_=>rfl|.bl _,_=>rfl|.int _,_=>rfl|.str _,_=>rfl|.exc _,_=>rfl|.tup xs,h=>kM xs h
 |.lst _ _,h=>by cases h
 |.dct _ _ _ _,h=>by cases h
def kM:∀ xs:List D,aX xs=true->jb xs=false
 |[],_=>rfl
 | d::r,h=>by
  have h:(d.pure&&aX r)=true:=h;rw[Q4]at h;show(d.jP||jb r)=false;rw[yF d h.1,kM r h.2];rfl
end
section
variable {K:#[0]}
mutual
def Rep.noOwn {B H:Hp}{S:#[30]}:∀ {d:D}{v:V}{fp:#[9]},d.jP=false->Rep K B S H d v fp->fp=[]
 |.bW,_,_,_,h=>h.2
 |.bl _,_,_,_,h=>h.2
 |.int _,_,_,_,h=>h.2
 |.str _,_,_,_,h=>h.2
 |.exc _,_,_,_,h=>h.2
 |.tup xs,v,fp,p,h=>let ⟨a,vs,e,q,r⟩:=h;az.noOwn (ds:=xs) p r
 |.lst .own xs,v,fp,p,h=>by simp[D.jP,Tg.jh]at p
 |.lst .bor xs,v,fp,p,h=>let ⟨a,vs,e,q,r,z⟩:=h;z
 |.lst .av xs,v,fp,p,h=>let ⟨a,vs,e,q,r,z⟩:=h;z
 |.lst (.len _) _,_,_,_,h=>h.elim
 |.dct (.len a) kd ks xs,v,fp,p,h=>by simp[D.jP,Tg.jh]at p
 |.dct .own kd ks xs,v,fp,p,h=>by simp[D.jP,Tg.jh]at p
 |.dct .bor kd ks xs,v,fp,p,h=>let ⟨a,vs,e,q,r,z⟩:=h;z
 |.dct .av kd ks xs,v,fp,p,h=>let ⟨a,vs,e,q,r,z⟩:=h;z
def az.noOwn {B H:Hp}{S:#[30]}:∀ {ds:List D}{vs:List V}{fp:#[9]},jb ds=false->az K B S H ds vs fp->fp=[]
 |[],_,_,_,h=>h.2
 | d::ds,vs,fp,p,h=>by
  obtain⟨v,r,f,g,e,h1,h2,z⟩:=h;have p:(d.jP||jb ds)=false:=p;rw[Sf]at p;rw[z,Rep.noOwn p.1 h1,az.noOwn p.2 h2];rfl
end
def iW (τ:SD)(cap:List (Str×Nat)):SD:=cap.map λ p=>((τ[p.2]?).join).map D.av
def kN (τ:SD)(cap:List (Str×Nat)):Bool:=cap.any λ p=>match (τ[p.2]?).join with|some d=>d.jP|none=>false
def gE (tg:xo)(tt:#[59])(elt:#[29]):List D->SD->Res (List D)
 |[],_=>.ok []
 | d::r,τ=>match tg d τ with
  |none=>.bad
  |some τ'=>(tt τ').bind λ b=>if b=true then (elt τ').bind λ x=>if x.aN=true then .bad else (gE tg tt elt r τ').bind λ xs=>.ok (x::xs) else gE tg tt elt r τ'
def cu (it:#[136])(tg:xo)(tt:#[59])(elt:#[29])(k:Nat)(cap:List (Str×Nat))(τ:SD):Res D:=(it τ).bind λ q=>
 match gE tg tt elt (aK q.2) (List.replicate k none++iW τ cap) with
 |.ok xs=>if xs.length<=16777216 then .ok (.lst .own (if (q.1||kN τ cap)=true then ig xs else xs)) else .bad
 |_=>.bad
def ES {Bx:Hp}(I:#[15])(sB:aD B Bx)(cap:List (Str×Nat))(hx:kN τ cap=true->∀ a∈P,∀ o,H a=some o->Bx a=some o):cU K Bx H (iW τ cap) (qH σ cap) []:=by
 induction cap with
 |nil=>exact⟨rfl,rfl⟩
 | cons p r ih =>
  have ih:=ih λ z=>hx (by unfold kN at z ⊢;rw[So,z,Vb]);unfold iW qH at ih ⊢;rw[Rc,Rc];cases e:(τ[p.2]?).join with
  |none=>exact⟨_,_,rfl,ih⟩
  | some d =>
   have e':τ[p.2]?=some (some d):=by
    cases z:τ[p.2]? with
    |none=>rw[z]at e;cases e|some o=>rw[z]at e;exact RL some e
   obtain⟨v,f,h1,h2,h3⟩:=I.rep.get e';refine⟨v,_,[],[],?_,?_,ih,rfl⟩
   ·rw[h1];rfl
   ·by_cases ho:d.jP=true
    ·have hc:kN τ (p::r)=true:=by
      unfold kN;rw[So,e];simp[ho]
     exact h2.av sB (λ a o s=>s.elim) λ a m o h=>hx hc a (h3.subset m) o h
    ·have hf:=h2.noOwn (by simpa using ho);subst hf;exact h2.av sB (λ a o s=>s.elim) λ a m=>by cases m
def vV {Bx:Hp}:∀ (k:Nat) {τ:SD}{σ:L2.St},cU K Bx H τ σ []->cU K Bx H (List.replicate k none++τ) (List.replicate k none++σ) []
 |0,_,_,h=>h
 |k+1,_,_,h=>⟨none,_,rfl,vV k h⟩
def SI.ET{o':HO}(I:SI K H0 B0 B H σ τ P F')(hF:F' a)(hH0:H0 a=none)(ha:H a=some o)(mu:rZ o):SI K H0 B0 B (upd H a o') σ τ P F':=by
 have kp:kI H (upd H a o') [a]:=⟨λ b u h n=>by rw[aZ (by simpa using n)];exact h,λ b m=>by
  have:b=a:=by simpa using m
  subst this;exact⟨o,ha,mu⟩⟩
 have kr:∀ {τ:SD}{σ:L2.St}{P:#[9]},(∀ b∈P,b≠a)->cU K B H τ σ P->cU K B (upd H a o') τ σ P:=by
  intro τ
  induction τ with
  |nil=>intro σ P _ h;exact h
  | cons q r ih =>
   intro σ P hp h;cases q with
   |none=>obtain⟨x,t,e,h⟩:=h;exact⟨x,t,e,ih hp h⟩
   | some d =>
    obtain⟨v,t,f,g,e,h1,h2,z⟩:=h;subst z;exact⟨v,t,f,g,e,h1.keep kp λ b m=>by
     have:=hp b (QR _ m);simpa using this,ih (λ b m=>hp b (QJ _ m)) h2,rfl⟩
 refine⟨λ b u e=>?_,λ b u e=>?_,I.b0,I.nb,kr (λ b m z=>(I.own b m).2.2 (z▸hF)) I.rep,I.nd,I.own,λ b m=>⟨(I.fr b m).1,?_⟩⟩
 ·rw[aZ]
  ·exact I.bh b u e
  ·intro z;subst z;rw[(I.fr b hF).1]at e;cases e
 ·rw[aZ]
  ·exact I.h0 b u e
  ·intro z;subst z;rw[hH0]at e;cases e
 ·by_cases z:b=a
  ·subst z;rw[bI];exact Rx _
  ·rw[aZ z];exact(I.fr b m).2
def aU{r:Res α}{f:α->Res β}{b:β}(h:r.bind f=.ok b):∃ a,r=.ok a/\f a=.ok b:=by
 cases r with
 |ok a=>exact⟨a,rfl,h⟩| dY C=>cases h|bad=>cases h
def CU{k:Nat}{J:It}(I1:SI K H0 B0 B1 H1 σ τ P F)(k1:fK H0 B1 H1 P F fp)(JA:J2 K J ds fl B1 H1 P fp)
  (h:Goal K Y H0 B0 B1 H1 σ τ P F Q (match gE tgd tt elt (aK ds) (List.replicate k none++iW τ cap) with
   |.ok xs=>if xs.length<=16777216 then .ok (.lst .own (if (fl||kN τ cap)=true then ig xs else xs)) else .bad
   |_=>.bad)):tG (λ _ _ R=>R J H1) (EO K tgd) (kJ K tQ tt) (tM K tQ elt) k cap σ H1 Q:=by
 intro acc hacc;cases zc:gE tgd tt elt (aK ds) (List.replicate k none++iW τ cap) with
 |dY C=>rw[zc]at h;exact h.elim|bad=>rw[zc]at h;exact h.elim
 | ok xs =>
  rw[zc]at h;simp only at h;by_cases hxl:xs.length<=16777216
  ·rw[QG hxl]at h
   let S:Addr->Prop:=λ a=>(fl||kN τ cap)=true/\a∈P
   let Bx:Hp:=atRest B1 H1 (λ a=>S a\/a∈fp)
   have sBx:aD B1 Bx:=dZ I1.bh;have uBx:aD Bx H1:=iD I1.bh;have J1:Lm K J (aK ds) Bx H1:=JA Bx sBx uBx (λ a m o e=>fS (.inr m) e) (λ hf a m o e=>fS (.inl ⟨by rw[hf];rfl,m⟩) e);have c0:cU K Bx H1 (List.replicate k none++iW τ cap) (List.replicate k none++qH σ cap) []:=vV k (ES I1 sBx cap λ hc a m o e=>fS (.inl ⟨by rw[hc,Vb],m⟩) e);have sacc:aD H1 (upd H1 acc (.lst [])):=iJ hacc;have C0:SI K H1 Bx Bx (upd H1 acc (.lst [])) (List.replicate k none++qH σ cap) (List.replicate k none++iW τ cap) [] (λ a=>a=acc\/a∈([]:#[9])):=
    ⟨uBx.trans sacc,sacc,aD.refl _,λ a n=>.inl n,c0.mono sacc #[52],Rl,(λ a m=>by cases m),λ a m=>by
     have:a=acc:=m.elim id λ z=>by cases z
     subst this;exact⟨uBx.free hacc,by rw[bI];exact Rx _⟩⟩
   refine⟨λ i m τv ys H'=>m=(aK ds).length-i/\i<=(aK ds).length/\∃ B' τb Pb es fe rest,SI K H1 Bx B' H' τv τb Pb (λ a=>a=acc\/a∈fe)/\H' acc=some (.lst ys)/\az K B' No H' es ys fe/\fe.Nodup /\
     (∀ a∈fe,H1 a=none/\a≠acc)/\gE tgd tt elt ((aK ds).drop i) τb=.ok rest/\xs=es++rest/\acc∉fe,⟨_,rfl,RS _,Bx,_,[],[],[],xs,C0,bI,⟨rfl,rfl⟩,Rl,(λ a m=>by cases m),zc,rfl,by simp⟩,?_⟩
   rintro i m τv ys H' ⟨rfl,hle,B',τb,Pb,es,fe,rest,C,ha,re,ndf,own,ec,ex,hna⟩;have im:j6 H1 H':=j6.of C.h0;by_cases hlt:i<(aK ds).length
   ·obtain⟨d,hd⟩:∃ d,(aK ds)[i]?=some d:=⟨(aK ds)[i],Qo hlt⟩;have hdrop:(aK ds).drop i=d::(aK ds).drop (i+1):=by
     rw[R9 hlt]
     congr 1
     rw[Qo hlt]at hd;exact Rq hd
    rw[hdrop]at ec;unfold gE at ec;refine .inr ⟨J1.go B' H' i d C.b0 C.bh im hd,λ x H'' y=>?_⟩;obtain⟨sy,ry⟩:=J1.Cp B' H' i d x H'' C.b0 C.bh im hd y;cases w:tgd d τb with
    |none=>rw[w]at ec;cases ec
    | some τ2 =>
     rw[w]at ec;simp only at ec;refine⟨H1,Bx,B',τb,Pb,_,d,[],C.grow sy,ry,fK.nil,?_⟩;rw[w];intro H3 σ3 P3 I3 e3;subst e3;obtain⟨b,eb,ec⟩:=aU ec;refine⟨H1,Bx,B',τ2,P3,_,I3,?_⟩;rw[eb];intro H4 B4 I4 s4 b4;have re4:az K B4 No H4 es ys fe:=re.mono (sy.trans s4) b4 λ _ x=>x;have ha4:H4 acc=some (.lst ys):=s4 _ _ (sy _ _ ha);cases b with
     | false =>
      rw[QK Qy]at ec ⊢;exact⟨_,by omega,rfl,hlt,B4,τ2,P3,es,fe,rest,I4,ha4,re4,ndf,own,ec,ex,hna⟩
     | true =>
      rw[QG rfl]at ec ⊢;obtain⟨x',ex',ec⟩:=aU ec;refine⟨H1,Bx,B4,τ2,P3,_,I4,?_⟩;rw[ex'];intro v H5 B5 fv I5 s5 b5 r5 k5;by_cases hb:x'.aN=true
      ·rw[QG hb]at ec;cases ec
      ·rw[QK hb]at ec;obtain⟨rest',er',ec⟩:=aU ec;cases ec;have hb:x'.aN=false:=by simpa using hb
       have ha5:H5 acc=some (.lst ys):=s5 _ _ ha4;have re5:az K B5 No H5 es ys fe:=re4.mono s5 b5 λ _ x=>x;have hlen:ys.length<sizeLine:=by
        rw[<-re.length,Rg];have:=RL List.length ex;simp at this;omega
       refine⟨ha5,hlen,_,by omega,rfl,hlt,?_⟩;have Ih:=I5.hold k5;have fdis:∀ a∈fv,a∉fe/\a≠acc:=λ a m=>⟨λ z=>(k5.own a m).2.2.2.2 (.inr z),λ z=>(k5.own a m).2.2.2.2 (.inl z)⟩;have Ih2:SI K H1 Bx B5 H5 σ3 τ2 P3 (λ a=>a=acc\/a∈fe++fv):=Ih.xg λ a m=>by
        rcases m with m|m
        ·exact .inr (.inl m)
        ·rcases QH.mp m with m|m
         ·exact .inr (.inr m)
         ·exact .inl m
       have Iw:=Ih2.ET (o':=.lst (ys++[v])) (.inl rfl) hacc ha5 trivial;have kp:kI H5 (upd H5 acc (.lst (ys++[v]))) [acc]:=⟨λ b u h n=>by rw[aZ (by simpa using n)];exact h,λ b m=>by
        have:b=acc:=by simpa using m
        subst this;exact⟨_,ha5,trivial⟩⟩
       refine⟨B5,τ2,P3,es++[x'],fe++fv,rest',Iw,bI,?_,QL.mpr ⟨ndf,k5.nd,λ a h1 b h2 e=>(fdis b h2).1 (e▸h1)⟩,λ a m=>?_,er',by rw[ex];simp,λ m=>?_⟩
       ·refine az.append (re5.keep kp λ a m z=>?_) (az.one ((r5.gj hb).keep kp λ a m z=>?_))
        ·have:a=acc:=by simpa using z
         exact hna (this▸m)
        ·have:a=acc:=by simpa using z
         exact(fdis a m).2 this
       ·rcases QH.mp m with m|m
        ·exact own a m
        ·exact⟨(k5.own a m).2.1,(fdis a m).2⟩
       ·rcases QH.mp m with m|m
        ·exact hna m
        ·exact(fdis acc m).2 rfl
   ·have e:i=(aK ds).length:=by omega
    subst e;rw[U5]at ec;unfold gE at ec;cases ec;rw[QQ]at ex;subst ex;refine .inl ⟨J1.stop B' H' C.b0 C.bh im,?_⟩;have ro:g6 K H1 Bx B' H' (.lst .own xs) (.ref acc) (acc::fe):=⟨C.h0,C.b0,C.bh,C.nb,⟨acc,ys,fe,rfl,ha,re,rfl⟩,Q8.mpr ⟨hna,ndf⟩,λ a m=>by
     rcases QA.mp m with m|m
     ·subst m;exact⟨(C.fr a (.inl rfl)).1,hacc,(C.fr a (.inl rfl)).2⟩
     ·exact⟨(C.fr a (.inr m)).1,(own a m).1,(C.fr a (.inr m)).2⟩⟩
    obtain⟨B2,I2,s2,k2,hb⟩:=I1.called k1 (S:=S) (λ a s=>s.2) ro;by_cases hl:(fl||kN τ cap)=true
    ·rw[QG hl]at h;exact h (.ref acc) H' B2 _ I2 C.h0 s2 (ro.rep.dm ro.bh λ a o e=>(hb a o e).imp id λ z=>z.2) k2
    ·rw[QK hl]at h;have sb:aD B' B2:=λ a o e=>(hb a o e).resolve_right λ z=>hl z.1.1;exact h (.ref acc) H' B2 _ I2 C.h0 s2 (ro.rep.mono #[52] sb λ _ x=>x.elim) k2
  ·rw[QK hxl]at h;exact h.elim
def vW{k:Nat}(I:#[15])(h:Goal K Y H0 B0 B H σ τ P F Q (cu it tgd tt elt k cap τ)) :
  tG (EJ K Y it) (EO K tgd) (kJ K tQ tt) (tM K tQ elt) k cap σ H Q:=by
 refine⟨H0,B0,B,τ,P,F,I,?_⟩;unfold cu at h;cases z:it τ with
 |dY C=>rw[z]at h;exact h|bad=>rw[z]at h;exact h
 | ok q =>
  obtain⟨fl,ds⟩:=q;rw[z]at h;simp only[Res.aU]at h;intro J H1 B1 fp I1 s1 b1 k1 JA;exact CU I1 k1 JA (Goal.later h s1 b1)
variable {elt iter:Expr}{ifs:List Expr}{scope:Scope}{own:#[79]}
def iX (ok:#[140])(hc:X.calm=true)(hi:PI X tg iter (EJ X.K Y it))(Bl:#[169])(hs:#[39]:=by intro _;rfl) :
  PE X #[20] (tM X.K Y (cu it tgd tt fe own.length cap)):=
 PE.imp (HR ok hc hi Bl hs) λ σ H Q hq=>ex8 hq λ H0 B0 B τ P F I h=>vW I h
def CT{y:Str}{py spos:Pos}(hN:X.N.Nodup)(hi':X.N[i]?=some y)(hy:Loc X.env.scope y)(ok:#[140])(hc:X.calm=true)(hi:PI X tg iter (EJ X.K Y it))(Bl:#[169])
  (hsw:#[158]:=by rfl)
  (hf:#[63]:=by first|exact .inl rfl|exact .inr rfl) (hs:#[39]:=by intro _;rfl) :
  PS X (.Assign [.Name y py] #[20] spos) (jf X.K Y (aL i (cu it tgd tt fe own.length cap))):=by
 refine PS.imp (tE hN hi' hy ok hc hi Bl hsw hf hs) λ E σ H hq=>ex7 hq λ H0 B0 B τ P I h=>?_;have key:tM X.K Y (cu it tgd tt fe own.length cap) σ H (λ x H1=>vC i x σ H1 E.nx):=j7 I h λ d v H1 B1 fp _ I1 _ _ r1 k1 h1=>by
  unfold Ia at h1;split at h1
  ·exact h1.elim
  ·rename_i hb;obtain⟨P',I',_⟩:=I1.set i (r1.gj (by simpa using hb)) k1;exact h1 B1 H1 _ P' ⟨I',aD.refl _,j6.refl _⟩
 obtain⟨H0',B0',B',τ',P',F',I',h'⟩:=key;exact vW I' h'
def dI (_:SD):Res Bool:=.ok true
def gQ:Np X [] (kJ X.K Y dI):=λ pins s σ H Q I ⟨H0,B0,B,τ,P,F,I',h⟩=>HQ pins s σ H Q I (h H B I' #[52] #[52])
def nk {c:Expr}(h:PT X c (kJ X.K Y gc)):Np X [c] (kJ X.K Y gc):=HP h
end
section
variable {K:#[0]}
def Ov:D->String|.bW=>"NoneType" |.bl _=>"bool" |.int _=>"int" |.str _=>"str" |.tup _=>"tuple" |.lst _ _=>"list" |.dct _ _ _ _=>"dict" |.exc _=>""
def D.isExc:D->Bool|.exc _=>true|_=>false
def xq:eK X (.builtin "isinstance") (λ xs H Q=>∃ x t b,xs=[x,.ty T]/\(oW X.K H x t\/(∃ a vs,x=.ref a/\k9 X.K H a vs/\t=.type "tuple")\/(∃ a vs,x=.ref a/\fH X.K H a vs/\t=.type "list"))/\PySem.W.kitOne X.K t (.type T)=some b/\Q (.bl b) H):=by
 intro pins s σ H xs us Q I r h;obtain⟨x,t,b,rfl,ty,e,q⟩:=h;obtain⟨u,v,rfl,ru,rv⟩:=vals2 r;cases rv;rcases ty with ty|⟨a,vs,rfl,hq,rfl⟩|⟨a,vs,rfl,hq,rfl⟩
 ·exact Cv I ru ty e λ tk=>⟨.bl b,H,I.tok tk,rfl,q⟩
 ·cases ru;obtain⟨its,_,⟨o,h1,h2,_⟩,_⟩:=I.tuple hq;exact Rz PySem.W.kitx_tuple I.qC ⟨o,h1,h2⟩ e (λ z=>nomatch z) λ tk=>⟨.bl b,H,I.tok tk,rfl,q⟩
 ·cases ru;obtain⟨its,_,pl,_⟩:=I.list hq;obtain⟨o,h1,h2,_⟩:=pl.isList;exact Rz UQ I.qC ⟨o,h1,h2⟩ e (λ z=>nomatch z) λ tk=>⟨.bl b,H,I.tok tk,rfl,q⟩
def EU {d:D}(I:#[15])(r:Rep K B (· ∈ P) H d v f)(ne:d.isExc=false):oW K H v (.type (Ov d))\/(∃ a vs,v=.ref a/\k9 K H a vs/\(Value.type (Ov d))=.type "tuple")\/(∃ a vs,v=.ref a/\fH K H a vs/\(Value.type (Ov d))=.type "list"):=by
 cases d with
 |bW=>rw[r.1];exact .inl .bW|bl b=>rw[r.1];exact .inl (.bl b)|int b=>rw[r.1];exact .inl (.int b)|str b=>rw[r.1];exact .inl (.str b)|exc _=>cases ne|tup xs=>obtain⟨a,vs,rfl,q,_⟩:=r;exact .inr (.inl ⟨a,vs,rfl,k9.of q,rfl⟩)
 | lst t xs =>
  obtain⟨a,vs,g,rfl,q,_⟩:=r.lst I;exact .inr (.inr ⟨a,vs,rfl,q,rfl⟩)
 | dct t k ks xs =>
  have:∃ a vs,v=.ref a/\DictAt H a k ks vs:=by
   cases t with
   |len a=>obtain⟨vs,g,e,q,_⟩:=r;exact⟨a,vs,e,q⟩| own=>obtain⟨a,vs,g,e,q,_⟩:=r;exact⟨a,vs,e,q⟩| bor=>obtain⟨a,vs,e,q,_⟩:=r;exact⟨a,vs,e,q.elim (λ y=>y.2) λ y=>y.mono I.bh⟩| av=>obtain⟨a,vs,e,q,_⟩:=r;exact⟨a,vs,e,q.mono I.bh⟩
  obtain⟨a,vs,rfl,⟨_,kvs,ep,q,_⟩|⟨_,kvs,ep,q,_⟩⟩:=this
  ·exact .inl (.dK q)
  ·exact .inl (.dT q)
def P0:D->Bool|.bl _=>true|_=>false
def Pp:D->Bool|.bl _=>true|.int _=>true|_=>false
def yf:D->Bool|.lst _ _=>true|_=>false
def An:D->Bool|.tup _=>true|_=>false
def t8 (T:String)(g:D->Bool):Prop:=∀ (K:#[0]) (d:D),d.isExc=false->PySem.W.kitOne K (.type (Ov d)) (.type T)=some (g d)
def CV:t8 "bool" P0:=λ K d h=>by cases d<;>first|rfl|cases h
def yG:t8 "int" Pp:=λ K d h=>by cases d<;>first|rfl|cases h
def vX:t8 "list" yf:=λ K d h=>by cases d<;>first|rfl|cases h
def oF:t8 "tuple" An:=λ K d h=>by cases d<;>first|rfl|cases h
def g8 (g:D->Bool)(d:D):Res D:=if d.isExc=true then .bad else .ok (.bl (g d))
def l7{g:D->Bool}{ty:Expr}{pt:Pos}(hI:t8 T g)(hg:Gl X "isinstance")(hm:X.mg "isinstance" = none)(he:#[46])(hgT:Gl X x)(hmT:X.mg x=none)(hbT:bootBuiltins x=some (.type T))
  (hs:#[138]:=by rfl) (hs2:#[162]:=by rfl) (hpl:(backTo pos (starEach [.Name x pt] X.env)).any (·.1)=false:=by rfl) (hn:#[115] :=by decide) (hdb:#[3]:=by decide) :
  PE X (.Call (.Name "isinstance" p) [e,.Name x pt] [] pos) (tM X.K Y (gD (g8 g) fe)):=by
 refine PE.imp (lO (xq (T:=T)) hg hm #[141] (cN he (cN (Bo hgT hmT hbT (show RelV (.ty T) _ from rfl) hn hdb) gP hs2) hs) (he:=hs) (hpl:=hpl)) λ σ H Q hq=>ex8 hq λ H0 B0 B τ P F I h=>?_;refine tM.seq (g:=g8 g) I h λ d v H1 B1 fp _ I1 s1 b1 r1 k1 h1=>?_;unfold g8 at h1;split at h1
 ·exact h1.elim
 ·rename_i hx;have hx:d.isExc=false:=by simpa using hx
  exact⟨v,_,_,rfl,EU I1 r1 hx,hI _ d hx,Out.here h1 I1 ⟨rfl,rfl⟩⟩
def intsOf:List D->Option #[6]
 |[]=>some []
 |.int i::r=>(intsOf r).map (i :: ·)
 |_::_=>none
def iu (ns:#[6]):intsOf #[89]=some ns:=by
 induction ns with
 |nil=>rfl|cons n r ih=>rw[Rc,intsOf,ih];rfl
def gF:∀ {xs:List D}{ns:#[6]},intsOf xs=some ns->xs=ns.map D.int
 |[],ns,h=>by cases h;rfl
 | .int i::r,ns,h=>by
  unfold intsOf at h;cases e:intsOf r with
  |none=>rw[e]at h;cases h|some m=>rw[e]at h;cases h;rw[Rc,<-gF e]
 |.bW::_,_,h=>by cases h
 |.bl _::_,_,h=>by cases h
 |.str _::_,_,h=>by cases h
 |.tup _::_,_,h=>by cases h
 |.lst _ _::_,_,h=>by cases h
 |.dct _ _ _ _::_,_,h=>by cases h
 |.exc _::_,_,h=>by cases h
def fU {S:#[30]}:∀ {ns:#[6]}{vs:List V}{f:#[9]},az K B S H #[89] vs f->vs=ns.map V.int/\f=[]
 |[],vs,f,r=>r
 | n::ns,vs,f,r=>by
  obtain⟨v,w,f1,f2,rfl,⟨rfl,rfl⟩,r2,rfl⟩:=r;obtain⟨rfl,rfl⟩:=fU r2;exact⟨rfl,rfl⟩
def j9 {S:#[30]}:∀ (ns:#[6]),az K B S H #[89] #[135] []
 |[]=>⟨rfl,rfl⟩
 |n::ns=>⟨_,_,[],[],rfl,⟨rfl,rfl⟩,j9 ns,rfl⟩
def sortI (ns:#[6]):List Int:=ns.mergeSort (λ a b=>decide (a<=b))
def sortI_perm (ns:#[6]):(sortI ns).Perm ns:=List.mergeSort_perm ns _
def jc (ns:#[6]):(sortI ns).Pairwise (· <= ·):=by
 have h:=List.pairwise_mergeSort (le:=λ a b:Int=>decide (a<=b)) (λ a b c h1 h2=>by simp at *;omega) (λ a b=>by simp;omega) ns;exact h.imp λ h=>by simpa using h
def fD:∀ {l m:#[6]},l.Perm m->l.Pairwise (· <= ·)->m.Pairwise (· <= ·)->l=m
 |[],m,hp,_,_=>(List.Perm.nil_eq hp)
 | x::r,m,hp,h1,h2=>by
  match m,hp,h2 with
  |[],hp,_=>exact absurd hp.length_eq #[32]
  | y::r',hp,h2 =>
   obtain⟨a1,a2⟩:=UC.mp h1;obtain⟨b1,b2⟩:=UC.mp h2;have e:x=y:=by
    have m1:x∈y::r':=hp.mem_iff.mp Qx;have m2:y∈x::r:=hp.mem_iff.mpr Qx;rcases QA.mp m1 with q|q
    ·exact q
    ·rcases QA.mp m2 with q'|q'
     ·exact q'.symm
     ·have:=b1 x q;have:=a1 y q';omega
   subst e;rw[fD ((List.perm_cons _).mp hp) a2 b2]
def fT:List D->Res D
 |[.lst _ xs]=>match intsOf xs with|some ns=>if ns.length<64 then .ok (.lst .own ((sortI ns).map D.int)) else .bad|none=>.bad
 |_=>.bad
def t7:jz K Y (λ xs H Q=>∃ (a:Addr) (ns:#[6]),xs=[.ref a]/\fH K H a #[135]/\ns.length<64/\∀ (p:Addr) (ns':#[6]),H p=none->ns'.Perm ns->ns'.Pairwise (· <= ·)->Q (.ref p) (upd H p (.lst (ns'.map V.int)))) fT:=by
 intro H0 B0 B H σ τ P F ds vs f Q I r k h;unfold fT at h;split at h
 ·obtain⟨v,rfl,r'⟩:=iK r;obtain⟨a,ws,g,rfl,q,l,s⟩:=r'.lst I;split at h
  ·rename_i ns e;split at h
   ·rename_i hl;have ex:=gF e;subst ex;obtain⟨rfl,rfl⟩:=fU l;refine⟨a,ns,rfl,f9 q,hl,λ p ns' hp h1 h2=>?_⟩;have e2:ns'=sortI ns:=fD (h1.trans (sortI_perm ns).symm) h2 (jc ns);subst e2;exact Out.xh h I (j9 _) fK.nil hp
   ·exact h.elim
  ·exact h.elim
 ·exact h.elim
end
def NK:D->Option Key|.int i=>some (.inl i)|.str x=>some (.inr x)|_=>none
def pI:List D->Option (List Key)
 |[]=>some []
 |d::r=>(NK d).bind λ k=>(pI r).map (k :: ·)
def CW:D->Option KT
 |.int i=>some (.inl (.inl i))
 |.str x=>some (.inl (.inr x))
 |.tup ds=>(pI ds).map .inr
 |_=>none
def KT.kind:KT->Bool|.inl _=>false|.inr _=>true
def gG:List KT->List D->KT->Option D
 |k::ks,d::ds,q=>if k=q then some d else gG ks ds q
 |_,_,_=>none
def qL (ks:List KT)(q:KT):Bool:=ks.any λ k=>decide (k=q)
def lB (ks:List KT)(q:KT):List KT:=if qL ks q=true then ks else ks++[q]
def nR:List KT->List D->KT->D->List D
 |k::ks,d::ds,q,x=>(if k=q then x else d)::nR ks ds q x
 |_,ds,_,_=>ds
def lA (ks:List KT)(ds:List D)(q:KT)(d:D):List D:=if qL ks q=true then nR ks ds q d else ds++[d]
section
variable {K:#[0]}
def Rep.dc (I:#[15]){t:Tg}{k:Bool}(r:Rep K B (· ∈ P) H (.dct t k ks xs) v f):∃ a vs g,v=.ref a/\DictAt H a k ks vs/\az K B (· ∈ P) H xs vs g/\List.Sublist g f:=by
 cases t with
 | len a =>
  obtain⟨vs,g,e,q,r,z⟩:=r;subst z;exact⟨a,vs,g,e,q,r,SY _ _⟩
 | own =>
  obtain⟨a,vs,g,e,q,r,z⟩:=r;subst z;exact⟨a,vs,g,e,q,r,SY _ _⟩
 | bor =>
  obtain⟨a,vs,e,q,r,z⟩:=r;subst z;exact⟨a,vs,[],e,q.elim (λ y=>y.2) λ y=>y.mono I.bh,r,Rm _⟩
 | av =>
  obtain⟨a,vs,e,q,r,z⟩:=r;subst z;exact⟨a,vs,[],e,q.mono I.bh,r.mono #[52] #[52] (λ _ x=>x.elim),Rm _⟩
def vY {S:#[30]}:∀ {ds:List D}{k:List Key}{vs:List V}{f:#[9]},pI ds=some k->az K B S H ds vs f->vs=k.map kV
 |[],k,vs,f,h,r=>by cases h;exact r.1
 | d::ds,k,vs,f,h,r=>by
  obtain⟨v,w,f1,f2,rfl,r1,r2,_⟩:=r;unfold pI at h;cases e1:NK d with
  |none=>rw[e1]at h;cases h
  | some q =>
   rw[e1]at h;cases e2:pI ds with
   |none=>rw[e2]at h;cases h
   | some m =>
    rw[e2]at h;cases h;rw[vY e2 r2,Rc]
    congr 1
    cases d<;>first|(cases e1;exact r1.1)|cases e1
def EZ{d:D}{k:Key}(h:CW d=some (.inl k))(r:Rep K B S H d v f):v=kV k:=by
 cases d with
 |int i=>cases h;exact r.1|str i=>cases h;exact r.1
 | tup ds =>
  have h:(pI ds).map Sum.inr=some (Sum.inl k):=h;cases e:pI ds<;>rw[e]at h<;>cases h
 |_=>cases h
def EW{d:D}{k:List Key}(h:CW d=some (.inr k))(r:Rep K B S H d v f):∃ b,v=.ref b/\H b=some (.tup (k.map kV)):=by
 cases d with
 | tup ds =>
  have h:(pI ds).map Sum.inr=some (Sum.inr k):=h;cases e:pI ds with
  |none=>rw[e]at h;cases h
  | some m =>
   rw[e]at h;cases h;obtain⟨a,vs,rfl,q,rl⟩:=r;rw[vY e rl]at q;exact⟨a,rfl,q⟩
 |int i=>cases h|str i=>cases h|_=>cases h
def qM {κ:Type}[DecidableEq κ](ι:κ->KT)(inj:∀ a b,ι a=ι b->a=b){S:#[30]}:∀ {kvs:List (κ×V)}{xs:List D}{f:#[9]}{k:κ},az K B S H xs (kvs.map (·.2)) f ->
  match gG (kvs.map λ p=>ι p.1) xs (ι k) with
  |some d=>∃ v g,ph kvs k=some v/\Rep K B S H d v g/\List.Sublist g f
  |none=>ph kvs k=none
 |[],xs,f,k,r=>by cases xs<;>rfl
 |p::kvs,[],f,k,r=>by obtain⟨h,_⟩:=r;cases h
 | p::kvs,d::ds,f,k,r=>by
  obtain⟨v,w,f1,f2,e,r1,r2,rfl⟩:=r;rw[Rc]at e;cases e;rw[Rc,gG];by_cases h:p.1=k
  ·rw[QG (RL ι h)];exact⟨_,f1,pj h,r1,Rp _ _⟩
  ·rw[QK λ z=>h (inj _ _ z)];have ih:=qM ι inj (k:=k) r2;split at ih
   ·rename_i d' e';obtain⟨v',g,h1,h2,h3⟩:=ih;exact⟨v',g,by rw[lU h];exact h1,h2,h3.trans (QZ _ _)⟩
   ·rename_i e';rw[lU h];exact ih
def Ig{k:Bool}{g:#[9]}{q:KT}{dk:D}{y:V}(hd:DictAt H a k ks vs)(r:az K B (· ∈ P) H xs vs g)(hk:CW dk=some q)(rk:Rep K B (· ∈ P) H dk y f)(hq:q.kind=k) :
  match gG ks xs q with
  |some d=>∃ v g',qG H a y (some v)/\Rep K B (· ∈ P) H d v g'/\List.Sublist g' g
  |none=>qG H a y none:=by
 rcases hd with ⟨rfl,kvs,ep,ha,rfl,rfl⟩|⟨rfl,kvs,ep,ha,rfl,rfl⟩
 ·cases q with
  |inr q=>cases hq
  | inl q =>
   have ev:=EZ hk rk;subst ev;have ih:=qM Sum.inl (λ a b h=>Sum.inl.inj h) (k:=q) r;split at ih
   ·rename_i d e;rw[e];obtain⟨v,g',h1,h2,h3⟩:=ih;exact⟨v,g',h1▸qG.k ⟨ep,ha⟩,h2,h3⟩
   ·rename_i e;rw[e];exact ih▸qG.k ⟨ep,ha⟩
 ·cases q with
  |inl q=>cases hq
  | inr q =>
   obtain⟨b,rfl,hb⟩:=EW hk rk;have ih:=qM Sum.inr (λ a b h=>Sum.inr.inj h) (k:=q) r;split at ih
   ·rename_i d e;rw[e];obtain⟨v,g',h1,h2,h3⟩:=ih;exact⟨v,g',h1▸qG.t ⟨ep,ha⟩ hb,h2,h3⟩
   ·rename_i e;rw[e];exact ih▸qG.t ⟨ep,ha⟩ hb
def EX (k:Bool)(_:SD):Res D:=.ok (.dct .own k [] [])
def newDict{k:Bool}{pa:Addr}(h:Out K H0 B0 B H σ τ P F Q (.dct .own k [] []))(I:#[15])(hp:H pa=none)(ho:DictAt (upd H pa o) pa k [] []):Q (.ref pa) (upd H pa o):=by
 have s:=iJ (o:=o) hp;obtain⟨n1,n2,n3,n4⟩:=I.yy hp;refine h (.ref pa) _ B [pa] (I.grow s) s #[52] ⟨pa,[],[],rfl,ho,⟨rfl,rfl⟩,rfl⟩ ⟨by simp,λ a m=>?_⟩;have e:a=pa:=by simpa using m
 subst e;exact⟨n1,n2,(by rw[bI];exact Rx _),n3,n4⟩
def Ii:PE X (.Dict [] [] pos) (tM X.K Y (EX true)):=PE.imp Ei λ σ H Q ⟨H0,B0,B,τ,P,F,I,h⟩ p hp=>newDict h I hp (.inr ⟨rfl,[],0,bI,rfl,rfl⟩)
variable {o i:Expr}{fo fi:#[29]}
def EV (dd dk:D):Res D:=match dd with
 | .dct _ k ks vs=>match CW dk with
  |some q=>if q.kind=k then (match gG ks vs q with|some d=>.ok d|none=>.bad) else .bad
  |none=>.bad
 |_=>.bad
def Lq (hu:X.A.units+1<cLine)(ho:PE X o (tM X.K Y fo))(hi:PE X i (tM X.K Y fi))(hs:Lg i):PE X (.Subscript o i pos) (tM X.K Y (ai EV fo fi)):=
 PE.imp (HL hu ho hi hs) λ σ H Q hq=>ex8 hq λ H0 B0 B τ P F I h=>tM.CN I h λ d1 d2 v1 v2 H2 B2 f1 f2 _ _ I2 _ _ r1 r2 k h2=>by
  unfold EV at h2;split at h2
  ·split at h2
   ·rename_i q hk;split at h2
    ·rename_i hq;obtain⟨a,vs,g,rfl,hd,rl,sg⟩:=r1.dc I2;have key:=Ig hd rl hk r2 hq;split at key
     ·rename_i d e;rw[e]at h2;obtain⟨v,g',k1,k2,k3⟩:=key;exact⟨a,v,rfl,k1,Out.BB h2 I2 k2 (k.left.sub (k3.trans sg))⟩
     ·rename_i e;rw[e]at h2;exact h2.elim
    ·exact h2.elim
   ·exact h2.elim
  ·exact h2.elim
def Rep.EY {t:Tg}{k:Bool}(ht:t.jh=true)(r:Rep K B S H (.dct t k ks xs) v fp) :
  ∃ a vs f,v=.ref a/\DictAt H a k ks vs/\az K B S H xs vs f/\fp=a::f/\∀ {B' H':Hp}{S':#[30]}{ks':List KT}{xs':List D}{vs':List V}{f':#[9]},DictAt H' a k ks' vs'->az K B' S' H' xs' vs' f'->Rep K B' S' H' (.dct t k ks' xs') (.ref a) (a::f'):=by
 cases t with
 |own=>obtain⟨a,vs,f,e,q,r,z⟩:=r;exact⟨a,vs,f,e,q,r,z,λ q' r'=>⟨a,_,_,rfl,q',r',rfl⟩⟩| len a=>obtain⟨vs,f,e,q,r,z⟩:=r;exact⟨a,vs,f,e,q,r,z,λ q' r'=>⟨_,_,rfl,q',r',rfl⟩⟩| bor=>cases ht|av=>cases ht
def l8 (τ:SD)(i:Nat):Option (Tg×Bool×List KT×List D):=match τ[i]? with|some (some (.dct t k ks xs))=>if t.jh=true then some (t,k,ks,xs) else none|_=>none
def oG{i:Nat}{t:Tg}{k:Bool}(h:l8 τ i=some (t,k,ks,xs)):τ[i]?=some (some (.dct t k ks xs))/\t.jh=true:=by
 unfold l8 at h;split at h
 ·rename_i e;split at h
  ·rename_i ht;cases h;exact⟨e,ht⟩
  ·cases h
 ·cases h
def yH {κ:Type}[DecidableEq κ](ι:κ->KT)(inj:∀ a b,ι a=ι b->a=b)(k:κ):∀ kvs:List (κ×V),qL (kvs.map λ p=>ι p.1) (ι k)=kvs.any λ kv=>decide (kv.1=k)
 |[]=>rfl
 | p::r=>by
  have ih:=yH ι inj k r;unfold qL at ih ⊢;rw[Rc,So,So,ih]
  congr 1
  by_cases h:p.1=k
  ·simp[h]
  ·rw[QF h,QF λ z=>h (inj _ _ z)]
def E1 {κ:Type}[DecidableEq κ](ι:κ->KT)(inj:∀ a b,ι a=ι b->a=b){kvs:List (κ×V)}{k:κ}{d:D}(r:az K B No H xs (kvs.map (·.2)) f)(rv:Rep K B No H d v fp)(hp:qL (kvs.map λ p=>ι p.1) (ι k)=true->d.pure=true) :
  lB (kvs.map λ p=>ι p.1) (ι k)=(putK kvs k v).map (λ p=>ι p.1)/\∃ f',az K B No H (lA (kvs.map λ p=>ι p.1) xs (ι k) d) ((putK kvs k v).map (·.2)) f'/\(∀ b∈f',b∈f\/b∈fp)/\(f.Nodup->fp.Nodup->(∀ b∈fp,b∉f)->f'.Nodup):=by
 unfold lB lA putK;rw[yH ι inj k kvs]at hp ⊢;by_cases h:(kvs.any λ kv=>decide (kv.1=k))=true
 ·rw[QG h,QG h,QG h];have hpu:=hp h;have hfp:fp=[]:=sF.1 d hpu rv;subst hfp;refine⟨?_,?_⟩
  ·rw[Q5];refine List.map_congr_left λ p _=>?_;show _=ι (if p.1=k then (p.1,v) else p).1;split<;>rfl
  ·have key:∀ {kvs:List (κ×V)}{xs:List D}{f:#[9]},az K B No H xs (kvs.map (·.2)) f->∃ f',az K B No H (nR (kvs.map λ p=>ι p.1) xs (ι k) d) ((kvs.map λ kv=>if kv.1=k then (kv.1,v) else kv).map (·.2)) f'/\List.Sublist f' f:=by
    intro kvs
    induction kvs with
    | nil=>intro xs f r; cases xs with
     |nil=>exact⟨f,r,Rm _⟩| cons x xs=>obtain⟨_,_,_,_,e,_⟩:=r;cases e
    | cons p kvs ih =>
     intro xs f r;cases xs with
     |nil=>obtain⟨e,_⟩:=r;cases e
     | cons x xs =>
      obtain⟨u,w,f1,f2,e,r1,r2,rfl⟩:=r;rw[Rc]at e;cases e;obtain⟨g,h1,h2⟩:=ih r2;rw[Rc,Rc,Rc,nR];by_cases hk:p.1=k
      ·rw[QG hk,QG (RL ι hk)];exact⟨g,⟨v,_,[],g,rfl,rv,h1,rfl⟩,h2.trans (QZ _ _)⟩
      ·rw[QK hk,QK λ z=>hk (inj _ _ z)];exact⟨f1++g,⟨_,_,f1,g,rfl,r1,h1,rfl⟩,Ur (Rm _) h2⟩
   obtain⟨g,h1,h2⟩:=key r;exact⟨g,h1,λ b m=>.inl (h2.subset m),λ n _ _=>n.sublist h2⟩
 ·rw[QK h,QK h,QK h];refine⟨by rw[Rj];rfl,f++fp,?_,λ b m=>QH.mp m,λ n1 n2 n3=>QL.mpr ⟨n1,n2,λ a ha b hb e=>n3 b hb (e▸ha)⟩⟩;rw[Rj];exact r.append (az.one rv)
def SI.NL {i:Nat}{t:Tg}(ht:t.jh=true){k:Bool}{ks':List KT}{xs':List D}{gp:#[9]}{o':HO}(I:SI K H0 B0 B H σ τ P No)(hi:τ[i]?=some (some (.dct t k ks xs)))(ev:σ[i]?=some (some (.ref a)))(kv:fK H0 B H P No gp)(mu:∃ o,H a=some o/\rZ o)
  (items:∀ vs f,DictAt H a k ks vs->az K B No H xs vs f->∃ vs' f',DictAt (upd H a o') a k ks' vs'/\az K B No H xs' vs' f'/\(∀ b∈f',b∈f\/b∈gp)/\(f.Nodup->(∀ b∈gp,b∉f)->f'.Nodup)) :
  ∃ P',l4 K H0 B0 B H B (upd H a o') σ (τ.set i (some (.dct t k ks' xs'))) P':=by
 have hi':i<τ.length:=(Qt.mp hi).1;obtain⟨A,f,C,e,h1,h2⟩:=I.rep.cut hi';obtain⟨v,e1,r1⟩:=h1 _ hi;rw[ev]at e1;cases e1;obtain⟨a',ws,g,ea,hq,rl,ef,back⟩:=r1.EY ht;cases ea;subst ef;have nd0:=I.nd;rw[e]at nd0;have ndf:(a::g).Nodup:=(nd0.sublist (Rp _ _)).sublist (QZ _ _);have gdis:∀ b∈gp,b∉a::g:=λ b m z=>(kv.own b m).2.2.2.1 (by rw[e];exact eQ _ _ _ b z);obtain⟨vs',f',dq',r',s',n'⟩:=items ws g hq rl;obtain⟨na,ng⟩:=Q8.mp ndf;have hna:a∉f':=λ m=>(s' a m).elim na λ z=>gdis a z Qx;have es:σ.set i (some (.ref a))=σ:=by
  refine SE λ k=>?_;by_cases hk:k=i
  ·subst hk;rw[RW (Qt.mp ev).1,ev]
  ·rw[Se (Rr hk)]
 have kp:kI H (upd H a o') [a]:=⟨λ b o h n=>by rw[aZ (by simpa using n)];exact h,λ b m=>by
  have:b=a:=by simpa using m
  subst this;exact mu⟩
 have kpf:kI H (upd H a o') (a::g):=⟨λ b o h n=>kp.keep b o h (λ z=>n (QA.mpr (.inl (QM.mp z)))),λ b m=>I.rep.own b (by rw[e];exact eQ _ _ _ b m)⟩;have key:=I.put (i:=i) (H1:=upd H a o') (d':=.dct t k ks' xs') (v':=.ref a) (f':=a::f') hi' e h2 kpf (back dq' (r'.keep kp λ b m=>by
   have:b≠a:=λ z=>hna (z▸m);simpa using this)) (Q8.mpr ⟨hna,n' ng λ b m z=>gdis b m (Qw _ z)⟩) λ b m=>?_
 ·rw[es]at key;exact⟨_,key,aD.refl _,λ b o h n=>kp.DR h n⟩
 ·rcases QA.mp m with q|q
  ·exact .inl (by simp[q])
  ·rcases s' b q with z|z
   ·exact .inl (Qw _ z)
   ·obtain⟨a1,a2,a3,a4,a5⟩:=kv.own b z;exact .inr (.inr ⟨a4,a1,a2,a5⟩)
def BG (i:Nat)(fk fv:#[29])(τ:SD):Fl:=(fv τ).ja τ λ d=>match l8 τ i with
 | some (t,k,ks,xs)=>(fk τ).ja τ λ dk=>match CW dk with
  |some q=>if q.kind=k/\d.aN=false/\ks.length<16777216/\(qL ks q=true->d.pure=true) then .nx (τ.set i (some (.dct t k (lB ks q) (lA ks xs q d)))) else .bad
  |none=>.bad
 |none=>.bad
def Lp (i:Nat){p1:Pos}{ke value:Expr}{fk fv:#[29]}(hu:X.A.units+1<cLine)(hk:PE X ke (tM X.K Y fk))(hv:PE X value (tM X.K Y fv))(hN:#[78]:=by rfl)(hvi:zS X.env.scope x:=by first|exact Or.inl rfl|exact Or.inr (Or.inl rfl)|exact Or.inr (Or.inr rfl))(hd:#[3]:=by decide)(hcd:#[44]:=by decide)
  (hs:swapsWith value (some (.Subscript #[68] ke pos')) pos.line X.env=pure false:=by rfl):PS X (.Assign [.Subscript #[68] ke pos'] value pos) (jf X.K Y (BG i fk fv)):=by
 refine PS.imp (HJ hu (ic hN hvi hd hcd) hk hv hs) λ E σ H hq=>ex7 hq λ H0 B0 B τ P I h=>?_;refine j7 I h λ d v H1 B1 fp _ I1 s1 b1 r1 k1 h1=>?_;cases z:l8 τ i with
 |none=>rw[z]at h1;exact h1.elim
 | some t =>
  obtain⟨t,k,ks,xs⟩:=t;rw[z]at h1;obtain⟨hi,ht⟩:=oG z;obtain⟨w,f,e1,r2,sf⟩:=I1.rep.get hi;obtain⟨a,ws,g,rfl,dq,rl,ef,_⟩:=r2.EY ht;refine⟨.ref a,e1,?_⟩;refine⟨H0,B0,B1,τ,P,_,I1.hold k1,?_⟩;simp only at h1;cases y:fk τ with
  |dY C=>rw[y]at h1;exact λ H2 B2 I2 s2 b2=>h1 B2 H2 σ P (l4.grow (I2.xg λ _ x=>x.elim) b2 s2)
  |bad=>rw[y]at h1;exact h1
  | ok dk =>
   rw[y]at h1;intro vk H2 B2 fq I2 s2 b2 rk kk;have I3:SI X.K H0 B0 B2 H2 σ τ P No:=I2.xg λ _ x=>x.elim;have h2:=bY.later h1 (l4.grow I3 b2 s2);simp only[Res.ja]at h2;cases hkk:CW dk with
   |none=>rw[hkk]at h2;exact h2.elim
   | some q =>
    rw[hkk]at h2;simp only at h2;split at h2
    ·rename_i hc;obtain⟨c1,c2,c3,c4⟩:=hc;have kv:fK H0 B2 H2 P No fp:=⟨k1.nd,λ a m=>let ⟨_,a2,_,a4,a5⟩:=k1.own a m;⟨(I2.fr a (.inl m)).1,a2,(I2.fr a (.inl m)).2,a4,a5⟩⟩;have rd:=(r1.gj c2).mono s2 b2 λ _ x=>x;have dq2:=dq.mono s2;have rl2:=rl.mono s2 b2 λ _ x=>x;have mu:∃ o,H2 a=some o/\rZ o:=by
      rcases dq2 with ⟨_,kvs,ep,q,_⟩|⟨_,kvs,ep,q,_⟩
      ·exact⟨_,q,trivial⟩
      ·exact⟨_,q,trivial⟩
     rcases dq2 with ⟨rfl,kvs,ep,ha,hks,hws⟩|⟨rfl,kvs,ep,ha,hks,hws⟩
     ·cases q with
      |inr q=>cases c1
      | inl q =>
       have ev:=EZ hkk rk;subst ev;subst hks hws;have A:∀ en:Nat,∃ P',_:=λ en=>I3.NL ht (o':=.dK (putK kvs q v) en) (ks':=lB (kvs.map λ p=>Sum.inl p.1) (.inl q)) (xs':=lA (kvs.map λ p=>Sum.inl p.1) xs (.inl q) d) hi e1 kv mu λ vs f hda hr=>by
        rcases hda with ⟨_,kvs',ep',q1,q2,q3⟩|⟨q0,_⟩
        ·rw[ha]at q1;cases q1;subst q3;obtain⟨p1,f',p2,p3,p4⟩:=E1 Sum.inl (λ a b h=>Sum.inl.inj h) (k:=q) hr rd c4;exact⟨_,f',.inl ⟨rfl,_,en,bI,p1,rfl⟩,p2,p3,λ n1 n2=>p4 n1 kv.nd n2⟩
        ·cases q0
       exact⟨a,rfl,.inl ⟨kvs,q,⟨ep,ha⟩,rfl,(by rw[Rg];simpa using c3),λ en=>let ⟨P',A'⟩:=A en;h2 B2 _ σ P' A'⟩⟩
     ·cases q with
      |inl q=>cases c1
      | inr q =>
       obtain⟨b,rfl,hb⟩:=EW hkk rk;subst hks hws;have A:∀ en:Nat,∃ P',_:=λ en=>I3.NL ht (o':=.dT (putK kvs q v) en) (ks':=lB (kvs.map λ p=>Sum.inr p.1) (.inr q)) (xs':=lA (kvs.map λ p=>Sum.inr p.1) xs (.inr q) d) hi e1 kv mu λ vs f hda hr=>by
        rcases hda with ⟨q0,_⟩|⟨_,kvs',ep',q1,q2,q3⟩
        ·cases q0
        ·rw[ha]at q1;cases q1;subst q3;obtain⟨p1,f',p2,p3,p4⟩:=E1 Sum.inr (λ a b h=>Sum.inr.inj h) (k:=q) hr rd c4;exact⟨_,f',.inr ⟨rfl,_,en,bI,p1,rfl⟩,p2,p3,λ n1 n2=>p4 n1 kv.nd n2⟩
       exact⟨a,rfl,.inr ⟨kvs,q,b,⟨ep,ha⟩,rfl,hb,(by rw[Rg];simpa using c3),λ en=>let ⟨P',A'⟩:=A en;h2 B2 _ σ P' A'⟩⟩
    ·exact h2.elim
end
section
variable {P:#[83]}{K:#[0]}
def Ij{st:Stmt}{k:Nat}(D:jM K mg x st ps):jq P w K mg base k x ps (jr K λ _=>.bad):=by
 obtain⟨f,fd,F,hm,hb⟩:=D.ex;exact⟨f,fd,hm,F.kp,hb,λ vs H Q E h=>by obtain⟨_,_,_,_,h⟩:=h;exact h.elim,λ A outer s H args us vs Q E hr he hbd hv h=>by obtain⟨_,_,_,_,h⟩:=h;exact h.elim⟩
def bS{st:Stmt}{k m:Nat}{g:SF}(D:jM K mg x st ps)(S:aP N ps (au st))(hn:ps.length=n)(hm:N.length=m)
  (hbody:∀ (f:Addr) (cdv:Value) (A:#[127]) (outer:#[139]) (s:Shared) (H:Hp),dD k #[24] ->
   kF #[33].Cz (cQ st) (jf K tQ g)):jq P w K mg base (k+1) x ps (jr K (cF n m g)):=by
 subst hn hm;exact Lo D S hbody
def E2{st:Stmt}{k m:Nat}{g:SF}{f:Addr}{fd:FuncData}(D:Em K x x st f fd)(S:aP N ps (au st))(hn:ps.length=n)(hm:N.length=m)
  (hbody:∀ (f:Addr) (cdv:Value) (A:#[127]) (outer:#[139]) (s:Shared) (H:Hp),dD k #[24] ->
   kF #[33].Cz (cQ st) (jf K tQ g)):nK P w K mg base sE (k+1) f fd ps (jr K (cF n m g)):=by
 subst hn hm;exact BF D S hbody
def Ls {h:Heap}{st:Stmt}{f:Addr}{oc:Value}{od an:Option Addr}{osl:Array (Option Value)}{kV doc pm cdv ct:Value}(KX:K.In h)(G:h.Ns mainGlobals mg)(a:PySem.W.nsIn K mainGlobals x=some (some (.ref f)))
  (l:K.lookup f=some ⟨oc,od,.func (PySem.W.fnOf x x (jv st) (cQ st) (au st) .none kV doc pm an cdv ct),osl⟩) (c:PySem.W.codeIn K cdv x=true) (k:PySem.W.keepIn K (.ref f)=true)
  (hb:∀ (kV doc pm:Value) (an:Option Addr) (cdv ct:Value) (us:#[17]),us.length=ps.length->bindArgs (PySem.W.fnOf x x (jv st) (cQ st) (au st) .none kV doc pm an cdv ct) ⟨us,[]⟩=pure (ps.zip us)):jM K mg x st ps:=
 ⟨f,_,Ag l c k,PySem.W.mg_of KX G a,(Ag l c k).binds hb⟩
def Lr{ns:#[6]}(hS:fH K H a #[135])(h:G [.lst .av #[89]]=.ok (.bl true)):jr K G [.ref a] H (λ v _=>v=.bl true) λ _ _ _=>False:=by
 refine⟨H,[.lst .av #[89]],aD.refl _,az.one ⟨a,_,rfl,hS,j9 ns,rfl⟩,?_⟩;rw[h];exact λ B' H' v fp r=>r.rep.1
end
def aj (ns:#[6]):aX #[89]=true:=cG λ d hd=>by obtain⟨n,_,rfl⟩:=QE.mp hd;rfl
@[simp] theorem kc (ns:#[6]):eN #[89]=ns.map D.int:=fJ _ (aj ns)
@[simp] theorem aM (ns:#[6]):aK #[89]=ns.map D.int:=br _ (aj ns)
@[simp] theorem dJ (ns:#[6]):aJ #[89]=false:=cB _ (aj ns)
@[simp] theorem NN (ns:#[6]):jb #[89]=false:=kM _ (aj ns)
@[simp] theorem Lv (ns:#[6]):ig #[89]=ns.map D.int:=eO _ (aj ns)
@[simp] theorem LA (ns:#[6]):ji #[89]=ns.map D.int:=j8 _ (dJ ns)
@[simp] theorem ints_map (ns:#[6]):intsOf #[89]=some ns:=iu ns
@[simp] theorem LB (τ:SD)(s:SF):(Fl.nx τ).andThen s=s τ:=rfl
@[simp] theorem Lu (d:D)(s:SF):(Fl.rt d).andThen s=.rt d:=rfl
@[simp] theorem Lz (τ:SD)(s:SF):(Fl.bk τ).andThen s=.bk τ:=rfl
@[simp] theorem Lw (τ:SD)(s:SF):(Fl.ct τ).andThen s=.ct τ:=rfl
@[simp] theorem Lx (C:PySem.Addr)(τ:SD)(s:SF):(Fl.ex C τ).andThen s=.ex C τ:=rfl
@[simp] theorem J4 (s:SF):Fl.bad.andThen s=.bad:=rfl
@[simp] theorem kO (τ:SD)(d:D)(k:D->Fl):(Res.ok d).ja τ k=k d:=rfl
@[simp] theorem NP (τ:SD)(C:PySem.Addr)(k:D->Fl):(Res.dY C:Res D).ja τ k=.ex C τ:=rfl
@[simp] theorem NO (τ:SD)(k:D->Fl):(Res.bad:Res D).ja τ k=.bad:=rfl
@[simp] theorem NQ (τ:SD)(d:Bool)(k:Bool->Fl):(Res.ok d).tZ τ k=k d:=rfl
@[simp] theorem MP (τ:SD)(C:PySem.Addr)(k:Bool->Fl):(Res.dY C:Res Bool).tZ τ k=.ex C τ:=rfl
@[simp] theorem MO (τ:SD)(k:Bool->Fl):(Res.bad:Res Bool).tZ τ k=.bad:=rfl
@[simp] theorem Ow:(Res.bad:Res D).NI=.bad:=rfl
@[simp] theorem Pw (d:D):(Fl.rt d).out=.ok d:=rfl
@[simp] theorem Pq (τ:SD):(Fl.nx τ).out=.ok .bW:=rfl
@[simp] theorem Pu (C:PySem.Addr)(τ:SD):(Fl.ex C τ).out=.dY C:=rfl
@[simp] theorem Ox:Fl.bad.out=.bad:=rfl
def bC{a b:#[29]}{x y:D}(ha:a τ=.ok x)(hb:b τ=.ok y):ai g a b τ=g x y:=by unfold ai;rw[ha,hb];rfl
def J3{a b:SF}{t:Bool}(h:c τ=.ok t):fZ c a b τ=if t=true then a τ else b τ:=by unfold fZ;rw[h];rfl
def oH(h:n<=1000000000):m9 [.int n]=.ok (false,#[131].map λ k:Nat=>.int k):=by
 have h1 : -1000000000<=(n:Int)/\(n:Int)<=1000000000:=by omega
 simp[m9,h1]
def aA {a b:SF}{τ':SD}(h:a τ=.nx τ'):aE a b τ=b τ':=by unfold aE;rw[h];rfl
def aG{e:#[29]}{d:D}(h:e τ=.ok d)(hb:d.aN=false):aL i e τ=.nx (τ.set i (some d)):=by
 unfold aL Ia;rw[h,kO,hb];rfl
def E3{xs:List α}{i:Int}{j:Nat}{v:α}(hi:i=j)(h:xs[j]?=some v):vI xs i=some v:=by subst hi;exact HB h
def eu {tg:xo}{body:SF}(Pv:Nat->SD->Prop):∀ {ds:List D} (i:Nat) (τ:SD),Pv i τ->(∀ j d τ,ds[j]?=some d->Pv (i+j) τ->∃ τ' t,tg d τ=some τ'/\(body τ'=.nx t\/body τ'=.ct t)/\Pv (i+j+1) t)->∃ t,fm tg body ds τ=.nx t/\Pv (i+ds.length) t
 |[],i,τ,h0,_=>⟨τ,rfl,h0⟩
 | d::r,i,τ,h0,h=>by
  obtain⟨τ',t,h1,h2,h3⟩:=h 0 d τ rfl h0;have ih:=eu Pv (ds:=r) (i+1) t h3 λ j e τ he hp=>by
   have:=h (j+1) e τ (by simpa using he) (by rw[show i+(j+1)=i+1+j by omega];exact hp);rw[show i+(j+1)=i+1+j by omega]at this;exact this
  obtain⟨u,h4,h5⟩:=ih;refine⟨u,?_,by rw[QP,show i+(r.length+1)=i+1+r.length by omega];exact h5⟩;unfold fm;rw[h1];rcases h2 with h2|h2<;>(simp only[h2];exact h4)
def qN {tt:#[59]}{elt:#[29]}{caps:SD}(p:D->Bool)(f:D->D):∀ {ds:List D} (o:#[91]),(∀ d∈ds,tt (some d::caps)=.ok (p d))->(∀ d∈ds,p d=true->elt (some d::caps)=.ok (f d)/\(f d).aN=false)->gE (gN 0) tt elt ds (o::caps)=.ok ((ds.filter p).map f)
 |[],o,_,_=>rfl
 | d::r,o,ht,he=>by
  have ih:=qN p f (ds:=r) (some d) (λ e m=>ht e (Qw _ m)) λ e m=>he e (Qw _ m);unfold gE;simp only[gN,List.set_cons_zero];rw[ht d Qx];simp only[Res.aU];by_cases hp:p d=true
  ·obtain⟨h1,h2⟩:=he d Qx hp;simp only[hp,TU,h1,Res.aU,h2,QV,SQ,ih];rw[List.filter_cons_of_pos hp,Rc]
  ·simp only[hp,SQ,ih,QV];rw[List.filter_cons_of_neg hp]
def CY{caps:SD}(f:D->D)(o:#[91])(he:∀ d∈ds,elt (some d::caps)=.ok (f d)/\(f d).aN=false):gE (gN 0) dI elt ds (o::caps)=.ok (ds.map f):=by
 have:=qN (tt:=dI) (λ _=>true) f o (λ d _=>rfl) λ d m _=>he d m;rw[List.filter_eq_self.mpr λ _ _=>rfl]at this;exact this
def Ao{d:D}(h:G (aK ds)=.ok d)(hp:d.pure=true):t6 G ds=.ok d:=by
 unfold t6;rw[h];split
 ·simp[tL d hp]
 ·rfl
def CZ{d:D}(h:G (aK ds)=.ok d)(hb:aJ ds=false):t6 G ds=.ok d:=by
 unfold t6;rw[h,hb];rfl
def cT{fs:#[34]}{d:D}(ha:fs τ=.ok ds)(h:G (aK ds)=.ok d)(hp:d.pure=true):aF G fs τ=.ok d:=by
 unfold aF;rw[ha];exact Ao h hp
def cI{fs:#[34]}{d:D}(ha:fs τ=.ok ds)(h:G (aK ds)=.ok d)(hb:aJ ds=false):aF G fs τ=.ok d:=by
 unfold aF;rw[ha];exact CZ h hb
def jg{cap:List (PySem.Str×Nat)}(f:D->D)(hit:it τ=.ok (fl,ds))(he:∀ d∈aK ds,elt (some d::iW τ cap)=.ok (f d)/\(f d).pure=true)(hl:ds.length<=16777216) :
  cu it (gN 0) dI elt 1 cap τ=.ok (.lst .own ((aK ds).map f)):=by
 have hp:aX ((aK ds).map f)=true:=cG λ d m=>by
  obtain⟨x,hx,rfl⟩:=QE.mp m;exact(he x hx).2
 have hl':((aK ds).map f).length<=16777216:=by rw[Qs,xf,Qs];exact hl
 have hc:gE (gN 0) dI elt (aK ds) (List.replicate 1 none++iW τ cap)=.ok ((aK ds).map f):=CY f none λ d m=>⟨(he d m).1,aQ _ (he d m).2⟩;unfold cu;rw[hit,Res.aU];simp only[hc,QG hl',eO _ hp,ite_self]
def kg{cap:List (PySem.Str×Nat)}(p:D->Bool)(f:D->D)(hit:it τ=.ok (fl,ds))(ht:∀ d∈aK ds,tt (some d::iW τ cap)=.ok (p d))(he:∀ d∈aK ds,p d=true->elt (some d::iW τ cap)=.ok (f d)/\(f d).pure=true)(hl:ds.length<=16777216) :
  cu it (gN 0) tt elt 1 cap τ=.ok (.lst .own (((aK ds).filter p).map f)):=by
 have hp:aX (((aK ds).filter p).map f)=true:=cG λ d m=>by
  obtain⟨x,hx,rfl⟩:=QE.mp m;obtain⟨h1,h2⟩:=Q3.mp hx;exact(he x h1 h2).2
 have hl':(((aK ds).filter p).map f).length<=16777216:=by
  rw[Qs];refine QX (RO _ _) ?_;rw[xf,Qs];exact hl
 have hc:gE (gN 0) tt elt (aK ds) (List.replicate 1 none++iW τ cap)=.ok (((aK ds).filter p).map f):=qN p f none ht λ d m hp=>⟨(he d m hp).1,aQ _ (he d m hp).2⟩;unfold cu;rw[hit,Res.aU];simp only[hc,QG hl',eO _ hp,ite_self]
def Bv (n d a:Nat):HT.gi n d (some (a:Int))=min a n:=by
 unfold HT.gi;have h:¬ (a:Int)<0:=by omega
 simp only[h,SQ];omega
def E5(xs:List α)(a:Nat):cut xs (some (a:Int)) none=xs.drop a:=by
 unfold cut;rw[Bv,show HT.gi xs.length xs.length none=xs.length from rfl];by_cases h:a<=xs.length
 ·rw[Um h,S0 #[32]]
 ·rw[T5 (by omega:xs.length<=a),T5 #[1],List.take_nil]
def Ly(xs:List α)(a:Nat):cut xs none (some (a:Int))=xs.take a:=by
 unfold cut;rw[Bv,show HT.gi xs.length 0 none=0 from rfl,List.drop_zero,Nat.sub_zero];by_cases h:a<=xs.length
 ·rw[Um h]
 ·rw[Te #[1],S0 (QD _),S0 #[1]]
def bg(h:aX xs=true):(D.lst .own xs).aN=false:=by
 show(false||aJ xs)=false;rw[cB xs h];rfl
def bO {g:List D->Res D}{f:#[34]}(h:f τ=.ok ds):eA g f τ=g ds:=by unfold eA;rw[h];rfl
def aH {f:#[29]}{g:#[34]}{d:D}(h1:f τ=.ok d)(h2:g τ=.ok ds):aa f g τ=.ok (d::ds):=by unfold aa;rw[h1,h2];rfl
def bf {f:#[29]}{d:D}(h1:f τ=.ok d):aa f ak τ=.ok [d]:=aH h1 rfl
def jQ {e:#[29]}{d:D}(h:e τ=.ok d)(hb:d.aN=false):dX e τ=.rt d:=by unfold dX;rw[h,kO,tX d hb]
def E4{d:D}(h:τ[i]?=some (some d))(hp:d.pure=true):ae i τ=.ok d:=by unfold ae;rw[h];simp[qJ d hp]
def aY(h:τ[i]?=some (some (.lst .av xs)))(hp:aX xs=true):ae i τ=.ok (.lst .av xs):=by unfold ae;rw[h];simp[D.view,Tg.view,fJ xs hp]
def aR(h:τ[i]?=some (some (.lst .own xs)))(hp:aX xs=true):ae i τ=.ok (.lst .bor xs):=by unfold ae;rw[h];simp[D.view,Tg.view,fJ xs hp]
end DL
namespace L2
open PySem PySem.Spec PyProof.Rows
section
variable {prog:#[83]}{w:World}{A:#[127]}{E:#[7]}{s:Shared}{z TI TO i1 i2 l1 l2:Addr}{k:Nat}{xs ys:#[152]}{a b:Value}{seq1 CN:Heap->Prop}{nx1 nx2:Nat->Obj->Prop}
end
variable {l:Addr}{xs:#[152]}{b:Bool}{s:Shared}
def Px (b:Bool)(l:Addr):Obj:={ cls:=.type (if b=true then "tuple_iterator" else "list_iterator"),data:=.fields #[.ref l,.int 0 0] }
def C2 (b:Bool)(h:Heap)(l:Addr)(xs:#[152]):Prop:=if b=true then h.IsTuple l xs else h.IsList l xs
def C1{h:Heap}(x:C2 b h l xs)(o:Obj):C2 b (h.push o) l xs:=by
 cases b
 ·exact Heap.IsList.push x o
 ·obtain⟨u,h1,h2⟩:=x;exact⟨u,Qp _ h1,h2⟩
def lC {prog:#[83]}{w:World}{A:#[127]}{E:#[7]}{Q:#[7]}(h:C2 b s.heap l xs)(k:Q #[73] { s with heap:=s.heap.push (Px b l) }):wpAny #[14] A (pyIter (.ref l)) Q E s:=by
 cases b
 ·exact UU h k
 ·exact TH h k
def Oz (K:#[0])(b:Bool)(a:Addr)(H:Hp)(xs:List V):Prop:=if b=true then k9 K H a xs else fH K H a xs
def E6 {X:Cx}{pins:#[12]}{σ:St}{H:Hp}{a:Addr}{xs:List V}(I:#[4])(h:Oz X.K b a H xs):∃ its,Vals xs its/\C2 b s.heap a its.toArray:=by
 cases b
 ·obtain⟨its,rv,p,_⟩:=I.list h;exact⟨its,rv,p.isList⟩
 ·obtain⟨its,rv,p,_⟩:=I.tuple h;exact⟨its,rv,kH p⟩
def BH{h:Heap}(x:C2 b h l xs):l<h.objs.size:=by
 cases b
 ·obtain⟨o,e,_⟩:=x;exact QC e
 ·obtain⟨o,e,_⟩:=x;exact QC e
end L2
namespace DL
open PySem PySem.Spec PyProof.Rows L2
section
variable {K:#[0]}{Y:XY}{H0 B0 B H:Hp}{σ:L2.St}{τ:SD}{P:#[9]}{F:#[30]}{X:Cx}{pos:Pos}
end
section
variable {K:#[0]}{Y:XY}{H0 B0 B H:Hp}{σ:L2.St}{τ:SD}{P:#[9]}{F:#[30]}{X:Cx}{pos:Pos}{e:Expr}{fe:#[29]}
def LC (i:Nat)(xs:List D)(τ:SD):D->Fl
 |.lst .own ys=>if aJ ys=true then .bad else if xs.length+ys.length<=16777216 then .nx #[121] else .bad
 |_=>.bad
def E7 (i:Nat)(f:#[29])(τ:SD):Fl:=match gY τ i with
 |some xs=>(f τ).ja τ (LC i xs τ)
 |none=>.bad
def NR (i:Nat){x:Str}{p1 apos cpos:Pos}(he:#[46])(hN:#[78]:=by rfl)(hv:zS X.env.scope x:=by first|exact Or.inl rfl|exact Or.inr (Or.inl rfl)|exact Or.inr (Or.inr rfl))(hd:#[3]:=by decide)(hcd:#[44]:=by decide)
  (hbase:attributeBase #[68] "extend" X.env (eval #[68] X.env)=eval #[68] X.env:=by rfl)
  (hfew:((backTo cpos (starEach [e] X.env)).all (λ x=>!x.1)&&#[182].all (λ x=>x.1.isSome)
   && decide #[124])=true:=by rfl)
  (hline:#[110]:=by rfl) (hs:#[26]:=by rfl) (hplain:(backTo cpos (starEach [] X.env)).any (·.1)=false:=by rfl)
  (hsw:swapsWith #[166] none pos.line X.env=pure false:=by rfl) :
  PS X (.Expr #[166] pos) (jf X.K Y (E7 i fe)):=by
 refine PS.imp (oX (Bu Sg PySem.F.slot_list_extend PySem.F.type_list_extend vG (ic hN hv hd hcd) (cN he gP hs) hbase hfew hline hs hplain) hsw) λ E σ H hq=>ex7 hq λ H0 B0 B τ P I h=>?_;unfold E7 at h;cases z:gY τ i with
 |none=>rw[z]at h;exact h.elim
 | some xs =>
  rw[z]at h;have hi:=ik z;obtain⟨a,vs,ea,ha,hl⟩:=I.listAt hi;refine⟨.ref a,ea,.inl ⟨rfl,vs,fH.of ha⟩,j7 I h λ d v H1 B1 fp _ I1 s1 b1 r1 k1 h1=>?_⟩;unfold LC at h1;split at h1
  ·rename_i ys hfe;obtain⟨b,ws,f,rfl,hb,rl2,rfl⟩:=r1;split at h1
   ·exact h1.elim
   ·rename_i hnb;split at h1
    ·rename_i hz;have ha1:=s1 a _ ha;have hl2:=rl2.length;refine⟨a,b,vs,ws,rfl,rfl,ha1,hb,by rw[<-hl,<-hl2,Rg];exact hz,?_⟩;have k2:fK H0 B1 H1 P No f:=k1.sub (SY _ _);obtain⟨P',I'⟩:=I1.CP (xs':=xs++ys) (vs':=vs++ws) hi ea k2 (λ g _ rl=>⟨g++f,rl.append (rl2.gj (by simpa using hnb)),λ b m=>QH.mp m,λ nf dis=>QL.mpr ⟨nf,k2.nd,λ a ha b hb e=>dis b hb (e▸ha)⟩⟩) ha1;exact h1 B1 _ σ P' I'
    ·exact h1.elim
  ·exact h1.elim
end
end DL
namespace L2
open PySem PySem.Spec PyProof.Rows
def NS (b:Bool)(it l:Addr)(items:#[152])(i:Nat)(h:Heap):Prop:=if b=true then h.IsTupleIter it l i/\h.IsTuple l items else h.IsListIter it l i/\h.IsList l items
def yK {P:#[83]}{w:World}{A:#[127]}(hh:A.handled=none)(b:Bool)(it l:Addr)(hne:l≠it)(items:#[152]):Walks P w A it [it,l] [it] items.size (λ i v=>items[i]?=some v) (NS b it l items):=by
 cases b
 ·exact Walks.list hh it l hne items
 ·exact Walks.tuple hh it l hne items
def yI {b:Bool}{h:Heap}{l:Addr}{items:#[152]}(x:C2 b h l items):NS b h.objs.size l items 0 (h.push (Px b l)):=by
 have y:=C1 x (Px b l);cases b
 ·exact⟨⟨_,QI _ rfl,rfl,rfl⟩,y⟩
 ·exact⟨⟨_,QI _ rfl,rfl,rfl⟩,y⟩
def xr:∀ {bs:List Bool}{us:#[17]},Vals (bs.map V.bl) us->us=bs.map Value.bool
 |[],us,r=>by cases r;rfl
 | b::bs,us,r=>by
  cases r with
  | cons r1 r2 =>
   cases r1;rw[xr r2];rfl
def range_all (bs:List Bool):(List.range bs.length).all #[194]=bs.all id:=by
 have e:(List.range bs.length).map #[194]=bs:=RM #[32] λ i h1 h2=>by simp[Qo h2]
 calc (List.range bs.length).all #[194]=((List.range bs.length).map #[194]).all id:=by rw[List.all_map];rfl
  _=bs.all id:=by rw[e]
def range_any (bs:List Bool):(List.range bs.length).any #[194]=bs.any id:=by
 have e:(List.range bs.length).map #[194]=bs:=RM #[32] λ i h1 h2=>by simp[Qo h2]
 calc (List.range bs.length).any #[194]=((List.range bs.length).map #[194]).any id:=by rw[List.any_map];rfl
  _=bs.any id:=by rw[e]
def yJ {P:#[83]}{w:World}{A:#[127]}(bs:List Bool):TruthOf P w A (λ i v=>(bs.map Value.bool).toArray[i]?=some v) #[194]:=λ i v s Q E hP hQ=>by
 simp only[List.getElem?_toArray,QB,TY]at hP;obtain⟨b,hb,rfl⟩:=hP;have e:bs.getD i true=b:=by simp[Qq,hb]
 replace hQ:Q (bs.getD i true) s:=hQ;rw[e]at hQ;exact R6 hQ
section
variable {X:Cx}
def C4 (hc:X.calm=true):eK X (.builtin "all") (λ xs H Q=>∃ (b:Bool) (a:Addr) (bs:List Bool),xs=[.ref a]/\Oz X.K b a H (bs.map V.bl)/\Q (.bl (bs.all id)) H):=by
 intro pins s σ H xs us Q I r h;obtain⟨b,a,bs,rfl,hq,q⟩:=h;obtain⟨u,rfl,ru⟩:=vals1 r;cases ru;obtain⟨its,rv,sq⟩:=E6 I hq;have ei:=xr rv;subst ei;refine call_all_walk #[164];have hsz:(bs.map Value.bool).toArray.size=bs.length:=by simp
 rw[hsz,range_all];exact⟨.bl (bs.all id),H,I.kept (t':=tk) λ c o e=>kp c o (by simpa using QT (QC e)) (Qp _ e),rfl,q⟩
def C3 (hc:X.calm=true):eK X (.builtin "any") (λ xs H Q=>∃ (b:Bool) (a:Addr) (bs:List Bool),xs=[.ref a]/\Oz X.K b a H (bs.map V.bl)/\Q (.bl (bs.any id)) H):=by
 intro pins s σ H xs us Q I r h;obtain⟨b,a,bs,rfl,hq,q⟩:=h;obtain⟨u,rfl,ru⟩:=vals1 r;cases ru;obtain⟨its,rv,sq⟩:=E6 I hq;have ei:=xr rv;subst ei;refine call_any_walk #[164];have hsz:(bs.map Value.bool).toArray.size=bs.length:=by simp
 rw[hsz,range_any];exact⟨.bl (bs.any id),H,I.kept (t':=tk) λ c o e=>kp c o (by simpa using QT (QC e)) (Qp _ e),rfl,q⟩
end
end L2
namespace DL
open PySem PySem.Spec PyProof.Rows L2
def pJ:List D->Option (List Bool)
 |[]=>some []
 |.bl b::r=>(pJ r).map (b :: ·)
 |_=>none
def t9:∀ {xs:List D}{bs:List Bool},pJ xs=some bs->xs=bs.map D.bl
 |[],bs,h=>by cases h;rfl
 | d::r,bs,h=>by
  cases d with
  | bl b =>
   simp only[pJ,TY]at h;obtain⟨cs,h1,rfl⟩:=h;rw[t9 h1];rfl
  |_=>cases h
def qO:∀ bs:List Bool,pJ (bs.map D.bl)=some bs
 |[]=>rfl|b::bs=>by show(pJ (bs.map D.bl)).map (b :: ·)=_;rw[qO bs];rfl
def ua {K:#[0]}{B H:Hp}{S:#[30]}:∀ {bs:List Bool}{vs:List V}{f:#[9]},az K B S H (bs.map D.bl) vs f->vs=bs.map V.bl
 |[],vs,f,r=>by obtain⟨rfl,_⟩:=r;rfl
 | b::bs,vs,f,r=>by
  obtain⟨v,w,f1,f2,rfl,r1,r2,rfl⟩:=r;obtain⟨rfl,_⟩:=r1;rw[ua r2];rfl
def Ik (g:List Bool->Bool):List D->Res D
 |[.lst _ xs]=>match pJ xs with|some bs=>.ok (.bl (g bs))|none=>.bad
 |[.tup xs]=>match pJ xs with|some bs=>.ok (.bl (g bs))|none=>.bad
 |_=>.bad
abbrev NT:=Ik λ bs=>bs.all id
abbrev Py:=Ik λ bs=>bs.any id
def J5 {K:#[0]}{Y:XY}(g:List Bool->Bool):jz K Y (λ xs H Q=>∃ (b:Bool) (a:Addr) (bs:List Bool),xs=[.ref a]/\Oz K b a H (bs.map V.bl)/\Q (.bl (g bs)) H) (Ik g):=by
 intro H0 B0 B H σ τ P F ds vs f Q I r k h;unfold Ik at h;split at h
 ·obtain⟨v,rfl,r'⟩:=iK r;obtain⟨a,ws,g',rfl,q,l,s⟩:=r'.lst I;split at h
  ·rename_i bs e;have ex:=t9 e;subst ex;have e2:=ua l;subst e2;exact⟨false,a,bs,rfl,q,Out.here h I ⟨rfl,rfl⟩⟩
  ·exact h.elim
 ·obtain⟨v,rfl,r'⟩:=iK r;obtain⟨a,ws,rfl,q,l⟩:=r'.tp;split at h
  ·rename_i bs e;have ex:=t9 e;subst ex;have e2:=ua l;subst e2;exact⟨true,a,bs,rfl,q,Out.here h I ⟨rfl,rfl⟩⟩
  ·exact h.elim
 ·exact h.elim
end DL
namespace L2
open PySem PySem.Spec PyProof.Rows
section
variable {X:Cx}
variable {o e:Expr}{es:List Expr}{to:TE}{t:TA}{name:Str}{apos cpos:Pos}{id:String}{r:V->List V->Hp->VK->Prop}
end
end L2
namespace DL
open PySem PySem.Spec PyProof.Rows L2
section
variable {K:#[0]}{Y:XY}{X:Cx}{o e:Expr}{fo fe:#[29]}{apos cpos:Pos}
end
end DL
namespace XF
open PySem
variable {h:Heap}
def eX (cls:Value)(t:Addr)(tb:Value):Obj:={ cls:=cls,data:=.fields #[.ref t,tb,.none,.none,.bool false,.none] }
def Pz (cls:Value)(t:Addr)(tb x:Value):Obj.mapFields (·.setIfInBounds 1 x) (eX cls t tb)=eX cls t x:=rfl
structure Tr (B:Heap)(e:Addr)(cls:Value)(fl:Value)(h:Heap):Prop where
 ex:∃ (t T:Addr) (oT:Obj) (ts:#[152]),h.get? e=some (eX cls t (.ref T))/\B.get? T=none/\T≠e/\h.get? T=some oT/\oT.data=.fields ts/\ts[3]?=some fl
structure Aq (B:Heap)(l:List Env)(e:Addr)(cls fl:Value)(h:Heap):Prop where
 st:B.StaysIn h
 new:B.get? e=none
 ff:h.FunFrames B l
 tr:Tr B e cls fl h
structure zT (fs:List Addr)(h h':Heap):Prop where
 up:h.UpToSlots h'
 ex:∀ b o,h.get? b=some o->∃ o',h'.get? b=some o'
 same:∀ b o,h.get? b=some o->b∉fs->(∀ vs,o.data ≠ .fields vs)->h'.get? b=some o
def zT.trans {fs:#[9]}{h1 h2:Heap}(a:zT fs h h1)(b:zT fs h1 h2):zT fs h h2:=⟨a.up.trans b.up,λ c o q=>let ⟨o',z⟩:=a.ex c o q;b.ex c o' z,λ c o q n d=>b.same c o (a.same c o q n d) n d⟩
abbrev Hd (l:#[139]):List Addr:=l.filterMap (·.frame)
section
variable {M:Model}{A:#[127]}{E:#[7]}{s:Shared}{B:Heap}{env:Env}{outer:#[139]}{L e t:Addr}{cls tb head:Value}{Q:Unit->Shared->Prop}
def LD {fs:#[9]}{h':Heap}{l:#[139]}(f:h.FunFrames B l)(u:zT fs h h'):h'.FunFrames B l:=f.of_keeps λ b o q n=>let ⟨sl,z⟩:=u.up b o q n;⟨_,z,rfl⟩
def entry {hn:Bool}(fr:A.frames=some (env::outer))(ff:s.heap.FunFrames B (env::outer))(fl:env.frame=some L)(ee:s.heap.get? e=some (eX cls t tb))(st:B.StaysIn s.heap)(en:B.get? e=none)
  (k:#[90]) :
  wpAny M A (do let a <-frameOf env;let pl <-entryPlaceOf L hn;let b <-EntryCells.newEntry head a .none (rawInt L) .none pl;setField (.ref e) 1 b) Q E s:=by
 have nfr:e∉(env::outer).filterMap (·.frame):=λ m=>by
  obtain⟨_,o,q,z⟩:=ff.mem m;rw[ee]at q;cases q;exact z _ rfl
 refine Qn (wpAny_frameOf_fun fr ff fl λ g sg=>?_);refine Qn (wpAny_entryPlaceOf λ pl ip=>?_);unfold EntryCells.newEntry newFields;refine Qn (Rb ?_ (ip.sizeOk5 _ _ _ _ _));generalize hob:({ cls:=.type "traceback",dict:=none,data:=.fields ([head,Value.ref L,.none,rawInt L,.none]++(if pl.isEmpty then List.replicate 6 Value.none else pl)).toArray }:Obj)=ob;have hdat:∃ ts,ob.data=.fields ts/\ts[3]?=some (rawInt L):=by
  rw[<-hob];exact⟨_,rfl,by simp⟩
 have ge:g.get? e=some (eX cls t tb):=(sg.2.1 e nfr).trans ee;have gst:B.StaysIn g:=λ b o q=>(sg.2.1 b λ m=>by rw[(ff.mem m).1]at q;cases q).trans (st b o q);have g2:(g.push ob).get? e=some (eX cls t tb):=Qp _ ge;refine SS g2 rfl (Nat.le_of_ble_eq_true rfl) ?_;have ne:g.objs.size≠e:=TR (QC ge);have keep:∀ b o,b≠e->g.get? b=some o->((g.push ob).update e (Obj.mapFields (·.setIfInBounds 1 (Value.ref g.objs.size)))).get? b=some o:=λ b o n q=>by
  rw[Q2 _ _ (Rr n)];exact Qp _ q
 have ups:zT (Hd (env::outer)) s.heap ((g.push ob).update e (Obj.mapFields (·.setIfInBounds 1 (Value.ref g.objs.size)))):=⟨λ b o q n=>by
  obtain⟨sl,z⟩:=sg.2.2 b o q;exact⟨sl,keep b _ (λ x=>by rw[x,ee]at q;cases q;exact n _ rfl) z⟩,λ b o q=>by
  by_cases x:b=e
  ·rw[x];exact⟨_,Ra _ g2 rfl⟩
  ·obtain⟨sl,z⟩:=sg.2.2 b o q;exact⟨_,keep b _ x z⟩,λ b o q n d=>keep b o (λ x=>by rw[x,ee]at q;cases q;exact d _ rfl) ((sg.2.1 b n).trans q)⟩
 refine k _ ⟨λ b o q=>keep b o (λ x=>by rw[x,en]at q;cases q) (gst b o q),en,LD ff ups,⟨t,g.objs.size,ob,hdat.choose,?_,gst.fresh,ne,?_,hdat.choose_spec.1,hdat.choose_spec.2⟩⟩ ups
 ·exact(Ra _ g2 rfl).trans rfl
 ·rw[Q2 _ _ (Rr ne)];exact QI g (by rw[<-hob];rfl)
def mark {fs:#[9]}{x:Option Addr}{fl:Value}{l:#[139]}(f:Aq B l e cls fl s.heap)(k:∀ h',Aq B l e cls (x.elim .none λ a=>rawInt a) h'->zT fs s.heap h'->Q () { s with heap:=h' }):wpAny M A (setFlight (.ref e) x) Q E s:=by
 obtain⟨st,new,ff,⟨t,T,oT,ts,h1,h2,h3,h4,h5,h6⟩⟩:=f;unfold setFlight;refine Qn (RN h1 rfl (x:=.ref T) rfl ?_);rw[QG (show(Value.ref T != Value.none)=true by simp)];have sz:3<ts.size:=(Tc.mp h6).1;refine SS h4 h5 sz ?_;have oth:∀ b,b≠T->∀ f,(s.heap.update T f).get? b=s.heap.get? b:=λ b n f=>Q2 _ _ (Rr n);have nT:∀ b o,s.heap.get? b=some o->(∀ vs,o.data ≠ .fields vs)->b≠T:=λ b o q n z=>by
  rw[z,h4]at q;cases q;exact n ts h5
 refine k _ ⟨λ b o q=>(oth b (λ z=>by rw[z,h2]at q;cases q) _).trans (st b o q),new,ff.of_keeps λ b o q n=>⟨o,(oth b (nT b o q n) _).trans q,rfl⟩,⟨t,T,_,_,(oth e (Rr h3) _).trans h1,h2,h3,Ra _ h4 ?_,Sv h5 _,by simp[sz]⟩⟩ ⟨λ b o q n=>⟨o.slots,(oth b (nT b o q n) _).trans q⟩,λ b o q=>?_,λ b o q n d=>?_⟩
 ·exact S5 (Sv h5 _)
 ·by_cases x:b=T
  ·rw[x];exact⟨_,Ra _ h4 (S5 (Sv h5 _))⟩
  ·exact⟨o,(oth b x _).trans q⟩
 ·exact(oth b (nT b o q d) _).trans q
def note (fr:A.frames=some (env::outer))(fl:env.frame=some L)(f:Aq B (env::outer) e cls .none s.heap)(k:#[90]):wpAny M A (noteFrame (.ref e) env) Q E s:=by
 obtain⟨st,new,ff,⟨t,T,oT,ts,h1,h2,h3,h4,h5,h6⟩⟩:=f;unfold noteFrame;simp only[fl];refine Qn (RN h1 rfl (x:=.ref T) rfl ?_);rw[QG (show(Value.ref T != Value.none)=true by simp)];refine Qn (RN h4 h5 h6 ?_);rw[QK (show ¬ ((Value.none == rawInt L)=true) by simp[rawInt])];have sz:3<ts.size:=(Tc.mp h6).1;refine Qn (SS h4 h5 sz ?_);have oth:∀ b,b≠T->∀ f,(s.heap.update T f).get? b=s.heap.get? b:=λ b n f=>Q2 _ _ (Rr n);have nT:∀ b o,s.heap.get? b=some o->(∀ vs,o.data ≠ .fields vs)->b≠T:=λ b o q n z=>by
  rw[z,h4]at q;cases q;exact n ts h5
 refine entry fr (ff.of_keeps λ b o q n=>⟨o,(oth b (nT b o q n) _).trans q,rfl⟩) fl ((oth e (Rr h3) _).trans h1) (λ b o q=>(oth b (λ z=>by rw[z,h2]at q;cases q) _).trans (st b o q)) new λ h' f' u=>k h' f' ⟨λ b o q n=>u.up b o ((oth b (nT b o q n) _).trans q) n,λ b o q=>?_,λ b o q n d=>u.same b o ((oth b (nT b o q d) _).trans q) n d⟩;by_cases x:b=T
 ·rw[x];exact u.ex T _ (Ra _ h4 (S5 (Sv h5 _)))
 ·exact u.ex b o ((oth b x _).trans q)
def vZ (fr:A.frames=some (env::outer))(fl:env.frame=some L)(ff:s.heap.FunFrames B (env::outer))(ee:s.heap.get? e=some (eX cls t .none))(st:B.StaysIn s.heap)(en:B.get? e=none)
  (k:#[90]):wpAny M A (noteFrame (.ref e) env) Q E s:=by
 unfold noteFrame;simp only[fl];refine Qn (RN ee rfl (x:=.none) rfl ?_);rw[QK #[10]];exact entry fr ff fl ee st en k
def Aq.tail {fl:Value}(f:Aq B (env::outer) e cls fl h):Aq B outer e cls fl h:=⟨f.st,f.new,f.ff.2.2,f.tr⟩
def leave (fr:A.frames=some (env::outer))(fl:env.frame=some L)(f:Aq B (env::outer) e cls .none s.heap)(k:∀ h',Aq B outer e cls .none h'->zT (Hd (env::outer)) s.heap h'->Q () { s with heap:=h' }):wpAny M A (leaving env (.ref e)) Q E s:=by
 unfold leaving;exact Qn (note fr fl f λ h1 f1 u1=>mark (x:=none) f1 λ h2 f2 u2=>k h2 f2.tail (u1.trans u2))
def Ar (fr:A.frames=some (env::outer))(fl:env.frame=some L)(ff:s.heap.FunFrames B (env::outer))(ee:s.heap.get? e=some (eX cls t .none))(st:B.StaysIn s.heap)(en:B.get? e=none)
  (k:∀ h',Aq B outer e cls .none h'->zT (Hd (env::outer)) s.heap h'->Q () { s with heap:=h' }):wpAny M A (leaving env (.ref e)) Q E s:=by
 unfold leaving;exact Qn (vZ fr fl ff ee st en λ h1 f1 u1=>mark (x:=none) f1 λ h2 f2 u2=>k h2 f2.tail (u1.trans u2))
end
end XF
namespace XF
open PySem PySem.Spec PyProof.Rows L2 DL
variable {C f:Addr}{X:Cx}{base:Heap}{H:Hp}{σ:L2.St}{pins:#[12]}{N ps:#[79]}{P:#[83]}{s:Shared}{x:Str}{mg:#[8]}{w:World}{E:XK}
def E9 (P:#[83])(w:World):DP:=λ outer H s E e s'=>∃ (ea C:Addr) (B:Heap) (H':Hp),e=.ref ea/\s'.os=s.os/\AllBare s'.gens/\Aq B outer ea (.ref C) .none s'.heap /\
 (∀ b o,s.heap.get? b=some o->H b=none->b∉frs outer->B.get? b=some o)/\lj P w H' B/\Un (frs outer) [] H H' s.heap s'.heap/\E (.ref C) none H'
structure Il (X:Cx)(pins:List (Addr×Obj))(σ:L2.St)(H:Hp)(e C:Addr)(s:Shared):Prop where
 inv:Inv X pins σ H s
 fl:∃ B:Heap,B.StaysIn s.heap/\B.get? e=none/\s.heap.FunFrames B X.stack/\lj X.prog X.w H B /\
  (∀ b o,X.s₀.heap.get? b=some o->X.H₀ b=none->b∉X.fs->b∉X.ex->B.get? b=some o)/\(∀ p∈X.pn++pins,B.get? p.1=some p.2) /\
  ((∃ t,s.heap.get? e=some (eX (.ref C) t .none))\/Tr B e (.ref C) .none s.heap)
def J6 (X:Cx)(Y:XY):Prop:=∀ (pins:#[12]) (σ:L2.St) (H:Hp) (e C:Addr) (s:Shared),Il X pins σ H e C s->Y C σ H->X.xe (.ref e) s
def J7(I:#[4]){b:Addr}{o:Obj}(q:X.s₀.heap.get? b=some o)(n:b∉X.fs):b∉frs X.stack:=λ m=>by
 rcases QA.mp (I.qD b m) with z|z
 ·have h1:=QC q;have h2:=I.ok.above;exact absurd h1 (by rw[z];exact Nat.not_lt.mpr h2)
 ·exact n z
def E8(I:#[4]){p:Addr×Obj}(hp:p∈X.pn++pins):p.1∉frs X.stack:=λ m=>by
 obtain⟨_,_,h1,h2,_⟩:=I.pin p hp;rcases QA.mp (I.qD _ m) with z|z
 ·exact h1 z
 ·exact h2 z
def C6{s':Shared}{e:Value}(I:#[4])(h:E9 X.prog X.w X.stack H s E e s') :
  ∃ ea C H',e=.ref ea/\Il X pins σ H' ea C s'/\E (.ref C) none H':=by
 obtain⟨ea,C,B,H',rfl,os,bare,fly,cov,hok,un,hE⟩:=h;refine⟨ea,C,H',rfl,⟨I.JQ os un (hok.kept fly.st) bare λ b z=>absurd z #[32],B,fly.st,fly.new,fly.ff,hok,λ b o q n nf nx=>?_,λ p hp=>cov p.1 p.2 (I.pin p hp).1 (I.pin p hp).2.1 (E8 I hp),.inr fly.tr⟩,hE⟩;exact cov b o (I.base.keep b o q n nf nx) (I.base.free b o q n nx) (J7 I q nf)
def As{K:#[0]}{qual:Str}{scope:Scope}{cd:Value}{A:#[127]}{outer:#[139]}{H':Hp}{e:Addr}{s':Shared}
  (c:Il (jJ (E9 P w) P w K mg base N qual scope f cd A outer s H E) pins σ H' e C s') (hE:E (.ref C) none H'):(jJ (E9 P w) P w K mg base N qual scope f cd A outer s H E).xe (.ref e) s':=by
 obtain⟨I,B,st,new,ff,hok,cov,_,made⟩:=c;show wpAny (model P w) (A.deeper #[53]) (leaving #[53] (.ref e)) (λ _ s''=>E9 P w outer H s E (.ref e) s'') (λ e' s''=>E9 P w outer H s E e' s'') s';have nil:∀ b:Addr,b∉([]:#[9]):=λ b z=>by cases z
 have fin:∀ h',Aq B outer e (.ref C) .none h'->zT (Hd (envOfC qual scope s.heap.objs.size f cd::outer)) s'.heap h'->E9 P w outer H s E (.ref e) { s' with heap:=h' }:=λ h' fly u=>by
  refine⟨e,C,B,H',rfl,I.os,I.bare,fly,λ b o q n nf=>cov b o q n nf (nil b),hok,⟨λ b o q n nf _=>fly.st _ _ (cov b o q n nf (nil b)),λ b o q n m _=>?_,λ b o q n z=>I.base.free b o q n z,λ b o q z=>?_,I.base.tups,I.base.oV,I.base.qE⟩,hE⟩
  ·obtain⟨sl,z⟩:=I.base.slot b o q n m (nil b);have ff2:s'.heap.FunFrames B outer:=ff.2.2;obtain⟨_,o',q',nd⟩:=ff2.mem m;rw[z]at q';cases q';obtain⟨sl',z'⟩:=u.up b _ z nd;exact⟨sl',z'⟩
  ·obtain⟨o',z'⟩:=I.base.there b o q z;exact u.ex b o' z'
 rcases made with ⟨t,he⟩|tr
 ·exact Ar I.ok.frames rfl ff he st new fin
 ·exact leave I.ok.frames rfl ⟨st,new,ff,tr⟩ fin
abbrev PB (E:XK):XY:=⟨λ C _ H'=>E (.ref C) none H',false⟩
def Ip{K:#[0]}{qual:Str}{scope:Scope}{cd:Value}{A:#[127]}{outer:#[139]} :
  J6 (jJ (E9 P w) P w K mg base N qual scope f cd A outer s H E) (PB E):=λ _ _ _ _ _ _ c h=>As c h
def Io (K:#[0])(G:DF):Sp:=λ vs H Q E=>∃ B0 ds,aD B0 H/\az K B0 No H ds vs []/\match G ds with
 |.ok d=>∀ B' H' v fp,g6 K H B0 B' H' d v fp->Q v H'
 |.dY C=>∀ H',aD H H'->E (.ref C) none H'
 |.bad=>False
structure yL (P:Program)(w:World)(K:PySem.W.Frag)(mg:Str->Option Value)(base:Heap)(k:Nat)(x:Str)(ps:List Str)(sp:Sp):Prop where
 ex:∃ f fd,mg x=some (.ref f)/\PySem.W.keepIn K (.ref f)=true/\Binds K fd ps []/\nK P w K mg base (E9 P w) k f fd ps sp
def v5 (G:DF)(ds:List D):Res D:=if aJ ds=true then (G (aK ds)).map D.dm else G (aK ds)
def dz (G:DF)(fs:#[34])(τ:SD):Res D:=(fs τ).bind (v5 G)
section
variable {K:#[0]}{Y:XY}{H0 B0 B:Hp}{τ:SD}{P:#[9]}{F:#[30]}{pos p:Pos}{e:Expr}{es:List Expr}{fs:#[34]}
def Im {k:Nat}{fd:FuncData}{sp:Sp}{Q:VK}{us:#[17]}{vs:List V}(hx:J6 X Y)(hE:∀ C H',E (.ref C) none H'->Y C σ H')(F:nK X.prog X.w X.K X.mg X.base (E9 X.prog X.w) k f fd ps sp)(hr:dD k X.A)(hb:Binds X.K fd ps [])
  (I:#[4]) (r:Vals vs us) (h:sp vs H Q E):wpAny #[11] X.A (call (.ref f) us) (EP X pins σ Q) X.xe s:=by
 have hl:us.length=ps.length:=by rw[<-r.length];exact F.len _ _ _ _ h
 have hb':=hb s us I.qC (by rw[QQ];exact hl);rw[QQ]at hb';refine Ud (SX (F.run X.A X.stack s H ⟨us,[]⟩ us vs Q E hr I.Hw hb' r h) λ r s' hq=>?_);cases r with
 | error e =>
  obtain⟨ea,C,H',rfl,c,hE'⟩:=C6 I hq;exact hx _ _ _ _ _ _ c (hE C H' hE')
 | ok fl =>
  cases fl with
  |ret u=>exact I.after hq|next=>exact False.elim hq|brk=>exact False.elim hq|cont=>exact False.elim hq
def LH {k:Nat}{G:DF}(hx:J6 X Y)(C:yL X.prog X.w X.K X.mg X.base k x ps (Io X.K G))(hr:dD k X.A)(hg:Gl X x)(ha:#[97])(hdb:#[3]:=by decide)
  (he:#[5]:=by rfl) (hpl:#[35].any (·.1)=false:=by rfl):PE X #[42] (tM X.K Y (dz G fs)):=by
 obtain⟨f,fd,hm,hk,hb,Fn⟩:=C.ex;intro pins s σ H Q J ⟨H0,B0,B,τ,P,F,I,h⟩;have hq:pB X.K Y fs σ H (λ vs H1=>Io X.K G vs H1 Q (λ c _ H'=>∃ C,c=.ref C/\Y C σ H')):=pB.seq I h λ ds vs H1 B1 fp _ I1 s1 b1 r1 k1 h1=>by
  unfold v5 at h1;split at h1
  ·refine⟨atRest B1 H1 (λ a=>a∈P\/a∈fp),aK ds,iD I1.bh,r1.av (dZ I1.bh) (λ a o s h=>fS (.inl s) h) (λ a m o h=>fS (.inr m) h),?_⟩;cases z:G (aK ds) with
   |dY c=>rw[z]at h1;exact λ H' sm=>⟨c,rfl,h1 H' B1 (I1.grow sm) sm #[52]⟩
   |bad=>rw[z]at h1;exact h1.elim
   | ok d =>
    rw[z]at h1;intro B' H' v fq r;obtain⟨B2,I2,s2,k2,hb⟩:=I1.called k1 (S:=λ a=>a∈P) (λ a s=>s) r;exact h1 v H' B2 fq I2 r.h0 s2 (r.rep.dm r.bh λ a o e=>(hb a o e).imp id λ z=>z.2) k2
  ·rename_i hb;have hb:aJ ds=false:=by simpa using hb
   refine⟨atRest B1 H1 (λ a=>False\/a∈fp),aK ds,iD I1.bh,(r1.gj hb).av (dZ I1.bh) (λ a o s=>s.elim) (λ a m o h=>fS (.inr m) h),?_⟩;cases z:G (aK ds) with
   |dY c=>rw[z]at h1;exact λ H' sm=>⟨c,rfl,h1 H' B1 (I1.grow sm) sm #[52]⟩
   |bad=>rw[z]at h1;exact h1.elim
   | ok d =>
    rw[z]at h1;intro B' H' v fq r;obtain⟨B2,I2,s2,k2,hb⟩:=I1.called k1 (S:=λ _=>False) (λ a s=>s.elim) r;refine h1 v H' B2 fq I2 r.h0 s2 ?_ k2;have sb:aD B' B2:=λ a o e=>(hb a o e).resolve_right λ z=>z.1;exact r.rep.mono #[52] sb λ _ x=>x.elim
 refine RQ (mV J hg hm ?_ hdb);refine Uz (h₀:=X.base) J.ok.mod.Ku hk (eG (ha pos pins s σ H _ J hq) λ us s1 hq5=>L2.ex5 hq5 λ vs H1 I1 r q=>⟨I1.qC,?_⟩) he hpl;exact Im hx (λ C H' z=>by obtain⟨C',e,y⟩:=z;cases e;exact y) Fn hr hb I1 r q
def pK {P:#[83]}{st:Stmt}{k n m:Nat}{g:SF}(D:jM K mg x st ps)(S:aP N ps (au st))(hn:ps.length=n)(hm:N.length=m)
  (hbody:∀ (f:Addr) (cdv:Value) (A:#[127]) (outer:#[139]) (s:Shared) (H:Hp) (E:XK),dD k #[24]->J6 (jJ (E9 P w) P w K mg base N x (au st) f cdv A outer s H E) (PB E) ->
   kF (jJ (E9 P w) P w K mg base N x (au st) f cdv A outer s H E) (cQ st) (jf K (PB E) g)):yL P w K mg base (k+1) x ps (Io K (cF n m g)):=by
 subst hn hm;obtain⟨f,fd,Fn,hmg,hb⟩:=D.ex;refine⟨f,fd,hmg,Fn.kp,hb,?_⟩;obtain⟨oc,od,kV,doc,pm,an,cdv,ct,osl,rfl,lk,hcd⟩:=Fn.ex;refine JL lk hcd S (λ vs H Q E h=>?_) λ A outer s H vs Q E hr h=>?_
 ·obtain⟨B0,ds,_,r,h⟩:=h;rw[<-r.length];unfold cF at h;by_cases hl:ds.length=ps.length
  ·exact hl
  ·rw[QK hl]at h;exact h.elim
 ·obtain⟨B0,ds,sB,r,h⟩:=h;unfold cF at h;by_cases hl:ds.length=ps.length
  ·rw[QG hl]at h;have e:L2.start N vs=vs.map some++List.replicate #[75] none:=by
    unfold L2.start;rw[<-r.length,hl]
   refine⟨_,hbody f cdv A outer s H E hr Ip,H,B0,B0,ds.map some++List.replicate #[75] none,[],⟨sB,aD.refl _,aD.refl _,λ a n=>.inl n,by rw[e];exact kL _ r,Rl,(λ a m=>by cases m),λ a m=>m.elim⟩,?_⟩;cases z:g (ds.map some++List.replicate #[75] none) with
   |rt d=>rw[z]at h;exact λ B' H' v fp q=>h B' H' v fp q
   | nx t =>
    rw[z]at h;intro B' H' σ' P' a;exact h B' H' .bW [] ⟨a.si.h0,a.si.b0,a.si.bh,a.si.nb,⟨rfl,rfl⟩,Rl,λ a m=>by cases m⟩
   |bk t=>rw[z]at h;exact h.elim|ct t=>rw[z]at h;exact h.elim|ex C t=>rw[z]at h;exact λ B' H' σ' P' a=>h H' a.si.h0
   |bad=>rw[z]at h;exact h.elim
  ·rw[QK hl]at h;exact h.elim
end
abbrev yg:List Value:=[.type "ValueError",.type "Exception",.type "BaseException",.type "object"]
def mroIn (K:#[0])(C:Addr):Option #[17]:=match K.lookup C with
 |some ⟨_,_,.cls cd,_⟩=>some cd.mro
 |_=>none
structure kh (K:PySem.W.Frag)(mg:Str->Option Value)(x:Str)(C:Addr)(bm:List Value):Prop where
 mg:mg x=some (.ref C)
 ex:PySem.W.excIn K C yg "ValueError.__new__" = true
 mro:mroIn K C=some (.ref C::bm)
structure LG (h:Heap)(C:Addr)(bm:List Value):Prop where
 ob:∃ N nm q bs hdct sn sub ab col dd k0 k1 k2 k3 k5 mN,h.get? C=some (excClassObj nm q C N bs bm hdct sn sub ab col dd k0 k1 k2 k3 k5 "ValueError.__new__")/\h.Ns N mN/\mN "__init__" = none/\OwnTail h yg bm
def kh.obj {K:#[0]}{bm:#[17]}{h:Heap}(c:kh K mg x C bm)(X:K.In h):LG h C bm:=by
 obtain⟨_,q,m⟩:=c;unfold PySem.W.excIn at q;split at q
 ·rename_i dd cd sl ho;split at q
  ·rename_i C' bm' k0 k1 k2 k3 n k5 hm hs;simp only[Q4,R7,Bool.not_eq_true']at q;obtain⟨⟨⟨⟨⟨rfl,rfl⟩,hdel⟩,ht⟩,hok⟩,hni⟩:=q;obtain⟨nm,bs,mro,ns,qn,hd,sn,sub,ab,col,del⟩:=cd;dsimp only at hm hdel hok hni;subst hm hdel;have hsl:sl = #[k0,k1,k2,k3,some (.builtin "ValueError.__new__"),k5]:=by
    obtain⟨l⟩:=sl;simp only at hs;rw[hs]
   subst hsl;have e:bm'=bm:=by
    unfold mroIn at m;rw[ho]at m;simpa using m
   subst e;exact⟨ns,nm,qn,bs,hd,sn,sub,ab,col,dd,k0,k1,k2,k3,k5,_,X _ _ ho,.of_isNs (PySem.W.isNs_of_in X hok),PySem.W.nsMap_none_of_in X hok hni,PySem.W.tail_of_in X ht⟩
  ·cases q
 ·cases q
def uc (C:Addr)(τ:SD):Fl:=.ex C τ
def C5{h':Heap}{e:Addr}{vs:#[17]}(I:#[4])(m:Heap.MadeExcOf s.heap h' e (.ref C) vs):Il X pins σ H e C { s with heap:=h' }:=by
 obtain⟨t,ht,_,_⟩:=m.there;have hin:∀ env∈X.stack,∀ a,env.frame=some a->a∈frs X.stack:=λ env he a ha=>Ux.mpr ⟨env,he,ha⟩;have st:(PySem.W.hideAll s.heap (frs X.stack)).StaysIn h':=λ b o q=>m.keeps b o (Uw _ q);refine⟨I.kept (t':=s.toks) m.keeps,PySem.W.hideAll s.heap (frs X.stack),st,?_,?_,λ a o q=>?_,λ b o q n nf nx=>?_,λ p hp=>Tj _ (I.pin p hp).1 (E8 I hp),.inl ⟨t,ht⟩⟩
 ·cases q:(PySem.W.hideAll s.heap (frs X.stack)).get? e with
  |none=>rfl|some o=>have:=Uw _ q;rw[m.new]at this;cases this
 ·exact(PySem.W.funFrames_hide I.stack hin).of_keeps λ b o q _=>⟨o,m.keeps b o q,rfl⟩
 ·refine(I.hok a o q).stay (λ b u hb z=>Tj _ z λ hm=>?_) (λ _ z=>z) λ _ _ z=>z;have f:=I.wU b hm;rcases hb with rfl|hb
  ·rw[q]at f;cases f
  ·rw[hb]at f;cases f
 ·exact Tj _ (I.base.keep b o q n nf nx) (J7 I q nf)
def xu{Y:XY}{m:Str}{bm:#[17]}{np cpos pos cp:Pos}{j:Nat}(hx:J6 X Y)(c:kh X.K X.mg x C bm)(hc:X.calm=true)(hg:Gl X x)(hdb:#[3]:=by decide)
  (he:starEach [.Constant (.str m) j cp] X.env=(false,eval (.Constant (.str m) j cp) X.env)::starEach [] X.env:=by rfl) (hpl:(backTo cpos (starEach [] X.env)).any (·.1)=false:=by rfl) :
  PS X (.Raise (some (.Call (.Name x np) [.Constant (.str m) j cp] [] cpos)) none pos) (jf X.K Y (uc C)):=by
 intro pins s σ H D I ⟨H0,B0,B,τ,P,J,h⟩;obtain⟨N,nm,q,bs,hdct,sn,sub,ab,col,dd,k0,k1,k2,k3,k5,mN,hC,hN,hni,T⟩:=(c.obj I.mod.Ku).ob;have pl:(backTo cpos (starEach [.Constant (.str m) j cp] X.env)).any (·.1)=false:=by
  rw[he];show(false||(backTo cpos (starEach [] X.env)).any (·.1))=false;rw[hpl];rfl
 refine wpAny_Raise_call_subT (C:=C) (nm:=nm) (q:=q) (N:=N) (bs:=bs) (bm:=bm) (hdct:=hdct) (sn:=sn) (sub:=sub) (ab:=ab) (col:=col) (dd:=dd) (k0:=k0) (k1:=k1) (k2:=k2) (k3:=k3) (k5:=k5) F.excBase_ValueError (mN:=mN) (T.hasType F.excBase_ValueError.hasBase) (I.ok.hd hc) pl hni (mV I hg c.mg ⟨rfl,?_⟩ hdb);rw[he];refine Calls.evalArgs_plain (Uy ?_);refine @Calls.Constant_str _ _ _ _ _ m j cp _ (UR ?_);refine⟨rfl,Nat.le_of_ble_eq_true rfl,I.bk _ _ hC,hN.keeps I.bk,T.keeps I.bk,λ h' e mk=>?_⟩;exact hx pins σ H e C _ (C5 (I.tok _) mk) (h B H σ P (l4.refl J))
end XF
namespace XF
open PySem
section
variable {prog:#[83]}{w:World}{A:#[127]}{E:#[7]}{s:Shared}
end
end XF
namespace XF
open PySem PySem.Spec PyProof.Rows L2 DL
variable {base:Heap}{N ps:#[79]}{P:#[83]}{scope:Scope}{mg:#[8]}{w:World}
def Known (X:Cx):Prop:=∃ (ea:Addr) (C:Value) (t:Addr) (tb:Value) (u:HO),X.A.handled=some (.ref ea)/\X.H₀ ea=some (.av (eX C t tb) u)
section
variable {X:Cx}{tg:Expr}
end
section
variable {K:#[0]}{Y:XY}{X:Cx}{tg elt iter:Expr}{ifs:List Expr}{pos:Pos}{own:#[79]}{cap:List (Str×Nat)}{it:#[136]}{tgd:xo}{tt:#[59]}{fe:#[29]}
end
abbrev v7 (k:Nat)(A:#[127]):Prop:=dD k { A with handled:=none }
def J9 (P:#[83])(w:World)(K:#[0])(mg:#[8])(base:Heap)(N:#[79])(qual:Str)(scope:Scope)(f:Addr)(cd:Value)(A:#[127])(outer:#[139])(s:Shared)(H:Hp):Cx:=
 { jJ sE P w K mg base N qual scope f cd A outer s H E0 with calm:=false,xe:=λ _ _=>False }
structure J8 (P:Program)(w:World)(K:PySem.W.Frag)(mg:Str->Option Value)(base:Heap)(k:Nat)(f:Addr)(fd:FuncData)(ps:List Str)(sp:Sp):Prop where
 len:∀ vs H Q E,sp vs H Q E->vs.length=ps.length
 run:∀ (A:#[127]) (outer:#[139]) (s:Shared) (H:Hp) (args:Args) (us:#[17]) (vs:List V) (Q:VK),v7 k A->(∃ (ea:Addr) (C:Value) (t:Addr) (tb:Value) (u:HO),A.handled=some (.ref ea)/\H ea=some (.av (eX C t tb) u)) ->
  u4 P w K mg base A outer s H->BindsTo s fd args (ps.zip us)->Vals vs us->sp vs H Q E0->codeAny (model P w) A (.call (.ref f) args) (CR sE outer P w H s Q E0) s
def Au{K:#[0]}{qual:Str}{f:Addr}{cd:Value}{A:#[127]}{outer:#[139]}{s s1:Shared}{H:Hp}{us:#[17]}{vs:List V}
  (S:aP N ps scope) (e0:u4 P w K mg base A outer s H) (hl:vs.length=ps.length) (r:Vals vs us)
  (x:#[163]) :
  Inv (J9 P w K mg base N qual scope f cd A outer s H) [] (L2.start N vs) H s1:=by
 have e0':u4 P w K mg base { A with handled:=none } outer s H:=⟨e0.frames,e0.mod,e0.bs,e0.zY,e0.jZ,e0.Cq,e0.hok,e0.bare⟩;have I:=vv (CX:=sE) (E:=E0) (qual:=qual) (f:=f) (cd:=cd) (A:={ A with handled:=none }) S rfl e0' hl r x;exact⟨⟨I.ok.mod,I.ok.kind,I.ok.glob,I.ok.blt,I.ok.above,I.ok.inj,I.ok.has,I.ok.G8,(λ z=>by cases z),I.ok.frames,I.ok.Hh,I.ok.JO,I.ok.bs,I.ok.zY,I.ok.u7,I.ok.u9,I.ok.jZ,I.ok.Cq⟩,I.os,I.bare,I.base,I.loc,I.cell,I.free,I.gO,I.pin,I.hok,I.len⟩
def LJ{K:#[0]}{k:Nat}{f:Addr}{name qual:Str}{params:Arguments}{body:List Stmt}{dV kV doc pm cdv ct oc:Value}{an od:Option Addr}
  {osl:Array (Option Value)}{sp:Sp} (lk:K.lookup f=some ⟨oc,od,.func #[104],osl⟩) (hcd:PySem.W.codeIn K cdv qual=true) (S:aP N ps scope)
  (len:∀ vs H Q E,sp vs H Q E->vs.length=ps.length)
  (hbody:∀ (A:#[127]) (outer:#[139]) (s:Shared) (H:Hp) (vs:List V) (Q:VK),v7 k (A.deeper (envOfC qual scope s.heap.objs.size f cdv))->Known #[107]->sp vs H Q E0 ->
   ∃ t,kF #[107] body t/\t { nx:=λ _ H'=>Q .bW H',rt:=Q } (L2.start N vs) H) :
  J8 P w K mg base (k+1) f #[104] ps sp:=by
 refine⟨len,λ A outer s H args us vs Q hr hkn e0 hb r hsp=>?_⟩;have hl:=len _ _ _ _ hsp;have KX:K.In s.heap:=e0.mod.Ku.keeps λ b o e=>(e0.bs b o e).1;have lim:s.heap.NoLimit:=e0.mod.nolimit.keeps λ b o e=>(e0.bs b o e).1;have hkind:∀ y∈ps.zip us,scope.names.lookup y.1=some .local\/(scope.names.lookup y.1=some .cell/\((cellsFrom #[92] scope.names []).lookup y.1).isSome=true):=λ ⟨n,v⟩ hy=>by
  rcases S.par n (Uj hy).1 with q|q
  ·exact .inl q
  ·exact .inr ⟨q,Sm _ _ _ (.inl q)⟩
 refine codeAny_call_function (show A.depth<recursionLimit from hr.depth) (KX _ _ lk) rfl S.co S.gen rfl (PySem.W.codeRec_of KX hcd) (hb _ _ _ _ ?_);refine wpAny_newFunctionEnv_cells S.kind hkind λ env he s1 x=>?_;subst he;refine⟨lim.keeps x.toInCall.keep,codeAny_func ?_⟩;have kn:Known #[107]:=hkn;obtain⟨t,ht,hq⟩:=hbody A outer s H vs Q (hr.deeper _) kn hsp;have I:Inv #[107] [] (L2.start N vs) H s1:=Au S e0 hl r x;refine RI (ht [] s1 (L2.start N vs) H _ I hq) (λ fl s' hs=>?_) λ e s' hs=>hs.elim;have fin:∀ {σ':L2.St}{H':Hp}{v:V}{u:Value},Inv #[107] [] σ' H' s'->RelV v u->Q v H'->CE outer P w H s Q u s':=
  λ {σ' H' v u} J rv q=>⟨v,H',J.os,J.bare,J.base,J.hok,rv,q⟩
 cases fl with
 | ret u =>
  obtain⟨v,σ',H',J,rv,q⟩:=hs;exact fin J rv q
 | next =>
  obtain⟨σ',H',J,q⟩:=hs;exact fin (v:=V.bW) (u:=Value.none) J rfl q
 | brk =>
  obtain⟨_,_,_,q⟩:=hs;exact False.elim q
 | cont =>
  obtain⟨_,_,_,q⟩:=hs;exact False.elim q
structure Ir (P:Program)(w:World)(K:PySem.W.Frag)(mg:Str->Option Value)(base:Heap)(k:Nat)(x:Str)(ps:List Str)(sp:Sp):Prop where
 ex:∃ f fd,mg x=some (.ref f)/\PySem.W.keepIn K (.ref f)=true/\Binds K fd ps []/\J8 P w K mg base k f fd ps sp
def Iq{K:#[0]}{x:Str}{st:Stmt}{k n m:Nat}{g:SF}(D:jM K mg x st ps)(S:aP N ps (au st))(hn:ps.length=n)(hm:N.length=m)
  (hbody:∀ (f:Addr) (cdv:Value) (A:#[127]) (outer:#[139]) (s:Shared) (H:Hp),v7 k #[24]->Known (J9 P w K mg base N x (au st) f cdv A outer s H) ->
   kF (J9 P w K mg base N x (au st) f cdv A outer s H) (cQ st) (jf K tQ g)):Ir P w K mg base (k+1) x ps (jr K (cF n m g)):=by
 subst hn hm;obtain⟨f,fd,Fn,hmg,hb⟩:=D.ex;refine⟨f,fd,hmg,Fn.kp,hb,?_⟩;obtain⟨oc,od,kV,doc,pm,an,cdv,ct,osl,rfl,lk,hcd⟩:=Fn.ex;refine LJ lk hcd S (λ vs H Q E h=>?_) λ A outer s H vs Q hr kn h=>?_
 ·obtain⟨B0,ds,_,r,h⟩:=h;rw[<-r.length];unfold cF at h;by_cases hl:ds.length=ps.length
  ·exact hl
  ·rw[QK hl]at h;exact h.elim
 ·obtain⟨B0,ds,sB,r,h⟩:=h;unfold cF at h;by_cases hl:ds.length=ps.length
  ·rw[QG hl]at h;have e:L2.start N vs=vs.map some++List.replicate #[75] none:=by
    unfold L2.start;rw[<-r.length,hl]
   refine⟨_,hbody f cdv A outer s H hr kn,H,B0,B0,ds.map some++List.replicate #[75] none,[],⟨sB,aD.refl _,aD.refl _,λ a n=>.inl n,by rw[e];exact kL _ r,Rl,(λ a m=>by cases m),λ a m=>m.elim⟩,?_⟩;cases z:g (ds.map some++List.replicate #[75] none) with
   |rt d=>rw[z]at h;exact λ B' H' v fp q=>h B' H' v fp q
   | nx t =>
    rw[z]at h;intro B' H' σ' P' a;exact h B' H' .bW [] ⟨a.si.h0,a.si.b0,a.si.bh,a.si.nb,⟨rfl,rfl⟩,Rl,λ a m=>by cases m⟩
   |bk t=>rw[z]at h;exact h.elim|ct t=>rw[z]at h;exact h.elim|ex C t=>rw[z]at h;exact h.elim|bad=>rw[z]at h;exact h.elim
  ·rw[QK hl]at h;exact h.elim
end XF
namespace XF
open PySem
def LK (h:Heap)(C:Addr)(bm:#[17]):Prop:=∃ N nm q bs hdct sn sub ab col dd k0 k1 k2 k3 k5 newId,h.get? C=some (excClassObj nm q C N bs bm hdct sn sub ab col dd k0 k1 k2 k3 k5 newId)
section
variable {M:Model}{A:#[127]}{E:#[7]}{h:Heap}{g:Array GenState}{d:Drawn}{t:Nat}{os:OsState}{e C D:Addr}{oe:Obj}{bm bn:#[17]}{Q:Bool->Shared->Prop}
def takes (hC:LK h C bm)(hD:LK h D bn)(he:h.get? e=some oe)(hc:oe.cls=.ref C)(hb:bn.contains (.type "BaseException")=true)(hq:Q ((Value.ref C::bm).contains (.ref D)) ⟨h,g,d,t,os⟩):wpAny M A (excMatches (.ref e) (.ref D)) Q E ⟨h,g,d,t,os⟩:=by
 obtain⟨N,nm,q,bs,hdct,sn,sub,ab,col,dd,k0,k1,k2,k3,k5,newId,hC⟩:=hC;obtain⟨N',nm',q',bs',hdct',sn',sub',ab',col',dd',k0',k1',k2',k3',k5',newId',hD⟩:=hD;have hcB:(Value.ref D::bn).contains (.type "BaseException")=true:=by rw[UD,hb,Vb]
 have f:=tc_notTuple;generalize hr:(Value.ref C::bm).contains (.ref D)=r at hq;unfold excMatches
 repeat (first|(with_reducible refine wpAny_loadPart_at he ?_;rw[hc])|with_reducible refine wpAny_loadPart_at hD ?_|(with_reducible refine wpAny_isSubtype_exc hD ?_;rw[hcB])|(with_reducible refine wpAny_isSubtype_exc hC ?_;rw[hr])|wp_step)
 cases r<;>(wp_walk;exact hq)
end
end XF
namespace XF
open PySem PySem.Spec PyProof.Rows L2 DL
variable {C e:Addr}{X:Cx}{h h':Heap}{H:Hp}{σ:L2.St}{pins:#[12]}{s:Shared}
def LN {P:#[83]}{w:World}{a:Addr}{o:HO}(x:cY P w H h a o):∃ u,h.get? a=some u:=by
 cases o with
 |lst xs=>obtain⟨_,_,_,_,e⟩:=x;exact⟨_,e⟩| tup xs=>obtain⟨_,_,_,_,e⟩:=x;exact⟨_,e⟩| dK kvs ep=>obtain⟨_,_,_,_,o,_,e,_⟩:=x;exact⟨_,e⟩| dT kvs ep=>obtain⟨_,_,_,_,o,_,e,_⟩:=x;exact⟨_,e⟩| set S n=>obtain⟨o,_,_,_,e,_⟩:=x;exact⟨_,e⟩| ins C dx fs=>obtain⟨_,_,_,e,_⟩:=x;exact⟨_,e⟩| own y=>obtain⟨_,e⟩:=x;exact⟨_,e⟩| xd fs=>obtain⟨_,⟨_,_,_,e,_⟩,_⟩:=x;exact⟨_,e⟩| Oj lo hi=>obtain⟨_,_,_,e⟩:=x;exact⟨_,e⟩| av ob u=>obtain⟨e,_⟩:=x;exact⟨_,e⟩| JM ps=>exact⟨_,(show h.get? a=some _ from x)⟩| met f y=>exact⟨_,(show h.get? a=some _ from x)⟩| ext φ=>obtain⟨_,⟨_,e⟩,_⟩:=x;exact⟨_,e⟩
section
variable{B:Heap}
def BJ {fs:#[9]}(u:zT fs h h'){c:Addr}{v:Option Value}(q:h.IsCell c v):h'.IsCell c v:=by
 obtain⟨o,ho,hd⟩:=q;obtain⟨sl,z⟩:=u.up c o ho λ vs y=>by rw[hd]at y;cases y
 exact⟨_,z,hd⟩
def BI{fs:#[9]}(I:#[4])(hok:lj X.prog X.w H B)(cov:∀ b o,X.s₀.heap.get? b=some o->X.H₀ b=none->b∉X.fs->b∉X.ex->B.get? b=some o)(pin:∀ p∈X.pn++pins,B.get? p.1=some p.2)
  (st:B.StaysIn h') (u:zT fs s.heap h'):Inv X pins σ H { s with heap:=h' }:=by
 refine⟨I.ok,I.os,I.bare,⟨λ b o q n hb hx=>st _ _ (cov b o q n hb hx),λ b o q n hb hx=>?_,I.base.free,λ b o q hx=>?_,I.base.tups,I.base.oV,I.base.qE⟩,?_,λ x c q=>?_,I.free,I.gO,λ p hp=>⟨st _ _ (pin p hp),(I.pin p hp).2⟩,hok.kept st,I.len⟩
 ·obtain⟨sl,z⟩:=I.base.slot b o q n hb hx;obtain⟨_,o',q',nd⟩:=I.ok.jZ.mem hb;rw[q]at q';cases q';obtain⟨sl',z'⟩:=u.up b _ z nd;exact⟨sl',z'⟩
 ·obtain⟨o',z⟩:=I.base.there b o q hx;exact u.ex b o' z
 ·obtain⟨m,hn,hl⟩:=I.loc;refine⟨m,u.up.ns hn,λ i x v a1 a2 a3=>?_⟩;obtain⟨w,r,l⟩:=hl i x v a1 a2 a3;refine⟨w,r,?_⟩;rcases l with l|⟨k,c,hc,q⟩
  ·exact .inl l
  ·exact .inr ⟨k,c,hc,BJ u q⟩
 ·obtain⟨v,z⟩:=I.cell x c q;exact⟨v,BJ u z⟩
def C7 {t:Addr}{tb:Value}(I:#[4])(hok:lj X.prog X.w H B)(cov:∀ b o,X.s₀.heap.get? b=some o->X.H₀ b=none->b∉X.fs->b∉X.ex->B.get? b=some o)(pin:∀ p∈X.pn++pins,B.get? p.1=some p.2)
  (st:B.StaysIn s.heap) (new:B.get? e=none) (he:s.heap.get? e=some (eX (.ref C) t tb)) (hex:e∉X.ex):H e=none/\Inv X pins σ (upd H e (.av (eX (.ref C) t tb) (.own e))) s:=by
 have hn:H e=none:=by
  cases q:H e with
  |none=>rfl
  | some o =>
   obtain⟨u,z⟩:=LN (hok e o q);rw[new]at z;cases z
 have nfs:e∉X.fs:=λ m=>by
  obtain⟨_,o,q,nd⟩:=I.jZ.mem m;rw[he]at q;cases q;exact nd _ rfl
 have nL:X.env.locals≠e:=λ z=>by
  obtain⟨m,⟨o,es,ep,ho,hd,_⟩,_⟩:=I.loc;rw[z,he]at ho;cases ho;cases hd
 have ne:∀ b o,H b=some o->b≠e:=λ b o q z=>by rw[z,hn]at q;cases q
 refine⟨hn,I.ok,I.os,I.bare,⟨I.base.keep,I.base.slot,λ b o q n hx=>?_,I.base.there,λ b xs q=>?_,λ b o u q=>?_,λ b ps q=>?_⟩,I.loc,I.cell,?_,λ x c q=>?_,λ p hp=>?_,λ b o q=>?_,I.len⟩
 ·by_cases z:b=e
  ·exfalso;subst z;by_cases hb:b∈X.fs
   ·exact nfs hb
   ·have:=cov b o q n hb hx;rw[new]at this;cases this
  ·rw[aZ z];exact I.base.free b o q n hx
 ·have z:=I.base.tups b xs q;rw[aZ (ne b _ z)];exact z
 ·have z:=I.base.oV b o u q;rw[aZ (ne b _ z)];exact z
 ·obtain⟨more,z⟩:=I.base.qE b ps q;exact⟨more,by rw[aZ (ne b _ z)];exact z⟩
 ·rw[aZ nL];exact I.free
 ·rw[aZ λ z=>?_]
  ·exact I.gO x c q
  ·obtain⟨v,o,ho,hd⟩:=I.cell x c q;rw[z,he]at ho;cases ho;cases hd
 ·obtain⟨h1,h2,h3⟩:=I.pin p hp;refine⟨h1,?_,h3⟩;rw[aZ λ z=>?_]
  ·exact h2
  ·have:=pin p hp;rw[z,new]at this;cases this
 ·by_cases z:b=e
  ·subst z;rw[bI]at q;cases q;exact⟨he,_,he⟩
  ·rw[aZ z]at q;exact(I.hok b o q).stay (λ c v _ y=>y) (λ c y=>by rw[aZ (ne c _ y)];exact y) λ c xs y=>by rw[aZ (ne c _ y)];exact y
def Av{tk:Nat}{m':#[8]}(I:#[4])(hn:h'.Ns X.env.locals m')(sb:Heap.SameBut X.env.locals s.heap h'):Inv X pins (List.replicate X.N.length none) H { s with heap:=h',toks:=tk }:=by
 have k:∀ b o,b≠X.env.locals->s.heap.get? b=some o->h'.get? b=some o:=λ b o n q=>(sb.2 b n).trans q;have neL:∀ b o,X.s₀.heap.get? b=some o->b≠X.env.locals:=λ b o q=>QT (Q0 (QC q) I.ok.above);refine⟨I.ok,I.os,I.bare,⟨λ b o q n hb hx=>k b o (neL b o q) (I.base.keep b o q n hb hx),λ b o q n hb hx=>?_,I.base.free,λ b o q hx=>?_,I.base.tups,I.base.oV,I.base.qE⟩,⟨m',hn,λ i x v a1 a2 a3=>?_⟩,λ x c q=>?_,I.free,I.gO,λ p hp=>?_,λ b o q=>?_,by simp⟩
 ·obtain⟨sl,z⟩:=I.base.slot b o q n hb hx;exact⟨sl,k b _ (neL b o q) z⟩
 ·obtain⟨o',z⟩:=I.base.there b o q hx;exact⟨o',k b o' (neL b o q) z⟩
 ·rw[List.getElem?_replicate]at a2;split at a2<;>cases a2
 ·obtain⟨v,o,ho,hd⟩:=I.cell x c q;exact⟨v,o,k c o (I.D4 x c q) ho,hd⟩
 ·obtain⟨h1,h2,h3,h4⟩:=I.pin p hp;exact⟨k _ _ h3 h1,h2,h3,h4⟩
 ·refine(I.hok b o q).stay (λ c v hc y=>k c v (λ z=>?_) y) (λ _ y=>y) λ _ _ y=>y;have f:=I.free;rw[<-z]at f;rcases hc with rfl|hc
  ·rw[q]at f;cases f
  ·rw[hc]at f;cases f
end
abbrev NV (X:Cx)(pn:#[12])(W:#[7]):Cx:={ X with pn:=pn,xe:=W }
def LL{W:#[7]}(I:#[4]):Inv (NV X (X.pn++pins) W) [] σ H s:=
 ⟨⟨I.ok.mod,I.ok.kind,I.ok.glob,I.ok.blt,I.ok.above,I.ok.inj,I.ok.has,I.ok.G8,I.ok.hd,I.ok.frames,I.ok.Hh,I.ok.JO,I.ok.bs,I.ok.zY,I.ok.u7,I.ok.u9,I.ok.jZ,I.ok.Cq⟩,I.os,I.bare,I.base,I.loc,I.cell,I.free,I.gO,λ p hp=>I.pin p (by simpa using hp),I.hok,I.len⟩
def pL{pins':#[12]}{W:#[7]}(I:Inv (NV X (X.pn++pins) W) pins' σ H s):Inv X pins σ H s:=
 ⟨⟨I.ok.mod,I.ok.kind,I.ok.glob,I.ok.blt,I.ok.above,I.ok.inj,I.ok.has,I.ok.G8,I.ok.hd,I.ok.frames,I.ok.Hh,I.ok.JO,I.ok.bs,I.ok.zY,I.ok.u7,I.ok.u9,I.ok.jZ,I.ok.Cq⟩,I.os,I.bare,I.base,I.loc,I.cell,I.free,I.gO,λ p hp=>I.pin p (QR _ hp),I.hok,I.len⟩
abbrev NU (X:Cx)(e:Addr):Cx:={ X with A:=X.A.mark (some (.ref e)),calm:=false,xe:=λ _ _=>False }
def Fc(e:Addr)(I:#[4]):Inv (NU X e) pins σ H s:=
 ⟨⟨I.ok.mod,I.ok.kind,I.ok.glob,I.ok.blt,I.ok.above,I.ok.inj,I.ok.has,I.ok.G8,(λ z=>by cases z),I.ok.frames,I.ok.Hh,I.ok.JO,I.ok.bs,I.ok.zY,I.ok.u7,I.ok.u9,I.ok.jZ,I.ok.Cq⟩,I.os,I.bare,I.base,I.loc,I.cell,I.free,I.gO,I.pin,I.hok,I.len⟩
def Fb(ok:X.Ok)(I:Inv (NU X e) pins σ H s):Inv X pins σ H s:=
 ⟨ok,I.os,I.bare,I.base,I.loc,I.cell,I.free,I.gO,I.pin,I.hok,I.len⟩
def ud (g:SF)(BU:Addr->Bool)(G:DF)(τ:SD):Fl:=match g τ with
 |.ex C _=>if BU C=true then (match G [.exc C] with|.ok d=>.rt d|_=>.bad) else .bad
 |r=>r
def LG.cls{bm:#[17]}(x:LG h C bm):LK h C bm:=by
 obtain⟨N,nm,q,bs,hdct,sn,sub,ab,col,dd,k0,k1,k2,k3,k5,mN,hC,_⟩:=x.ob;exact⟨N,nm,q,bs,hdct,sn,sub,ab,col,dd,k0,k1,k2,k3,k5,_,hC⟩
def Iu{t:Addr}{tb:Value}{u:HO}{k i:Nat}{y n p:Str}{G:DF}{p1 p2 cp:Pos}(Cw:Ir X.prog X.w X.K X.mg X.base k y [p] (jr X.K G))(hr:v7 k X.A)(hgy:Gl X y)(hi:X.N[i]?=some n)(hv:zS X.env.scope n)(hdb:#[81])(hd:(n == ("__debug__" : Str))=false)(hcd:(n == ("__classdict__" : Str))=false)
  (he:starEach [.Name n p2] X.env=(false,eval (.Name n p2) X.env)::starEach [] X.env) (hpl:(backTo cp (starEach [] X.env)).any (·.1)=false) :
  PE (NU X e) (.Call (.Name y p1) [.Name n p2] [] cp) (λ σ H Q=>σ[i]?=some (some (.ref e))/\H e=some (.av (eX (.ref C) t tb) u)/\jr X.K G [.ref e] H Q E0):=by
 obtain⟨f,fd,hm,hk,hb,Fn⟩:=Cw.ex;intro pins s σ H Q J ⟨h1,h2,h3⟩;refine RQ (mV J hgy hm ?_ hdb);have ha:PA (NU X e) [.Name n p2] _:=cN (ic (X:=NU X e) (i:=i) (pos:=p2) hi hv hd hcd) gP he;refine Uz (h₀:=X.base) J.ok.mod.Ku hk (eG (ha cp pins s σ H (λ vs H1=>vs=[.ref e]/\H1=H) J ⟨.ref e,h1,rfl,rfl⟩) λ us s1 hq5=>L2.ex5 hq5 λ vs H1 J1 r q=>⟨J1.qC,?_⟩) he hpl;obtain⟨rfl,rfl⟩:=q;have hl:us.length=[p].length:=by rw[<-r.length];rfl
 have hb':=hb s1 us J1.qC (by rw[QQ];exact hl);rw[QQ]at hb';refine Ud (SX (Fn.run (X.A.mark (some (.ref e))) X.stack s1 H1 ⟨us,[]⟩ us [.ref e] Q hr ⟨e,.ref C,t,tb,u,rfl,h2⟩ J1.Hw hb' r h3) λ r s' hq=>?_);cases r with
 |error e=>exact hq.elim
 | ok fl =>
  cases fl with
  |ret u=>exact J1.after hq|next=>exact False.elim hq|brk=>exact False.elim hq|cont=>exact False.elim hq
def LM{Y:XY}{body:List Stmt}{x n y p:Str}{np p1 p2 cp hpos rpos pos:Pos}{g:SF}{i k:Nat}{NE:Addr}{bn:#[17]}{BU:Addr->Bool}{G:DF}
  (hb:∀ (pn:#[12]) (W:#[7]) (y':Addr->L2.St->Hp->Prop),J6 (NV X pn W) ⟨y',false⟩->kF (NV X pn W) body (jf X.K ⟨y',false⟩ g))
  (c:kh X.K X.mg x NE bn) (hIn:∀ C,BU C=true->∃ nm bm,kh X.K X.mg nm C bm/\(Value.ref C::bm).contains (.ref NE)=true)
  (Cw:Ir X.prog X.w X.K X.mg X.base k y [p] (jr X.K G)) (hr:v7 k X.A) (hN:X.N.Nodup) (hi:X.N[i]?=some n) (hn:X.env.scope.names.lookup n=some .local) (hgx:Gl X x:=by rfl) (hgy:Gl X y:=by rfl)
  (hst:X.stack=X.env::X.outer:=by rfl) (hfr:X.env.frame=some X.env.locals:=by rfl) (hex:X.ex=[]:=by rfl) (hkf:X.env.scope.kind=.function:=by rfl)
  (hdx:#[3]:=by decide) (hdb:#[81]:=by decide) (hd:(n == ("__debug__" : Str))=false:=by decide) (hcd:(n == ("__classdict__" : Str))=false:=by decide)
  (he:starEach [.Name n p2] X.env=(false,eval (.Name n p2) X.env)::starEach [] X.env:=by rfl) (hpl:(backTo cp (starEach [] X.env)).any (·.1)=false:=by rfl) (hl:Y.ln=false:=by rfl) :
  PS X (.Try body [.ExceptHandler (some (.Name x np)) (some n) [.Return (some (.Call (.Name y p1) [.Name n p2] [] cp)) rpos] hpos] [] [] pos) (jf X.K Y (ud g BU G)):=by
 intro pins s σ H D I ⟨H0,B0,B,τ,P,J,h⟩;refine wpAny_Try_except ?_;have main:J6 (NV X (X.pn++pins) λ e s₁=>wpAny #[11] X.A (noteFrame e X.env) (λ _ s₂=>wpAny #[11] X.A (setFlight e none) (λ _ s₃=>wpAny #[11] X.A (handleBy e X.env [.ExceptHandler (some (.Name x np)) (some n) [.Return (some (.Call (.Name y p1) [.Name n p2] [] cp)) rpos] hpos]) (SP X pins D) X.xe s₃) X.xe s₂) X.xe s₁)
   ⟨λ C σ' H'=>∃ t B' P',l4 X.K H0 B0 B H B' H' σ' t P'/\g τ=.ex C t,false⟩:=by
  rintro pins' σ' H' e C s' ⟨I',Bh,st,new,ff,hok,cov,pin,made⟩ ⟨t,B',P',aft,hg⟩;unfold ud at h;rw[hg]at h;have h:bY X.K Y H0 B0 B H D (if BU C=true then (match G [.exc C] with|.ok d=>.rt d|_=>.bad) else .bad):=h;split at h
  ·rename_i hc;cases zG:G [.exc C] with
   |dY c=>rw[zG]at h;exact h.elim|bad=>rw[zG]at h;exact h.elim
   | ok d =>
    rw[zG]at h;have Ix:=pL I';have cov':∀ b o,X.s₀.heap.get? b=some o->X.H₀ b=none->b∉X.fs->b∉X.ex->Bh.get? b=some o:=cov;have pin':∀ p∈X.pn++pins,Bh.get? p.1=some p.2:=λ p hp=>pin p (QR _ hp);have ff':s'.heap.FunFrames Bh (X.env::X.outer):=by rw[<-hst];exact ff
    have fr:X.A.frames=some (X.env::X.outer):=by rw[<-hst];exact Ix.ok.frames
    have rest:∀ h1,Aq Bh (X.env::X.outer) e (.ref C) (rawInt X.env.locals) h1->zT (Hd (X.env::X.outer)) s'.heap h1 ->
      wpAny #[11] X.A (setFlight (.ref e) none) (λ _ s₃=>wpAny #[11] X.A (handleBy (.ref e) X.env [.ExceptHandler (some (.Name x np)) (some n) [.Return (some (.Call (.Name y p1) [.Name n p2] [] cp)) rpos] hpos]) (SP X pins D) X.xe s₃) X.xe { s' with heap:=h1 }:=by
     intro h1 f1 u1;refine mark (fs:=Hd (X.env::X.outer)) (x:=none) f1 λ h2 f2 u2=>?_;have u02:=u1.trans u2;have I2:=BI Ix hok cov' pin' f2.st u02;obtain⟨ta,T,oT,ts,he2,_⟩:=f2.tr.ex;refine wpAny_handleBy_cons (codeAny_handlers_test (mV (Fc e I2) hgx c.mg ?_ hdx)) (by intro q;cases q);obtain⟨nm,bm,cC,hcon⟩:=hIn C hc;refine takes (cC.obj I2.qC).cls (c.obj I2.qC).cls he2 rfl ?_ ?_
     ·obtain⟨_,_,_,_,_,_,_,_,_,_,_,_,_,_,_,_,_,_,_,T⟩:=(c.obj I2.qC).ob;exact T.hasType F.excBase_ValueError.hasBase
     ·rw[hcon];refine codeAny_handlers_suite_as ?_;refine mark (fs:=Hd (X.env::X.outer)) (x:=none) f2 λ h3 f3 u3=>?_;have I3:=BI Ix hok cov' pin' f3.st (u02.trans u3);obtain⟨ta3,T3,oT3,ts3,he3,_⟩:=f3.tr.ex;obtain⟨hHe,I4⟩:=C7 I3 hok cov' pin' f3.st f3.new he3 (by rw[hex];exact λ z=>by cases z);generalize hH4:upd H' e (.av (eX (.ref C) ta3 (.ref T3)) (.own e))=H4 at I4;have h4e:H4 e=some (.av (eX (.ref C) ta3 (.ref T3)) (.own e)):=by rw[<-hH4];exact bI
      have s34:aD H' H4:=by rw[<-hH4];exact iJ hHe
      refine tq I4 hN hi (.inl hn) (show RelV (.ref e) (.ref e) from rfl) (λ s5 I5=>?_) (.inr hn);have len5:i<σ'.length:=by rw[Ix.len];exact(Qt.mp hi).1
      have q5:(σ'.set i (some (V.ref e)))[i]?=some (some (.ref e)):=RW len5;have hsp:jr X.K G [.ref e] H4 (λ v H5=>∃ B5 fp,g6 X.K H4 B' B5 H5 d v fp) E0:=by
       refine⟨B',[.exc C],aft.si.bh.trans s34,az.one ⟨⟨e,rfl,ta3,.ref T3,.own e,h4e⟩,rfl⟩,?_⟩;rw[zG];exact λ B5 H5 v fp r=>⟨B5,fp,r⟩
      have run:=Bk (sX (pos:=rpos) (Iu (e:=e) (C:=C) (t:=ta3) (tb:=.ref T3) (u:=.own e) (p1:=p1) (p2:=p2) (cp:=cp) Cw hr hgy hi (.inl hn) hdb hd hcd he hpl)) pins s5 (σ'.set i (some (.ref e))) H4 { nx:=λ _ _=>False,rt:=λ v H5=>∃ B5 fp,g6 X.K H4 B' B5 H5 d v fp } (Fc e I5) ⟨q5,h4e,hsp⟩;refine RI run (λ f s6 hf=>?_) λ _ _ z=>z.elim;cases f with
      |next=>obtain⟨_,_,_,z⟩:=hf;exact z.elim|brk=>obtain⟨_,_,_,z⟩:=hf;exact z.elim|cont=>obtain⟨_,_,_,z⟩:=hf;exact z.elim
      | ret u6 =>
       obtain⟨v,σ6,H6,I6,rv,B5,fp,r⟩:=hf;have I6':=Fb Ix.ok I6;obtain⟨m6,hn6,_⟩:=I6'.loc;refine wpAny_nameGoes (show X.env.kindOf n=some .local from hn) hn6 (by rw[hkf];rfl) λ h7 m7 hn7 sb=>?_;refine⟨v,_,H6,Av I6' hn7 sb,rv,(bY.rt hl h) B5 H6 v fp ⟨aft.si.h0.trans (s34.trans r.h0),aft.si.b0.trans r.b0,r.bh,λ a na=>?_,r.rep,r.nd,λ a ha=>?_⟩⟩
       ·rcases r.nb a na with z|z
        ·exact aft.si.nb a z
        ·exact .inr (aft.si.h0.free (s34.free z))
       ·obtain⟨z1,z2,z3⟩:=r.own a ha;exact⟨z1,aft.si.h0.free (s34.free z2),z3⟩
    rcases made with ⟨t0,h0⟩|tr
    ·exact vZ fr hfr ff' h0 st new rest
    ·exact note fr hfr ⟨st,new,ff',tr⟩ rest
  ·exact h.elim
 have go:=hb _ _ _ main [] s σ H D (LL I) ⟨H0,B0,B,τ,P,J,by
  unfold ud at h;cases z:g τ with
  |nx t=>rw[z]at h;exact h|bk t=>rw[z]at h;exact h|ct t=>rw[z]at h;exact h|rt d=>rw[z]at h;exact λ B' H' v fp r=>bY.rt hl h B' H' v fp r
  |ex C t=>exact λ B' H' σ' P' a=>⟨t,B',P',a,rfl⟩
  |bad=>rw[z]at h;exact h⟩
 refine RI go (λ f s1 q=>?_) λ _ _ z=>z;cases f with
 |next=>obtain⟨σ',H',I',q⟩:=q;exact Tu ⟨σ',H',pL I',q⟩| brk=>obtain⟨σ',H',I',q⟩:=q;exact⟨σ',H',pL I',q⟩| cont=>obtain⟨σ',H',I',q⟩:=q;exact⟨σ',H',pL I',q⟩| ret u=>obtain⟨v,σ',H',I',r,q⟩:=q;exact⟨v,σ',H',pL I',r,q⟩
end XF
namespace XF
open PySem PySem.W PySem.Spec PyProof.Rows
structure se (K:Frag)(C:Addr):Prop where
 ga:findIn K (.ref C) "__getattribute__" = some (some (.builtin "BaseException.__getattribute__"))
 gt:findIn K (.ref C) "__getattr__" = some none
 fo:findObj K C none "__class__" = some (.bind #[86] #[51])
 mo:PySem.W.mroIn K C (.type "object")=some true
 mb:PySem.W.mroIn K C (.type "BaseException")=some true
 cl:(clsIn K C).isSome=true
section
variable {prog:#[83]}{w:World}{A:#[127]}{E:#[7]}{s:Shared}{K:Frag}{x C:Addr}{ox:Obj}
def C8 (k:se K C){Q:Option Value->Shared->Prop}(X:K.In s.heap)(I:PySem.W.InstAt s.heap x ox C none)(h:Q (some (.ref C)) { s with toks:=s.toks+1 }):wpAny #[14] A (getAttr? (.ref x) "__class__") Q E s:=by
 obtain⟨hh,g,d,t,os⟩:=s;have L0:=I.type (M:=model prog w);have L1:=looks_findIn (M:=model prog w) X k.ga;have L2:=looks_findIn (M:=model prog w) X k.gt;unfold getAttr? getAttrBy? getAttrBy;refine Qn (wpAny_mkText (Qn (Sq (RG (Qn (L0.at (Qn (L1.at ?_))))))));have hx:(onTheHeap (Value.ref C)&&Value.builtin "BaseException.__getattribute__" == Value.builtin "object.__getattribute__")=false:=by
  rw[show(Value.builtin "BaseException.__getattribute__" == Value.builtin "object.__getattribute__")=false by decide +kernel];exact Vd _
 simp only[hx,QV,SQ];unfold getAttrByItsOwn hookBefore callGetattribute;rw[QG (show onTheHeap (Value.ref C)=true from rfl)];refine Qn (L2.at (Qn (Sq (RG ?_))));rw[QK #[32]];unfold boundAndCalled;rw[F.excAttr_ValueError.ga.bind (.ref x)];refine Qn (Qu ?_);show wpAny _ _ (call (.builtin "BaseException.__getattribute__") [.ref x,.str (Str.ofString "__class__") t]) _ _ _;have LI:Looks #[14] hh (isInstance (.ref x) (.type "BaseException")) true:=L0.andThen (looks_mroIn X k.mb);have LF:=looks_find (M:=model prog w) X I k.fo;have hk:builtinKind "BaseException.__getattribute__" = some .slot:=by decide +kernel
 have hsplit:splitId "BaseException.__getattribute__" = some ("BaseException","__getattribute__"):=by decide +kernel
 have ha:=F.args_bexc_ga (.ref x) (.str (Str.ofString "__class__") t);refine Ud (codeAny_call_builtin F.excAttr_ValueError.ga.plain F.entry_bexc_ga ?_);simp only[checkBuiltinCall,hk,hsplit];refine Qn (LI.at ?_);have get:wpAny #[14] A.in1 (Builtin.«object.__getattribute__» ⟨[.ref x,.str (Str.ofString "__class__") t],[]⟩) (λ fin s'=>fin=.done (.ret (.ref C))/\s'=⟨hh,g,d,t+1,os⟩) (λ _ _=>False) ⟨hh,g,d,t+1,os⟩:=by
  refine Qn (Qu (Qn (Qu (Qn (L0.at (Qn (LF.at ?_)))))));show wpAny _ _ (holding [_] (call #[86] [.builtin "object.__class__",.ref x,.ref C]) >>= ret) _ _ _;exact Qn (RG (Ud (class_get (s:=⟨hh,g,d,t+1,os⟩) (od:=none) X I k.mo (Qu ⟨rfl,rfl⟩))))
 rw[QK #[32]];refine US (a:=()) ?_ (RI get (λ fin s' z=>?_) λ _ _ z=>z.elim)
 ·unfold argsOk at ha
  revert ha
  generalize Manifest.signature? "BaseException.__getattribute__" = sg;cases sg<;>exact id
 ·obtain⟨rfl,rfl⟩:=z;exact handed_on rfl (Qu h)
def Fd {t:Addr}{tb:Value}(k:se K C):KitX K (.ref x) (.ref C) (λ h=>h.get? x=some (eX (.ref C) t tb)) where
 ty:=λ _ _ _ e=>(Looks.ld e).andThen .now
 it:=λ _ _ X _=>by
  have hc:=k.cl;unfold clsIn at hc;split at hc
  ·rename_i c' d' cd' sl' ho;intro A' Q' E' s' kk q;unfold isType loadHead;exact Qn (wpAny_loadPart (kk _ _ (X _ _ ho)) (Qu q))
  ·cases hc
 ne:=λ h tp dd its n sl X htp=>by
  have hc:=k.cl;refine Bool.eq_false_iff.mpr λ q=>?_;have e:C=tp:=Value.ref.inj (R7.mp q);subst e;unfold clsIn at hc;split at hc
  ·rename_i c' d' cd' sl' ho;have z:=(X _ _ ho).symm.trans htp;cases z
  ·cases hc
 ca:=λ X e h=>C8 k X ⟨e,rfl,rfl,trivial⟩ h
end
end XF
namespace XF
open PySem PySem.Spec PyProof.Rows L2 DL
section
variable {K:#[0]}{Y:XY}{H0 B0 B H:Hp}{σ:L2.St}{τ:SD}{P:#[9]}{F:#[30]}{X:Cx}{pos p pt:Pos}{e:Expr}{fe:#[29]}
def ue {cv:V}{c:Value}(hc:∀ u,RelV cv u->u=c):eK X (.builtin "isinstance") (λ xs H Q=>∃ a C t tb u b,xs=[.ref a,cv]/\H a=some (.av (eX (.ref C) t tb) u)/\se X.K C/\PySem.W.kitOne X.K (.ref C) c=some b/\Q (.bl b) H):=by
 intro pins s σ H xs us Q I r h;obtain⟨a,C,t,tb,u,b,rfl,hH,k,e,q⟩:=h;obtain⟨u1,u2,rfl,r1,r2⟩:=vals2 r;cases r1;have r2:=hc _ r2;subst r2;obtain⟨ho,_⟩:=I.hok a _ hH;exact Rz (Fd k) I.qC ho e (λ z=>nomatch z) λ tk=>⟨.bl b,H,I.tok tk,rfl,q⟩
def eB (L:#[9])(p:Addr->Bool):D->Res D
 |.exc C=>if L.contains C=true then .ok (.bl (p C)) else .bad
 |_=>.bad
def Ff {d:D}{v:V}{f:#[9]}{L:#[9]}{q:Addr->Bool}{Q:VK}(r:Rep K B (· ∈ P) H d v f)(h:Goal K Y H0 B0 B H σ τ P F Q (eB L q d)) :
  ∃ a C t tb u,v=.ref a/\H a=some (.av (eX (.ref C) t tb) u)/\L.contains C=true/\Goal K Y H0 B0 B H σ τ P F Q (.ok (.bl (q C))):=by
 cases d with
 | exc C =>
  obtain⟨⟨a,rfl,t,tb,u,hH⟩,_⟩:=r;have h:Goal K Y H0 B0 B H σ τ P F Q (if L.contains C=true then .ok (.bl (q C)) else .bad):=h;by_cases hc:L.contains C=true
  ·rw[QG hc]at h;exact⟨a,C,t,tb,u,rfl,hH,hc,h⟩
  ·rw[QK hc]at h;exact h.elim
 |_=>exact h.elim
def sJ {x:Str}{D:Addr}{L:#[9]}{q:Addr->Bool}(hL:∀ C,L.contains C=true->se X.K C/\PySem.W.kitOne X.K (.ref C) (.ref D)=some (q C))(hg:Gl X "isinstance")(hm:X.mg "isinstance" = none)(he:#[46])(hgT:Gl X x)(hmT:X.mg x=some (.ref D))
  (hs:#[138]:=by rfl) (hs2:#[162]:=by rfl) (hpl:(backTo pos (starEach [.Name x pt] X.env)).any (·.1)=false:=by rfl) (hdb:#[3]:=by decide) :
  PE X (.Call (.Name "isinstance" p) [e,.Name x pt] [] pos) (tM X.K Y (gD (eB L q) fe)):=by
 refine PE.imp (lO (ue (cv:=.ref D) (c:=.ref D) λ u r=>r) hg hm #[141] (cN he (cN (Bp hgT hmT (show RelV (.ref D) _ from rfl) hdb) gP hs2) hs) (he:=hs) (hpl:=hpl)) λ σ H Q hq=>ex8 hq λ H0 B0 B τ P F I h=>?_;refine tM.seq (g:=eB L q) I h λ d v H1 B1 fp _ I1 s1 b1 r1 k1 h1=>?_;obtain⟨a,C,t,tb,u,rfl,hH,hc,h2⟩:=Ff r1 h1;obtain⟨k,e⟩:=hL C hc;exact⟨a,C,t,tb,u,_,rfl,hH,k,e,Out.here h2 I1 ⟨rfl,rfl⟩⟩
def Fg {x:Str}{T:String}{L:#[9]}{q:Addr->Bool}(hL:∀ C,L.contains C=true->se X.K C/\PySem.W.kitOne X.K (.ref C) (.type T)=some (q C))(hg:Gl X "isinstance")(hm:X.mg "isinstance" = none)(he:#[46])(hgT:Gl X x)(hmT:X.mg x=none)(hbT:bootBuiltins x=some (.type T))
  (hs:#[138]:=by rfl) (hs2:#[162]:=by rfl) (hpl:(backTo pos (starEach [.Name x pt] X.env)).any (·.1)=false:=by rfl) (hn:#[115] :=by decide) (hdb:#[3]:=by decide) :
  PE X (.Call (.Name "isinstance" p) [e,.Name x pt] [] pos) (tM X.K Y (gD (eB L q) fe)):=by
 refine PE.imp (lO (ue (cv:=.ty T) (c:=.type T) λ u r=>r) hg hm #[141] (cN he (cN (Bo hgT hmT hbT (show RelV (.ty T) _ from rfl) hn hdb) gP hs2) hs) (he:=hs) (hpl:=hpl)) λ σ H Q hq=>ex8 hq λ H0 B0 B τ P F I h=>?_;refine tM.seq (g:=eB L q) I h λ d v H1 B1 fp _ I1 s1 b1 r1 k1 h1=>?_;obtain⟨a,C,t,tb,u,rfl,hH,hc,h2⟩:=Ff r1 h1;obtain⟨k,e⟩:=hL C hc;exact⟨a,C,t,tb,u,_,rfl,hH,k,e,Out.here h2 I1 ⟨rfl,rfl⟩⟩
end
section
variable {K:#[0]}{mg:#[8]}{x y:Str}{C D NE:Addr}{bm bd:#[17]}
def kh.look (c:kh K mg x C bm):∃ dd cd sl,K.lookup C=some ⟨.type "type",dd,.cls cd,sl⟩/\cd.mro=.ref C::bm:=by
 obtain⟨_,q,m⟩:=c;unfold PySem.W.excIn at q;split at q
 ·rename_i dd cd sl ho;refine⟨dd,cd,sl,ho,?_⟩;unfold mroIn at m;rw[ho]at m;simpa using m
 ·cases q
def BK (c:kh K mg x C bm)(v:Value):PySem.W.subIn K (.ref C) v=some ((Value.ref C::bm).contains v):=by
 obtain⟨dd,cd,sl,ho,hm⟩:=c.look;show(PySem.W.clsIn K C).bind _=_;unfold PySem.W.clsIn;rw[ho];show(if cd.mro.isEmpty=true then none else some (cd.mro.contains v))=_;rw[hm];rfl
def Iv (c:kh K mg x C bm)(d:kh K mg y D bd):PySem.W.kitOne K (.ref C) (.ref D)=some ((Value.ref C::bm).contains (.ref D)):=by
 obtain⟨dd,cd,sl,ho,hm⟩:=d.look;unfold PySem.W.kitOne;split
 ·rename_i q;rw[R7]at q;rw[q];simp
 ·unfold PySem.W.kitCls;have h1:((PySem.W.clsIn K D).isSome&&PySem.W.typeIn K (.ref D) == some (.type "type"))=true:=by
   have e1:PySem.W.typeIn K (.ref D)=some (.type "type"):=by
    show(K.lookup D).map (·.cls)=_;rw[ho];rfl
   have e2:(PySem.W.clsIn K D).isSome=true:=by
    unfold PySem.W.clsIn;rw[ho];rfl
   rw[e1,e2];rfl
  show(if ((PySem.W.clsIn K D).isSome&&PySem.W.typeIn K (.ref D) == some (.type "type"))=true then PySem.W.subIn K (.ref C) (.ref D) else none)=_;rw[QG h1,BK c]
def LO (c:kh K mg x C bm)(h:bm.contains (.type "ValueError")=true):PySem.W.kitOne K (.ref C) (.type "ValueError")=some true:=by
 unfold PySem.W.kitOne;rw[QK #[32]];unfold PySem.W.kitCls;show(if PySem.W.kitMeta "ValueError" = true then PySem.W.subIn K (.ref C) (.type "ValueError") else none)=_;rw[QG (by kernel_rfl),BK c,UD,h,Vb]
end
variable {q:Addr->Bool}{L:#[9]}{x:Str}
def LP {k:Nat}{A:#[127]}(r:dD k A):v7 k A:=⟨rfl,r.dp,r.un⟩
end XF
namespace L2
open PySem PySem.Spec PyProof.Rows
section
variable {X:Cx}
def Ka (K:#[0]):V->List V->Hp->VK->Prop:=λ x vs H Q=>∃ l b xs zs,x=.ref l/\vs=[.ref b]/\H l=some (.lst xs)/\(H b=some (.lst zs)\/H b=some (.tup zs))/\xs.length+zs.length<=sizeLine/\Q .bW (upd H l (.lst (xs++zs)))
def Iz:Nb X "list.extend" (Ka X.K):=by
 intro pins s σ H x vs v us Q I rx rv h;obtain⟨l,b,xs,zs,rfl,rfl,hH,hB,hz,q⟩:=h;rcases hB with hB|hB
 ·exact vG pins s σ H _ _ v us Q I rx rv ⟨l,b,xs,zs,rfl,rfl,hH,hB,hz,q⟩
 cases rx;obtain⟨u,rfl,ru⟩:=rv.one;cases ru;obtain⟨z,its,n,r,hl,e⟩:=I.CD hH;obtain⟨_,its2,r2,n2,e2⟩:=(show cY X.prog X.w H s.heap b (.tup zs) from I.hok b _ hB);have hl2:=r2.length;have hsz:its.toArray.size+its2.toArray.size<=sizeLine:=by rw[Qz,Qz];omega
 have hlong:¬ (!its.toArray.isEmpty&&Builtin.List.listTooLong (its.toArray.size+its2.toArray.size))=true:=by
  rw[yp hsz,Vd];exact Qy
 refine Va F.slot_list_extend ⟨_,e,rfl⟩ F.entry_list_extend (F.args_list_extend_2 _ _)
  (AutoSeq1.list_extend_list_tuple_0 l its.toArray n b its2.toArray n2 hlong (by rw[Qz];omega) #[1]) ⟨e,e2,?_⟩
 refine⟨.bW,_,I.Ea (its':=its++its2) hH e #[32] (r.append r2) ?_,rfl,q⟩;rw[Qv];omega
end
end L2
namespace DL
open PySem PySem.Spec PyProof.Rows L2
section
variable {K:#[0]}{Y:XY}{H0 B0 B H:Hp}{σ:L2.St}{τ:SD}{P:#[9]}{F:#[30]}{X:Cx}{pos:Pos}{e:Expr}{fe:#[29]}
mutual
def D.plain:D->Bool
 |.tup xs=>cV xs
 |.lst _ _=>false
 |.dct _ _ _ _=>false
 |.exc _=>false
 |_=>true
def cV:List D->Bool
 |[]=>true
 |d::r=>d.plain&&cV r
end
mutual
def Rep.jR {B' H':Hp}{S S':#[30]}(m:j6 H H'):∀ {d:D}{v:V}{f:#[9]},d.plain=true->Rep K B S H d v f->f=[]/\Rep K B' S' H' d v []
 |.bW,v,f,_,r=>by obtain⟨h1,h2⟩:=r;exact⟨h2,h1,rfl⟩
 |.bl b,v,f,_,r=>by obtain⟨h1,h2⟩:=r;exact⟨h2,h1,rfl⟩
 |.int i,v,f,_,r=>by obtain⟨h1,h2⟩:=r;exact⟨h2,h1,rfl⟩
 |.str x,v,f,_,r=>by obtain⟨h1,h2⟩:=r;exact⟨h2,h1,rfl⟩
 | .tup xs,v,f,p,r=>by
  obtain⟨a,vs,e,h,rl⟩:=r;obtain⟨e2,r2⟩:=az.jR m (d:=xs) p rl;exact⟨e2,a,vs,e,m a _ h (λ z=>z),r2⟩
 |.lst _ _,_,_,p,_=>by cases p
 |.dct _ _ _ _,_,_,p,_=>by cases p
 |.exc _,_,_,p,_=>by cases p
def az.jR {B' H':Hp}{S S':#[30]}(m:j6 H H'):∀ {d:List D}{v:List V}{f:#[9]},cV d=true->az K B S H d v f->f=[]/\az K B' S' H' d v []
 |[],v,f,_,r=>by obtain⟨h1,h2⟩:=r;exact⟨h2,h1,rfl⟩
 | d::ds,v,f,p,r=>by
  obtain⟨x,w,f1,f2,e,r1,r2,ef⟩:=r;have p:(d.plain&&cV ds)=true:=p;rw[Q4]at p;obtain⟨e1,q1⟩:=Rep.jR m p.1 r1;obtain⟨e2,q2⟩:=az.jR m p.2 r2;subst e1 e2;exact⟨ef,x,w,[],[],e,q1,q2,rfl⟩
end
def az.dropLast {S:#[30]}{xs:List D}{vs:List V}{f:#[9]}(r:az K B S H xs vs f):∃ g,az K B S H xs.dropLast vs.dropLast g/\List.Sublist g f:=by
 obtain⟨g,h1,h2⟩:=r.take (xs.length-1);have hl:=r.length;rw[List.dropLast_eq_take,List.dropLast_eq_take,<-hl];exact⟨g,h1,h2⟩
def IA (j i:Nat)(xs:List D)(τ:SD):Option D->Fl
 |some d=>if d.plain=true then .nx ((τ.set i (some (.lst .own xs.dropLast))).set j (some d)) else .bad
 |none=>.bad
def Fj (j i:Nat)(τ:SD):Fl:=match gY τ i with
 |some xs=>IA j i xs τ xs[xs.length-1]?
 |none=>.bad
def s_pop (j i:Nat){x y:Str}{p0 p1 apos cpos:Pos}(hN:X.N.Nodup)(hj:X.N[j]?=some y)(hx:Loc X.env.scope y)(hi:#[78]:=by rfl)(hv:zS X.env.scope x:=by first|exact Or.inl rfl|exact Or.inr (Or.inl rfl)|exact Or.inr (Or.inr rfl))(hd:#[3]:=by decide)(hcd:#[44]:=by decide)
  (hbase:attributeBase #[68] "pop" X.env (eval #[68] X.env)=eval #[68] X.env:=by rfl) (hline:#[110]:=by rfl)
  (hsw:swapsWith (.Call (.Attribute #[68] "pop" apos) [] [] cpos) (some (.Name y p0)) pos.line X.env=pure false:=by rfl) (hf:#[63]:=by first|exact .inl rfl|exact .inr rfl) :
  PS X (.Assign [.Name y p0] (.Call (.Attribute #[68] "pop" apos) [] [] cpos) pos) (jf X.K Y (Fj j i)):=by
 refine PS.imp (wV hN hj hx (K6 Sg PySem.F.slot_list_pop PySem.F.type_list_pop K9 (ic hi hv hd hcd) hbase hline) hsw hf) λ E σ H hq=>ex7 hq λ H0 B0 B τ P I h=>?_;unfold Fj at h;cases z:gY τ i with
 |none=>rw[z]at h;exact h.elim
 | some xs =>
  rw[z]at h;replace h:bY X.K Y H0 B0 B H E (IA j i xs τ xs[xs.length-1]?):=h;have hi:=ik z;obtain⟨a,vs,ea,ha,hl⟩:=I.listAt hi;cases hd:xs[xs.length-1]? with
  |none=>rw[hd]at h;exact h.elim
  | some d =>
   rw[hd]at h;unfold IA at h;split at h
   ·rename_i d' hp;cases hp;split at h
    ·rename_i hpl;obtain⟨v0,f0,g1,r0,_⟩:=I.rep.get hi;obtain⟨a',ws,g,ea',q',rl,_⟩:=r0;rw[ea]at g1;cases g1;cases ea';have hw:ws=vs:=by
      rw[ha]at q';cases q';rfl
     subst hw;obtain⟨v,f,hv',rv,_⟩:=rl.get hd;have hlast:ws[ws.length-1]?=some v:=by rw[<-hl];exact hv'
     refine⟨.ref a,ea,.inl ⟨rfl,ws,fH.of ha⟩,a,ws,v,rfl,rfl,ha,hlast,?_⟩;obtain⟨P',I'⟩:=I.CP (xs':=xs.dropLast) (vs':=ws.dropLast) (gp:=[]) hi ea fK.nil (λ f _ rl=>by
      obtain⟨g,h1,h2⟩:=rl.dropLast;exact⟨g,h1,λ b m=>.inl (h2.subset m),λ nf _=>nf.sublist h2⟩) ha
     obtain⟨_,rv'⟩:=Rep.jR (B':=B) (S':=No) I'.DR hpl rv;obtain⟨P'',I'',_⟩:=I'.si.set j rv' fK.nil;exact h B _ _ P'' ⟨I'',I'.b,I'.DR⟩
    ·exact h.elim
   ·exact h.elim
def Kc (i:Nat)(xs:List D)(τ:SD):D->Fl
 |.lst .own ys=>if cV ys=true/\xs.length+ys.length<=16777216 then .nx #[121] else .bad
 |.tup ys=>if cV ys=true/\xs.length+ys.length<=16777216 then .nx #[121] else .bad
 |_=>.bad
def wa (i:Nat)(f:#[29])(τ:SD):Fl:=match gY τ i with
 |some xs=>(f τ).ja τ (Kc i xs τ)
 |none=>.bad
def Fi (i:Nat){x:Str}{p1 apos cpos:Pos}(he:#[46])(hN:#[78]:=by rfl)(hv:zS X.env.scope x:=by first|exact Or.inl rfl|exact Or.inr (Or.inl rfl)|exact Or.inr (Or.inr rfl))(hd:#[3]:=by decide)(hcd:#[44]:=by decide)
  (hbase:attributeBase #[68] "extend" X.env (eval #[68] X.env)=eval #[68] X.env:=by rfl)
  (hfew:((backTo cpos (starEach [e] X.env)).all (λ x=>!x.1)&&#[182].all (λ x=>x.1.isSome)
   && decide #[124])=true:=by rfl)
  (hline:#[110]:=by rfl) (hs:#[26]:=by rfl) (hplain:(backTo cpos (starEach [] X.env)).any (·.1)=false:=by rfl)
  (hsw:swapsWith #[166] none pos.line X.env=pure false:=by rfl) :
  PS X (.Expr #[166] pos) (jf X.K Y (wa i fe)):=by
 refine PS.imp (oX (Bu Sg PySem.F.slot_list_extend PySem.F.type_list_extend Iz (ic hN hv hd hcd) (cN he gP hs) hbase hfew hline hs hplain) hsw) λ E σ H hq=>ex7 hq λ H0 B0 B τ P I h=>?_;unfold wa at h;cases z:gY τ i with
 |none=>rw[z]at h;exact h.elim
 | some xs =>
  rw[z]at h;have hi:=ik z;obtain⟨a,vs,ea,ha,hl⟩:=I.listAt hi;refine⟨.ref a,ea,.inl ⟨rfl,vs,fH.of ha⟩,j7 I h λ d v H1 B1 fp _ I1 s1 b1 r1 k1 h1=>?_⟩;have ha1:=s1 a _ ha;have fin:∀ (ys:List D) (b:Addr) (ws:List V) (f:#[9]),(H1 b=some (.lst ws)\/H1 b=some (.tup ws))->az X.K B1 (· ∈ P) H1 ys ws f->cV ys=true->xs.length+ys.length<=16777216->bY X.K Y H0 B0 B1 H1 E (.nx #[121])->Ka X.K (.ref a) [.ref b] H1 λ _ H2=>E.nx σ H2:=by
   intro ys b ws f hb rl2 hp hz h2;have hl2:=rl2.length;refine⟨a,b,vs,ws,rfl,rfl,ha1,hb,by rw[<-hl,<-hl2,Rg];exact hz,?_⟩;obtain⟨_,rl3⟩:=az.jR (B':=B1) (S':=No) (j6.refl H1) hp rl2;obtain⟨P',I'⟩:=I1.CP (xs':=xs++ys) (vs':=vs++ws) (gp:=[]) hi ea fK.nil (λ g _ rl=>⟨g++[],rl.append rl3,λ b m=>by rw[QQ]at m;exact .inl m,λ nf _=>by rw[QQ];exact nf⟩) ha1;exact h2 B1 _ σ P' I'
  unfold Kc at h1;split at h1
  ·obtain⟨b,ws,f,rfl,hb,rl2,rfl⟩:=r1;split at h1
   ·rename_i hc;exact fin _ b ws f (.inl hb) rl2 hc.1 hc.2 h1
   ·exact h1.elim
  ·obtain⟨b,ws,rfl,hb,rl2⟩:=r1;split at h1
   ·rename_i hc;exact fin _ b ws _ (.inr hb) rl2 hc.1 hc.2 h1
   ·exact h1.elim
  ·exact h1.elim
def PC:D->Res Bool
 |.bl b=>.ok b
 |.lst _ xs=>.ok (!xs.isEmpty)
 |.tup xs=>.ok (!xs.isEmpty)
 |_=>.bad
def OA (f:#[29])(τ:SD):Res Bool:=(f τ).bind PC
def yM {S:#[30]}{xs:List D}{vs:List V}{f:#[9]}(r:az K B S H xs vs f):(!vs.isEmpty) = !xs.isEmpty:=by
 have:=r.length;cases xs<;>cases vs<;>simp_all
def LQ {a:Expr}{fa:#[29]}(ha:#[65])(he:#[117]:=by intro _;rfl):PT X a (kJ X.K Y (OA fa)):=
 PT.imp (D3 ha he) λ σ H Q hq=>ex8 hq λ H0 B0 B τ P F I h=>by
  refine⟨H0,B0,B,τ,P,F,I,?_⟩;unfold OA at h;cases e:fa τ with
  |bad=>rw[e]at h;exact h.elim|dY C=>rw[e]at h;exact h
  | ok d =>
   rw[e]at h;intro v H' B' fp I' s b r k;cases d with
   |bl c=>obtain⟨rfl,rfl⟩:=r;exact⟨c,rfl,h H' B' I' s b⟩
   | lst t xs =>
    obtain⟨p,ws,g,rfl,q,l,_⟩:=Rep.lst I' r;exact⟨_,.inl ⟨ws,q,rfl⟩,by rw[yM l];exact h H' B' I' s b⟩
   | tup xs =>
    obtain⟨p,ws,rfl,q,l⟩:=Rep.tp r;exact⟨_,.inr (.inl ⟨ws,q,rfl⟩),by rw[yM l];exact h H' B' I' s b⟩
   |bW=>exact h.elim|int i=>exact h.elim|str x=>exact h.elim|dct t k2 ks vs=>exact h.elim|exc C=>exact h.elim
def intD:List D->Res D
 |[.int i]=>.ok (.int i)
 |[.bl b]=>.ok (.int (if b=true then 1 else 0))
 |_=>.bad
def NW:jz K Y (λ xs H Q=>(∃ i,xs=[V.int i]/\Q (V.int i) H)\/∃ k,xs=[V.bl k]/\Q (V.int (if k=true then 1 else 0)) H) intD:=by
 intro H0 B0 B H σ τ P F ds vs f Q I r k h;unfold intD at h;split at h
 ·obtain⟨v,rfl,r'⟩:=iK r;obtain⟨rfl,rfl⟩:=r';exact .inl ⟨_,rfl,Out.here h I ⟨rfl,rfl⟩⟩
 ·obtain⟨v,rfl,r'⟩:=iK r;obtain⟨rfl,rfl⟩:=r';exact .inr ⟨_,rfl,Out.here h I ⟨rfl,rfl⟩⟩
 ·exact h.elim
end
end DL
namespace SR
open PySem PySem.Spec PyProof.Rows PySem.W
variable {A:#[127]}{p:Array Nat}{h:Heap}{ps:List (Int×Int)}{vs:#[17]}{n:Nat}{α:Type}
def gf {α:Type}(n:Nat)(L:α->Prop):KasT α->Prop
 |.ret a=>L a
 |.ask i j k=>i<n/\j<n/\∀ b,gf n L (k b)
def gf.bind {α β:Type}{n:Nat}{L:α->Prop}{L':β->Prop}{f:α->KasT β}(hf:∀ a,L a->gf n L' (f a)):∀ {t:KasT α},gf n L t->gf n L' (t.bind f)
 |.ret a,x=>by unfold KasT.bind;exact hf a x
 |.ask i j k,x=>by unfold KasT.bind;exact⟨x.1,x.2.1,λ b=>gf.bind hf (x.2.2 b)⟩
def uf {α:Type}(c:Nat->Nat->Bool):KasT α->α
 |.ret a=>a
 |.ask i j k=>uf c (k (c i j))
def gf.run {α:Type}{n:Nat}{L:α->Prop}(c:Nat->Nat->Bool):∀ {t:KasT α},gf n L t->L (uf c t)
 |.ret a,x=>x
 |.ask i j k,x=>show L (uf c (k (c i j))) from gf.run (n:=n) c (x.2.2 (c i j))
def gf.wp {α:Type}{n:Nat}{L:α->Prop}{c:Nat->Nat->Bool}{cmp:Nat->Nat->(Bool->Shared->Prop)->Shared->Prop}{Q:α->Shared->Prop}{s:Shared}(hc:∀ i j C,i<n->j<n->C (c i j) s->cmp i j C s):∀ {t:KasT α},gf n L t->Q (uf c t) s->KasT.kasWp cmp t Q s
 |.ret a,x,h=>by unfold KasT.kasWp;exact h
 |.ask i j k,x,h=>by unfold KasT.kasWp;exact hc i j _ x.1 x.2.1 (gf.wp hc (x.2.2 (c i j)) h)
abbrev Pm (n:Nat)(p:Array Nat):Prop:=p.Perm #[131].toArray
def Pm.get(h:Pm n p)(hn:0<n)(i:Nat):p.getD i 0<n:=by
 rw[Sn];cases e:p[i]? with
 |none=>exact hn
 | some x =>
  have m:x∈p:=Array.mem_of_getElem? e;have m':x∈#[131].toArray:=h.mem_iff.mp m;have:x∈List.range n:=by simpa using m'
  exact QU.mp this
section
variable(hn:0<n)
include hn
def xx {p:Array Nat}(h:Pm n p):∀ f k,gf n (λ _=>True) (kas_asc p f k)
 |0,k=>by unfold kas_asc;exact trivial
 | f+1,k=>by
  unfold kas_asc;refine⟨h.get hn _,h.get hn _,λ b=>?_⟩;cases b
  ·exact xx h f (k+1)
  ·exact trivial
def pN:∀ f {p:Array Nat} k a,Pm n p->gf n (λ r=>Pm n r.1) (kas_desc f p k a)
 |0,p,k,a,h=>by unfold kas_desc;exact h
 | f+1,p,k,a,h=>by
  unfold kas_desc;refine⟨h.get hn _,h.get hn _,λ b=>?_⟩;cases b
  ·refine⟨h.get hn _,h.get hn _,λ b=>?_⟩;cases b
   ·exact pN f _ _ h
   ·exact h
  ·show gf n _ (if a>0 then kas_desc f (kas_rev p (k-(a+1)) k) (k+1) 0 else kas_desc f p (k+1) 0);split
   ·exact pN f _ _ ((mirror_perm p _ _ _).trans h)
   ·exact pN f _ _ h
def yN(h:Pm n p)(m r:Nat):gf n (λ r=>Pm n r.2) (kas_tail3 m r p):=by
 have h2:Pm n (kas_rev p 0 m):=(mirror_perm p _ _ _).trans h;unfold kas_tail3;exact gf.bind (L':=λ r:Nat×Array Nat=>Pm n r.2) (λ a _=>(show gf n _ (KasT.ret (a,kas_rev p 0 m)) from h2)) (xx hn h2 _ _)
def pM(h:Pm n p)(m r:Nat):gf n (λ r=>Pm n r.2) (kas_descPart m r p):=by
 unfold kas_descPart;refine gf.bind (λ a ha=>?_) (pN hn _ _ _ h);split
 ·exact yN hn ((mirror_perm a.1 _ _ _).trans ha) _ _
 ·exact yN hn ha _ _
def C9(h:Pm n p)(r:Nat):gf n (λ r=>Pm n r.2) (kas_count r p):=by
 unfold kas_count;refine gf.bind (λ a _=>?_) (xx hn h _ _);split
 ·exact h
 ·split
  ·refine⟨h.get hn _,h.get hn _,λ b=>?_⟩;cases b
   ·exact pM hn ((mirror_perm p _ _ _).trans h) _ _
   ·exact h
  ·exact pM hn h _ _
def qP {p:Array Nat}(h:Pm n p)(k:Nat):∀ f a b,gf n (λ _=>True) (kas_place p k f a b)
 |0,a,b=>by unfold kas_place;exact trivial
 | f+1,a,b=>by
  unfold kas_place;split
  ·exact trivial
  ·refine⟨h.get hn _,h.get hn _,λ c=>?_⟩;cases c
   ·exact qP h k f _ _
   ·exact qP h k f _ _
def BL:∀ f {p:Array Nat} k,Pm n p->gf n (Pm n) (kas_bin f p k)
 |0,p,k,h=>by unfold kas_bin;exact h
 | f+1,p,k,h=>by
  unfold kas_bin;exact gf.bind (λ l _=>BL f _ ((bubble_perm p _ _).trans h)) (qP hn h k _ _ _)
def ki:gf n (Pm n) (kas_sort n):=by
 unfold kas_sort;refine gf.bind (λ r hr=>?_) (C9 hn (Array.Perm.refl _) n);split
 ·exact BL hn _ _ hr
 ·exact hr
end
def ordered(d:α)(c:Nat->Nat->Bool)(vs:List α):List α:=if vs.length<2 then vs else (uf c (kas_sort vs.length)).toList.map λ i=>vs.getD i d
def bT(d:α)(c:Nat->Nat->Bool)(vs:List α):(ordered d c vs).Perm vs:=by
 unfold ordered;split
 ·exact RZ _
 ·rename_i h;have hp:=Sw.mp (gf.run (L:=Pm vs.length) c (ki (n:=vs.length) #[1]));have hp':(uf c (kas_sort vs.length)).toList.Perm (List.range vs.length):=by simpa using hp
  refine(hp'.map _).trans ?_;have e3:(List.range vs.length).map (λ i=>vs.getD i d)=vs:=by
   refine RM #[32] λ i h1 h2=>?_;simp;rw[Qo h2];rfl
  rw[e3]
def l9 {β:Type}(f:α->β)(d:α)(e:β)(c:Nat->Nat->Bool)(vs:List α):(ordered d c vs).map f=ordered e c (vs.map f):=by
 unfold ordered;rw[Qs];split
 ·rfl
 ·rename_i h;rw[Q5];refine List.map_congr_left λ i hi=>?_;have hp:=Sw.mp (gf.run (L:=Pm vs.length) c (ki (n:=vs.length) #[1]));have hp':(uf c (kas_sort vs.length)).toList.Perm (List.range vs.length):=by simpa using hp
  have hlt:i<vs.length:=QU.mp (hp'.mem_iff.mp hi);show f (vs.getD i d)=(vs.map f).getD i e;rw[Qq,Qq,QB,Qo hlt];rfl
def Fo(M:Model)(A:#[127])(h:Heap)(t:Sem α)(r:α):Prop:=∀ (Q:α->Shared->Prop) (E:#[7]) (s:Shared),(∀ b o,h.get? b=some o->s.heap.get? b=some o)->Q r s->wpAny M A t Q E s
def xw (M:Model)(A:#[127])(h:Heap)(ks:#[17])(c:Nat->Nat->Bool):Prop:=2<=ks.length->∃ κ,Fo M A h (keyKind' ks.toArray) κ/\∀ i j,i<ks.length->j<ks.length->Fo M A h (keyLt' κ (ks.getD i .none) (ks.getD j .none)) (c i j)
section
variable {prog:#[83]}{w:World}{E:#[7]}{s:Shared}{a:Addr}{P:Fin->Shared->Prop}
def ve (ho:s.heap.get? a=some (seqObj "list" vs.toArray n))(hl:vs.length<64){c:Nat->Nat->Bool}(K:xw #[14] A h vs c)(hx:∀ b o,h.get? b=some o->b≠a/\s.heap.get? b=some o)
  (hP:P (.done (.ret .none)) { s with heap:=sortedHeap s.heap a vs (ordered .none c vs).toArray }) :
  wpAny #[14] A (Builtin.«list.sort» ⟨[.ref a],[]⟩) P E s:=by
 rw[list_sort_plain];refine Qn (Us ho rfl ?_);refine Qn ?_;show wpAny _ _ (updateSeq a λ _=>#[]) _ _ _;refine S3 ho rfl ?_ (by simp[Rg];omega) #[32];have ho1:=Ra #[196] ho rfl;refine Qn (seqEpoch_at ho1 rfl ?_);refine Qn (wpAny_newTuple ?_ (by simp[Rg];omega));refine Qn (Uh ?_ #[32]);refine RG ?_;have ho3:(#[18]).get? a=some (Obj.mapSeq (λ _=>#[]) (seqObj "list" vs.toArray n)):=Qp _ (Qp _ ho1);have hx3:∀ b o,h.get? b=some o->(#[18]).get? b=some o:=λ b o e=>by
  obtain⟨h1,h2⟩:=hx b o e;exact Qp _ (Qp _ ((Q2 _ _ (Rr h1)).trans h2))
 dsimp only;have zs:(vs.toArray.zip vs.toArray).map (λ x=>x.2)=vs.toArray:=by
  apply Array.ext
  ·simp
  ·intro i h1 h2;simp
 have fin:∀ (st:SortSt) (k:Nat->Sem PySem.Fin),failedOf st=none->(arrOf st).map (λ x=>x.2)=(ordered Value.none c vs).toArray->(∀ Q:PySem.Fin->Shared->Prop,∀ s',Q (.done (.ret .none)) s'->wpAny #[14] A (k (if ((#[]:#[152]).size == vs.toArray.size)=true then n else n+1)) Q E s') ->
   wpAny #[14] A (do let e <-seqEpoch a;Builtin.List.listUpdate (.ref a) λ _=>(arrOf st).map (λ x=>x.2);k e) P E { s with heap:=#[18] }:=by
  intro st k hf hp hk;refine Qn (seqEpoch_at ho3 rfl ?_);refine Qn ?_;show wpAny _ _ (updateSeq a λ _=>(arrOf st).map (λ x=>x.2)) _ _ _;rw[hp];have hlen:(ordered Value.none c vs).toArray.size=vs.length:=by rw[Qz,(bT _ _ _).length_eq]
  refine S3 ho3 rfl ?_ #[32] (by simp only[hlen,Rg];omega);exact hk _ _ hP
 by_cases h2:vs.toArray.size<2
 ·rw[QG h2];refine Qn (Qu ?_);rw[QG h2];refine Qn (show wpAny _ _ (pure ((),SortSt.mk' general' (vs.toArray.zip vs.toArray) #[] 7 none)) _ _ _ from Qu ?_);refine fin (SortSt.mk' general' (vs.toArray.zip vs.toArray) #[] 7 none) _ rfl ?_ λ Q s' hQ=>?_
  ·show(vs.toArray.zip vs.toArray).map (λ x=>x.2)=_;rw[zs];unfold ordered;rw[QG (by simpa using h2)]
  ·show wpAny _ _ (if _ then _ else ret Value.none) _ _ _;rw[QK #[32]];exact Qu hQ
 ·have h2':2<=vs.length:=by simpa using h2
  obtain⟨κ,k1,k2⟩:=K h2';rw[QK h2];refine Qn (k1 _ _ _ hx3 ?_);rw[QK h2];have hn:0<vs.length:=by omega
  have run:=kat_run (prog:=prog) (w:=w) (A:=A) (E:=E) (s:={ s with heap:=#[18] }) (κ:=κ) (ks:=vs) (vs:=vs) (Q:=λ st s'=>failedOf st=none/\s'={ s with heap:=#[18] }/\(arrOf st).map (λ x=>x.2)=(ordered Value.none c vs).toArray) (G:=λ p s'=>p=uf c (kas_sort vs.length)/\s'={ s with heap:=#[18] }) rfl h2' hl (λ p st' s' hs he hf hG=>by
   obtain⟨hp,hs'⟩:=hG;refine⟨hf,hs',?_⟩;have e1:(arrOf st').map (λ x=>x.2)=p.map λ i=>vs.getD i .none:=by
    rw[he,Array.map_map];refine Array.map_congr_left λ i hi=>?_;have:=kas_item_eq vs i;show(kas_item (vs.toArray.zip vs.toArray) i).2=_;have e:vs.toArray.zip vs.toArray=pairsOf vs:=rfl;rw[e,this]
   rw[e1,hp];unfold ordered;rw[QK #[1]];exact Array.toList_inj.mp (by rw[Array.toList_map])) (gf.wp (n:=vs.length) (c:=c) (λ i j C hi hj hC=>k2 i j hi hj _ _ _ hx3 hC) (ki hn) ⟨rfl,rfl⟩)
  refine Qn (RI run (λ r s' hr=>?_) λ _ _ x=>x);obtain⟨hf,rfl,hp⟩:=hr;refine fin r.2 _ hf hp λ Q s' hQ=>?_;rw[hf];show wpAny _ _ (if _ then _ else ret Value.none) _ _ _;rw[QK #[32]];exact Qu hQ
def Aw(hL:s.heap.IsList a vs.toArray)(hl:vs.length<64){c:Nat->Nat->Bool}(K:xw #[14] A.in1.in1 s.heap vs c){Q:#[7]}
  (hQ:∀ (h':Heap) (q:Addr),#[103]->s.heap.objs.size<=q->(∃ e,h'.get? q=some (seqObj "list" (ordered .none c vs).toArray e))->Q (.ref q) { s with heap:=h' }) :
  wpAny #[14] A (call (.builtin "sorted") [.ref a]) Q E s:=by
 refine Calls.call_function_entry kind_sorted plain_sorted entry_sorted (args_sorted1 _) ?_;unfold Builtin.«sorted»;refine Qn (m:=checkCount "sorted" 1 1 _) (Qu ?_);refine Qn (collect_list (A:=A.in1) hL ?_ (by rw[Rg];omega));have hlt:a<s.heap.objs.size:=by obtain⟨o,ho,_⟩:=hL;exact QC ho
 generalize hh1:(s.heap.push (seqObj "list" #[] 0)).update s.heap.objs.size (Obj.mapSeq λ x=>x++vs.toArray)=h1;have kp:∀ b o,s.heap.get? b=some o->h1.get? b=some o:=λ b o e=>by
  rw[<-hh1];exact(Q2 _ _ (Rr (QT (QC e)))).trans (Qp _ e)
 have hsz:s.heap.objs.size<=h1.objs.size:=by
  obtain⟨o,ho,_⟩:=hL;have e0:(s.heap.push (seqObj "list" #[] 0)).get? s.heap.objs.size=some (seqObj "list" #[] 0):=QI _ rfl;have e1:=Ra (Obj.mapSeq λ x=>x++vs.toArray) e0 rfl;rw[hh1]at e1;exact Sk (QC e1)
 refine Qn (Uh ?_ (by rw[Rg];omega));have hoL:(h1.push #[36]).get? h1.objs.size=some #[36]:=QI _ rfl;show wpAny _ _ _ _ _ ({ s with heap:=h1.push #[36] }:Shared);refine Qn (RG (RB slot_list_sort ⟨_,hoL,rfl⟩ entry_list_sort (ve (h:=s.heap) hoL hl K (λ b o e=>⟨QT (QC (kp b o e)),Qp _ (kp b o e)⟩) ⟨_,rfl,?_⟩) (args_list_sort _)));refine Qu ⟨_,rfl,hQ _ h1.objs.size (λ b o e=>?_) hsz (sortedHeap_at hoL)⟩;have hlt:=QC (kp b o e);have hne:b≠h1.objs.size:=QT hlt;have sh:(sortedHeap (h1.push #[36]) h1.objs.size vs (ordered Value.none c vs).toArray).get? b=(h1.push #[36]).get? b:=sortedHeap_old hne (by rw[RT];exact S8 hlt);show(sortedHeap (h1.push #[36]) h1.objs.size vs (ordered Value.none c vs).toArray).get? b=some o;rw[sh];exact Qp _ (kp b o e)
end
def xy (p q:Int×Int):Bool:=if p.1=q.1 then (if p.2=q.2 then false else decide (p.2<q.2)) else decide (p.1<q.1)
def oJ (h:Heap)(v:Value)(p:Int×Int):Prop:=∃ a t u n,v=.ref a/\h.get? a=some { cls:=.type "tuple",data:=.seq #[.int p.1 t,.int p.2 u] n }
def oJ.keep {h':Heap}{v:Value}{p:Int×Int}(k:∀ b o,h.get? b=some o->h'.get? b=some o)(x:oJ h v p):oJ h' v p:=by
 obtain⟨a,t,u,n,rfl,e⟩:=x;exact⟨a,t,u,n,rfl,k _ _ e⟩
inductive Fp (h:Heap):List Value->List (Int×Int)->Prop
 |nil:Fp h [] []
 |cons {v:Value}{p:Int×Int}{vs:#[17]}{ps:List (Int×Int)}:oJ h v p->Fp h vs ps->Fp h (v::vs) (p::ps)
def Fp.keep {h':Heap}(k:∀ b o,h.get? b=some o->h'.get? b=some o)(x:Fp h vs ps):Fp h' vs ps:=by
 induction x with
 |nil=>exact .nil|cons a _ ih=>exact .cons (a.keep k) ih
def Fp.at(x:Fp h vs ps):∀ i,i<vs.length->oJ h (vs.getD i .none) (ps.getD i (0,0)):=by
 induction x with
 |nil=>intro i hi;exact absurd hi (Sz _)
 | cons a _ ih =>
  intro i hi;cases i with
  |zero=>exact a|succ i=>exact ih i (by rw[QP]at hi;omega)
section
variable {prog:#[83]}{w:World}
def Fq{E:#[7]}{s:Shared}{x y:Int}{t u:Tok}{Q:Bool->Shared->Prop}(hQ:Q (decide (x<y)) s):wpAny #[14] A (oneLt' false (.int x t) (.int y u)) Q E s:=by
 rw[oneLt'_eq];show wpAny _ _ (compareOp .Lt (.int x t) (.int y u) >>= λ r=>truthOfDropped r) _ _ _;refine Qn (lt_int ?_);exact Qu hQ
def IB {v1 v2:Value}{p q:Int×Int}(h1:oJ h v1 p)(h2:oJ h v2 q):Looks #[14] h (keyLt' (tuples' true) v1 v2) (xy p q):=by
 intro A Q E s k hQ;obtain⟨a,t1,u1,n1,rfl,e1⟩:=h1.keep k;obtain⟨b,t2,u2,n2,rfl,e2⟩:=h2.keep k;rw[kat_lt_eq];refine Qn (Us e1 rfl ?_);refine Qn (Us e2 rfl ?_);refine Qn ?_;show wpAny _ _ (forIn [((Value.int p.1 t1,Value.int q.1 t2),0),((Value.int p.2 u1,Value.int q.2 u2),1)] _ _) _ _ _;rw[Uk];refine Qn (Qn (wpAny_eqBool_int ?_));unfold xy at hQ;by_cases c1:p.1=q.1
 ·rw[QG c1]at hQ;have b1:(p.1 == q.1)=true:=by simpa using c1
  rw[b1];refine Qu ?_;dsimp only;rw[Uk];refine Qn (Qn (wpAny_eqBool_int ?_));by_cases c2:p.2=q.2
  ·rw[QG c2]at hQ;have b2:(p.2 == q.2)=true:=by simpa using c2
   rw[b2];refine Qu ?_;dsimp only;rw[Ve];exact Qu (Qu hQ)
  ·rw[QK c2]at hQ;have b2:(p.2 == q.2)=false:=by simpa using c2
   rw[b2];refine Qn (Fq ?_);exact Qu (Qu (Qu hQ))
 ·rw[QK c1]at hQ;have b1:(p.1 == q.1)=false:=by simpa using c1
  rw[b1];refine Qn (oneLt_int ?_);exact Qu (Qu (Qu hQ))
def IC(x:Fp h vs ps):∃ fs,KatTups h vs fs/\fs.length=vs.length/\∀ v∈fs,∃ i t,v=Value.int i t:=by
 induction x with
 |nil=>exact⟨[],by unfold KatTups;trivial,rfl,λ v m=>by cases m⟩
 | cons x _ ih =>
  rename_i v p vs ps _;obtain⟨fs,h1,h2,h3⟩:=ih;obtain⟨a,t,u,n,rfl,e⟩:=x;refine⟨.int p.1 t::fs,?_,by rw[QP,QP,h2],λ v m=>?_⟩
  ·unfold KatTups;exact⟨⟨a,_,_,n,rfl,e,rfl,rfl,rfl⟩,h1⟩
  ·rcases QA.mp m with rfl|m
   ·exact⟨_,_,rfl⟩
   ·exact h3 v m
def Ax(hv:Fp h vs ps):xw #[14] A h vs λ i j=>xy (ps.getD i (0,0)) (ps.getD j (0,0)):=by
 intro h2;refine⟨tuples' true,λ Q E s k hQ=>?_,λ i j hi hj=>?_⟩
 ·obtain⟨fs,h1,hl,h3⟩:=IC (hv.keep k);refine kat_kind (T:=.type "int") h1 #[1] (λ v m=>?_) #[10] hQ;obtain⟨i,t,rfl⟩:=h3 v m;exact λ A Q E s _ hQ=>wpAny_typeOf (T:="int") rfl hQ
 ·exact λ Q E s k hQ=>IB (hv.at i hi) (hv.at j hj) _ Q E s k hQ
end
end SR
namespace L2
open PySem PySem.Spec PyProof.Rows
section
variable {X:Cx}
inductive xA (H:Hp):List V->List (Int×Int)->Prop
 |nil:xA H [] []
 |cons {a:Addr}{p:Int×Int}{vs:List V}{ps:List (Int×Int)}:H a=some (.tup [.int p.1,.int p.2])->xA H vs ps->xA H (.ref a::vs) (p::ps)
def xA.len {H:Hp}{vs:List V}{ps:List (Int×Int)}(x:xA H vs ps):vs.length=ps.length:=by
 induction x with
 |nil=>rfl|cons _ _ ih=>rw[QP,QP,ih]
def Inv.prs {pins:#[12]}{σ:St}{H:Hp}{s:Shared}(I:#[4]):∀ {vs:List V}{ps:List (Int×Int)},xA H vs ps->∀ {its:#[17]},Vals vs its->SR.Fp s.heap its ps
 |_,_,.nil,its,r=>by cases r;exact .nil
 | _,_,.cons (a:=a) (p:=p) e x,its,r=>by
  cases r with
  | cons r1 r2 =>
   cases r1;refine .cons ?_ (I.prs x r2);obtain⟨_,us,ru,n,e2⟩:=(show cY X.prog X.w H s.heap a (.tup [.int p.1,.int p.2]) from I.hok a _ e);obtain⟨u,v,rfl,h1,h2⟩:=ru.two;obtain⟨t1,rfl⟩:=h1;obtain⟨t2,rfl⟩:=h2;exact⟨a,t1,t2,n,rfl,e2⟩
def yQ {f:Nat->V}{g:Nat->Value}:∀ {is:#[118]},(∀ i∈is,RelV (f i) (g i))->Vals (is.map f) (is.map g)
 |[],_=>.nil
 |i::r,h=>.cons (h i Qx) (yQ λ j m=>h j (Qw _ m))
def Vals.getD {ws:List V}{its:#[17]}(r:Vals ws its):∀ i,i<ws.length->RelV (ws.getD i .bW) (its.getD i .none):=λ i hi=>by
 have e:ws[i]?=some (ws[i]):=Qo hi;obtain⟨u,hu,ru⟩:=r.get e;rw[Qq,Qq,e,hu];exact ru
def Vals.ordered {ws:List V}{its:#[17]}(r:Vals ws its)(c:Nat->Nat->Bool):Vals (SR.ordered .bW c ws) (SR.ordered .none c its):=by
 have hl:=r.length;unfold SR.ordered;rw[<-hl];split
 ·exact r
 ·rename_i h;refine yQ λ i m=>r.getD i ?_;have hp:=Sw.mp (SR.gf.run (L:=SR.Pm ws.length) c (SR.ki (n:=ws.length) #[1]));have hp':(SR.uf c (PySem.W.kas_sort ws.length)).toList.Perm (List.range ws.length):=by simpa using hp
  exact QU.mp (hp'.mem_iff.mp m)
abbrev AA (ps:List (Int×Int))(i j:Nat):Bool:=SR.xy (ps.getD i (0,0)) (ps.getD j (0,0))
def pO:eK X (.builtin "sorted") (λ xs H Q=>∃ (a:Addr) (ws:List V) (ps:List (Int×Int)),xs=[.ref a]/\fH X.K H a ws/\xA H ws ps/\ps.length<64/\∀ p:Addr,H p=none->Q (.ref p) (upd H p (.lst (SR.ordered .bW (AA ps) ws)))):=by
 intro pins s σ H xs us Q I r h;obtain⟨a,ws,ps,rfl,hq,hp,hl,q⟩:=h;obtain⟨u,rfl,ru⟩:=vals1 r;cases ru;obtain⟨its,rv,pl,hz⟩:=I.list hq;have hlen:=rv.length;have hpl:=hp.len;refine SR.Aw pl.isList #[1] (SR.Ax (I.prs hp rv)) λ h' p kp hsz he=>?_;obtain⟨e,he⟩:=he;refine⟨.ref p,_,I.laid (t':=s.toks) kp hsz ?_,rfl,q _ (I.hok.fresh hsz)⟩;refine⟨?_,_,e,rv.ordered (AA ps),he⟩;rw[(SR.bT _ _ _).length_eq];exact hz
end
end L2
namespace DL
open PySem PySem.Spec PyProof.Rows L2
section
variable {K:#[0]}{Y:XY}{H0 B0 B H:Hp}{σ:L2.St}{τ:SD}{P:#[9]}{F:#[30]}
def Ft:D->Option (Int×Int)
 |.tup [.int i,.int j]=>some (i,j)
 |_=>none
def ug:List D->Option (List (Int×Int))
 |[]=>some []
 |d::r=>(Ft d).bind λ p=>(ug r).map λ ps=>p::ps
def lM (p:Int×Int):D:=.tup [.int p.1,.int p.2]
def ID {d:D}{p:Int×Int}(h:Ft d=some p):d=lM p:=by
 unfold Ft at h;split at h
 ·cases h;rfl
 ·cases h
def yO:∀ {xs:List D}{ps:List (Int×Int)},ug xs=some ps->xs=ps.map lM
 |[],ps,h=>by cases h;rfl
 | d::r,ps,h=>by
  unfold ug at h;cases e1:Ft d with
  |none=>rw[e1]at h;cases h
  | some p =>
   rw[e1]at h;cases e2:ug r with
   |none=>rw[e2]at h;cases h
   | some qs =>
    rw[e2]at h;cases h;rw[ID e1,yO e2];rfl
def qQ:∀ ps:List (Int×Int),ug (ps.map lM)=some ps
 |[]=>rfl
 | p::r=>by
  show((Ft (lM p)).bind λ p=>(ug (r.map lM)).map λ ps=>p::ps)=_;rw[qQ r];rfl
def wb:∀ ps:List (Int×Int),cV (ps.map lM)=true
 |[]=>rfl
 | p::r=>by
  show((lM p).plain&&cV (r.map lM))=true;rw[wb r];rfl
def BN {S:#[30]}:∀ {ps:List (Int×Int)}{vs:List V}{f:#[9]},az K B S H (ps.map lM) vs f->xA H vs ps
 |[],vs,f,r=>by obtain⟨rfl,_⟩:=r;exact .nil
 | p::ps,vs,f,r=>by
  obtain⟨v,w,f1,f2,rfl,r1,r2,_⟩:=r;obtain⟨a,us,rfl,h,rl⟩:=r1;obtain⟨v1,w1,g1,g2,rfl,q1,q2,_⟩:=rl;obtain⟨v2,w2,g3,g4,rfl,q3,q4,_⟩:=q2;obtain⟨rfl,_⟩:=q1;obtain⟨rfl,_⟩:=q3;obtain⟨rfl,_⟩:=q4;exact .cons h (BN r2)
def yP {S:#[30]}{f:Nat->D}{g:Nat->V}:∀ {is:#[118]},(∀ i∈is,Rep K B S H (f i) (g i) [])->az K B S H (is.map f) (is.map g) []
 |[],_=>⟨rfl,rfl⟩
 |i::r,h=>⟨_,_,[],[],rfl,h i Qx,yP λ j m=>h j (Qw _ m),rfl⟩
def az.ordered {S:#[30]}{xs:List D}{vs:List V}{f:#[9]}(hp:cV xs=true)(r:az K B S H xs vs f)(c:Nat->Nat->Bool):az K B S H (SR.ordered .bW c xs) (SR.ordered .bW c vs) []:=by
 obtain⟨rfl,r⟩:=az.jR (B':=B) (S':=S) (j6.refl H) hp r;have hl:=r.length;unfold SR.ordered;rw[<-hl];split
 ·exact r
 ·rename_i h;refine yP λ i m=>?_;have hq:=Sw.mp (SR.gf.run (L:=SR.Pm xs.length) c (SR.ki (n:=xs.length) #[1]));have hq':(SR.uf c (PySem.W.kas_sort xs.length)).toList.Perm (List.range xs.length):=by simpa using hq
  have hi:=QU.mp (hq'.mem_iff.mp m);have e:xs[i]?=some (xs[i]):=Qo hi;obtain⟨v,g,hv,rv,sg⟩:=r.get e;have eg:g=[]:=List.sublist_nil.mp sg;subst eg;rw[Qq,Qq,e,hv];exact rv
def iN:List D->Res D
 |[.lst _ xs]=>match ug xs with|some ps=>if ps.length<64 then .ok (.lst .own (SR.ordered .bW (AA ps) xs)) else .bad|none=>.bad
 |_=>.bad
def wc:jz K Y (λ xs H Q=>∃ (a:Addr) (ws:List V) (ps:List (Int×Int)),xs=[.ref a]/\fH K H a ws/\xA H ws ps/\ps.length<64/\∀ p:Addr,H p=none->Q (.ref p) (upd H p (.lst (SR.ordered .bW (AA ps) ws)))) iN:=by
 intro H0 B0 B H σ τ P F ds vs f Q I r k h;unfold iN at h;split at h
 ·obtain⟨v,rfl,r'⟩:=iK r;obtain⟨a,ws,g,rfl,q,l,s⟩:=r'.lst I;split at h
  ·rename_i ps e;split at h
   ·rename_i hl;have ex:=yO e;subst ex;exact⟨a,ws,ps,rfl,f9 q,BN l,hl,λ p hp=>Out.xh h I (l.ordered (wb ps) (AA ps)) fK.nil hp⟩
   ·exact h.elim
  ·exact h.elim
 ·exact h.elim
end
end DL
namespace L2
open PySem PySem.Spec PyProof.Rows
section
variable {X:Cx}
def least (ns:#[6]):Int:=ns.getD (argBest (λ i j=>decide (ns.getD i 0<ns.getD j 0)) (ns.length-1)) 0
def Fv:∀ {ns:#[6]}{its:#[17]},Vals #[135] its->∃ xs:Array (Int×Tok),intItems xs=its.toArray/\xs.size=ns.length/\∀ i,numAt xs i=ns.getD i 0:=by
 intro ns its r;have h:∃ ts:List Tok,its=(ns.zip ts).map (λ p=>Value.int p.1 p.2)/\ts.length=ns.length:=by
  induction ns generalizing its with
  |nil=>cases r;exact⟨[],rfl,rfl⟩
  | cons n ns ih =>
   cases r with
   | cons r1 r2 =>
    obtain⟨t,rfl⟩:=r1;obtain⟨ts,rfl,hl⟩:=ih r2;exact⟨t::ts,rfl,by rw[QP,QP,hl]⟩
 obtain⟨ts,rfl,hl⟩:=h;refine⟨(ns.zip ts).toArray,?_,by simp[hl],λ i=>?_⟩
 ·unfold intItems;simp
 ·unfold numAt;by_cases hi:i<ns.length
  ·simp[hi,hl]
  ·simp[hi,hl]
def Dc (hc:X.calm=true):eK X (.builtin "min") (λ xs H Q=>∃ (a:Addr) (ns:#[6]),xs=[.ref a]/\fH X.K H a #[135]/\0<ns.length/\Q (.int (least ns)) H):=by
 intro pins s σ H xs us Q I r h;obtain⟨a,ns,rfl,hq,hn,q⟩:=h;obtain⟨u,rfl,ru⟩:=vals1 r;cases ru;obtain⟨its,rv,pl,hz⟩:=I.list hq;obtain⟨ys,e1,e2,e3⟩:=Fv rv;refine min_intList (xs:=ys) (I.ok.hd hc) (by rw[e1];exact pl.isList) #[1] λ v h' tk hv kp=>?_;obtain⟨t,rfl⟩:=intItems_at hv;have e:numAt ys (argBest (λ i j=>decide (numAt ys i<numAt ys j)) (ys.size-1))=least ns:=by
  unfold least;rw[e3,e2];simp only[e3]
 rw[e];exact⟨.int (least ns),H,I.kept (t':=tk) kp,⟨t,rfl⟩,q⟩
end
end L2
namespace DL
open PySem PySem.Spec PyProof.Rows L2
section
variable {K:#[0]}{Y:XY}
def yR:List D->Res D
 |[.lst _ xs]=>match intsOf xs with|some ns=>if 0<ns.length then .ok (.int (least ns)) else .bad|none=>.bad
 |_=>.bad
def LR:jz K Y (λ xs H Q=>∃ (a:Addr) (ns:#[6]),xs=[.ref a]/\fH K H a #[135]/\0<ns.length/\Q (.int (least ns)) H) yR:=by
 intro H0 B0 B H σ τ P F ds vs f Q I r k h;unfold yR at h;split at h
 ·obtain⟨v,rfl,r'⟩:=iK r;obtain⟨a,ws,g,rfl,q,l,s⟩:=r'.lst I;split at h
  ·rename_i ns e;split at h
   ·rename_i hl;have ex:=gF e;subst ex;obtain⟨rfl,rfl⟩:=fU l;exact⟨a,ns,rfl,f9 q,hl,Out.here h I ⟨rfl,rfl⟩⟩
   ·exact h.elim
  ·exact h.elim
 ·exact h.elim
end
end DL
namespace SR
open PySem PySem.Spec PyProof.Rows PySem.W
variable {A:#[127]}
abbrev emptied (vs:#[17])(n:Nat):Obj:=Obj.mapSeq (λ _=>#[]) (seqObj "list" vs.toArray n)
abbrev keyed (h:Heap)(a:Addr)(vs:#[17]):Heap:=((h.update a #[196]).push (seqObj "tuple" vs.toArray 0)).push (seqObj "list" #[] 0)
abbrev iO (h:Heap)(a:Addr)(vs:#[17]):Addr:=((h.update a #[196]).push (seqObj "tuple" vs.toArray 0)).objs.size
abbrev jt (kz:#[6])(i j:Nat):Bool:=decide (kz.getD i 0<kz.getD j 0)
section
variable {prog:#[83]}{w:World}{E:#[7]}{s:Shared}{a:Addr}{vs:#[17]}{n:Nat}{f:Value}{kz:#[6]}{P:Fin->Shared->Prop}{Base:List Int->Shared->Prop}
def pP {ks:#[17]}(h:IntsAre ks kz):∀ i,i<ks.length->∃ t,ks.getD i .none=.int (kz.getD i 0) t:=by
 induction h with
 |nil=>intro i hi;exact absurd hi (Sz _)
 | cons k t _ ih =>
  intro i hi;cases i with
  |zero=>exact⟨t,rfl⟩| succ i=>exact ih i (by rw[QP]at hi;omega)
def Dd{h:Heap}{ks:#[17]}(hI:IntsAre ks kz):xw #[14] A h ks (jt kz):=by
 intro h2;refine⟨oneType',λ Q E s k hQ=>?_,λ i j hi hj=>?_⟩
 ·rw[ksk_kind (kz:=kz) (by simpa using hI) (by simpa using h2)];exact Qu hQ
 ·obtain⟨t,e1⟩:=pP hI i hi;obtain⟨u,e2⟩:=pP hI j hj;rw[e1,e2];exact λ Q E s k hQ=>kat_lt_int hQ
def vf (ho:s.heap.get? a=some (seqObj "list" vs.toArray n))(hl:vs.length<64)
  (h0:Base [] { s with heap:=keyed s.heap a vs })
  (hcall:∀ zs x s' ks e,vs[zs.length]?=some x->Base zs s'->s'.heap.get? a=some (emptied vs n)->s'.heap.get? (iO s.heap a vs)=some (seqObj "list" ks e)->wpAny #[14] A (call f [x]) (λ k s''=>∃ z t,k=.int z t/\Base (zs++[z]) s''/\s''.heap.get? a=some (emptied vs n)/\s''.heap.get? (iO s.heap a vs)=some (seqObj "list" ks e)) (λ _ _=>False) s')
  (hupd:∀ zs s' g ks e,Base zs s'->s'.heap.get? (iO s.heap a vs)=some (seqObj "list" ks e)->Base zs { s' with heap:=s'.heap.update (iO s.heap a vs) (Obj.mapSeq g) })
  (hP:∀ zs s',zs.length=vs.length->Base zs s'->s'.heap.get? a=some (emptied vs n)->P (.done (.ret .none)) { s' with heap:=s'.heap.update a (Obj.mapSeq λ _=>(ordered .none (jt zs) vs).toArray) }) :
  wpAny #[14] A (ksk_tree a f false) P E s:=by
 unfold ksk_tree;refine Qn (Us ho rfl ?_);refine Qn ?_;show wpAny _ _ (updateSeq a λ _=>#[]) _ _ _;refine S3 ho rfl ?_ (by simp[Rg];omega) #[32];have ho1:=Ra #[196] ho rfl;refine Qn (seqEpoch_at ho1 rfl ?_);refine Qn (wpAny_newTuple ?_ (by simp[Rg];omega));refine Qn (Uh ?_ #[32]);refine RG ?_;have ho3:(keyed s.heap a vs).get? a=some (emptied vs n):=Qp _ (Qp _ ho1);have hk3:(keyed s.heap a vs).get? (iO s.heap a vs)=some (seqObj "list" #[] 0):=QI _ rfl;have hne:a≠iO s.heap a vs:=by
  have:=QC (Qp (seqObj "tuple" vs.toArray 0) ho1);exact QT this
 show wpAny _ A (ksk_rest a f false vs.toArray _ (.ref (iO s.heap a vs))) P E { s with heap:=keyed s.heap a vs };unfold ksk_rest;refine Qn (TF ?_);refine Qn ?_;rw[show ∀ body:Value->PUnit->Sem (ForInStep PUnit),forIn vs.toArray PUnit.unit body=forIn vs PUnit.unit body from λ body=>by simp];refine ksk_fold (λ i s'=>∃ zs:List Int,zs.length=i/\Base zs s'/\s'.heap.get? a=some (emptied vs n)/\∃ ks e,s'.heap.get? (iO s.heap a vs)=some (seqObj "list" ks.toArray e)/\IntsAre ks zs) vs 0 _ ⟨[],rfl,h0,ho3,[],0,hk3,.nil⟩ (λ j x s' hx hI=>?_) λ s' hI=>?_
 ·obtain⟨zs,hzl,b,ha,ks,e,hk,hi⟩:=hI;rw[Ro]at *;subst hzl;have hj:zs.length<vs.length:=(Qt.mp hx).1;refine Qn (Sq ?_);refine RI (hcall zs x s' ks.toArray e hx b ha hk) (λ k s'' hq=>?_) λ _ _ x=>x.elim;obtain⟨z,t,rfl,b',ha',hk'⟩:=hq;refine Qn ?_;show wpAny _ _ (updateSeq (iO s.heap a vs) λ x=>x.push (.int z t)) _ _ _;have hlen:ks.length=zs.length:=hi.length;refine S3 hk' rfl ?_ (by simp[Rg];omega) (by simp[Rg];omega);refine Qu ⟨rfl,zs++[z],by simp,hupd _ _ _ _ _ b' hk',(Q2 _ _ (Rr hne)).trans ha',ks++[.int z t],(if (ks.toArray.push (Value.int z t)).size == ks.toArray.size then e else e+1),?_,ksk_snoc hi⟩;have q:=get?_update_seq hk' (λ x=>x.push (Value.int z t));rw[q];simp
 ·obtain⟨kz,hzl,b,ha,ks,e,hk,hi⟩:=hI;rw[Ro]at hzl;have hlen:ks.length=vs.length:=by rw[hi.length];exact hzl
  refine Qn (Us hk rfl ?_);unfold ksk_end;dsimp only;have hb:=hupd kz s' (λ _=>#[]) ks.toArray e b hk;have ha2:(s'.heap.update (iO s.heap a vs) #[196]).get? a=some (emptied vs n):=(Q2 _ _ (Rr hne)).trans ha;have fin:∀ st:SortSt,failedOf st=none->(arrOf st).map (λ x=>x.2)=(ordered Value.none (jt kz) vs).toArray->wpAny #[14] A (ksk_tail a false (if ((#[]:#[152]).size == vs.toArray.size)=true then n else n+1) (.ref (iO s.heap a vs)) st) P E s':=by
   intro st hf hp;unfold ksk_tail;dsimp only;refine Qn (listUpdate_at hk rfl ?_ (by simp[Rg];omega) (RS _));refine Qn (wpAny_letGo ?_);refine Qn (seqEpoch_at ha2 rfl ?_);rw[hp];have hsz:(ordered Value.none (jt kz) vs).toArray.size=vs.length:=by rw[Qz,(bT _ _ _).length_eq]
   refine Qn (listUpdate_at ha2 rfl ?_ #[32] (by simp only[hsz,Rg,QV,SQ];omega));rw[hf];simp only[RE,QV,SQ];exact Qu (hP kz _ hzl hb ha2)
  rw[QK #[32]];by_cases h2:vs.toArray.size<2
  ·rw[QG h2,QG h2];refine Qn (Qu ?_);rw[StateT.run_pure];refine Qn (Qu ?_);refine fin (SortSt.mk' general' (ks.toArray.zip vs.toArray) #[] 7 none) rfl ?_;show(ks.toArray.zip vs.toArray).map (λ x=>x.2)=_;unfold ordered;rw[QG (by simpa using h2)];apply Array.ext
   ·simp[hlen]
   ·intro i h1 h2;simp
  ·have h2':2<=vs.length:=by simpa using h2
   obtain⟨κ,k1,k2⟩:=Dd (prog:=prog) (w:=w) (h:=s'.heap) hi #[1];rw[QK h2,QK h2];refine Qn (k1 _ _ _ (λ b o e=>e) ?_);rw[QK #[32]];have run:=kat_run (prog:=prog) (w:=w) (A:=A) (E:=E) (s:=s') (κ:=κ) (ks:=ks) (vs:=vs) (Q:=λ st s''=>failedOf st=none/\s''=s'/\(arrOf st).map (λ x=>x.2)=(ordered Value.none (jt kz) vs).toArray) (G:=λ p s''=>p=uf (jt kz) (kas_sort vs.length)/\s''=s') hlen h2' hl (λ p st' s'' hs he hf hG=>by
    obtain⟨hp,hs'⟩:=hG;refine⟨hf,hs',?_⟩;rw[kat_snds hlen he,hp];unfold ordered;rw[QK #[1]]) (gf.wp (n:=vs.length) (c:=jt kz) (λ i j C hi hj hC=>k2 i j (by omega) (by omega) _ _ _ (λ b o e=>e) hC) (ki (by omega)) ⟨rfl,rfl⟩)
   refine Qn (RI run (λ r s'' hr=>?_) λ _ _ x=>x);obtain⟨hf,rfl,hp⟩:=hr;exact fin r.2 hf hp
end
section
variable {prog:#[83]}{w:World}{E:#[7]}{s:Shared}{vs:#[17]}{l q:Addr}
def AB (hL:s.heap.IsList l vs.toArray)(hl:vs.length<64){Q:#[7]}
  (hQ:∀ (h1:Heap) (a:Addr),(∀ b o,s.heap.get? b=some o->h1.get? b=some o)->s.heap.objs.size<=a->h1.get? a=some #[36] ->
   wpAny #[14] A.in1.in1 (ksk_tree a (.ref q) false) (λ fin s'=>fin=.done (.ret .none)/\Q (.ref a) s') E { s with heap:=h1 }) :
  wpAny #[14] A (call (.builtin "sorted") [.ref l] [(Str.ofString "key",.ref q)]) Q E s:=by
 refine call_function_entry_kw kind_sorted plain_sorted entry_sorted (ksk_s1 _ _) ?_;unfold Builtin.«sorted»;refine Qn (m:=checkCount "sorted" 1 1 _) (Qu ?_);refine Qn (collect_list (A:=A.in1) hL ?_ (by rw[Rg];omega));have hlt:l<s.heap.objs.size:=by obtain⟨o,ho,_⟩:=hL;exact QC ho
 generalize hh1:(s.heap.push (seqObj "list" #[] 0)).update s.heap.objs.size (Obj.mapSeq λ x=>x++vs.toArray)=h1;have kp:∀ b o,s.heap.get? b=some o->h1.get? b=some o:=λ b o e=>by
  rw[<-hh1];exact(Q2 _ _ (Rr (QT (QC e)))).trans (Qp _ e)
 have hsz:s.heap.objs.size<=h1.objs.size:=by
  have e0:(s.heap.push (seqObj "list" #[] 0)).get? s.heap.objs.size=some (seqObj "list" #[] 0):=QI _ rfl;have e1:=Ra (Obj.mapSeq λ x=>x++vs.toArray) e0 rfl;rw[hh1]at e1;exact Sk (QC e1)
 refine Qn (Uh ?_ (by rw[Rg];omega));have hoL:(h1.push #[36]).get? h1.objs.size=some #[36]:=QI _ rfl;show wpAny _ _ _ _ _ ({ s with heap:=h1.push #[36] }:Shared);refine Qn (RG (wpAny_call_entry_kw slot_list_sort ⟨_,hoL,rfl⟩ entry_list_sort ?_ (ksk_l1 _ _)));show wpAny #[14] A.in1.in1 (Builtin.«list.sort» ⟨[.ref h1.objs.size],[(Str.ofString "key",.ref q)]⟩) _ _ _;rw[ksk_t1];refine RI (hQ (h1.push #[36]) h1.objs.size (λ b o e=>Qp _ (kp b o e)) hsz hoL) (λ fin s' h=>?_) λ _ _ x=>x;obtain⟨rfl,hq⟩:=h;exact⟨_,rfl,Qu ⟨_,rfl,hq⟩⟩
end
end SR
namespace L2
open PySem PySem.Spec PyProof.Rows
section
variable {X:Cx}{k:Nat}{f l:Addr}{fd:FuncData}{ps:#[79]}{sp:Sp}{pins:#[12]}{s:Shared}{σ:St}{H:Hp}{ws:List V}{Q:VK}
def Inv.NX {a:Addr}{o:HO}{h':Heap}{t':Nat}(I:#[4])(fo:ou X pins H a)(kp:∀ b u,b≠a->s.heap.get? b=some u->h'.get? b=some u)(new:cY X.prog X.w (upd H a o) h' a o) :
  Inv X pins σ (upd H a o) { s with heap:=h',toks:=t' }:=by
 obtain⟨f0,f1,f2,f3,f4,f5⟩:=fo;have na:∀ b u,H b=some u->b≠a:=λ b u e z=>by rw[z,f0]at e;cases e
 refine I.step (g':=s.gens) (d':=s.drawn) (ch:=[a]) (λ b hb=>?_) (λ b o _ _ hc e _=>kp b o (λ z=>hc (by simp[z])) e) (λ b o _ _ hc e _=>⟨o.slots,kp b o (λ z=>hc (by simp[z])) e⟩) (λ b o hc e n=>?_)
  (λ b o hc e=>⟨o,kp b o (λ z=>hc (by simp[z])) e⟩) (λ b _ e=>?_) (λ b _ _ e=>?_) (λ b ps e=>⟨#[],?_⟩) (λ m hm=>?_) (λ b u e=>?_) I.bare
 ·have e:b=a:=by simpa using hb
  subst e;exact⟨f3,f1,f4,f5⟩
 ·rw[aZ (λ z=>hc (by simp[z]))];exact n
 ·rw[aZ (na b _ e)];exact e
 ·rw[aZ (na b _ e)];exact e
 ·rw[aZ (na b _ e),e];simp
 ·obtain⟨o,es,ep,ho,r⟩:=hm;exact⟨o,es,ep,kp _ o (Rr f1) ho,r⟩
 ·by_cases hb:b=a
  ·subst hb;rw[bI]at e;cases e;exact new
  ·rw[aZ hb]at e;refine(I.hok b u e).stay (λ c v hc q=>kp c v ?_ q) (λ c q=>by rw[aZ (na c _ q)];exact q) λ c xs q=>by rw[aZ (na c _ q)];exact q
   rcases hc with z|z
   ·rw[z];exact hb
   ·exact na c _ z
def qR (sp:Sp):List V->Hp->(List Int->Hp->Prop)->Prop
 |[],H,Q=>Q [] H
 |w::ws,H,Q=>sp [w] H (λ v H'=>∃ k,v=.int k/\qR sp ws H' (λ ks H''=>Q (k::ks) H'')) E0
def De (F:nK X.prog X.w X.K X.mg X.base sE k f fd ps sp)(hr:dD (k+2) X.A)(hb:Binds X.K fd ps [])(I:#[4])(hq:fH X.K H l ws)(hl:ws.length<64)
  (h:qR sp ws H λ ks H'=>∀ p,H' p=none->Q (.ref p) (upd H' p (.lst (SR.ordered .bW (SR.jt ks) ws)))) :
  wpAny #[11] X.A (call (.builtin "sorted") [.ref l] [(Str.ofString "key",.ref f)]) (EP X pins σ Q) X.xe s:=by
 obtain⟨vs,rv,pl,hz⟩:=I.list hq;have hlen:=rv.length;refine SR.AB pl.isList #[1] λ h1 a kp hsz ho=>?_;have ha0:H a=none:=I.hok.fresh hsz;have hk1:a<SR.iO h1 a vs:=by
  have:=QC (Qp (seqObj "tuple" vs.toArray 0) (Ra #[196] ho rfl));exact this
 have hk2:s.heap.objs.size<=SR.iO h1 a vs:=QX hsz (Sk hk1);have kp3:∀ b o,s.heap.get? b=some o->(SR.keyed h1 a vs).get? b=some o:=λ b o e=>
  Qp _ (Qp _ ((Q2 _ _ (Rr (QT (Q0 (QC e) hsz)))).trans (kp b o e)))
 refine SR.vf (s:={ s with heap:=h1 }) (Base:=λ zs s'=>∃ H',Inv X pins σ H' s'/\ou X pins H' a/\ou X pins H' (SR.iO h1 a vs)/\qR sp (ws.drop zs.length) H' λ ks H''=>∀ p,H'' p=none->Q (.ref p) (upd H'' p (.lst (SR.ordered .bW (SR.jt (zs++ks)) ws)))) ho #[1]
  ⟨H,I.kept (t':=s.toks) kp3,I.wR hsz ha0,I.wR hk2 (I.hok.fresh hk2),h⟩ (λ zs x s' ks e hx hB ha hk=>?_) (λ zs s' g ks e hB hk=>?_) λ zs s' hzl hB ha=>?_
 ·obtain⟨H',I',f1,f2,c⟩:=hB;have hj:zs.length<ws.length:=by rw[hlen];exact(Qt.mp hx).1
  obtain⟨u,hu,ru⟩:=rv.get (Qo hj);rw[hx]at hu;cases hu;rw[R9 hj]at c;have I2:Inv X (pins++[(a,SR.emptied vs 0),(SR.iO h1 a vs,seqObj "list" ks e)]) σ H' s':=I'.wQ λ p hp=>by
   rcases QH.mp hp with z|z
   ·exact I'.pin p (QJ _ z)
   ·rcases QA.mp z with rfl|z
    ·exact⟨ha,f1.1,f1.2.1,f1.2.2.1,λ v z=>by cases z⟩
    ·rw[QM.mp z];exact⟨hk,f2.1,f2.2.1,f2.2.2.1,λ v z=>by cases z⟩
  have r1:Vals [ws[zs.length]] [x]:=.cons ru .nil;have hps:[x].length=ps.length:=by
   have:=F.len _ _ _ _ c;simpa using this
  refine Ud (SX (F.run X.A.in1.in1 X.stack s' H' ⟨[x],[]⟩ [x] [ws[zs.length]] _ E0 hr.in1.in1 I2.Hw.in1.in1 (by simpa using hb s' [x] I'.qC (by simpa using hps)) r1 c) λ r s'' hq=>?_);cases r with
  |error e=>exact hq.elim
  | ok fl =>
   cases fl with
   | ret u =>
    obtain⟨v,H'',I'',rr,kk,rfl,c'⟩:=I2.after hq;obtain⟨t,rfl⟩:=rr;have p1:=I''.pin (a,SR.emptied vs 0) (QJ _ (QJ _ (.head _)));have p2:=I''.pin (SR.iO h1 a vs,seqObj "list" ks e) (QJ _ (QJ _ (.tail _ (.head _))));refine⟨kk,t,rfl,⟨H'',I''.lR,⟨p1.2.1,f1.2⟩,⟨p2.2.1,f2.2⟩,?_⟩,p1.1,p2.1⟩;have eq:(λ (ks:#[6]) (H'':Hp)=>∀ p,H'' p=none->Q (.ref p) (upd H'' p (.lst (SR.ordered .bW (SR.jt (zs++[kk]++ks)) ws))))=λ ks H''=>∀ p,H'' p=none->Q (.ref p) (upd H'' p (.lst (SR.ordered .bW (SR.jt (zs++(kk::ks))) ws))):=by
     funext ks H'';rw[QY];rfl
    rw[eq,Qv];exact c'
   |next=>exact False.elim hq|brk=>exact False.elim hq|cont=>exact False.elim hq
 ·obtain⟨H',I',f1,f2,c⟩:=hB;refine⟨H',I'.turned (t':=s'.toks) (it:=SR.iO h1 a vs) (λ b o hne e=>(Q2 _ _ (Rr hne)).trans e) f2.1 f2.2.1 f2.2.2.2.1 f2.2.2.2.2.1 f2.2.2.2.2.2,f1,f2,c⟩
 ·obtain⟨H',I',f1,f2,c⟩:=hB;rw[T5 #[1]]at c;have c:∀ p,H' p=none->Q (.ref p) (upd H' p (.lst (SR.ordered .bW (SR.jt (zs++[])) ws))):=c;rw[QQ]at c;refine⟨rfl,.ref a,_,I'.NX (t':=s'.toks) f1 (λ b u hne e=>(Q2 _ _ (Rr hne)).trans e) ?_,rfl,c a f1.1⟩;refine⟨?_,_,_,rv.ordered (SR.jt zs),get?_update_seq (c:="list") (xs:=#[]) ha λ _=>(SR.ordered Value.none (SR.jt zs) vs).toArray⟩;rw[(SR.bT _ _ _).length_eq];exact hz
end
section
variable {X:Cx}{k:Nat}{ps:#[79]}{sp:Sp}
def LS (sp:Sp)(K:#[0])(te:TE):TE:=λ σ H Q=>te σ H λ v H1=>∃ l ws,v=.ref l/\fH K H1 l ws/\ws.length<64/\qR sp ws H1 λ ks H'=>∀ p,H' p=none->Q (.ref p) (upd H' p (.lst (SR.ordered .bW (SR.jt ks) ws)))
def Fw {x y:Str}{p py pos kpos:Pos}{e:Expr}{te:TE}(C:jq X.prog X.w X.K X.mg X.base k y ps sp)(hr:dD (k+2) X.A)(hg:Gl X x)(hm:X.mg x=none)(hv:bootBuiltins x=some (.builtin "sorted"))(hgy:Gl X y)(he:PE X e te)(hn:#[115] :=by decide)(hdb:#[3]:=by decide)(hdy:#[81]:=by decide)(hst:#[26]:=by rfl) :
  PE X (.Call (.Name x p) [e] [⟨some "key",.Name y py,kpos⟩] pos) (LS sp X.K te):=by
 obtain⟨f,fd,hmy,hk,hb,F⟩:=C.ex;intro pins s σ H Q I h;refine RQ (lQ I hg hm hv ?_ hn hdb);refine PyProof.Rows.callWith_kw (e:=e) (rest:=[]) (kws:=[⟨some "key",.Name y py,kpos⟩]) ?_ (by rw[hst];rfl) (by rw[hst];rfl) rfl rfl;have h':Br te Hn σ H λ vs H1=>(match vs with|[v]=>∃ l ws,v=.ref l/\fH X.K H1 l ws/\ws.length<64/\qR sp ws H1 λ ks H'=>∀ p,H' p=none->Q (.ref p) (upd H' p (.lst (SR.ordered .bW (SR.jt ks) ws)))|_=>False):=h;refine eG (cN he gP hst pos pins s σ H _ I h') λ us s1 hq5=>L2.ex5 hq5 λ vs H1 I1 r1 q1=>?_;refine eG (Hi (Bp (v:=.ref f) hgy hmy rfl hdy) KO pos pins s1 σ H1 (λ vs H2=>vs=[.ref f]/\H2=H1) I1 ⟨rfl,rfl⟩) λ zs s2 hq5=>L2.ex5 hq5 λ ws H2 I2 r2 q2=>?_;obtain⟨rfl,rfl⟩:=q2;obtain⟨v,rfl⟩:∃ v,vs=[v]:=by
  match vs,q1 with
  |[],q=>exact q.elim|[v],_=>exact⟨v,rfl⟩| _::_::_,q=>exact q.elim
 obtain⟨l,ws,rfl,hq,hl,c⟩:=q1;obtain⟨u,rfl,ru⟩:=r1.one;obtain⟨u',rfl,ru'⟩:=r2.one;cases ru;cases ru';exact De F hr hb I2 hq hl c
end
end L2
namespace DL
open PySem PySem.Spec PyProof.Rows L2
variable {H:Hp}{fp:#[9]}{ps:#[79]}{x:Str}
def uh (G:DF):List D->Option #[6]
 |[]=>some []
 | x::xs=>match G [x] with
  |.ok (.int k)=>(uh G xs).map λ ks=>k::ks
  |_=>none
def AD (G:DF):D->Res D
 |.lst _ xs=>if cV xs=true/\xs.length<64 then (match uh G xs with|some ks=>.ok (.lst .own (SR.ordered .bW (SR.jt ks) xs))|none=>.bad) else .bad
 |_=>.bad
def um (G:DF)(ge:#[29])(τ:SD):Res D:=(ge τ).bind (AD G)
section
variable {K:#[0]}{Y:XY}{H0 B0 B:Hp}{σ:L2.St}{τ:SD}{P:#[9]}{F:#[30]}{X:Cx}{G:DF}
def yS:∀ {xs:List D}{ws:List V}{B H:Hp}{ks:#[6]}{Q:List Int->Hp->Prop},cV xs=true->SI K H0 B0 B H σ τ P F->az K B (· ∈ P) H xs ws []->uh G xs=some ks->(∀ B' H',SI K H0 B0 B' H' σ τ P F->aD H H'->aD B B'->Q ks H')->qR (jr K G) ws H Q
 | [],ws,B,H,ks,Q,_,I,r,e,h=>by
  obtain⟨rfl,_⟩:=r;cases e;exact h B H I #[52] #[52]
 | x::xs,ws,B,H,ks,Q,hp,I,r,e,h=>by
  obtain⟨v,w,f1,f2,rfl,r1,r2,ef⟩:=r;have hp':(x.plain&&cV xs)=true:=hp;rw[Q4]at hp';obtain⟨e1,r1'⟩:=Rep.jR (B':=atRest B H (λ a=>No a\/a∈([]:#[9]))) (S':=No) (j6.refl H) hp'.1 r1;obtain⟨e2,r2'⟩:=az.jR (B':=B) (S':=(· ∈ P)) (j6.refl H) hp'.2 r2;have e:(match G [x] with|.ok (.int k)=>(uh G xs).map λ ks=>k::ks|_=>none)=some ks:=e;refine⟨atRest B H (λ a=>No a\/a∈([]:#[9])),[x],iD I.bh,⟨v,[],[],[],rfl,r1',⟨rfl,rfl⟩,rfl⟩,?_⟩;split at e
  ·rename_i k eg;rw[eg];cases ek:uh G xs with
   |none=>rw[ek]at e;cases e
   | some ks' =>
    rw[ek]at e;cases e;intro B' H' v' fq rr;obtain⟨B2,I2,s2,k2,hb⟩:=I.called fK.nil (S:=No) (λ a s=>s.elim) rr;obtain⟨rv,_⟩:=rr.rep;refine⟨k,rv,yS hp'.2 I2 (r2'.mono rr.h0 s2 λ _ x=>x) ek λ B3 H3 I3 s3 b3=>h B3 H3 I3 (rr.h0.trans s3) (s2.trans b3)⟩
  ·cases e
def IE {k:Nat}{y:Str}{p py pos kpos:Pos}{e:Expr}{ge:#[29]}(C:jq X.prog X.w X.K X.mg X.base k y ps (jr X.K G))(hr:dD (k+2) X.A)(hg:Gl X x)(hm:X.mg x=none)(hv:bootBuiltins x=some (.builtin "sorted"))(hgy:Gl X y)(he:PE X e (tM X.K Y ge))(hn:#[115] :=by decide)(hdb:#[3]:=by decide)(hdy:#[81]:=by decide)(hst:#[26]:=by rfl) :
  PE X (.Call (.Name x p) [e] [⟨some "key",.Name y py,kpos⟩] pos) (tM X.K Y (um G ge)):=by
 refine PE.imp (Fw C hr hg hm hv hgy he hn hdb hdy hst) λ σ H Q hq=>ex8 hq λ H0 B0 B τ P F I h=>tM.seq I h λ d v H1 B1 fp _ I1 s1 b1 r1 k1 h1=>?_;unfold AD at h1;split at h1
 ·rename_i t xs;split at h1
  ·rename_i hc;split at h1
   ·rename_i ks ek;obtain⟨a,ws,g,rfl,q,l,s⟩:=r1.lst I1;obtain⟨_,l'⟩:=az.jR (B':=B1) (S':=(· ∈ P)) (j6.refl H1) hc.1 l;refine⟨a,ws,rfl,q,by rw[<-l'.length];exact hc.2,yS hc.1 I1 l' ek λ B' H' I' s' b' p hp=>?_⟩;have h2:Out _ _ _ B' H' _ _ _ _ Q _:=λ v H2 B2 fp I2 s2 b2 r2 k2=>h1 v H2 B2 fp I2 (s'.trans s2) (b'.trans b2) r2 k2;exact Out.xh h2 I' ((l'.mono s' b' λ _ x=>x).ordered hc.1 (SR.jt ks)) fK.nil hp
   ·exact h1.elim
  ·exact h1.elim
 ·exact h1.elim
end
open Classical in
def less (H:Hp)(fp:#[9]):Hp:=λ a=>if a∈fp then none else H a
def sL{a:Addr}(h:a∈fp):less H fp a=none:=by unfold less;rw[QG h]
def fu{a:Addr}(h:a∉fp):less H fp a=H a:=by unfold less;rw[QK h]
def kj:aD (less H fp) H:=λ a o e=>by
 by_cases h:a∈fp
 ·rw[sL h]at e;cases e
 ·rw[fu h]at e;exact e
def IF (K:#[0])(G:DF):Sp:=λ vs H Q _=>∃ B0 ds fp,aD B0 H/\az K B0 No H ds vs fp/\fp.Nodup/\(∀ a∈fp,B0 a=none)/\match G ds with
 |.ok d=>∀ B' H' v fq,g6 K (less H fp) B0 B' H' d v fq->Q v H'
 |.dY _=>False
 |.bad=>False
def yT (G:DF)(ds:List D):Res D:=if aJ ds=true then .bad else (G ds).NI
def xB (G:DF)(fs:#[34])(τ:SD):Res D:=(fs τ).bind (yT G)
section
variable {K:#[0]}{Y:XY}{H0 B0 B:Hp}{σ:L2.St}{τ:SD}{P:#[9]}{F:#[30]}{X:Cx}{pos p:Pos}{e:Expr}{es:List Expr}{fs:#[34]}
def cU.Fy {B H H':Hp}{M:#[9]}(k:kI H H' M):∀ {τ:SD}{σ:L2.St}{P:#[9]},cU K B H τ σ P->(∀ a∈P,a∉M)->cU K B H' τ σ P
 |[],_,_,h,_=>h
 |none::r,σ,P,h,hf=>let ⟨o,τ,e,h⟩:=h;⟨o,τ,e,cU.Fy k h hf⟩
 | some d::r,σ,P,h,hf=>by
  obtain⟨v,τ,f,g,e,h1,h2,z⟩:=h;subst z;exact⟨v,τ,f,g,e,Rep.keep k h1 (λ b hb=>hf b (QR _ hb)),cU.Fy k h2 (λ b hb=>hf b (QJ _ hb)),rfl⟩
def SI.pQ{B' H':Hp}{d:D}{v:V}{fq:#[9]}(I:#[15])(k:fK H0 B H P F fp)(mu:∀ a∈fp,∃ o,H a=some o/\rZ o)(r:g6 K (less H fp) B B' H' d v fq) :
  SI K H0 B0 B' H' σ τ P F/\fK H0 B' H' P F fq:=by
 have pf:∀ a∈P,a∉fp:=λ a m z=>(k.own a z).2.2.2.1 m;have ff:∀ a,F a->a∉fp:=λ a m z=>(k.own a z).2.2.2.2 m;have up:∀ a,B a=none->H a≠none->a∉fp->B' a=none:=λ a h1 h2 h3=>by
  cases e:B' a with
  |none=>rfl
  | some o =>
   exfalso;rcases r.nb a (by rw[e];exact Rx _) with q|q
   ·exact q h1
   ·rw[fu h3]at q;exact h2 q
 have kp:kI H H' fp:=⟨λ a o e n=>r.h0 a o (by rw[fu n];exact e),mu⟩;refine⟨⟨r.bh,λ a o e=>?_,I.b0.trans r.b0,λ a n=>?_,(cU.Fy kp I.rep pf).mono #[52] r.b0,I.nd,λ a m=>?_,λ a m=>?_⟩,r.nd,λ a m=>?_⟩
 ·refine kp.keep a o (I.h0 a o e) λ z=>?_;rw[(k.own a z).2.1]at e;cases e
 ·rcases r.nb a n with q|q
  ·exact I.nb a q
  ·by_cases z:a∈fp
   ·exact .inr (k.own a z).2.1
   ·rw[fu z]at q;exact .inr (I.h0.free q)
 ·exact⟨up a (I.own a m).1 (I.stands m) (pf a m),(I.own a m).2⟩
 ·obtain⟨a1,a2⟩:=I.fr a m;refine⟨up a a1 a2 (ff a m),?_⟩;obtain⟨o,e⟩:=S9.mp a2;rw[kp.keep a o e (ff a m)];exact Rx _
 ·obtain⟨a1,a2,a3⟩:=r.own a m;by_cases z:a∈fp
  ·obtain⟨b1,b2,b3,b4,b5⟩:=k.own a z;exact⟨a1,b2,a3,b4,b5⟩
  ·rw[fu z]at a2;obtain⟨n1,n2,n3,n4⟩:=I.yy a2;exact⟨a1,n2,a3,n3,n4⟩
def LU {k:Nat}{G:DF}(C:jq X.prog X.w X.K X.mg X.base k x ps (IF X.K G))(hr:dD k X.A)(hg:Gl X x)(ha:#[97])(hdb:#[3]:=by decide)
  (he:#[5]:=by rfl) (hpl:#[35].any (·.1)=false:=by rfl):PE X #[42] (tM X.K Y (xB G fs)):=by
 refine PE.imp (tK C hr hg ha hdb he hpl) λ σ H Q hq=>ex8 hq λ H0 B0 B τ P F I h=>?_;have I':SI X.K H0 B0 B H σ τ P (λ a=>F a\/(H a≠none/\B a=none/\a∉P)):=
  ⟨I.bh,I.h0,I.b0,I.nb,I.rep,I.nd,λ a m=>⟨(I.own a m).1,(I.own a m).2.1,λ z=>z.elim (I.own a m).2.2 λ z=>z.2.2 m⟩,λ a m=>m.elim (I.fr a) λ z=>⟨z.2.1,z.1⟩⟩
 refine⟨H0,B0,B,τ,P,_,I',?_⟩;have h:Goal X.K Y H0 B0 B H σ τ P F Q ((fs τ).bind (yT G)):=h;cases ef:fs τ with
 |bad=>rw[ef]at h;exact h|dY C=>rw[ef]at h;exact oB.later h #[52] #[52] λ a z=>.inl z
 | ok ds =>
  rw[ef]at h;intro vs H1 B1 fp I1 s1 b1 r1 k1;have h:Goal X.K Y H0 B0 B H σ τ P F Q (yT G ds):=h;have new:∀ a∈fp,H a=none:=λ a m=>by
   obtain⟨b1',b2,b3,b4,b5⟩:=k1.own a m;cases eh:H a with
   |none=>rfl
   | some o =>
    refine(b5 (.inr ⟨by rw[eh];exact Rx _,?_,b4⟩)).elim;cases eb:B a with
    |none=>rfl|some o'=>rw[b1 a o' eb]at b1';cases b1'
  rw[QQ];unfold yT at h;split at h
  ·exact h.elim
  ·rename_i hb;have hb:aJ ds=false:=by simpa using hb
   refine⟨B1,ds,fp,I1.bh,r1.gj hb,k1.nd,λ a m=>(k1.own a m).1,?_⟩;cases z:G ds with
   |dY c=>rw[z]at h;exact h.elim|bad=>rw[z]at h;exact h.elim
   | ok d =>
    rw[z]at h;intro B' H' v fq r;obtain⟨I2,k2⟩:=I1.pQ k1 r1.own r;have I3:=I2.xg (F':=F) λ a z=>.inl z;refine h v H' B' fq I3 (λ a o e=>?_) (b1.trans r.b0) (r.rep.mono #[52] #[52] λ _ x=>x.elim) ⟨k2.nd,λ a m=>?_⟩
    ·refine r.h0 a o ?_;rw[fu λ m=>by rw[new a m]at e;cases e];exact s1 a o e
    ·obtain⟨b1,b2,b3,b4,b5⟩:=k2.own a m;exact⟨b1,b2,b3,b4,λ z=>b5 (.inl z)⟩
def mf:∀ {ds:List D}{vs:List V}{fp:#[9]} (m:Nat),az K B No H ds vs fp->cU K B H (ds.map some++List.replicate m none) (vs.map some++List.replicate m none) fp
 | [],vs,fp,m,r=>by
  obtain⟨rfl,rfl⟩:=r
  induction m with
  |zero=>exact⟨rfl,rfl⟩| succ m ih=>exact⟨none,_,rfl,ih⟩
 | d::ds,vs,fp,m,r=>by
  obtain⟨v,w,f1,f2,rfl,r1,r2,z⟩:=r;exact⟨v,_,f1,f2,rfl,r1,mf m r2,z⟩
def Fz {P:#[83]}{w:World}{mg:#[8]}{base:Heap}{st:Stmt}{N:#[79]}{k:Nat}{g:SF}{f:Addr}{fd:FuncData}(D:Em K x x st f fd)(S:aP N ps (au st))
  (hbody:∀ (f:Addr) (cdv:Value) (A:#[127]) (outer:#[139]) (s:Shared) (H:Hp),dD k #[24] ->
   kF #[33].Cz (cQ st) (jf K tQ g)):nK P w K mg base sE (k+1) f fd ps (IF K (cF ps.length N.length g)):=by
 refine D.ok S (λ vs H Q E h=>?_) λ cdv A outer s H vs Q E hr h=>?_
 ·obtain⟨B0,ds,fp,_,r,_,_,h⟩:=h;rw[<-r.length];unfold cF at h;by_cases hl:ds.length=ps.length
  ·exact hl
  ·rw[QK hl]at h;exact h.elim
 ·obtain⟨B0,ds,fp,sB,r,nd,ow,h⟩:=h;unfold cF at h;by_cases hl:ds.length=ps.length
  ·rw[QG hl]at h;have e:L2.start N vs=vs.map some++List.replicate #[75] none:=by
    unfold L2.start;rw[<-r.length,hl]
   refine⟨_,hbody f cdv A outer s H hr,less H fp,B0,B0,ds.map some++List.replicate #[75] none,fp,⟨sB,kj,aD.refl _,λ a n=>.inl n,by rw[e];exact mf _ r,nd,(λ a m=>⟨ow a m,sL m,λ z=>z⟩),λ a m=>m.elim⟩,?_⟩;cases z:g (ds.map some++List.replicate #[75] none) with
   |rt d=>rw[z]at h;exact λ B' H' v fp q=>h B' H' v fp q
   | nx t =>
    rw[z]at h;intro B' H' σ' P' a;exact h B' H' .bW [] ⟨a.si.h0,a.si.b0,a.si.bh,a.si.nb,⟨rfl,rfl⟩,Rl,λ a m=>by cases m⟩
   |bk t=>rw[z]at h;exact h.elim|ct t=>rw[z]at h;exact h.elim|ex C t=>rw[z]at h;exact h.elim|bad=>rw[z]at h;exact h.elim
  ·rw[QK hl]at h;exact h.elim
def IG {P:#[83]}{w:World}{mg:#[8]}{base:Heap}{st:Stmt}{N:#[79]}{k:Nat}{g:SF}(D:jM K mg x st ps)(S:aP N ps (au st))
  (hbody:∀ (f:Addr) (cdv:Value) (A:#[127]) (outer:#[139]) (s:Shared) (H:Hp),dD k #[24] ->
   kF #[33].Cz (cQ st) (jf K tQ g)):jq P w K mg base (k+1) x ps (IF K (cF ps.length N.length g)):=by
 obtain⟨f,fd,F,hm,hb⟩:=D.ex;exact⟨f,fd,hm,F.kp,hb,Fz F S hbody⟩
end
end DL
namespace DL
open PySem PySem.Spec PyProof.Rows L2
section
variable {P:#[83]}{w:World}{K:#[0]}{mg:#[8]}{base:Heap}
def Fx {x:Str}{st:Stmt}{N ps:#[79]}{k n m:Nat}{g:SF}(D:jM K mg x st ps)(S:aP N ps (au st))(hn:ps.length=n)(hm:N.length=m)
  (hbody:∀ (f:Addr) (cdv:Value) (A:#[127]) (outer:#[139]) (s:Shared) (H:Hp),dD k #[24] ->
   kF #[33].Cz (cQ st) (jf K tQ g)):jq P w K mg base (k+1) x ps (IF K (cF n m g)):=by
 subst hn hm;exact IG D S hbody
end
section
variable {Y:XY}{X:Cx}{pos:Pos}{a b c:Expr}{fa fb fc:#[29]}
def Kd (r:Res D)(i j:Int):Res Bool:=if i<j then r.bind λ z=>match z with|.int k=>.ok (decide (j<k))|_=>.bad else .ok false
def FA (fa fb fc:#[29])(τ:SD):Res Bool:=(fa τ).bind λ x=>match x with
 | .int i=>(fb τ).bind λ y=>match y with
  |.int j=>Kd (fc τ) i j
  |_=>.bad
 |_=>.bad
def LV (ha:#[65])(hb:#[133])(hc:PE X c (tM X.K Y fc))(hm:lastMarks [.Lt,.Lt] [b,c]=false:=by with_unfolding_all rfl):PT X (.Compare a [.Lt,.Lt] [b,c] pos) (kJ X.K Y (FA fa fb fc)):=
 PT.imp (D9 rB rB ha hb hc hm) λ σ H Q hq=>ex8 hq λ H0 B0 B τ P F I h=>by
  unfold FA at h;refine⟨H0,B0,B,τ,P,F,I,?_⟩;cases e1:fa τ with
  |bad=>rw[e1]at h;exact h.elim|dY C=>rw[e1]at h;exact h
  | ok x =>
   rw[e1]at h;intro v1 H1 B1 f1 I1 s1 b1 r1 k1;cases x with
   | int i =>
    obtain⟨rfl,rfl⟩:=r1;refine⟨H0,B0,B1,τ,P,F,I1,?_⟩;cases e2:fb τ with
    |bad=>rw[e2]at h;exact h.elim|dY C=>rw[e2]at h;exact λ H' B' I' sH sB=>h H' B' I' (s1.trans sH) (b1.trans sB)
    | ok y =>
     rw[e2]at h;intro v2 H2 B2 f2 I2 s2 b2 r2 k2;cases y with
     | int j =>
      obtain⟨rfl,rfl⟩:=r2;replace h:pD X.K Y H0 B0 B H σ τ P F Q (Kd (fc τ) i j):=h;unfold Kd at h;refine⟨i,j,rfl,rfl,decide (i<j),rfl,?_⟩;by_cases hl:i<j
      ·rw[QG hl]at h;rw[QO hl,QG rfl];refine⟨H0,B0,B2,τ,P,F,I2,?_⟩;cases e3:fc τ with
       |bad=>rw[e3]at h;exact h.elim|dY C=>rw[e3]at h;exact λ H' B' I' sH sB=>h H' B' I' ((s1.trans s2).trans sH) ((b1.trans b2).trans sB)
       | ok z =>
        rw[e3]at h;intro v3 H3 B3 f3 I3 s3 b3 r3 k3;cases z with
        | int k =>
         obtain⟨rfl,rfl⟩:=r3;exact⟨j,k,rfl,rfl,decide (j<k),rfl,h H3 B3 I3 ((s1.trans s2).trans s3) ((b1.trans b2).trans b3)⟩
        |_=>exact h.elim
      ·rw[QK hl]at h;rw[QF hl,QK Qy];exact⟨false,rfl,h H2 B2 I2 (s1.trans s2) (b1.trans b2)⟩
     |_=>exact h.elim
   |_=>exact h.elim
end
end DL
namespace L2
open PySem PySem.Spec PyProof.Rows
end L2
namespace DL
open PySem PySem.Spec PyProof.Rows L2
section
variable {X:Cx}{Y:XY}{o e:Expr}{fo fe:#[29]}{apos cpos:Pos}
end
end DL
namespace XF
open PySem PySem.Spec PyProof.Rows L2 DL
end XF
namespace L2
open PySem PySem.Spec PyProof.Rows
section
variable {X:Cx}
def jj {α:Type}(xs:List α)(k:Nat)(y:α):List α:=xs.take k++y::xs.drop k
def II:V->List V->Hp->VK->Prop:=λ x vs H Q=>∃ l xs i y,x=.ref l/\vs=[.int i,y]/\H l=some (.lst xs)/\0<=i/\i.toNat<=xs.length/\xs.length<sizeLine/\Q .bW (upd H l (.lst (jj xs i.toNat y)))
def IJ (its:#[17])(u:Value)(i:Int)(h0:0<=i)(hk:i.toNat<=its.length) :
  (have k':=if i<0 then (i+(its.toArray.size:Int)).toNat else min i.toNat its.toArray.size;(its.toArray.extract 0 k').push u++its.toArray.extract k')=(jj its i.toNat u).toArray:=by
 have hm:min i.toNat its.toArray.size=i.toNat:=by rw[Qz];exact Um hk
 rw[QK (Int.not_lt.mpr h0),hm];show(its.toArray.extract 0 i.toNat).push u++its.toArray.extract i.toNat its.toArray.size=_;rw[List.extract_toArray,List.extract_toArray,List.push_toArray,List.append_toArray,Qz]
 congr 1
 rw[List.extract_eq_drop_take,List.extract_eq_drop_take,List.drop_zero,Nat.sub_zero,QY];unfold jj;have e:(its.drop i.toNat).take (its.length-i.toNat)=its.drop i.toNat:=S0 (by rw[R3];exact QD _);rw[e];rfl
def Dg:Nb X "list.insert" II:=by
 intro pins s σ H x vs v us Q I rx rv h;obtain⟨l,xs,i,y,rfl,rfl,hH,h0,hk,hz,q⟩:=h;cases rx;obtain⟨u0,u,rfl,⟨t,rfl⟩,ru⟩:=rv.two;obtain⟨z,its,n,r,hl,e⟩:=I.CD hH;have hsl:sizeLine=16777216:=Rg;have hfit:¬(!Builtin.List.listFitsIndex i)=true:=by
  have:=fitsIndex_both (k:=i) #[1] #[1];simpa using this
 have hs:its.toArray.size<=sizeLine:=by rw[Qz];omega
 have hm:=AutoSeq1.list_insert_list_int_val_1 l its.toArray n i t u hfit hs;refine Va F.slot_list_insert ⟨_,e,rfl⟩ F.entry_list_insert (F.args_list_insert_3 _ _ _) hm ⟨e,?_⟩;refine⟨.bW,_,I.Ea (its':=jj its i.toNat u) hH e (IJ its u i h0 #[1]) (Vals.append (r.take _) (.cons ru (r.drop _))) ?_,rfl,q⟩;simp only[jj,Qv,QP,RA,R3];omega
section
variable {prog:#[83]}{w:World}{A:#[127]}{R:Result->Shared->Prop}{it:Addr}{fp wr:#[9]}{n:Nat}{P:Nat->Value->Prop}{St:Nat->Heap->Prop}{d:Value}
end
def xC {ns:#[6]}{its:#[17]}(r:Vals #[135] its){i:Nat}{v:Value}(h:its.toArray[i]?=some v):∃ t,v=.int (ns.getD i 0) t:=by
 have h:its[i]?=some v:=by simpa using h
 have hl:=r.length;rw[Qs]at hl;have hi:i<its.length:=(Qt.mp h).1;obtain⟨u,hu,ru⟩:=r.get (show#[135][i]?=some (.int (ns.getD i 0)) by
  rw[QB,Qo (by omega:i<ns.length),Qq,Qo (by omega:i<ns.length)];rfl)
 rw[hu]at h;cases h;obtain⟨t,rfl⟩:=ru;exact⟨t,rfl⟩
def in1_units (A:#[127]):A.in1.units=A.units+1:=rfl
end
end L2
namespace DL
open PySem PySem.Spec PyProof.Rows L2
section
variable {K:#[0]}{Y:XY}{H0 B0 B H:Hp}{σ:L2.St}{τ:SD}{P:#[9]}{F:#[30]}{E:Ends}{X:Cx}{pos:Pos}{e c:Expr}{fe:#[29]}{gc:#[59]}
def az.FD {S:#[30]}{y:Int}:∀ (k:Nat) {xs:List D}{vs:List V}{f:#[9]},az K B S H xs vs f->az K B S H (jj xs k (.int y)) (jj vs k (.int y)) f
 |0,xs,vs,f,r=>⟨_,_,[],f,rfl,⟨rfl,rfl⟩,r,rfl⟩
 | k+1,[],vs,f,r=>by
  obtain⟨rfl,rfl⟩:=r;exact⟨_,_,[],[],rfl,⟨rfl,rfl⟩,⟨rfl,rfl⟩,rfl⟩
 | k+1,d::ds,vs,f,r=>by
  obtain⟨v,w,f1,f2,rfl,r1,r2,rfl⟩:=r;exact⟨v,_,f1,f2,rfl,r1,az.FD k r2,rfl⟩
def AE (i:Nat)(fi fv:#[29])(τ:SD):Fl:=match gY τ i with
 | some xs=>(fi τ).ja τ λ di=>(fv τ).ja τ λ dv=>match di,dv with
  |.int k,.int x=>if 0<=k/\k.toNat<=xs.length/\xs.length<16777216 then .nx (τ.set i (some (.lst .own (jj xs k.toNat (.int x))))) else .bad
  |_,_=>.bad
 |none=>.bad
def NY (i:Nat){e2:Expr}{fv:#[29]}{x:Str}{p1 apos cpos:Pos}(he:#[46])(he2:PE X e2 (tM X.K Y fv))(hN:#[78]:=by rfl)(hv:zS X.env.scope x:=by first|exact Or.inl rfl|exact Or.inr (Or.inl rfl)|exact Or.inr (Or.inr rfl))(hd:#[3]:=by decide)(hcd:#[44]:=by decide)
  (hbase:attributeBase #[68] "insert" X.env (eval #[68] X.env)=eval #[68] X.env:=by rfl)
  (hfew:((backTo cpos (starEach [e,e2] X.env)).all (λ x=>!x.1)&&#[182].all (λ x=>x.1.isSome)
   && decide ([e,e2].length+([]:List Keyword).length+(if ([]:List Keyword).isEmpty then 0 else 1)<30))=true:=by rfl)
  (hline:#[110]:=by rfl) (hs:starEach [e,e2] X.env=(false,eval e X.env)::starEach [e2] X.env:=by rfl) (hs2:starEach [e2] X.env=(false,eval e2 X.env)::starEach [] X.env:=by rfl) (hplain:(backTo cpos (starEach [e2] X.env)).any (·.1)=false:=by rfl)
  (hsw:swapsWith (.Call (.Attribute #[68] "insert" apos) [e,e2] [] cpos) none pos.line X.env=pure false:=by rfl) :
  PS X (.Expr (.Call (.Attribute #[68] "insert" apos) [e,e2] [] cpos) pos) (jf X.K Y (AE i fe fv)):=by
 refine PS.imp (oX (Bu Sg PySem.F.slot_list_insert PySem.F.type_list_insert Dg (ic hN hv hd hcd) (cN he (cN he2 gP hs2) hs) hbase hfew hline hs hplain) hsw) λ E σ H hq=>ex7 hq λ H0 B0 B τ P I h=>?_;unfold AE at h;cases z:gY τ i with
 |none=>rw[z]at h;exact h.elim
 | some xs =>
  rw[z]at h;have hi:=ik z;obtain⟨a,vs,ea,ha,hl⟩:=I.listAt hi;refine⟨.ref a,ea,.inl ⟨rfl,vs,fH.of ha⟩,j7 I h λ d v H1 B1 fp _ I1 s1 b1 r1 k1 h1=>j7 I1 h1 λ d2 v2 H2 B2 fp2 _ I2 s2 b2 r2 k2 h2=>?_⟩;cases d with
  | int k =>
   cases d2 with
   | int y =>
    simp only at h2;split at h2
    ·rename_i hz;obtain⟨z0,z1,z2⟩:=hz;obtain⟨rfl,rfl⟩:=r1;obtain⟨rfl,rfl⟩:=r2;have ha2:=s2 a _ (s1 a _ ha);refine⟨a,vs,k,.int y,rfl,rfl,ha2,z0,by rw[<-hl];exact z1,by rw[<-hl,Rg];exact z2,?_⟩;obtain⟨P',I'⟩:=I2.CP (xs':=jj xs k.toNat (.int y)) (vs':=jj vs k.toNat (.int y)) (gp:=[]) hi ea fK.nil (λ f _ rl=>⟨f,rl.FD k.toNat,λ b m=>.inl m,λ nf _=>nf⟩) ha2;exact h2 B2 _ σ P' I'
    ·exact h2.elim
   |_=>exact h2.elim
  |_=>exact h2.elim
end
end DL
namespace L2
open PySem PySem.Spec PyProof.Rows
section
variable {X:Cx}
end
end L2
namespace DL
open PySem PySem.Spec PyProof.Rows L2
section
variable {K:#[0]}{Y:XY}
end
end DL
namespace L2
open PySem PySem.Spec PyProof.Rows
variable {X:Cx}
end L2
namespace DL
open PySem PySem.Spec PyProof.Rows L2
variable {G:DF}{xs:List D}{ks:List KT}{ps:#[79]}{x:Str}{Y:XY}
variable {K:#[0]}
section
variable{H0 B0 B H:Hp}{σ:L2.St}{τ:SD}{P:#[9]}{F:#[30]}{X:Cx}{pos p:Pos}{e:Expr}{es:List Expr}{fe:#[29]}{fs:#[34]}
def Ke (f:#[29])(τ:SD):Fl:=(f τ).ja τ λ d=>if d.aN=true then .bad else match τ[0]? with|some (some x)=>.rt (.tup [d,x])|_=>.bad
def LX (he:#[46])(hl:Y.ln=true:=by rfl):PS X (.Return (some e) pos) (jf X.K Y (Ke fe)):=
 PS.imp (sX he) λ E σ H hq=>ex7 hq λ H0 B0 B τ P I h=>j7 I h λ d v H1 B1 fp _ I1 _ _ r1 k1 h1=>by
  split at h1
  ·exact h1.elim
  ·rename_i hb;have hb:d.aN=false:=by simpa using hb
   cases z:τ[0]? with
   |none=>rw[z]at h1;exact h1.elim
   | some o =>
    cases o with
    |none=>rw[z]at h1;exact h1.elim
    | some x =>
     rw[z]at h1;obtain⟨u,f,e1,r2,sf⟩:=I1.rep.get z;refine(bY.PZ hl h1) B1 H1 v u fp f ⟨I1.h0,I1.b0,I1.bh,I1.nb,r1.gj hb,k1.nd,λ a m=>⟨(k1.own a m).1,(k1.own a m).2.1,(k1.own a m).2.2.1⟩⟩ r2 ?_ λ b m=>⟨(I1.own b (sf.subset m)).1,(I1.own b (sf.subset m)).2.1,I1.stands (sf.subset m)⟩;rw[QL];exact⟨k1.nd,I1.nd.sublist sf,λ a ma b mb z=>(k1.own a ma).2.2.2.1 (z▸sf.subset mb)⟩
def AG (j:Nat)(τ:SD):Fl:=match τ with
 |some x::r=>match r[j]? with|some (some d)=>.rt (.tup [d,x])|_=>.bad
 |_=>.bad
def IK (j:Nat){pos':Pos}(hN:X.N[j+1]?=some x:=by rfl)(hv:zS X.env.scope x:=by first|exact Or.inl rfl|exact Or.inr (Or.inl rfl)|exact Or.inr (Or.inr rfl))(hd:#[3]:=by decide)
  (hcd:#[44]:=by decide) (hl:Y.ln=true:=by rfl):PS X (.Return (some (.Name x pos')) pos) (jf X.K Y (AG j)):=by
 refine PS.imp (sX (ic hN hv hd hcd)) λ E σ H hq=>ex7 hq λ H0 B0 B τ P I h=>?_;unfold AG at h;split at h
 ·rename_i y r;split at h
  ·rename_i d e;have rp:=I.rep;obtain⟨u,t,f0,g,es,r0,rr,eP⟩:=rp;obtain⟨v,f,h1,h2,h3⟩:=rr.get e;have nd:=I.nd;rw[eP,QL]at nd;have inP:∀ b,b∈f0\/b∈f->b∈P:=λ b m=>by rw[eP];exact m.elim (λ z=>QR _ z) λ z=>QJ _ (h3.subset z)
   refine⟨v,by rw[es];exact h1,(bY.PZ hl h) B H v u f f0 ⟨I.h0,I.b0,I.bh,I.nb,h2,nd.2.1.sublist h3,λ a m=>?_⟩ r0 ?_ λ b m=>?_⟩
   ·exact⟨(I.own a (inP a (.inr m))).1,(I.own a (inP a (.inr m))).2.1,I.stands (inP a (.inr m))⟩
   ·rw[QL];exact⟨nd.2.1.sublist h3,nd.1,λ a ma b mb z=>nd.2.2 b mb a (h3.subset ma) z.symm⟩
   ·exact⟨(I.own b (inP b (.inl m))).1,(I.own b (inP b (.inl m))).2.1,I.stands (inP b (.inl m))⟩
  ·exact h.elim
 ·exact h.elim
def IM (K:#[0])(H0 B0:Hp)(Q:VK):Res D->Prop
 |.ok (.tup [r,x])=>∀ B' H' v u f1 f2,g6 K H0 B0 B' H' r v f1->Rep K B' No H' x u f2->(f1++f2).Nodup->(∀ b∈f2,B' b=none/\H0 b=none/\H' b≠none)->Q v H'
 |_=>False
def LW (K:#[0])(G:DF):Sp:=λ vs H Q _=>∃ B0 a k ks xs fp ws ds,vs=.ref a::ws/\aD B0 H/\Rep K B0 No H (.dct (.len a) k ks xs) (.ref a) fp/\az K B0 No H ds ws []/\fp.Nodup/\(∀ b∈fp,B0 b=none)/\IM K (less H fp) B0 Q (G (.dct (.len a) k ks xs::ds))
def Fl.IL:Fl->Res D
 |.rt d=>.ok d
 |.nx (some x::_)=>.ok (.tup [.bW,x])
 |_=>.bad
def AF (n N:Nat)(g:SF)(ds:List D):Res D:=if ds.length=n then (g (ds.map some++List.replicate (N-n) none)).IL else .bad
def FE {P:#[83]}{w:World}{mg:#[8]}{base:Heap}{st:Stmt}{N:#[79]}{k:Nat}{g:SF}{f:Addr}{fd:FuncData}(Df:Em K x x st f fd)(S:aP N ps (au st))
  (hbody:∀ (f:Addr) (cdv:Value) (A:#[127]) (outer:#[139]) (s:Shared) (H:Hp),dD k #[24] ->
   kF #[33].Cz (cQ st) (jf K PV g)):nK P w K mg base sE (k+1) f fd ps (LW K (AF ps.length N.length g)):=by
 refine Df.ok S (λ vs H Q E h=>?_) λ cdv A outer s H vs Q E hr h=>?_
 ·obtain⟨B0,a,kd,ks,xs,fp,ws,ds,rfl,_,_,r,_,_,h⟩:=h;have hl:=r.length;unfold AF at h;by_cases hl':(DL.D.dct (.len a) kd ks xs::ds).length=ps.length
  ·rw[QP]at hl' ⊢;omega
  ·rw[QK hl']at h;exact h.elim
 ·obtain⟨B0,a,kd,ks,xs,fp,ws,ds,rfl,sB,r0,r,nd,ow,h⟩:=h;unfold AF at h;by_cases hl:(DL.D.dct (.len a) kd ks xs::ds).length=ps.length
  ·rw[QG hl]at h;have hlr:=r.length;have e:L2.start N (.ref a::ws)=(V.ref a::ws).map some++List.replicate #[75] none:=by
    unfold L2.start;rw[<-hl,QP,QP,hlr]
   have rl:az K B0 No H (DL.D.dct (.len a) kd ks xs::ds) (.ref a::ws) fp:=⟨.ref a,ws,fp,[],rfl,r0,r,(QQ _).symm⟩;refine⟨_,hbody f cdv A outer s H hr,less H fp,B0,B0,(DL.D.dct (.len a) kd ks xs::ds).map some++List.replicate #[75] none,fp,⟨sB,kj,aD.refl _,λ a n=>.inl n,by rw[e];exact mf _ rl,nd,(λ a m=>⟨ow a m,sL m,λ z=>z⟩),λ a m=>m.elim⟩,?_⟩;cases z:g ((DL.D.dct (.len a) kd ks xs::ds).map some++List.replicate #[75] none) with
   | rt d =>
    rw[z]at h;show MN K (less H fp) B0 _ d;have h:IM K (less H fp) B0 Q (.ok d):=h;unfold MN;unfold IM at h;split at h
    ·rename_i r x e;cases e;exact h
    ·exact h.elim
   | nx t =>
    rw[z]at h;intro B' H' σ' P' af;have h:IM K (less H fp) B0 Q (Fl.IL (.nx t)):=h
    match t,h,af with
    | some y::t',h,af =>
     obtain⟨u,f,e1,r2,sf⟩:=af.si.rep.get (i:=0) (d:=y) rfl;exact h B' H' .bW u [] f ⟨af.si.h0,af.si.b0,af.si.bh,af.si.nb,⟨rfl,rfl⟩,Rl,λ a m=>by cases m⟩ r2 (af.si.nd.sublist sf) λ b m=>⟨(af.si.own b (sf.subset m)).1,(af.si.own b (sf.subset m)).2.1,af.si.stands (sf.subset m)⟩
    |none::t',h,_=>exact h.elim|[],h,_=>exact h.elim
   |bk t=>rw[z]at h;exact h.elim|ct t=>rw[z]at h;exact h.elim|ex C t=>rw[z]at h;exact h.elim|bad=>rw[z]at h;exact h.elim
  ·rw[QK hl]at h;exact h.elim
def FF {P:#[83]}{w:World}{mg:#[8]}{base:Heap}{st:Stmt}{N:#[79]}{k n m:Nat}{g:SF}(D:jM K mg x st ps)(S:aP N ps (au st))(hn:ps.length=n)(hm:N.length=m)
  (hbody:∀ (f:Addr) (cdv:Value) (A:#[127]) (outer:#[139]) (s:Shared) (H:Hp),dD k #[24] ->
   kF #[33].Cz (cQ st) (jf K PV g)):jq P w K mg base (k+1) x ps (LW K (AF n m g)):=by
 subst hn hm;obtain⟨f,fd,F,hm,hb⟩:=D.ex;exact⟨f,fd,hm,F.kp,hb,FE F S hbody⟩
end
open Classical in
def km (G:DF)(k:Bool)(ks:List KT)(xs ds:List D):Res (D×List KT×List D):=if h:∃ y:D×List KT×List D,∀ a,G (.dct (.len a) k ks xs::ds)=.ok (.tup [y.1,.dct (.len a) k y.2.1 y.2.2]) then .ok h.choose else .bad
def yU{k:Bool}{ks':List KT}{xs' ds:List D}{r:D}(h:∀ a,G (.dct (.len a) k ks xs::ds)=.ok (.tup [r,.dct (.len a) k ks' xs'])):km G k ks xs ds=.ok (r,ks',xs'):=by
 have h':∃ y:D×List KT×List D,∀ a,G (.dct (.len a) k ks xs::ds)=.ok (.tup [y.1,.dct (.len a) k y.2.1 y.2.2]):=⟨(r,ks',xs'),h⟩;unfold km;rw[dif_pos h'];have e:=h'.choose_spec 0;rw[h 0]at e;generalize h'.choose=y at e;obtain⟨y1,y2,y3⟩:=y;simp only[Res.ok.injEq,D.tup.injEq,List.cons.injEq,D.dct.injEq,and_true,true_and]at e;obtain⟨e1,e2,e3⟩:=e;rw[e1,e2,e3]
def AH{k:Bool}{ds:List D}{y:D×List KT×List D}(h:km G k ks xs ds=.ok y)(a:Addr):G (.dct (.len a) k ks xs::ds)=.ok (.tup [y.1,.dct (.len a) k y.2.1 y.2.2]):=by
 unfold km at h;split at h
 ·rename_i h';cases h;exact h'.choose_spec a
 ·cases h
def kP (i:Nat)(G:DF)(fs:#[34])(τ:SD):Res (D×SD):=match l8 τ i with
 |some (t,k,ks,xs)=>(fs τ).bind λ ds=>if aX ds=true then (km G k ks xs ds).bind λ y=>if y.1.aN=true then .bad else .ok (y.1,τ.set i (some (.dct t k y.2.1 y.2.2))) else .bad
 |none=>.bad
section
variable (K:#[0])(H0 B0 B H:Hp)(σ:L2.St)(P:#[9])(F:#[30])
def rJ (Q:VK):Res (D×SD)->Prop
 |.ok (d,τ')=>∀ v H' B' P' fp,SI K H0 B0 B' H' σ τ' P' F->aD B B'->j6 H H'->(∀ b o,b∉P->H b=some o->H' b=some o)->Rep K B' No H' d v fp->fK H0 B' H' P' F fp->Q v H'
 |_=>False
end
def Kf (K:#[0])(f:SD->Res (D×SD)):TE:=λ σ H Q=>∃ H0 B0 B τ P F,SI K H0 B0 B H σ τ P F/\rJ K H0 B0 B H σ P F Q (f τ)
section
variable{H0 B0 B H:Hp}{σ:L2.St}{τ:SD}{P:#[9]}{F:#[30]}{X:Cx}{pos p:Pos}{e:Expr}{es:List Expr}{fs:#[34]}
def FH {t:Tg}{a:Addr}{k:Bool}{ks':List KT}{xs':List D}{B' H':Hp}{f f':#[9]}{u:V}(ht:t.jh=true)(r0:Rep K B No H (.dct t k ks xs) (.ref a) f)(r:Rep K B' No H' (.dct (.len a) k ks' xs') u f'):u=.ref a/\Rep K B' No H' (.dct t k ks' xs') (.ref a) f':=by
 obtain⟨vs,g,rfl,q,rl,rfl⟩:=r;obtain⟨a',_,_,e,_,_,_,back⟩:=r0.EY ht;cases e;exact⟨rfl,back q rl⟩
def LY {t:Tg}{a:Addr}{k:Bool}{f:#[9]}(ht:t.jh=true)(r0:Rep K B No H (.dct t k ks xs) (.ref a) f):Rep K B No H (.dct (.len a) k ks xs) (.ref a) f:=by
 obtain⟨a',vs,g,e,q,rl,ef,_⟩:=r0.EY ht;cases e;exact⟨vs,g,rfl,q,rl,ef⟩
def SI.lent {i:Nat}{t:Tg}{k:Bool}(I:#[15])(hi:τ[i]?=some (some (.dct t k ks xs)))(ht:t.jh=true) :
  ∃ a fp,σ[i]?=some (some (.ref a))/\Rep K B No H (.dct (.len a) k ks xs) (.ref a) fp/\fp.Nodup/\(∀ b∈fp,B b=none/\b∈P) /\
   ∀ {B' H':Hp}{r:D}{v u:V}{f1 f2:#[9]}{ks':List KT}{xs':List D},g6 K (less H fp) B B' H' r v f1->Rep K B' No H' (.dct (.len a) k ks' xs') u f2->(f1++f2).Nodup->(∀ b∈f2,B' b=none/\less H fp b=none/\H' b≠none) ->
    ∃ P',SI K H0 B0 B' H' σ (τ.set i (some (.dct t k ks' xs'))) P' F/\aD B B'/\j6 H H'/\fK H0 B' H' P' F f1:=by
 have hi':i<τ.length:=(Qt.mp hi).1;obtain⟨A,f,C,e,h1,h2⟩:=I.rep.cut hi';obtain⟨v0,ev,r0⟩:=h1 _ hi;have hv:∃ a,v0=.ref a:=by obtain⟨a,_,_,z,_⟩:=r0.EY ht;exact⟨a,z⟩
 obtain⟨a,rfl⟩:=hv;have nd:=I.nd;rw[e]at nd;have inP:∀ b∈f,b∈P:=λ b m=>by rw[e];exact eQ A f C b m
 have ndf:f.Nodup:=(nd.sublist (Rp _ _)).sublist (QZ _ _);refine⟨a,f,ev,LY ht r0,ndf,λ b m=>⟨(I.own b (inP b m)).1,inP b m⟩,?_⟩;intro B' H' r v u f1 f2 ks' xs' ro rx nd2 ow;have I0:SI K H0 B0 B H (σ.set i (some .bW)) (τ.set i (some .bW)) (A++[]++C) F:=I.put hi' e h2 (kI.same λ a m=>I.rep.own a (inP a m)) (d':=.bW) (v':=.bW) (f':=[]) ⟨rfl,rfl⟩ Rl λ a m=>by cases m
 have nin:∀ b∈f,b∉A++[]++C:=λ b m z=>by
  rw[QQ]at z;rw[QL,QL]at nd;rcases QH.mp z with z|z
  ·exact nd.1.2.2 b z b m rfl
  ·exact nd.2.2 b (QJ _ m) b z rfl
 have k0:fK H0 B H (A++[]++C) F f:=⟨ndf,λ b m=>⟨(I.own b (inP b m)).1,(I.own b (inP b m)).2.1,I.stands (inP b m),nin b m,(I.own b (inP b m)).2.2⟩⟩;obtain⟨I1,k1⟩:=I0.pQ k0 r0.own ro;obtain⟨_,k2⟩:=I0.pQ k0 r0.own (fq:=f2) ⟨ro.h0,ro.b0,ro.bh,ro.nb,rx,(nd2.sublist (QZ _ _)),ow⟩;obtain⟨rfl,rx'⟩:=FH ht r0 rx;obtain⟨P',I2,hP'⟩:=I1.set i rx' k2;rw[List.set_set,List.set_set]at I2;have es:σ.set i (some (.ref a))=σ:=by
  refine SE λ k=>?_;by_cases hk:k=i
  ·subst hk;rw[RW (Qt.mp ev).1,ev]
  ·rw[Se (Rr hk)]
 rw[es]at I2;rw[QL]at nd2;refine⟨P',I2,ro.b0,λ b o eb n=>ro.h0 b o ?_,⟨k1.nd,λ b m=>?_⟩⟩
 ·rw[fu λ m=>?_]
  ·exact eb
  ·obtain⟨o',eo,mo⟩:=r0.own b m;rw[eb]at eo;cases eo;exact n mo
 ·obtain⟨b1,b2,b3,b4,b5⟩:=k1.own b m;exact⟨b1,b2,b3,λ z=>(hP' b z).elim b4 λ z=>nd2.2.2 b m b z rfl,b5⟩
def FG {k:Nat}{y:Str}{p1:Pos}(i:Nat)(C:jq X.prog X.w X.K X.mg X.base k x ps (LW X.K G))(hr:dD k X.A)(hg:Gl X x)(ha:PA X es (pB X.K tQ fs))(hN:X.N[i]?=some y:=by rfl)(hv:zS X.env.scope y:=by first|exact Or.inl rfl|exact Or.inr (Or.inl rfl)|exact Or.inr (Or.inr rfl))(hd:#[81]:=by decide)
  (hcd:(y == ("__classdict__" : Str))=false:=by decide) (hdb:#[3]:=by decide)
  (he:starEach (.Name y p1::es) X.env=(false,eval (.Name y p1) X.env)::starEach es X.env:=by rfl) (hpl:#[35].any (·.1)=false:=by rfl):PE X (.Call (.Name x p) (.Name y p1::es) [] pos) (Kf X.K (kP i G fs)):=by
 refine PE.imp (tK C hr hg (cN (ic hN hv hd hcd) ha he) hdb he hpl) λ σ H Q hq=>ex8 hq λ H0 B0 B τ P F I h=>?_;unfold kP at h;cases z:l8 τ i with
 |none=>rw[z]at h;exact h.elim
 | some q =>
  obtain⟨t,kd,ks,xs⟩:=q;rw[z]at h;obtain⟨hi,ht⟩:=oG z;obtain⟨a,_,ev,_⟩:=I.lent hi ht;refine⟨.ref a,ev,H0,B0,B,τ,P,F,I,?_⟩;have h:rJ X.K H0 B0 B H σ P F Q ((fs τ).bind λ ds=>if aX ds=true then (km G kd ks xs ds).bind λ y=>if y.1.aN=true then .bad else .ok (y.1,τ.set i (some (.dct t kd y.2.1 y.2.2))) else .bad):=h;cases ef:fs τ with
  |bad=>rw[ef]at h;exact h.elim|dY C=>rw[ef]at h;exact h.elim
  | ok ds =>
   rw[ef]at h;intro vs H1 B1 fq I1 s1 b1 r1 k1;show LW X.K G ((.ref a::vs)++[]) H1 Q E0;rw[QQ];have h:rJ X.K H0 B0 B H σ P F Q (if aX ds=true then (km G kd ks xs ds).bind λ y=>if y.1.aN=true then .bad else .ok (y.1,τ.set i (some (.dct t kd y.2.1 y.2.2))) else .bad):=h;split at h
   ·rename_i hp;cases ec:km G kd ks xs ds with
    |bad=>rw[ec]at h;exact h.elim|dY C=>rw[ec]at h;exact h.elim
    | ok y =>
     rw[ec]at h;have h:rJ X.K H0 B0 B H σ P F Q (if y.1.aN=true then .bad else .ok (y.1,τ.set i (some (.dct t kd y.2.1 y.2.2)))):=h;split at h
     ·exact h.elim
     ·obtain⟨a',fp,ev',rd,nd,ow,back⟩:=I1.lent hi ht;rw[ev]at ev';cases ev';have ef0:fq=[]:=sF.2 ds hp r1;subst ef0;refine⟨B1,a,kd,ks,xs,fp,vs,ds,rfl,I1.bh,rd,r1.gj (cB _ hp),nd,λ b m=>(ow b m).1,?_⟩;rw[AH ec a];intro B' H' v u f1 f2 ro rx n2 o2;obtain⟨P',I2,sB,im,kv⟩:=back ro rx n2 o2;exact h v H' B' P' f1 I2 (b1.trans sB) ((j6.of s1).trans im) (λ b o nb eb=>ro.h0 b o (by rw[fu λ m=>nb (ow b m).2];exact s1 b o eb)) ro.rep kv
   ·exact h.elim
end
end DL
namespace DL
open PySem PySem.Spec PyProof.Rows L2
variable {F:#[30]}{X:Cx}{G:DF}{e elt iter tg:Expr}{B B0 H H0:Hp}{σ:L2.St}{P:#[9]}{ps:#[79]}{j:Nat}{p pos:Pos}{τ:SD}{it:#[136]}{fe:#[29]}{scope:Scope}{x y:Str}{Y:XY}
def yV (j:Nat)(f:SD->Res (D×SD))(τ:SD):Fl:=match f τ with
 |.ok (d,τ')=>if d.aN=true then .bad else .nx (τ'.set j (some d))
 |_=>.bad
def pR (f:SD->Res (D×SD))(τ:SD):Res (D×SD):=match f τ with
 |.ok (d,τ')=>(fT [d]).bind λ x=>.ok (x,τ')
 |_=>.bad
section
variable {K:#[0]}{f:SD->Res (D×SD)}
def LZ{pos':Pos}(hN:X.N.Nodup)(hi:X.N[j]?=some x)(hx:#[189])(he:PE X e (Kf X.K f))(hs:#[70]:=by rfl)(hf:#[23]:=by first|exact .inl rfl|exact .inr rfl) :
  PS X (.Assign [.Name x pos'] e pos) (jf X.K Y (yV j f)):=
 PS.imp (wV hN hi hx he hs hf) λ E σ H hq=>ex7 hq λ H0 B0 B τ P I h=>by
  refine⟨H0,B0,B,τ,P,No,I,?_⟩;unfold yV at h;cases z:f τ with
  |bad=>rw[z]at h;exact h.elim|dY C=>rw[z]at h;exact h.elim
  | ok q =>
   obtain⟨d,τ'⟩:=q;rw[z]at h;intro v H' B' P' fp I' sB im kp r k;have h:bY X.K Y H0 B0 B H E (if d.aN=true then .bad else .nx (τ'.set j (some d))):=h;split at h
   ·exact h.elim
   ·obtain⟨P2,I2,_⟩:=I'.set j r k;exact h B' H' _ P2 ⟨I2,sB,im⟩
def Dh (hg:Gl X "sorted")(hm:X.mg "sorted" = none)(he:PE X e (Kf X.K f))(hst:#[26]:=by rfl)(hpl:(backTo pos (starEach [] X.env)).any (·.1)=false:=by rfl) :
  PE X (.Call (.Name "sorted" p) [e] [] pos) (Kf X.K (pR f)):=by
 refine PE.imp (lO jw hg hm #[141] (cN he gP hst) (he:=hst) (hpl:=hpl)) λ σ H Q hq=>ex8 hq λ H0 B0 B τ P F I h=>?_;refine⟨H0,B0,B,τ,P,F,I,?_⟩;unfold pR at h;cases z:f τ with
 |bad=>rw[z]at h;exact h.elim|dY C=>rw[z]at h;exact h.elim
 | ok q =>
  obtain⟨d,τ'⟩:=q;rw[z]at h;intro v H' B' P' fp I' sB im kp r k;replace h:rJ X.K H0 B0 B H σ P F Q ((fT [d]).bind λ x=>.ok (x,τ')):=h;cases d with
  | lst t xs =>
   have es:fT [.lst t xs]=(match intsOf xs with|some ns=>if ns.length<64 then .ok (.lst .own ((sortI ns).map D.int)) else .bad|none=>.bad):=rfl;cases e1:intsOf xs with
   | none =>
    rw[e1]at es;rw[es]at h;exact h.elim
   | some ns =>
    by_cases hl:ns.length<64
    ·rw[e1]at es;replace es:fT [.lst t xs]=(if ns.length<64 then .ok (.lst .own ((sortI ns).map D.int)) else .bad):=es;rw[QG hl]at es;rw[es]at h;have ex:=gF e1;subst ex;have rl:∃ a vs,v=.ref a/\fH X.K H' a vs/\vs=ns.map V.int:=by
      cases t with
      |own=>obtain⟨a,vs,g,e2,q,l,_⟩:=r;exact⟨a,vs,e2,fH.of q,(fU l).1⟩| bor=>obtain⟨a,vs,e2,q,l,_⟩:=r;exact⟨a,vs,e2,eV I'.bh #[116],(fU l).1⟩| av=>obtain⟨a,vs,e2,q,l,_⟩:=r;exact⟨a,vs,e2,eV I'.bh q,(fU l).1⟩| len a=>exact False.elim r
     obtain⟨a,vs,rfl,q,rfl⟩:=rl;refine⟨a,ns,rfl,q,hl,λ p ns' hp h1 h2=>?_⟩;have e2:ns'=sortI ns:=fD (h1.trans (sortI_perm ns).symm) h2 (jc ns);subst e2;have s:=iJ (o:=.lst ((sortI ns).map V.int)) hp;obtain⟨n1,n2,n3,n4⟩:=I'.yy hp;exact h (.ref p) _ B' P' [p] (I'.grow s) sB (im.trans (j6.of s)) (λ b o nb eb=>s b o (kp b o nb eb)) ⟨p,_,[],rfl,bI,j9 _,rfl⟩ ⟨Q8.mpr ⟨R5,Rl⟩,λ b m=>by
      rw[QM.mp m];exact⟨n1,n2,(by rw[bI];exact Rx _),n3,n4⟩⟩
    ·rw[e1]at es;replace es:fT [.lst t xs]=(if ns.length<64 then .ok (.lst .own ((sortI ns).map D.int)) else .bad):=es;rw[QK hl]at es;rw[es]at h;exact h.elim
  |_=>exact h.elim
end
def pS (G:DF)(fs:#[34])(k:Bool):List D->List KT->List D->Res (List D×List KT×List D)
 |[],ks,xs=>.ok ([],ks,xs)
 |b::r,ks,xs=>(fs [some b,none]).bind λ ds=>if aX ds=true then (km G k ks xs ds).bind λ y=>if y.1.aN=true then .bad else (pS G fs k r y.2.1 y.2.2).bind λ z=>.ok (y.1::z.1,z.2) else .bad
def ko (j i:Nat)(it:#[136])(G:DF)(fs:#[34])(τ:SD):Fl:=match l8 τ i,it τ with
 | some (t,k,ks,xs),.ok (false,ds)=>if aX ds=true then (match pS G fs k ds ks xs with
   |.ok (rs,ks',xs')=>if rs.length<=16777216 then .nx ((τ.set i (some (.dct t k ks' xs'))).set j (some (.lst .own rs))) else .bad
   |_=>.bad) else .bad
 |_,_=>.bad
section
variable {K:#[0]}
def Di{fs:#[34]}{i:Nat}{nm:Str}{t:Tg}{k:Bool}{ks ks':List KT}{xs xs' ds rs:List D}{Q:VK}(I:#[15])(hi:τ[i]?=some (some (.dct t k ks xs)))(ht:t.jh=true)(hit:it τ=.ok (false,ds))(hp:aX ds=true)
  (hfs:∀ b x y,fs [some b,x]=fs [some b,y]) (hc:pS G fs k ds ks xs=.ok (rs,ks',xs')) (hl:rs.length<=16777216)
  (h:∀ v H' B' P' fp,SI K H0 B0 B' H' σ (τ.set i (some (.dct t k ks' xs'))) P' F->aD B B'->j6 H H'->Rep K B' No H' (.lst .own rs) v fp->fK H0 B' H' P' F fp->Q v H') :
  tG (EJ K Y it) (EO K (gN 0)) (kJ K tQ dI) (Kf K (kP 1 G fs)) 1 [(nm,i)] σ H Q:=by
 refine⟨H0,B0,B,τ,P,F,I,?_⟩;rw[hit];intro J H1 B1 fpi I1 s1 b1 k1 JA acc hacc;obtain⟨Ix,sBx⟩:=I1.J0 k1;generalize hBx:atRest B1 H1 (· ∈ fpi)=Bx at Ix sBx;have uBx:aD Bx H1:=Ix.bh;have J1:Lm K J (aK ds) Bx H1:=JA Bx sBx uBx (λ a m o e=>by rw[<-hBx];exact fS m e) (λ hf=>by cases hf);rw[br _ hp]at J1;obtain⟨a,fp,ev,rd,nd,ow,back⟩:=Ix.lent hi ht;have sacc:aD H1 (upd H1 acc (.lst [])):=iJ hacc;have st:∀ b∈fp,∃ o,H1 b=some o/\rZ o:=rd.own;have ecap:qH σ [(nm,i)]=[some (.ref a)]:=by
  show [(σ[i]?).join]=_;rw[ev];rfl
 have C0:SI K (less H1 fp) Bx Bx (upd H1 acc (.lst [])) (List.replicate 1 none++qH σ [(nm,i)]) [none,some (.dct (.len a) k ks xs)] fp (λ b=>b=acc\/b∈([]:#[9])):=by
  rw[ecap];refine⟨uBx.trans sacc,kj.trans sacc,aD.refl _,λ b n=>.inl n,⟨none,_,rfl,.ref a,[],fp,[],rfl,rd.mono sacc #[52] (λ _ x=>x),⟨rfl,rfl⟩,(QQ _).symm⟩,nd,λ b m=>⟨(ow b m).1,sL m,λ z=>?_⟩,λ b m=>?_⟩
  ·obtain⟨o,eo,_⟩:=st b m;have:b=acc:=z.elim id λ z=>by cases z
   rw[this,hacc]at eo;cases eo
  ·have:b=acc:=m.elim id λ z=>by cases z
   subst this;exact⟨uBx.free hacc,by rw[bI];exact Rx _⟩
 refine⟨λ n m τv ys H'=>m=ds.length-n/\n<=ds.length/\∃ B' o Pb es fe rest ksi xsi,SI K (less H1 fp) Bx B' H' τv [o,some (.dct (.len a) k ksi xsi)] Pb (λ b=>b=acc\/b∈fe)/\H' acc=some (.lst ys)/\az K B' No H' es ys fe/\fe.Nodup /\
   (∀ b∈fe,less H1 fp b=none)/\pS G fs k (ds.drop n) ksi xsi=.ok (rest,ks',xs')/\rs=es++rest/\acc∉fe,⟨_,rfl,RS _,Bx,none,fp,[],[],rs,ks,xs,C0,bI,⟨rfl,rfl⟩,Rl,(λ a m=>by cases m),hc,rfl,by simp⟩,?_⟩
 rintro n m τv ys H' ⟨rfl,hle,B',o,Pb,es,fe,rest,ksi,xsi,C,ha,re,ndf,own,ec,ex,hna⟩;have im:j6 H1 H':=λ b o eb nm=>C.h0 b o (by
  rw[fu λ m=>?_]
  ·exact eb
  ·obtain⟨o',eo,mo⟩:=st b m;rw[eb]at eo;cases eo;exact nm mo)
 by_cases hlt:n<ds.length
 ·obtain⟨d,hd⟩:∃ d,ds[n]?=some d:=⟨ds[n],Qo hlt⟩;have hdrop:ds.drop n=d::ds.drop (n+1):=by
   rw[R9 hlt]
   congr 1
   rw[Qo hlt]at hd;exact Rq hd
  rw[hdrop]at ec;unfold pS at ec;refine .inr ⟨J1.go B' H' n d C.b0 C.bh im hd,λ x H'' y=>?_⟩;obtain⟨sy,ry⟩:=J1.Cp B' H' n d x H'' C.b0 C.bh im hd y;refine⟨less H1 fp,Bx,B',_,Pb,_,d,[],C.grow sy,ry,fK.nil,?_⟩;show ∀ H' σ' P',SI K (less H1 fp) Bx B' H' σ' [some d,some (.dct (.len a) k ksi xsi)] P' _->H'=H''->_;intro H3 σ3 P3 I3 e3;subst e3;refine⟨less H1 fp,Bx,B',_,P3,_,I3,?_⟩;show ∀ H' B'',SI K (less H1 fp) Bx B'' H' σ3 [some d,some (.dct (.len a) k ksi xsi)] P3 _->aD H3 H'->aD B' B''->_;intro H4 B4 I4 s4 b4;have re4:az K B4 No H4 es ys fe:=re.mono (sy.trans s4) b4 λ _ x=>x;have ha4:H4 acc=some (.lst ys):=s4 _ _ (sy _ _ ha);rw[QG rfl];refine⟨less H1 fp,Bx,B4,_,P3,_,I4,?_⟩;obtain⟨ds2,e2,ec⟩:=aU ec;split at ec
  ·rename_i hp2;obtain⟨y2,ey2,ec⟩:=aU ec;split at ec
   ·cases ec
   ·rename_i hb2;obtain⟨z2,ez2,ec⟩:=aU ec;obtain⟨rest',ks2,xs2⟩:=z2;cases ec;have ecall:kP 1 G fs [some d,some (.dct (.len a) k ksi xsi)]=.ok (y2.1,[some d,some (.dct (.len a) k y2.2.1 y2.2.2)]):=by
     show((fs [some d,some (.dct (.len a) k ksi xsi)]).bind λ ds=>if aX ds=true then (km G k ksi xsi ds).bind λ y=>if y.1.aN=true then .bad else .ok (y.1,[some d,some (.dct (.len a) k y.2.1 y.2.2)]) else .bad)=_;rw[hfs d _ none,e2,Res.aU,QG hp2,ey2,Res.aU,QK hb2]
    rw[ecall];intro v H5 B5 P5 fv I5 b5 im5 kp5 r5 k5;have outP:∀ b,b=acc\/b∈fe->b∉P3:=λ b m z=>(I4.own b z).2.2 m;have ha5:H5 acc=some (.lst ys):=kp5 _ _ (outP acc (.inl rfl)) ha4;have kp3:kI H4 H5 P3:=⟨λ b o eb nb=>kp5 b o nb eb,λ b m=>I4.rep.own b m⟩;have re5:az K B5 No H5 es ys fe:=(re4.keep kp3 λ b m=>outP b (.inr m)).mono #[52] b5 λ _ x=>x;have hlen:ys.length<sizeLine:=by
     rw[<-re.length,Rg];have:=RL List.length ex;simp at this;omega
    refine⟨ha5,hlen,_,by omega,rfl,hlt,?_⟩;have Ih:=I5.hold k5;have fdis:∀ b∈fv,b∉fe/\b≠acc:=λ b m=>⟨λ z=>(k5.own b m).2.2.2.2 (.inr z),λ z=>(k5.own b m).2.2.2.2 (.inl z)⟩;have Ih2:SI K (less H1 fp) Bx B5 H5 σ3 [some d,some (.dct (.len a) k y2.2.1 y2.2.2)] P5 (λ b=>b=acc\/b∈fe++fv):=Ih.xg λ b m=>by
     rcases m with m|m
     ·exact .inr (.inl m)
     ·rcases QH.mp m with m|m
      ·exact .inr (.inr m)
      ·exact .inl m
    have lacc:less H1 fp acc=none:=kj.free hacc;have Iw:=Ih2.ET (o':=.lst (ys++[v])) (.inl rfl) lacc ha5 trivial;have kp:kI H5 (upd H5 acc (.lst (ys++[v]))) [acc]:=⟨λ b u h n=>by rw[aZ (by simpa using n)];exact h,λ b m=>by
     have:b=acc:=by simpa using m
     subst this;exact⟨_,ha5,trivial⟩⟩
    refine⟨B5,some d,P5,es++[y2.1],fe++fv,rest',y2.2.1,y2.2.2,Iw,bI,?_,QL.mpr ⟨ndf,k5.nd,λ a h1 b h2 e=>(fdis b h2).1 (e▸h1)⟩,λ b m=>?_,ez2,by rw[ex];simp,λ m=>?_⟩
    ·refine az.append (re5.keep kp λ b m z=>?_) (az.one (r5.keep kp λ b m z=>?_))
     ·have:b=acc:=by simpa using z
      exact hna (this▸m)
     ·have:b=acc:=by simpa using z
      exact(fdis b m).2 this
    ·rcases QH.mp m with m|m
     ·exact own b m
     ·exact(k5.own b m).2.1
    ·rcases QH.mp m with m|m
     ·exact hna m
     ·exact(fdis acc m).2 rfl
  ·cases ec
 ·have e:n=ds.length:=by omega
  subst e;rw[U5]at ec;cases ec;rw[QQ]at ex;subst ex;refine .inl ⟨J1.stop B' H' C.b0 C.bh im,?_⟩;have lacc:less H1 fp acc=none:=kj.free hacc;have ro:g6 K (less H1 fp) Bx B' H' (.lst .own rs) (.ref acc) (acc::fe):=⟨C.h0,C.b0,C.bh,C.nb,⟨acc,ys,fe,rfl,ha,re,rfl⟩,Q8.mpr ⟨hna,ndf⟩,λ b m=>by
   rcases QA.mp m with m|m
   ·subst m;exact⟨(C.fr b (.inl rfl)).1,lacc,(C.fr b (.inl rfl)).2⟩
   ·exact⟨(C.fr b (.inr m)).1,own b m,(C.fr b (.inr m)).2⟩⟩
  obtain⟨u,f2,_,rx,sf⟩:=C.rep.get (i:=1) (d:=.dct (.len a) k ks' xs') rfl;have hF:∀ b∈acc::fe,b∉Pb:=λ b m z=>(C.own b z).2.2 ((QA.mp m).imp id id);obtain⟨P',I2,sB2,im2,kv⟩:=back ro rx (QL.mpr ⟨ro.nd,C.nd.sublist sf,λ b m c m2 z=>hF b m (z▸sf.subset m2)⟩) λ b m=>⟨(C.own b (sf.subset m)).1,(C.own b (sf.subset m)).2.1,C.stands (sf.subset m)⟩;exact h (.ref acc) H' B' P' (acc::fe) I2 (b1.trans (sBx.trans sB2)) ((j6.of s1).trans im2) ro.rep kv
def FI {Pr:#[83]}{w:World}{mg:#[8]}{base:Heap}{st:Stmt}{k:Nat}(Df:jM K mg x st ps):jq Pr w K mg base k x ps (LW K λ _=>.bad):=by
 obtain⟨f,fd,F,hm,hb⟩:=Df.ex;exact⟨f,fd,hm,F.kp,hb,λ vs H Q E h=>by obtain⟨_,_,_,_,_,_,_,_,_,_,_,_,_,_,h⟩:=h;exact h.elim,λ A outer s H args us vs Q E hr he hbd hv h=>by obtain⟨_,_,_,_,_,_,_,_,_,_,_,_,_,_,h⟩:=h;exact h.elim⟩
variable{own:#[79]}
def AI {i:Nat}{b nm:Str}{py spos pb:Pos}{fs:#[34]}(hN:X.N.Nodup)(hi':X.N[j]?=some y)(hy:Loc X.env.scope y)(ok:ie X scope [b] [(nm,i)])(hc:X.calm=true)(hi:PI X (.Name b pb) iter (EJ X.K Y it))(Bl:i9 X scope [b] [(nm,i)] (.Name b pb) [] elt (EO X.K (gN 0)) (kJ X.K tQ dI) (Kf X.K (kP 1 G fs)))
  (hfs:∀ b x y,fs [some b,x]=fs [some b,y]:=by intro _ _ _;rfl)
  (hsw:swapsWith (.ListComp elt [⟨.Name b pb,iter,[],0⟩] scope pos) (some (.Name y py)) spos.line X.env=pure true:=by rfl)
  (hf:#[63]:=by first|exact .inl rfl|exact .inr rfl) (hs:#[39]:=by intro _;rfl) :
  PS X (.Assign [.Name y py] (.ListComp elt [⟨.Name b pb,iter,[],0⟩] scope pos) spos) (jf X.K Y (ko j i it G fs)):=by
 refine PS.imp (tE hN hi' hy ok hc hi Bl hsw hf hs) λ E σ H hq=>ex7 hq λ H0 B0 B τ P I h=>?_;unfold ko at h;split at h
 ·rename_i t k ks xs ds z e;obtain⟨hi0,ht⟩:=oG z;split at h
  ·rename_i hp;split at h
   ·rename_i rs ks' xs' ec;split at h
    ·rename_i hl;refine Di I hi0 ht e hp hfs ec hl λ v H' B' P' fp I' sB im r k=>?_;obtain⟨P2,I2,_⟩:=I'.set j r k;exact h B' H' _ P2 ⟨I2,sB,im⟩
    ·exact h.elim
   ·exact h.elim
  ·exact h.elim
 ·exact h.elim
end
section
variable {K:#[0]}
def cU.drop:∀ {τ:SD}{σ:L2.St}{P:#[9]}{i:Nat}{d:D},cU K B H τ σ P->τ[i]?=some (some d)->∃ v A f C,σ[i]?=some (some v)/\Rep K B No H d v f/\P=A++f++C/\cU K B H (τ.set i none) σ (A++C)
 |[],_,_,i,_,_,e=>by simp at e
 |none::r,σ,P,0,d,h,e=>by simp at e
 | none::r,σ,P,i+1,d,h,e=>by
  obtain⟨o,t,rfl,h⟩:=h;obtain⟨v,A,f,C,h1,h2,h3,h4⟩:=cU.drop (i:=i) h (by simpa using e);exact⟨v,A,f,C,by simpa using h1,h2,h3,⟨o,t,rfl,h4⟩⟩
 | some d::r,σ,P,0,d',h,e=>by
  obtain⟨v,t,f,g,rfl,h1,h2,rfl⟩:=h;have e:d=d':=by simpa using e
  subst e;exact⟨v,[],f,g,rfl,h1,rfl,⟨some v,t,rfl,h2⟩⟩
 | some d::r,σ,P,i+1,d',h,e=>by
  obtain⟨v,t,f,g,rfl,h1,h2,rfl⟩:=h;obtain⟨w,A,f',C,a1,a2,a3,a4⟩:=cU.drop (i:=i) h2 (by simpa using e);subst a3;exact⟨w,f++A,f',C,by simpa using a1,a2,by simp,⟨v,t,f,A++C,rfl,h1,a4,by simp⟩⟩
end
def uo (j:Nat)(G:DF)(f:#[29])(τ:SD):Res (D×SD):=match gY τ j with
 |some xs=>(f τ).bind λ d=>if d.pure=true/\aX xs=true then (G [d,.lst .own xs]).bind λ r=>if r.aN=true then .bad else .ok (r,τ.set j none) else .bad
 |none=>.bad
section
variable {K:#[0]}{f:SD->Res (D×SD)}
def SI.given{xs:List D}(I:#[15])(hi:τ[j]?=some (some (.lst .own xs))) :
  ∃ a fp,σ[j]?=some (some (.ref a))/\Rep K B No H (.lst .own xs) (.ref a) fp/\fp.Nodup/\(∀ b∈fp,B b=none/\b∈P) /\
   ∀ {B' H':Hp}{r:D}{v:V}{f1:#[9]},g6 K (less H fp) B B' H' r v f1 ->
    ∃ P',SI K H0 B0 B' H' σ (τ.set j none) P' F/\aD B B'/\j6 H H'/\fK H0 B' H' P' F f1:=by
 obtain⟨v,A,f,C,h1,h2,h3,h4⟩:=I.rep.drop hi;obtain⟨a,rfl⟩:∃ a,v=.ref a:=by obtain⟨a,_,_,z,_⟩:=h2;exact⟨a,z⟩
 have nd:=I.nd;rw[h3]at nd;have inP:∀ b∈f,b∈P:=λ b m=>by rw[h3];exact eQ A f C b m
 have ndf:f.Nodup:=(nd.sublist (Rp _ _)).sublist (QZ _ _);have sb:List.Sublist (A++C) P:=by
  rw[h3,QY];exact(Rm A).append (QZ f C)
 have nin:∀ b∈f,b∉A++C:=λ b m z=>by
  rw[QL,QL]at nd;rcases QH.mp z with z|z
  ·exact nd.1.2.2 b z b m rfl
  ·exact nd.2.2 b (QJ _ m) b z rfl
 have I0:SI K H0 B0 B H σ (τ.set j none) (A++C) F:=⟨I.bh,I.h0,I.b0,I.nb,h4,I.nd.sublist sb,λ a m=>I.own a (sb.subset m),I.fr⟩;have k0:fK H0 B H (A++C) F f:=⟨ndf,λ b m=>⟨(I.own b (inP b m)).1,(I.own b (inP b m)).2.1,I.stands (inP b m),nin b m,(I.own b (inP b m)).2.2⟩⟩;refine⟨a,f,h1,h2,ndf,λ b m=>⟨(I.own b (inP b m)).1,inP b m⟩,?_⟩;intro B' H' r v f1 ro;obtain⟨I1,k1⟩:=I0.pQ k0 h2.own ro;refine⟨A++C,I1,ro.b0,λ b o eb n=>ro.h0 b o ?_,k1⟩;rw[fu λ m=>?_]
 ·exact eb
 ·obtain⟨o',eo,mo⟩:=h2.own b m;rw[eb]at eo;cases eo;exact n mo
def L3 {k:Nat}{p1:Pos}(j:Nat)(C:jq X.prog X.w X.K X.mg X.base k x ps (IF X.K G))(hr:dD k X.A)(hg:Gl X x)(ha:PE X e (tM X.K tQ fe))(hN:X.N[j]?=some y:=by rfl)(hv:zS X.env.scope y:=by first|exact Or.inl rfl|exact Or.inr (Or.inl rfl)|exact Or.inr (Or.inr rfl))(hd:#[81]:=by decide)
  (hcd:(y == ("__classdict__" : Str))=false:=by decide) (hdb:#[3]:=by decide)
  (he:starEach [e,.Name y p1] X.env=(false,eval e X.env)::starEach [.Name y p1] X.env:=by rfl) (he2:starEach [.Name y p1] X.env=(false,eval (.Name y p1) X.env)::starEach [] X.env:=by rfl) (hpl:(backTo pos (starEach [.Name y p1] X.env)).any (·.1)=false:=by rfl):PE X (.Call (.Name x p) [e,.Name y p1] [] pos) (Kf X.K (uo j G fe)):=by
 refine PE.imp (tK C hr hg (cN ha (cN (ic hN hv hd hcd) gP he2) he) hdb he hpl) λ σ H Q hq=>ex8 hq λ H0 B0 B τ P F I h=>?_;unfold uo at h;cases z:gY τ j with
 |none=>rw[z]at h;exact h.elim
 | some xs =>
  rw[z]at h;have hi:=ik z;obtain⟨a,_,ev,_⟩:=I.given hi;refine⟨H0,B0,B,τ,P,F,I,?_⟩;have h:rJ X.K H0 B0 B H σ P F Q ((fe τ).bind λ d=>if d.pure=true/\aX xs=true then (G [d,.lst .own xs]).bind λ r=>if r.aN=true then .bad else .ok (r,τ.set j none) else .bad):=h;cases ef:fe τ with
  |bad=>rw[ef]at h;exact h.elim|dY C=>rw[ef]at h;exact h.elim
  | ok d =>
   rw[ef]at h;intro v H1 B1 fq I1 s1 b1 r1 k1;refine⟨.ref a,ev,?_⟩;show IF X.K G ([v,.ref a]++[]) H1 Q E0;rw[QQ];have h:rJ X.K H0 B0 B H σ P F Q (if d.pure=true/\aX xs=true then (G [d,.lst .own xs]).bind λ r=>if r.aN=true then .bad else .ok (r,τ.set j none) else .bad):=h;split at h
   ·rename_i hp;cases ec:G [d,.lst .own xs] with
    |bad=>rw[ec]at h;exact h.elim|dY C=>rw[ec]at h;exact h.elim
    | ok r =>
     rw[ec]at h;have h:rJ X.K H0 B0 B H σ P F Q (if r.aN=true then .bad else .ok (r,τ.set j none)):=h;split at h
     ·exact h.elim
     ·obtain⟨a',fp,ev',rd,nd,ow,back⟩:=I1.given hi;rw[ev]at ev';cases ev';have ef0:fq=[]:=sF.1 d hp.1 r1;subst ef0;refine⟨B1,[d,.lst .own xs],fp,I1.bh,?_,nd,λ b m=>(ow b m).1,?_⟩
      ·exact⟨v,[.ref a],[],fp,rfl,r1.gj (aQ _ hp.1),⟨.ref a,[],fp,[],rfl,rd,⟨rfl,rfl⟩,by rw[QQ]⟩,rfl⟩
      ·rw[ec];intro B' H' v' fq' ro;obtain⟨P',I2,sB,im,kv⟩:=back ro;exact h v' H' B' P' fq' I2 (b1.trans sB) ((j6.of s1).trans im) (λ b o nb eb=>ro.h0 b o (by rw[fu λ m=>nb (ow b m).2];exact s1 b o eb)) ro.rep kv
   ·exact h.elim
end
section
variable {K:#[0]}{ifs:List Expr}{own:#[79]}{cap:List (Str×Nat)}{it:SD->Res (D×SD)}{tgd:xo}{tt:#[59]}
end
section
variable{a b:Expr}{es:List Expr}{fa fb:#[29]}{fs:#[34]}
def dR{id:String}{r:#[188]}{g:List D->Res D}(hc:eK X (.builtin id) r)(hgd:jz X.K Y r g)(hm:X.mg x=none)(ha:#[97])(hv:bootBuiltins x=some (.builtin id):=by decide +kernel)(hg:Gl X x:=by rfl)(hn:#[115] :=by decide)(hdb:#[3]:=by decide)
  (he:#[5]:=by rfl) (hpl:#[35].any (·.1)=false:=by rfl):PE X #[42] (tM X.K Y (eA g fs)):=HY hc hgd hg hm hv ha hn hdb he hpl
def vg{id:String}{r:#[188]}{g:List D->Res D}(hc:eK X (.type id) r)(hgd:jz X.K Y r g)(hm:X.mg x=none)(ha:#[97])(hv:bootBuiltins x=some (.type id):=by decide +kernel)(hg:Gl X x:=by rfl)(hn:#[115] :=by decide)(hdb:#[3]:=by decide)
  (he:#[5]:=by rfl) (hpl:#[35].any (·.1)=false:=by rfl):PE X #[42] (tM X.K Y (eA g fs)):=EE hc hgd hg hm hv ha hn hdb he hpl
def ba (ha:#[65])(hb:#[133])(hs:w6 b:=by intro _ _;rfl):PE X (.Subscript a b pos) (tM X.K Y (ai bB fa fb)):=Pg Ld Pn ha hb hs
def xD {op:CmpOp}{r:R2}{g:D->D->Res D}(ho:jK X (compareOp op) r)(hg:tP X.K Y r g)(ha:#[65])(hb:#[133])(hm:behindInMarks op b=false:=by first|exact kE _|with_unfolding_all rfl):PE X (.Compare a [op] [b] pos) (tM X.K Y (ai g fa fb)):=Nr ho hg ha hb hm
def bG {op:CmpOp}{r:R2}{g:D->D->Res D}(ho:jK X (compareOp op) r)(hg:tP X.K Y r g)(ha:#[65])(hb:#[133])(hm:behindInMarks op b=false:=by first|exact kE _|with_unfolding_all rfl):PT X (.Compare a [op] [b] pos) (kJ X.K Y (eT (ai g fa fb))):=lX ho hg ha hb hm
def cW (ha:#[46])(hs:#[26]:=by rfl):PA X [e] (pB X.K Y (aa fe ak)):=aB ha bu hs
def kQ (ha:#[46])(hb:#[133])(hs:starEach [e,b] X.env=(false,eval e X.env)::starEach [b] X.env:=by rfl)(hs2:starEach [b] X.env=(false,eval b X.env)::starEach [] X.env:=by rfl):PA X [e,b] (pB X.K Y (aa fe (aa fb ak))):=aB ha (cW hb hs2) hs
def aI{pos':Pos}(i:Nat)(hN:X.N.Nodup)(he:#[46])(hi:#[78]:=by rfl)(hx:#[189]:=by first|exact Or.inl rfl|exact Or.inr rfl)(hs:#[70]:=by rfl)(hf:#[23]:=by first|exact .inl rfl|exact .inr rfl) :
  PS X (.Assign [.Name x pos'] e pos) (jf X.K Y (aL i fe)):=NH hN hi hx he hs hf
def bx(i:Nat)(hN:X.N.Nodup)(hi:#[78]:=by rfl)(hx:#[189]:=by first|exact Or.inl rfl|exact Or.inr rfl)(hf:#[23]:=by first|exact .inl rfl|exact .inr rfl):PG X (.Name x pos) (EO X.K (gN i)):=Ll hN hi hx hf
def jB {k m:Nat}(hx:XF.J6 X Y)(C:XF.yL X.prog X.w X.K X.mg X.base k x ps (XF.Io X.K G))(hr:dD m X.A)(ha:#[97])(hk:k<=m:=by first|decide|omega)(hg:Gl X x:=by rfl)(hdb:#[3]:=by decide)
  (he:#[5]:=by rfl) (hpl:#[35].any (·.1)=false:=by rfl):PE X #[42] (tM X.K Y (XF.dz G fs)):=XF.LH hx C (hr.mono hk) hg ha hdb he hpl
def aW {k m:Nat}(C:jq X.prog X.w X.K X.mg X.base k x ps (jr X.K G))(hr:dD m X.A)(ha:#[97])(hk:k<=m:=by first|decide|omega)(hg:Gl X x:=by rfl)(hdb:#[3]:=by decide)
  (he:#[5]:=by rfl) (hpl:#[35].any (·.1)=false:=by rfl):PE X #[42] (tM X.K Y (aF G fs)):=NJ C (hr.mono hk) hg ha hdb he hpl
end
section
variable{ifs:List Expr}{cap:List (Str×Nat)}{tgd:xo}{tt:#[59]}{n:Nat}
def kT{own:#[79]}{py spos:Pos}(i:Nat)(hN:X.N.Nodup)(ok:#[140])(hc:X.calm=true)(hi:PI X tg iter (EJ X.K Y it))(Bl:#[169])(hi':X.N[i]?=some y:=by rfl)(hy:Loc X.env.scope y:=by first|exact Or.inl rfl|exact Or.inr rfl)
  (hsw:#[158]:=by rfl)
  (hf:#[63]:=by first|exact .inl rfl|exact .inr rfl) (hs:#[39]:=by intro _;rfl) :
  PS X (.Assign [.Name y py] #[20] spos) (jf X.K Y (aL i (cu it tgd tt fe own.length cap))):=CT hN hi' hy ok hc hi Bl hsw hf hs
def kR (l:#[79])(h:l.Nodup:=by decide +kernel):l.Nodup:=h
end
end DL
namespace L2
open PySem
def nz {N P:#[79]}{sc:Scope}(h1:sc.kind=.function:=by rfl)(h2:sc.isCoroutine=false:=by rfl)(h3:sc.isGenerator=false:=by rfl)(h4:N.Nodup:=by decide +kernel)(h5:N.take P.length=P:=by rfl)(h6:∀ x∈P,sc.names.lookup x=some .local\/sc.names.lookup x=some .cell:=by decide +kernel)(h7:∀ y∈sc.names,y.2 ≠ .free:=by decide +kernel):aP N P sc:=⟨h1,h2,h3,h4,h5,h6,h7⟩
end L2
namespace L2
open PySem PySem.Spec PyProof.Rows
def yW:∀ {ns ms:#[6]},ns.length=ms.length->((List.range ns.length).all λ j=>ns.getD j 0 == ms.getD j 0)=decide (ns=ms):=by
 intro ns ms h;rw[Sy,TZ,Td];constructor
 ·intro a;refine RM h λ j h1 h2=>?_;have:=a j (QU.mpr h1);rw[Qq,Qq,Qo h1,Qo h2]at this;simpa using this
 ·intro e j _;rw[e];exact U6 _
section
variable {X:Cx}
def IP (K:#[0])(neg:Bool):R2:=λ x y H Q=>∃ (a b:Addr) (ns ms:#[6]),x=.ref a/\y=.ref b/\fH K H a #[135]/\fH K H b (ms.map V.int)/\Q (.bl (xor neg (decide (ns=ms)))) H
def pP {s:Shared}{A:#[127]}{ns ms:#[6]}{i1 i2:#[17]}(r1:Vals #[135] i1)(r2:Vals (ms.map V.int) i2)(j:Nat)(h1:j<i1.toArray.size)(h2:j<i2.toArray.size):SeqAt.EqAt A s i1.toArray[j] i2.toArray[j] (ns.getD j 0 == ms.getD j 0):=by
 obtain⟨t,e1⟩:=xC r1 (Q7 h1);obtain⟨t',e2⟩:=xC r2 (Q7 h2);rw[e1,e2];exact SeqAt.EqAt.int_int (A:=A) (s:=s) (ns.getD j 0) t (ms.getD j 0) t'
def L4 (hu:X.A.units+1<cLine):jK X (compareOp .Eq) (IP X.K false):=by
 intro pins s σ H x y v u Q I rx ry h;obtain⟨a,b,ns,ms,rfl,rfl,ha,hb,q⟩:=h;cases rx;cases ry;obtain⟨i1,r1,p1,_⟩:=I.list ha;obtain⟨i2,r2,p2,_⟩:=I.list hb;have l1:=r1.length;have l2:=r2.length;rw[Qs]at l1 l2;rw[UE]at q;by_cases hl:ns.length=ms.length
 ·have h:=SeqAt.RcAt.lists (A:=X.A) p1.isList p2.isList (by rw[Qz,Qz];omega) #[1] (pP r1 r2);rw[Qz,<-l1,yW hl]at h;exact h _ _ _ _ ⟨.bl _,H,I,rfl,q⟩
 ·have h:=SeqAt.RcAt.lists_lengths (A:=X.A) p1.isList p2.isList (by rw[Qz,Qz,<-l1,<-l2];simpa using hl) #[1];rw[QF λ z=>hl (RL List.length z)]at q;exact h _ _ _ _ ⟨.bl false,H,I,rfl,q⟩
def qS (hu:X.A.units+1<cLine):jK X (compareOp .NotEq) (IP X.K true):=by
 intro pins s σ H x y v u Q I rx ry h;obtain⟨a,b,ns,ms,rfl,rfl,ha,hb,q⟩:=h;cases rx;cases ry;obtain⟨i1,r1,p1,_⟩:=I.list ha;obtain⟨i2,r2,p2,_⟩:=I.list hb;have l1:=r1.length;have l2:=r2.length;rw[Qs]at l1 l2;rw[Bool.true_xor]at q;by_cases hl:ns.length=ms.length
 ·have h:=SeqAt.RcNeAt.lists (A:=X.A) p1.isList p2.isList (by rw[Qz,Qz];omega) #[1] (pP r1 r2);rw[Qz,<-l1,yW hl]at h;exact h _ _ _ _ ⟨.bl _,H,I,rfl,q⟩
 ·have h:=SeqAt.RcNeAt.lists_lengths (A:=X.A) p1.isList p2.isList (by rw[Qz,Qz,<-l1,<-l2];simpa using hl) #[1];rw[QF λ z=>hl (RL List.length z)]at q;exact h _ _ _ _ ⟨.bl true,H,I,rfl,q⟩
end
end L2
namespace DL
open PySem PySem.Spec PyProof.Rows L2
variable {x:Str}
def mh (neg:Bool)(x y:D):Res D:=match x,y with
 | .lst _ xs,.lst _ ys=>match intsOf xs,intsOf ys with
  |some ns,some ms=>.ok (.bl (xor neg (decide (ns=ms))))
  |_,_=>.bad
 |_,_=>.bad
section
variable {K:#[0]}{Y:XY}{X:Cx}{pos p:Pos}{e:Expr}{fe:#[29]}
def wd (neg:Bool):tP K Y (IP K neg) (mh neg):=by
 intro H0 B0 B H σ τ P F d1 d2 x y f1 f2 Q I r1 r2 k h;unfold mh at h;split at h
 ·split at h
  ·rename_i ns ms e1 e2;have ex:=gF e1;have ey:=gF e2;subst ex ey;obtain⟨a,vs,g,rfl,q,l,s⟩:=r1.lst I;obtain⟨b,us,g',rfl,q',l',s'⟩:=r2.lst I;obtain⟨rfl,rfl⟩:=fU l;obtain⟨rfl,rfl⟩:=fU l';exact⟨a,b,ns,ms,rfl,rfl,q,q',Out.here h I ⟨rfl,rfl⟩⟩
  ·exact h.elim
 ·exact h.elim
end
def yY (x y:D):Res D:=match x with
 |.str _=>Nz x y
 |_=>mh true x y
def yZ (i:Nat)(fk fv:#[29])(τ:SD):Fl:=(fv τ).ja τ λ d=>match gY τ i with
 | some xs=>(fk τ).ja τ λ dk=>match dk,d with
  |.int k,.int y=>if 0<=k/\k.toNat<xs.length/\(intsOf xs).isSome=true then .nx (τ.set i (some (.lst .own (xs.set k.toNat (.int y))))) else .bad
  |_,_=>.bad
 |none=>.bad
def ur (G:DF)(f:#[29])(g:SD->Res (D×SD))(τ:SD):Res (D×SD):=(f τ).bind λ d=>if d.pure=true then (g τ).bind λ q=>(G [d,q.1]).bind λ r=>if r.aN=true then .bad else .ok (r,q.2) else .bad
def yX (i:Nat)(f:SD->Res (D×SD))(τ:SD):Fl:=match f τ with
 |.ok (d,τ')=>.nx (τ'.set i (some d))
 |_=>.bad
section
variable (K:#[0])(H0 B0 B H:Hp)(σ:L2.St)(F:#[30])
def BO (Q:VK):Res (D×SD)->Prop
 |.ok (d,τ')=>∀ v H' B' P' fp,SI K H0 B0 B' H' σ τ' P' F->aD B B'->j6 H H'->Rep K B' No H' d v fp->fK H0 B' H' P' F fp->Q v H'
 |_=>False
end
def OB (K:#[0])(f:SD->Res (D×SD)):TE:=λ σ H Q=>∃ H0 B0 B τ P F,SI K H0 B0 B H σ τ P F/\BO K H0 B0 B H σ F Q (f τ)
section
variable {K:#[0]}{Y:XY}{H0 B0 B H:Hp}{σ:L2.St}{τ:SD}{P:#[9]}{F:#[30]}{X:Cx}{pos p:Pos}{e e2:Expr}{fe fv:#[29]}{f g:SD->Res (D×SD)}
def Kg:tP K Y (λ x y H Q=>OR x y H Q\/IP K true x y H Q) yY:=by
 intro H0 B0 B H σ τ P F d1 d2 x y f1 f2 Q I r1 r2 k h;unfold yY at h;split at h
 ·exact .inl (Nx I r1 r2 k h)
 ·exact .inr (wd true I r1 r2 k h)
def toV (h:PE X e (Kf X.K f)):PE X e (OB X.K f):=PE.imp h λ σ H Q hq=>ex8 hq λ H0 B0 B τ P F I h=>by
 refine⟨H0,B0,B,τ,P,F,I,?_⟩;cases z:f τ with
 |ok q=>rw[z]at h;exact λ v H' B' P' fp a b c _ d e=>h v H' B' P' fp a b c d e
 |bad=>rw[z]at h;exact h.elim|dY C=>rw[z]at h;exact h.elim
def L5 {k:Nat}{ps:#[79]}{G:DF}(C:jq X.prog X.w X.K X.mg X.base k x ps (IF X.K G))(hr:dD k X.A)(hg:Gl X x)(ha:PE X e (tM X.K tQ fe))(h2:PE X e2 (OB X.K g))(hdb:#[3]:=by decide)
  (he:starEach [e,e2] X.env=(false,eval e X.env)::starEach [e2] X.env:=by rfl) (he2:starEach [e2] X.env=(false,eval e2 X.env)::starEach [] X.env:=by rfl) (hpl:(backTo pos (starEach [e2] X.env)).any (·.1)=false:=by rfl):PE X (.Call (.Name x p) [e,e2] [] pos) (OB X.K (ur G fe g)):=by
 refine PE.imp (tK C hr hg (cN ha (cN h2 gP he2) he) hdb he hpl) λ σ H Q hq=>ex8 hq λ H0 B0 B τ P F I h=>?_;refine⟨H0,B0,B,τ,P,F,I,?_⟩;unfold ur at h;cases ef:fe τ with
 |bad=>rw[ef]at h;exact h.elim|dY C=>rw[ef]at h;exact h.elim
 | ok d =>
  rw[ef]at h;intro v H1 B1 fq I1 s1 b1 r1 k1;have h:BO X.K H0 B0 B H σ F Q (if d.pure=true then (g τ).bind λ q=>(G [d,q.1]).bind λ r=>if r.aN=true then .bad else .ok (r,q.2) else .bad):=h;split at h
  ·rename_i hp;have ef0:fq=[]:=sF.1 d hp r1;subst ef0;refine⟨H0,B0,B1,τ,P,F,I1,?_⟩;cases eg:g τ with
   |bad=>rw[eg]at h;exact h.elim|dY C=>rw[eg]at h;exact h.elim
   | ok q =>
    obtain⟨d2,τ'⟩:=q;rw[eg]at h;have h:BO X.K H0 B0 B H σ F Q ((G [d,d2]).bind λ r=>if r.aN=true then .bad else .ok (r,τ')):=h;intro v2 H2 B2 P2 f2 I2 sB im r2 k2;show IF X.K G ([v,v2]++[]) H2 Q E0;rw[QQ];cases ec:G [d,d2] with
    |bad=>rw[ec]at h;exact h.elim|dY C=>rw[ec]at h;exact h.elim
    | ok r =>
     rw[ec]at h;have h:BO X.K H0 B0 B H σ F Q (if r.aN=true then .bad else .ok (r,τ')):=h;split at h
     ·exact h.elim
     ·refine⟨B2,[d,d2],f2,I2.bh,?_,k2.nd,λ b m=>(k2.own b m).1,?_⟩
      ·exact⟨v,[v2],[],f2,rfl,Rep.stay sB im rfl (r1.gj (aQ _ hp)),⟨v2,[],f2,[],rfl,r2,⟨rfl,rfl⟩,by rw[QQ]⟩,rfl⟩
      ·rw[ec];intro B' H' v' fq' ro;obtain⟨I3,k3⟩:=I2.pQ k2 r2.own ro;refine h v' H' B' P2 fq' I3 (b1.trans (sB.trans ro.b0)) ((j6.of s1).trans (im.trans λ b o eb n=>ro.h0 b o ?_)) ro.rep k3;rw[fu λ m=>?_]
       ·exact eb
       ·obtain⟨o',eo,mo⟩:=r2.own b m;rw[eb]at eo;cases eo;exact n mo
  ·exact h.elim
def L8{pos':Pos}(i:Nat)(hN:X.N.Nodup)(he:PE X e (OB X.K f))(hi:#[78]:=by rfl)(hx:#[189]:=by first|exact Or.inl rfl|exact Or.inr rfl)(hs:#[70]:=by rfl)(hf:#[23]:=by first|exact .inl rfl|exact .inr rfl) :
  PS X (.Assign [.Name x pos'] e pos) (jf X.K Y (yX i f)):=
 PS.imp (wV hN hi hx he hs hf) λ E σ H hq=>ex7 hq λ H0 B0 B τ P I h=>by
  refine⟨H0,B0,B,τ,P,No,I,?_⟩;unfold yX at h;cases z:f τ with
  |bad=>rw[z]at h;exact h.elim|dY C=>rw[z]at h;exact h.elim
  | ok q =>
   obtain⟨d,τ'⟩:=q;rw[z]at h;intro v H' B' P' fp I' sB im r k;obtain⟨P'',I'',_⟩:=I'.set i r k;exact h B' H' _ P'' ⟨I'',sB,im⟩
def az.setInt {S:#[30]}{y:Int}:∀ {k:Nat}{ns:#[6]}{vs:List V}{f:#[9]},az K B S H #[89] vs f->az K B S H (#[89].set k (.int y)) (vs.set k (.int y)) f
 | _,[],vs,f,r=>by
  obtain⟨rfl,rfl⟩:=r;exact⟨rfl,rfl⟩
 | 0,n::ns,vs,f,r=>by
  obtain⟨v,w,f1,f2,rfl,r1,r2,rfl⟩:=r;obtain⟨rfl,rfl⟩:=r1;exact⟨_,w,[],f2,rfl,⟨rfl,rfl⟩,r2,rfl⟩
 | k+1,n::ns,vs,f,r=>by
  obtain⟨v,w,f1,f2,rfl,r1,r2,rfl⟩:=r;exact⟨v,_,f1,f2,rfl,r1,az.setInt r2,rfl⟩
def L7 {n:Nat}{k:Int}(h:0<=k)(h':k.toNat<n):DQ n k=some k.toNat:=by
 unfold DQ;rw[QG h,QG #[1]]
def L6 (i:Nat){p1 pos':Pos}{ke value:Expr}{fk:#[29]}(hk:PE X ke (tM X.K Y fk))(hv:PE X value (tM X.K Y fv))(hN:#[78]:=by rfl)(hvi:zS X.env.scope x:=by first|exact Or.inl rfl|exact Or.inr (Or.inl rfl)|exact Or.inr (Or.inr rfl))(hd:#[3]:=by decide)(hcd:#[44]:=by decide)
  (ha:∀ v,assign (.Subscript #[68] ke pos') X.env v=(do
   let ov <-holding [v] (eval #[68] X.env)
   let iv <-holding [v,ov] (eval ke X.env)
   standAt pos'
   holding [v,ov,iv] (setItem ov iv v)
   release [v,ov,iv] []):=by intro _;rfl)
  (hs:swapsWithSole [.Subscript #[68] ke pos'] value pos.line X.env=pure false:=by rfl) (hw:swappedStores [.Subscript #[68] ke pos'] value X.env=pure none:=by rfl)
  (h1:(assignEach [.Subscript #[68] ke pos'] X.env).map (·.2)=[assign (.Subscript #[68] ke pos') X.env]:=by rfl):PS X (.Assign [.Subscript #[68] ke pos'] value pos) (jf X.K Y (yZ i fk fv)):=by
 refine PS.imp (Ko hv (K1 (ic hN hvi hd hcd) hk set_list ha) hs hw h1) λ E σ H hq=>ex7 hq λ H0 B0 B τ P I h=>?_;refine j7 I h λ d v H1 B1 fp _ I1 s1 b1 r1 k1 h1=>?_;cases z:gY τ i with
 |none=>rw[z]at h1;exact h1.elim
 | some xs =>
  rw[z]at h1;have hi:=ik z;obtain⟨a,vs,ea,ha,hl⟩:=I1.listAt hi;refine⟨.ref a,ea,j7 I1 h1 λ dk vk H2 B2 fq _ I2 s2 b2 r2 k2 h2=>?_⟩;cases dk with
  | int k =>
   cases d with
   | int y =>
    simp only at h2;split at h2
    ·rename_i hz;obtain⟨z0,z1,z2⟩:=hz;obtain⟨ns,en⟩:=RY.mp z2;have ex:=gF en;subst ex;obtain⟨rfl,rfl⟩:=r1;obtain⟨rfl,rfl⟩:=r2;have ha2:=s2 a _ ha;obtain⟨P',I'⟩:=I2.CP (xs':=#[89].set k.toNat (.int y)) (vs':=vs.set k.toNat (.int y)) (gp:=[]) hi ea fK.nil (λ f _ rl=>⟨f,az.setInt rl,λ b m=>.inl m,λ nf _=>nf⟩) ha2;exact⟨a,vs,k,k.toNat,rfl,rfl,ha2,L7 z0 (by rw[<-hl];exact z1),h2 B2 _ σ P' I'⟩
    ·exact h2.elim
   |_=>exact h2.elim
  |_=>exact h2.elim
end
end DL
namespace SR
open PySem
variable {xs:Array Nat}{led:Bool}{j:Nat}
abbrev xF (xs:Array Nat):Prop:=xs.toList.Pairwise (· < ·)
def sM(h:xF xs){i:Nat}{a b:Nat}(hi:xs[i]?=some a)(hj:xs[j]?=some b)(hij:i<j):a<b:=by
 rw[<-Ru]at hi hj;obtain⟨h1,e1⟩:=Qt.mp hi;obtain⟨h2,e2⟩:=Qt.mp hj;rw[<-e1,<-e2];exact UN.mp h i j h1 h2 hij
def xE {xs:Array Nat}{j:Nat}(hr:xF xs):∀ (fuel lo hi:Nat),lo<=hi->hi<=xs.size->hi-lo<=fuel->(∀ (i a:Nat),xs[i]?=some a->i<lo->a<j)->(∀ (i a:Nat),xs[i]?=some a->hi<=i->j<=a) ->
  SetTable.below.go xs j fuel lo hi<=xs.size/\(∀ (i a:Nat),xs[i]?=some a->i<SetTable.below.go xs j fuel lo hi->a<j)/\(∀ (i a:Nat),xs[i]?=some a->SetTable.below.go xs j fuel lo hi<=i->j<=a)
 | 0,lo,hi,h1,h2,h3,h4,h5=>by
  have e:lo=hi:=by omega
  subst e;exact⟨h2,h4,h5⟩
 | fuel+1,lo,hi,h1,h2,h3,h4,h5=>by
  unfold SetTable.below.go;by_cases hlt:lo<hi
  ·rw[QG hlt];have hm:(lo+hi)/2<hi:=by omega
   have hm2:lo<=(lo+hi)/2:=by omega
   have hs:(lo+hi)/2<xs.size:=by omega
   have hg:xs[(lo+hi)/2]?=some xs[(lo+hi)/2]:=Q7 hs;have hd:xs.getD ((lo+hi)/2) j=xs[(lo+hi)/2]:=by rw[Sn,hg];rfl
   show(if xs.getD ((lo+hi)/2) j<j then SetTable.below.go xs j fuel ((lo+hi)/2+1) hi else SetTable.below.go xs j fuel lo ((lo+hi)/2))<=_/\_;by_cases hc:xs.getD ((lo+hi)/2) j<j
   ·simp only[QG hc];refine xE hr fuel _ _ #[1] h2 #[1] (λ i a ha hi'=>?_) h5;rcases Vc i ((lo+hi)/2) with q|q
    ·have:=sM hr ha hg q;rw[hd]at hc;omega
    ·have e:i=(lo+hi)/2:=by omega
     subst e;rw[hg]at ha;cases ha;rw[hd]at hc;exact hc
   ·simp only[QK hc];refine xE hr fuel _ _ hm2 #[1] #[1] h4 (λ i a ha hi'=>?_);rw[hd]at hc;rcases Vc ((lo+hi)/2) i with q|q
    ·have:=sM hr hg ha q;omega
    ·have e:i=(lo+hi)/2:=by omega
     subst e;rw[hg]at ha;cases ha;omega
  ·rw[QK hlt];have e:lo=hi:=by omega
   subst e;exact⟨h2,h4,h5⟩
def oK(hr:xF xs)(j:Nat):SetTable.below xs j<=xs.size/\(∀ (i a:Nat),xs[i]?=some a->i<SetTable.below xs j->a<j)/\(∀ (i a:Nat),xs[i]?=some a->SetTable.below xs j<=i->j<=a):=
 xE hr xs.size 0 xs.size (RS _) (QD _) (QD _) (λ _ _ _ h=>absurd h (Sz _)) λ i a ha h=>by
  have:=(Tc.mp ha).1;omega
def FL(hr:xF xs)(hn:xs[SetTable.below xs j]?≠some j):xF (SetTable.insertAt xs (SetTable.below xs j) j):=by
 obtain⟨h1,h2,h3⟩:=oK hr j;unfold xF;rw[SetTable.toList_insertAt];have hr':xs.toList.Pairwise (· < ·):=hr;rw[<-Rv (SetTable.below xs j) xs.toList]at hr';obtain⟨p1,p2,p3⟩:=SG.mp hr';have lo:∀ a∈xs.toList.take (SetTable.below xs j),a<j:=λ a ha=>by
  obtain⟨i,hi,e⟩:=List.getElem_of_mem ha;rw[RA]at hi;rw[List.getElem_take]at e;exact h2 i a (by rw[<-Ru,<-e];exact Qo #[1]) #[1]
 have hi:∀ a∈xs.toList.drop (SetTable.below xs j),j<a:=λ a ha=>by
  obtain⟨i,hi,e⟩:=List.getElem_of_mem ha;rw[R3]at hi;rw[List.getElem_drop]at e;have hg:xs[SetTable.below xs j+i]?=some a:=by rw[<-Ru,<-e];exact Qo #[1]
  have g:=h3 _ a hg (Nat.le_add_right _ _);rcases Nat.lt_or_eq_of_le g with g|g
  ·exact g
  ·subst g;rcases UG i with z|z
   ·subst z;exact absurd hg hn
   ·have hg0:xs[SetTable.below xs j]?=some (xs[SetTable.below xs j]'(by simp at hi;omega)):=Q7 _;have l:=sM hr hg0 hg #[1];have g0:=h3 _ _ hg0 (QD _);omega
 refine SG.mpr ⟨p1,UC.mpr ⟨hi,p2⟩,λ a ha b hb=>?_⟩;rcases QA.mp hb with rfl|hb
 ·exact lo a ha
 ·exact TV (lo a ha) (hi b hb)
structure Good (led:Bool)(t:SetTable):Prop where
 led:t.led=led
 rise:xF t.place
 PD:t.dummies = #[]
def AJ (led:Bool):Good led (SetTable.fresh 0 0 led):=⟨rfl,List.Pairwise.nil,rfl⟩
def kU{t:SetTable}(g:Good led t)(n:Nat):Good led (t.standIn n):=⟨g.led,by
 show(Array.range n).toList.Pairwise (· < ·);rw[Array.toList_range];exact List.pairwise_lt_range,rfl⟩
def AL{t:SetTable}(g:Good led t):Good led { t with plain:=false }:=⟨g.led,g.rise,g.PD⟩
def BP (j:Nat):SetTable.has #[] j=false:=by
 unfold SetTable.has;simp
def vh{t:SetTable}(g:Good led t)(j:Nat):t.slot j ≠ .dummy:=by
 unfold SetTable.slot;rw[g.PD,BP];simp only[QV,SQ];split<;>simp
def AM {t:SetTable}(h:t.slot j=.empty):t.place[SetTable.below t.place j]?≠some j:=λ e=>by
 unfold SetTable.slot at h;simp only[e,U6,TU]at h;cases h
def uu {led:Bool}{t:SetTable}(g:Good led t){h:Int}:∀ (fuel:Nat) (p:SetTable.Probe) (j:Nat) (d:Option Nat),p.dummy=none->SetTable.probe.go t (λ _=>h+1) h fuel p=some (.empty j d)->d=none/\t.slot j=.empty
 |0,p,j,d,_,e=>by unfold SetTable.probe.go at e;cases e
 | fuel+1,p,j,d,hp,e=>by
  unfold SetTable.probe.go at e;cases z:t.slot p.j with
  | empty =>
   rw[z]at e;simp only[SH,SetTable.Met.empty.injEq]at e;exact⟨e.2.symm.trans hp,e.1▸z⟩
  |dummy=>exact absurd z (vh g p.j)
  | live i =>
   rw[z]at e;have hne:(h+1 == h)=false:=by
    rw[Ti];omega
   simp only[hne,QV,SQ]at e;refine uu g fuel (t.advance p) j d ?_ e;unfold SetTable.advance;split
   ·exact hp
   ·exact hp
def Dj{t:SetTable}(g:Good led t){h:Int}{b:Bool}(e:t.freeSlot h=some (j,b)):t.slot j=.empty:=by
 unfold SetTable.freeSlot at e;split at e
 ·rename_i j' d hp;obtain⟨rfl,hs⟩:=uu g _ _ j' d rfl hp;simp only[U3,Option.isSome_none,SH,Prod.mk.injEq]at e;exact e.1▸hs
 ·cases e
def FJ{t:SetTable}(g:Good led t)(h:t.slot j=.empty):Good led (t.put j).1:=by
 refine⟨g.led,FL g.rise (AM h),?_⟩;show(if SetTable.has t.dummies j=true then SetTable.eraseAt t.dummies (SetTable.below t.dummies j) else t.dummies) = #[];rw[g.PD,BP];rfl
def FN{t:SetTable}(g:Good led t)(es:Array (Int×Value))(h:Int)(x:Value):Good led (layNew t es h x).2.1:=by
 unfold layNew;split
 ·rename_i slot b e;show Good led ((t.put slot).1.orStandIn _);have gp:=FJ g (Dj g e);unfold SetTable.orStandIn;split
  ·exact gp
  ·exact kU gp _
 ·exact kU g _
def Dk (n:Nat)(f:Nat->Option Nat):((#[131].filterMap λ j=>(f j).map (j,·)).map (·.1)).Pairwise (· < ·):=by
 have hs:((#[131].filterMap λ j=>(f j).map (j,·)).map (·.1)).Sublist #[131]:=by
  induction List.range n with
  |nil=>exact List.Sublist.slnil
  | cons a r ih =>
   cases e:f a with
   |none=>rw[List.filterMap_cons_none (by rw[e];rfl)];exact ih.cons a|some b=>rw[List.filterMap_cons_some (b:=(a,b)) (by rw[e];rfl)];exact ih.cons₂ a
 exact List.pairwise_lt_range.sublist hs
def AK{t:SetTable}(g:Good led t)(es:Array (Int×Value))(w:Nat):Good led (relayAll t es w).2.1:=by
 unfold relayAll;split
 ·rename_i t' order e;dsimp only;split
  ·unfold SetTable.relaid SetTable.laid at e;simp only[Option.bind_eq_bind,Option.bind_eq_some_iff]at e;obtain⟨owner,_,e⟩:=e;simp only[Option.pure_def,SH,Prod.mk.injEq]at e;obtain⟨e,_⟩:=e;subst e;exact⟨g.led,by simpa[xF] using Dk _ λ j=>owner.getD j none,rfl⟩
  ·exact kU g _
 ·exact kU g _
end SR
namespace SR
open PySem PySem.Spec PyProof.Rows
section
variable {prog:#[83]}{w:World}{A:#[127]}{E:#[7]}{s:Shared}{led:Bool}
def jS (prog:#[83])(w:World)(led:Bool)(h:Heap)(a:Addr)(S:Int->Bool)(n:Nat):Prop:=
 ∃ o es ep t,h.get? a=some o/\o.ExactSet/\o.data=.set es ep t/\ElemsOf #[119] es.toList/\(∀ k,S k=true↔∃ e∈es.toList,#[119].is k e.2=true)
  /\ es.size<scanBound/\t.fits es.size=true/\es.size=n/\Good led t
def jS.store {h:Heap}{a:Addr}{o:Obj}{es es':Array (Int×Value)}{ep:Nat}{t t':SetTable}{S':Int->Bool}(ho:h.get? a=some o)(hex:o.ExactSet)(hd:#[93])
  (hel:ElemsOf #[119] es'.toList) (hmem:∀ k,S' k=true↔∃ e∈es'.toList,#[119].is k e.2=true) (hb:es'.size<scanBound) (hf:t'.fits es'.size=true) (g:Good led t') :
  (h.update a (Obj.putSet es' t')).get? a=some { o with data:=.set es' (ep+1) t' }/\jS prog w led (h.update a (Obj.putSet es' t')) a S' es'.size:=by
 obtain⟨hg,_⟩:=SetOf_store (knd:=intKind prog w) ho hex hd hel hmem hb hf;exact⟨hg,_,es',ep+1,t',hg,hex,rfl,hel,hmem,hb,hf,rfl,g⟩
def FO {gw:Bool->Sem Unit}(hg:∀ (b:Bool) (s₁:Shared) (Q':Unit->Shared->Prop),Q' () s₁->wpAny #[14] A (gw b) Q' E s₁)
  {a:Addr}{o:Obj}{es es1:Array (Int×Value)}{ep:Nat}{t t2:SetTable}{S':Int->Bool} (ho:#[191]) (hex:o.ExactSet) (hd:#[93])
  (hel1:ElemsOf #[119] es1.toList) (hmem1:∀ k',S' k'=true↔∃ e∈es1.toList,#[119].is k' e.2=true)
  (hb1:es1.size<scanBound) (hf2:t2.fits es1.size=true) (g2:Good led t2) {wasDummy:Bool}{R:Option Bool->Shared->Prop}
  (h:∀ h',Heap.SameBut a s.heap h'->jS prog w led h' a S' es1.size->R (some true) { s with heap:=h' }) :
  wpAny #[14] A (do
    storeSet a es1 t2
    if (!wasDummy&&t2.tooFull)=true then do
      gw #[137].2.2
      storeSet a #[137].1 #[137].2.1
      pure (some true)
     else pure (some true)) R E s:=by
 refine Qn (wpAny_storeSet_of ho hd ?_ (UW hb1));obtain⟨ho1,hS1⟩:=jS.store (prog:=prog) (w:=w) (led:=led) ho hex hd hel1 hmem1 hb1 hf2 g2;have hsb1:=Sj s.heap a (Obj.putSet es1 t2);split
 ·have hp:=relayAll_perm t2 es1 (SetTable.grown es1.size);have hfr:=relayAll_fits t2 es1 (SetTable.grown es1.size);have gr:=AK g2 es1 (SetTable.grown es1.size);have hsz:#[137].1.size=es1.size:=by rw[<-Rn,hp.length_eq,Rn]
  have hb2:#[137].1.size<scanBound:=by rw[hsz];exact hb1
  refine Qn (hg _ _ _ (Qn (wpAny_storeSet_of ho1 rfl ?_ (UW hb2))));obtain⟨_,hS2⟩:=jS.store (prog:=prog) (w:=w) (led:=led) ho1 hex rfl (hel1.perm hp) (λ k'=>(hmem1 k').trans ⟨λ ⟨e,he,q⟩=>⟨e,hp.mem_iff.mpr he,q⟩,λ ⟨e,he,q⟩=>⟨e,hp.mem_iff.mp he,q⟩⟩) hb2 hfr gr;rw[hsz]at hS2;exact Qu (h _ (hsb1.trans (Sj _ a _)) hS2)
 ·exact Qu (h _ hsb1 hS1)
def NZ {a:Addr}{S:Int->Bool}{n:Nat}{k:Int}{x:Value}{Q:Bool->Shared->Prop}(hkey:#[119].is k x=true)(hsc:x.scannable=true)(hS:jS prog w led s.heap a S n)(hroom:n+1<scanBound)
  (h:∀ h',Heap.SameBut a s.heap h'->jS prog w led h' a (λ k'=>S k'||decide (k'=k)) (if S k then n else n+1)->Q (!S k) { s with heap:=h' }) :
  wpAny #[14] A (setAddHashed a x (#[119].hash k)) Q E s:=by
 obtain⟨o,es,ep,t,ho,hex,hd,hel,hmem,hb,hf,hn,g⟩:=hS;have hb1:es.size+1<scanBound:=by rw[hn];exact hroom
 unfold setAddHashed setAddHashedIn;refine RG (Qn (Sh ho hd hf ?_));dsimp only;rw[byScan_of hsc hb hel];simp only[↓reduceIte];unfold setAddByScan;refine Qn (Qn (TF (Qn (wpAny_setScan_of hkey ho hd hf hel ?_))));cases hr:List.findIdx? (λ e=>#[119].is k e.2) es.toList with
 | some j =>
  dsimp only;obtain⟨hj,hpj,_⟩:=TQ.mp hr;have hSk:S k=true:=(hmem k).mpr ⟨es.toList[j],QW hj,hpj⟩;refine Qu (Qu ?_);have e:s={ s with heap:=s.heap }:=by cases s;rfl
  have:=h s.heap (Heap.SameBut.refl a s.heap) ⟨o,es,ep,t,ho,hex,hd,hel,λ k'=>by
   rw[Bool.or_eq_true,TZ,<-hmem k'];exact⟨λ hk=>hk.elim id (λ e=>e▸hSk),.inl⟩,hb,hf,by rw[hSk];exact hn,g⟩
  rw[hSk]at this;rw[e];exact this
 | none =>
  dsimp only;have hSk:S k=false:=by
   cases hk:S k with
   |false=>rfl|true=>obtain⟨e,he,hp⟩:=(hmem k).mp hk;have:=UO.mp hr e he;rw[hp]at this;exact Bool.noConfusion this
  have hgw:∀ (b:Bool) {s₁:Shared}{Q':Unit->Shared->Prop},Q' () s₁->wpAny #[14] A (match b with|true=>rule "set.scan.the-table-gave-way" |false=>pure ()) Q' E s₁:=
   λ b s₁ Q' hq=>by cases b<;>first|exact Qu hq|exact TF hq
  have hperm:=layNew_perm t es (#[119].hash k) x;have hfits:=layNew_fits t es (#[119].hash k) x;have g1:=FN g es (#[119].hash k) x;generalize hL:layNew t es (#[119].hash k) x=L at hperm hfits g1 ⊢;obtain⟨es1,t1,wasDummy,gave⟩:=L;dsimp only at hperm hfits g1 ⊢;rw[Array.toList_push]at hperm;have hel1:ElemsOf #[119] es1.toList:=(hel.push hkey hsc).perm hperm;have hmem1:∀ k',(S k'||decide (k'=k))=true↔∃ e∈es1.toList,#[119].is k' e.2=true:=mem_push_iff hkey hmem hperm;have hsz1:es1.size=n+1:=by rw[<-Rn,hperm.length_eq,Qv,Rn,hn];rfl
  have hb1':es1.size<scanBound:=by rw[hsz1];exact hroom
  refine Qn (hgw _ ?_);have hend:∀ h',Heap.SameBut a s.heap h'->jS prog w led h' a (λ k'=>S k'||decide (k'=k)) es1.size->Q true { s with heap:=h' }:=by
   intro h' hsb hS';have:=h h' hsb;rw[hSk]at this;rw[hsz1]at hS';exact this hS'
  split
  ·refine Qn ?_;rw[hashByValue_scannable 8 hsc];refine Qu ?_;refine FO (led:=led) ?_ ho hex hd hel1 hmem1 hb1' ?_ ?_ ?_
   ·intro b s₁ Q' hq;cases b<;>first|exact Qu hq|exact TF hq
   ·split
    ·exact hfits
    ·exact SetTable.fits_plain_off hfits
   ·split
    ·exact g1
    ·exact AL g1
   ·intro h' hsb hS';dsimp only;exact Qu (hend h' hsb hS')
  ·refine Qn (Qu ?_);simp only[↓reduceIte];refine FO (led:=led) ?_ ho hex hd hel1 hmem1 hb1' hfits g1 ?_
   ·intro b s₁ Q' hq;cases b<;>first|exact Qu hq|exact TF hq
   ·intro h' hsb hS';dsimp only;exact Qu (hend h' hsb hS')
def jS.congr {h:Heap}{a:Addr}{S S':Int->Bool}{n n':Nat}(hS:jS prog w led h a S n)(e:∀ k,S k=S' k)(en:n=n'):jS prog w led h a S' n':=by
 have:S=S':=funext e;subst this en;exact hS
def jS.keep {h h':Heap}{a:Addr}{S:Int->Bool}{n:Nat}(hS:jS prog w led h a S n)(hk:∀ o,h.get? a=some o->h'.get? a=some o):jS prog w led h' a S n:=by
 obtain⟨o,es,ep,t,ho,rest⟩:=hS;exact⟨o,es,ep,t,hk o ho,rest⟩
def IQ (led:Bool){h:Heap}{a:Addr}(ho:h.get? a=some { cls:=.type "set",dict:=none,data:=.set #[] 0 (.fresh 0 0 led) }):jS prog w led h a (λ _=>false) 0:=
 ⟨_,#[],0,_,ho,⟨rfl,rfl,rfl⟩,rfl,λ e he=>by simp at he,λ k=>by simp,by decide,rfl,rfl,AJ led⟩
end
section
variable {prog:#[83]}{w:World}{A:#[127]}{R:Result->Shared->Prop}{I:Addr}{fp wr:#[9]}{G:Array GenState->Array GenState->Prop}{n:Nat}{P:Nat->Value->Prop}{St:Nat->Shared->Prop}{led:Bool}
def Ma (W:WalksS prog w A.in1 I fp wr G n P St)(S:Addr)(hSf:S∉fp)(val:Nat->Int)(hval:∀ i v,P i v->∃ t,v=.int (val i) t)(hb:n+1<scanBound) :
  ∀ (k i:Nat) (s:Shared),n-i=k->i<=n->St i s->jS prog w led s.heap S (λ k'=>(firstMet val i).any (· == k')) (firstMet val i).length ->
   (∀ s',Moved (S::wr) G s s'->jS prog w led s'.heap S (λ k'=>(firstMet val n).any (· == k')) (firstMet val n).length->R (.ok (.ret .none)) s') ->
   codeAny #[14] A (.builtin "set.update.loop" ⟨[.ref S,.ref I],[]⟩) R s:=by
 have hSw:S∉wr:=λ h=>hSf (W.sub _ h);have hsub:∀ b∈wr,b∈S::wr:=λ b hb=>Qw _ hb;intro k
 induction k with
 | zero =>
  intro i s hk hi hst hS hR;have hin:i=n:=by omega
  subst hin;refine S4 F.entry_set_update_loop ?_;rw[SJ TL _];show wpAny _ A.in1 (pyNext (.ref I) >>= _) _ _ s;refine Qn (W.done s _ _ hst λ s' hm=>?_);exact Qu (hR s' (hm.mono hsub) (hS.keep λ o ho=>hm.heap S _ hSw ho))
 | succ k ih =>
  intro i s hk hi hst hS hR;have hlt:i<n:=by omega
  refine S4 F.entry_set_update_loop ?_;rw[SJ TL _];show wpAny _ A.in1 (pyNext (.ref I) >>= _) _ _ s;refine Qn (W.item i s _ _ hlt hst λ v s' hP hst' hm=>?_);obtain⟨t,rfl⟩:=hval i v hP;have hS':=hS.keep (h':=s'.heap) λ o ho=>hm.heap S _ hSw ho;show wpAny _ A.in1 (holding [Value.int (val i) t] (setAdd S (.int (val i) t)) >>= _) _ _ s';refine Qn (RG ?_);unfold setAdd;refine RG (Qn (#[119].pyHash (k:=val i) (intKind_is _ _ _ _) ?_));have hroom:(firstMet val i).length+1<scanBound:=by have:=firstMet_length_le val i;omega
  refine NZ (s:={ s' with toks:=s'.toks+1 }) (intKind_is _ _ _ _) rfl hS' hroom λ h' hsb hS2=>?_;have hSi:jS prog w led h' S (λ k'=>(firstMet val (i+1)).any (· == k')) (firstMet val (i+1)).length:=hS2.congr (λ k'=>by rw[firstMet_succ,step_any]) (by rw[firstMet_succ,step_length]);refine Qu ⟨U1 TL _,ih (i+1) _ #[1] hlt (W.frame _ s' _ _ hst' (SA _) λ b hb o e=>?_) hSi λ s'' hm'' hS''=>?_⟩
  ·rw[hsb.2 b (λ h:b=S=>hSf (by rw[<-h];exact hb))];exact e
  ·refine hR s'' (Moved.trans W.gtrans ((hm.mono hsub).then_heap (SA _) λ b o hb e=>?_) hm'') hS'';rw[hsb.2 b (λ h:b=S=>hb (by rw[h];exact Qx))];exact e
end
variable {T a:Addr}{A:#[127]}{es:Array (Int×Value)}{h:Heap}{S S':Int->Bool}{ep i n slot:Nat}{o:Obj}{Q:Option Value->Shared->Prop}{prog:#[83]}{s:Shared}{x:Value}{E:#[7]}{w:World}
def vj (w:World):Bool:=!w.params.followText "set-order"
abbrev Dl (w:World):Obj:=⟨.type "set",none,.set #[] 0 (.fresh 0 0 (vj w)),#[]⟩
section
def N1 (a:Value){R:#[7]}(h:R #[73] { s with heap:=s.heap.push (Dl w) }):codeAny #[14] A (.call (.builtin "set.__new__") ⟨[.type "set",a],[]⟩) (wants R E) s:=by
 have self:=sub_set_self;refine codeAny_of_tree (Qn (US (F.newCall_set_1 a) (Qu ⟨U1 F.plain_set_new _,S4 F.entry_set_new ?_⟩)));rw[SJ F.plain_set_new _];unfold Builtin.«set.__new__» Builtin.Frozenset.newClass;cases s;dsimp only
 wp_walk
 exact wpAny_askSetting (Qu (Qn (wpAny_alloc (Qu (Qu h)))))
abbrev Made (prog:#[83])(w:World)(s:Shared)(ns:#[6])(n:Nat)(S:Addr)(s':Shared):Prop:=∃ h' tk,s'={ s with heap:=h',toks:=tk }/\jS prog w (vj w) h' S (λ k=>(firstMet (λ i=>ns.getD i 0) n).any (· == k)) (firstMet (λ i=>ns.getD i 0) n).length/\∀ b o,b≠S->s.heap.get? b=some o->h'.get? b=some o
def Mb {l S:Addr}{items:#[152]}{ns:#[6]}(hh:A.handled=none)(hl:s.heap.IsList l items)(hi:IntsAre items.toList ns)(hb:items.size+1<scanBound)(hS:s.heap.get? S=some (Dl w))(ne:l≠S) :
  codeAny #[14] A (.call (.builtin "set.__init__") ⟨[.ref S,.ref l],[]⟩) (wants (λ r s'=>r=.none/\Made prog w s ns items.size S s') E) s:=by
 have hT:s.TypeIs (.ref S) "set" :=⟨_,hS,rfl⟩;refine codeAny_call_builtin F.called_set.init.plain F.entry_set_init (check_set_init_1 hT ?_);obtain⟨⟨c,dc,dt,sl⟩,g1,g2,n,g3⟩:=id hl;simp only at g2 g3;subst g2 g3;have x1:=F.sub_list_set;have x2:=F.sub_list_frozenset;have x3:(Value.type "list" == Value.type "dict")=false:=by decide
 unfold Builtin.«set.__init__» noKeywords Builtin.Frozenset.updateFrom;generalize hI:pyIter=It
 wp_walk
 subst hI;refine UU hl (Qn (wpAny_runValue ?_));have lS:S<s.heap.objs.size:=QC hS;have ll:l<s.heap.objs.size:=QC g1;refine Ma (led:=vj w) ((Walks.list (by simp[hh]) _ l (QT ll) items).toS) S (by simp[QT lS,ne.symm]) (λ i=>ns.getD i 0) (λ i v e=>IntsAre.int_at hi i v (by rw[Ru];exact e)) hb (items.size-0) 0 _ #[1] (RS _)
  ⟨⟨_,QI _ rfl,rfl,rfl⟩,hl.push _⟩ ((IQ (vj w) (Qp _ hS)).congr (λ _=>rfl) rfl) ?_
 rintro⟨h',g',d',tk',os'⟩ hm hG;have e1:g'=s.gens:=hm.gens;have e2:d'=s.drawn:=hm.drawn;have e3:os'=s.os:=hm.os;subst e1 e2 e3;refine Qu (Qu ⟨rfl,h',tk',rfl,hG,λ b o nb e=>hm.heap b o ?_ (Qp _ e)⟩);simp[nb,QT (QC e)]
def AN {l:Addr}{items:#[152]}{ns:#[6]}{Q:#[7]}(hh:A.handled=none)(hl:s.heap.IsList l items)(hi:IntsAre items.toList ns)(hb:items.size+1<scanBound)
  (h:∀ (h':Heap) (tk:Nat),jS prog w (vj w) h' s.heap.objs.size (λ k=>(firstMet (λ i=>ns.getD i 0) items.size).any (· == k)) (firstMet (λ i=>ns.getD i 0) items.size).length->(∀ b o,b<s.heap.objs.size->s.heap.get? b=some o->h'.get? b=some o)->Q #[73] { s with heap:=h',toks:=tk }) :
  wpAny #[14] A (call (.type "set") [.ref l]) Q E s:=by
 have T:=F.called_set;obtain⟨m1,m2,m3⟩:=T.mro;have m4:=T.made;have m5:=T.sub;have m6:=T.notType;have m7:=T.canCreate;have m8:=F.typeCall_set_1 (.ref l);refine Ud (codeAny_of_tree (Qu ⟨Code.quiet_builtin _ #[141],S4 F.entry_type_call ?_⟩));rw[Around.under_plain (weight_type_call_type "set" [.ref l] []) rfl]
 repeat (any_goals (first|assumption|wp_step))
 refine SX (N1 (.ref l) (E:=E) (R:=λ x s'=>x=.ref s.heap.objs.size/\s'={ s with heap:=s.heap.push (Dl w) }) ⟨rfl,rfl⟩) λ r1 s1 q1=>?_;rcases r1 with e|fl
 ·exact q1
 cases fl with
 | ret x =>
  obtain⟨rfl,rfl⟩:=q1;have gS:(s.heap.push (Dl w)).get? s.heap.objs.size=some (Dl w):=QI _ rfl;have y1:=T.init.lookup;have y2:=T.init.bind #[73];have y3:Shared.TypeIs { s with heap:=s.heap.push (Dl w) } #[73] "set" :=⟨_,gS,rfl⟩
  repeat (any_goals (first|assumption|wp_step))
  obtain⟨ol,g1,_⟩:=id hl;refine SX (Mb (E:=E) (ns:=ns) (by simp[hh]) (hl.push _) hi hb gS (QT (QC g1))) λ r2 s2 q2=>?_;rcases r2 with e|fl
  ·exact q2
  cases fl with
  | ret x =>
   obtain⟨rfl,h',tk,rfl,hG,hk⟩:=q2
   repeat (any_goals (first|assumption|wp_step))
   exact h _ _ hG λ b o lb e=>hk b o (QT lb) (Qp _ e)
  |_=>exact q2.elim
 |_=>exact q1.elim
end
def uw:entryFor table "set.__iter__" = some Builtin.«frozenset.__iter__» :=
 entryFor_alias (id':="frozenset.__iter__") (by kernel_rfl) rfl #[141] (by kernel_rfl)
def bU:Slot "set_iterator" "__next__" "set_iterator.__next__" :=
 .of (owner:="set_iterator") (n:="__next__") (by rw[typeLookup_type,Ua];kernel_rfl) #[141] #[141] #[141]
  (by first|exact .inl #[141]|exact .inr #[141]) (by rw[UH];kernel_rfl)
def iE:entryFor table "set_iterator.__next__" = some Builtin.«set_iterator.__next__» :=entryFor_of_tree (by kernel_rfl)
def jd (a:Value):argsOk "set_iterator.__next__" ⟨[a],[]⟩:=by unfold argsOk;kernel_rfl
section
def jk {α:Type}:∀ (l:List α) (i:Nat) (h:i<l.length),(l[i]::l.eraseIdx i).Perm l
 |[],i,h=>absurd h (Sz _)
 |a::l,0,_=>RZ _
 | a::l,i+1,h=>by
  have hi:i<l.length:=by simpa using h
  have ih:=jk l i hi;show(l[i]::a::l.eraseIdx i).Perm (a::l);exact(List.Perm.swap a l[i] _).trans (List.Perm.cons a ih)
def AO {M:Model}{src:Source}{Q:Nat->Shared->Prop}(hn:n≠0)(h:∀ (i:Nat) d,i<n->Q i { s with drawn:=d }):wpAny M A (choose src n) Q E s:=λ Γ p hΓ=>
 ⟨hn,h _ _ (Nat.mod_lt _ (Nat.pos_of_ne_zero hn))⟩
def y9 {M:Model}{α:Type}:∀ (n:Nat) (xs:List α) (s:Shared) (Q:List α->Shared->Prop),xs.length=n->(∀ ys d,ys.Perm xs->Q ys { s with drawn:=d })->wpAny M A (drawOrder n xs) Q E s
 | 0,xs,s,Q,hl,h=>by
  have e:xs=[]:=SV.mp hl;subst e;unfold drawOrder;have:=h [] s.drawn (RZ _);exact Qu this
 |n+1,[],s,Q,hl,h=>by simp at hl
 | n+1,x::r,s,Q,hl,h=>by
  unfold drawOrder;refine Qn (AO #[32] λ i d hi=>?_);have hg:(x::r)[i]?=some ((x::r)[i]):=Qo hi;simp only[hg];refine Qn (y9 n ((x::r).eraseIdx i) _ _ (by rw[UI hi,hl];rfl) λ ys d' hp=>?_);exact Qu (h _ d' ((List.Perm.cons _ hp).trans (jk _ _ hi)))
def BQ {α:Type}(next:Nat->Nat):∀ (fuel k:Nat) (left:List α) (out:Array α),left.length=fuel->∃ l:List α,l.Perm left/\(pickOrder.go next fuel k left out).toList=out.toList++l
 | 0,k,left,out,hl=>by
  have e:left=[]:=SV.mp hl;subst e;exact⟨[],RZ _,by unfold pickOrder.go;simp⟩
 | fuel+1,k,left,out,hl=>by
  have hpos:0<left.length:=by omega
  have hi:next k%left.length<left.length:=Nat.mod_lt _ hpos
  have hg:left[next k%left.length]?=some (left[next k%left.length]):=Qo hi;obtain⟨l,hp,e⟩:=BQ next fuel (k+1) (left.eraseIdx (next k%left.length)) (out.push (left[next k%left.length])) (by rw[UI hi,hl];rfl)
  refine⟨left[next k%left.length]::l,(List.Perm.cons _ hp).trans (jk _ _ hi),?_⟩;unfold pickOrder.go;rw[hg];show(pickOrder.go next fuel (k+1) (left.eraseIdx (next k%left.length)) (out.push (left[next k%left.length]))).toList=_;rw[e,Array.toList_push,QY];rfl
def qT {α:Type}(next:Nat->Nat)(xs:Array α):(pickOrder next xs).toList.Perm xs.toList:=by
 obtain⟨l,hp,e⟩:=BQ next xs.size 0 xs.toList #[] #[32]
 unfold pickOrder;rw[e];simpa using hp
variable {it:Addr}{t:SetTable}
def pT {M:Model}{Q:Bool->Shared->Prop}(h:Q (M.w.params.followText "set-order") s):wpAny M A setsByText Q E s:=by
 unfold setsByText;exact Qn (wpAny_askSetting (Qu h))
def FP (hby:w.params.followText "set-order" = true)(ho:#[191])(hd:#[93])(hf:#[126]){Q:Option (Value×Nat)->Shared->Prop}
  (h:Q ((#[174][i]?).map λ e=>(e.2,slot)) s):wpAny #[14] A (setNext a slot i ep) Q E s:=by
 unfold setNext;refine Qn (Sh ho hd hf ?_);dsimp only;refine Qn (pT ?_);rw[show#[14].w.params.followText "set-order" = true from hby];simp only[↓reduceIte,RE,QV];refine Qn ?_;unfold setWalk;refine Qn (Sh ho hd hf ?_);dsimp only;refine Qn (pT ?_);rw[show#[14].w.params.followText "set-order" = true from hby];simp only[↓reduceIte];exact Qn (wpAny_askSetting (Qu (Qu h)))
def FQ (hby:w.params.followText "set-order" = false)(hdr:(!t.plain&&decide (es.size>1))=false)(hled:t.led=true)(ho:#[191])(hd:#[93])(hf:#[126]){Q:Option (Value×Nat)->Shared->Prop}
  (h:Q (match es[SetTable.below t.place slot]?,t.place[SetTable.below t.place slot]? with|some (_,x),some j=>some (x,j+1)|_,_=>none) s):wpAny #[14] A (setNext a slot i ep) Q E s:=by
 unfold setNext;refine Qn (Sh ho hd hf ?_);dsimp only;refine Qn (pT ?_);rw[show#[14].w.params.followText "set-order" = false from hby];simp only[QV,↓reduceIte];split
 ·rename_i hx;have hx':(!t.plain&&decide (es.size>1))=true:=hx;rw[hdr]at hx';cases hx'
 ·refine Qn ?_;show wpAny _ _ (if (!t.led && !es.isEmpty)=true then unsupported "set:maker-not-led" else pure ()) _ _ _;rw[hled,QK #[32]];exact Qu (Qu h)
abbrev uv (first:Value)(i:Nat)(a:Addr)(n ep:Nat):Obj:={ cls:=.type "set_iterator",dict:=none,data:=.fields #[first,.int i 0,.ref a,.int n 0,.int ep 0],slots:=#[] }
def wg {nx:Nat}(hit:s.heap.get? it=some (uv (.int slot 0) i a es.size ep))(ho:#[191])(hd:#[93])(hf:#[126])
  (hn:∀ (A':#[127]) (E':#[7]) (Q':Option (Value×Nat)->Shared->Prop),Q' (some (x,nx)) s->wpAny #[14] A' (setNext a slot i ep) Q' E' s)
  (hQ:∀ h',h'.get? it=some (uv (.int nx 0) (i+1) a es.size ep)->Heap.SameBut it s.heap h'->Q (some x) { s with heap:=h' }):wpAny #[14] A (pyNext (.ref it)) Q E s:=by
 have hT:s.TypeIs (.ref it) "set_iterator" :=⟨_,hit,rfl⟩;unfold pyNext;refine Qn #[87];unfold Builtin.«set_iterator.__next__» slotArgs;simp only[Tf,Tt,QV,↓reduceIte,Si,RE];refine Qn (Qu ?_);dsimp only;refine Qn (UJ hit rfl ?_);dsimp only;refine Qn (SO ho hd hf ?_);simp only[RE,QV,↓reduceIte];rw[RC,RC,RC];refine Qn (hn _ _ _ ?_);dsimp only;refine Qn (RU hit #[32] λ h1 e1 sb1=>?_);refine Qn (RU (s:={ s with heap:=h1 }) e1 #[32] λ h2 e2 sb2=>?_);refine Qu ⟨_,rfl,Qu (hQ h2 ?_ (sb1.trans sb2))⟩;rw[e2];simp[rawInt,uv]
def lD:isSubtype (.type "StopIteration") (.type "StopIteration")=pure true:=by rw[UH];kernel_rfl
def we(hh:A.handled=none)(hit:s.heap.get? it=some (uv (.int slot 0) i a es.size ep))(ho:#[191])(hd:#[93])(hf:#[126])
  (hn:∀ (A':#[127]) (E':#[7]) (Q':Option (Value×Nat)->Shared->Prop),Q' none s->wpAny #[14] A' (setNext a slot i ep) Q' E' s)
  (hQ:∀ h',Heap.ExtBut it s.heap h'->Q none { s with heap:=h' }):wpAny #[14] A (pyNext (.ref it)) Q E s:=by
 have hT:s.TypeIs (.ref it) "set_iterator" :=⟨_,hit,rfl⟩;unfold pyNext;refine Qn #[87];unfold Builtin.«set_iterator.__next__» slotArgs;simp only[Tf,Tt,QV,↓reduceIte,Si,RE];refine Qn (Qu ?_);dsimp only;refine Qn (UJ hit rfl ?_);dsimp only;refine Qn (SO ho hd hf ?_);simp only[RE,QV,↓reduceIte];rw[RC,RC,RC];refine Qn (hn _ _ _ ?_);dsimp only;refine Qn (SS hit rfl #[32] ?_);show wpAny _ _ (newExc (.type "StopIteration") [] >>= _) _ _ _;refine Qn ?_;simp only[newExc,newTuple];refine Qn (Rb ?_ (by size_fits));refine Qn (m:=firstArgMember _ _) #[178];refine Rb ?_ (by size_fits);simp only[raiseNew];refine Qn (wpAny_handled ?_);rw[show A.in1.handled=none from hh];refine Qn (Qu (wpAny_throw ?_));refine Qn (Ug (T:="StopIteration") (b:=true) ⟨_,QI _ rfl,rfl⟩ lD ?_);exact Qu (hQ _ (((Sj ..).extBut.push _).push _))
def Dm {p:Nat}{ps:#[152]}(hit:s.heap.get? it=some (uv (.ref T) i a es.size ep))(ho:#[191])(hd:#[93])(hf:#[126])
  (hp:s.heap.IsTuple T ps) (hpi:ps[i]?=some (.int p 0)) (hx:(es[p]?).map (·.2)=some x)
  (hQ:∀ h',h'.get? it=some (uv (.ref T) (i+1) a es.size ep)->Heap.SameBut it s.heap h'->Q (some x) { s with heap:=h' }):wpAny #[14] A (pyNext (.ref it)) Q E s:=by
 have hT:s.TypeIs (.ref it) "set_iterator" :=⟨_,hit,rfl⟩;obtain⟨ot,hot,_,nt,hdt⟩:=hp;unfold pyNext;refine Qn #[87];unfold Builtin.«set_iterator.__next__» slotArgs;simp only[Tf,Tt,QV,↓reduceIte,Si,RE];refine Qn (Qu ?_);dsimp only;refine Qn (UJ hit rfl ?_);dsimp only;refine Qn (SO ho hd hf ?_);simp only[RE,QV,↓reduceIte];refine Qn (UA hot hdt ?_);dsimp only;rw[RC,hpi];dsimp only;rw[RC,RC];refine Qn ?_;unfold setNextDrawn;refine Qn (Sh ho hd hf ?_);simp only[RE,QV,↓reduceIte];cases he:es[p]? with
 |none=>rw[he]at hx;cases hx
 | some e =>
  rw[he]at hx;simp only[Tv,SH]at hx;subst hx;dsimp only;refine Qu ?_;refine Qn (RU hit #[32] λ h1 e1 sb1=>?_);refine Qu ⟨_,rfl,Qu (hQ h1 ?_ sb1)⟩;rw[e1];simp[rawInt,uv]
def Dn{ps:#[152]}(hh:A.handled=none)(hit:s.heap.get? it=some (uv (.ref T) i a es.size ep))(ho:#[191])(hd:#[93])(hf:#[126])
  (hp:s.heap.IsTuple T ps) (hpi:ps[i]?=none)
  (hQ:∀ h',Heap.ExtBut it s.heap h'->Q none { s with heap:=h' }):wpAny #[14] A (pyNext (.ref it)) Q E s:=by
 have hT:s.TypeIs (.ref it) "set_iterator" :=⟨_,hit,rfl⟩;obtain⟨ot,hot,_,nt,hdt⟩:=hp;unfold pyNext;refine Qn #[87];unfold Builtin.«set_iterator.__next__» slotArgs;simp only[Tf,Tt,QV,↓reduceIte,Si,RE];refine Qn (Qu ?_);dsimp only;refine Qn (UJ hit rfl ?_);dsimp only;refine Qn (SO ho hd hf ?_);simp only[RE,QV,↓reduceIte];refine Qn (UA hot hdt ?_);dsimp only;rw[RC,hpi];dsimp only;refine Qn (RU hit #[32] λ h1 e1 sb1=>?_);refine Qn (SS (s:={ s with heap:=h1 }) e1 rfl #[32] ?_);show wpAny _ _ (newExc (.type "StopIteration") [] >>= _) _ _ _;refine Qn ?_;simp only[newExc,newTuple];refine Qn (Rb ?_ (by size_fits));refine Qn (m:=firstArgMember _ _) #[178];refine Rb ?_ (by size_fits);simp only[raiseNew];refine Qn (wpAny_handled ?_);rw[show A.in1.handled=none from hh];refine Qn (Qu (wpAny_throw ?_));refine Qn (Ug (T:="StopIteration") (b:=true) ⟨_,QI _ rfl,rfl⟩ lD ?_);exact Qu (hQ _ (((sb1.trans (Sj ..)).extBut.push _).push _))
end
def pU:Slot "set_iterator" "__iter__" "set_iterator.__iter__" :=
 .of (owner:="set_iterator") (n:="__iter__") (by rw[typeLookup_type,Ua];kernel_rfl) #[141] #[141] #[141]
  (by first|exact .inl #[141]|exact .inr #[141]) (by rw[UH];kernel_rfl)
def vn:entryFor table "set_iterator.__iter__" = some Builtin.«dict_keyiterator.__iter__» :=entryFor_alias (id':="dict_keyiterator.__iter__") (by kernel_rfl) rfl #[141] (by kernel_rfl)
def xH (a:Value):argsOk "set_iterator.__iter__" ⟨[a],[]⟩:=by unfold argsOk;kernel_rfl
section
variable{I:Addr}{t:SetTable}
def xG {h:s.TypeIs (.ref I) "set_iterator"}{Q:#[7]}(hQ:Q (.ref I) s):wpAny #[14] A (pyIter (.ref I)) Q E s:=by
 refine wpAny_pyIter_slot h pU (RB pU h vn ?_ (xH _));show wpAny _ _ (ret (.ref I)) _ _ s;exact Qu ⟨_,rfl,"set_iterator",_,h,bU.lookup,hQ⟩
def Mf (hby:w.params.followText "set-order" = true)(hh:A.handled=none)(hne:a≠I)(hd:#[93])(hf:#[126]) :
  Walks prog w A I [I,a] [I] es.size (λ i v=>(#[174].toList.map (·.2))[i]?=some v) (λ i h=>h.get? I=some (uv (.int (0:Nat) 0) i a es.size ep)/\h.get? a=some o) where
 sub:=λ b hb=>by simp at hb;simp[hb]
 frame:=λ _ _ _ st hk=>⟨hk I #[32] _ st.1,hk a #[32] _ st.2⟩
 item:=λ i s Q E hi st hQ=>by
  have hl:=(qT (w.params.setOrder a ep) es).length_eq;simp only[Rn]at hl;have hg:#[174][i]?=some (#[174][i]'#[1]):=Q7 _;refine wg (slot:=0) (nx:=0) (x:=(#[174][i]'#[1]).2) st.1 st.2 hd hf (λ A' E' Q' q=>FP hby st.2 hd hf (by rw[hg];exact q)) λ h' e1 sb=>?_;refine hQ _ h' s.toks ?_ ⟨e1,?_⟩ λ b o' hb e=>?_
  ·rw[QB,Ru,hg];rfl
  ·rw[sb.2 a hne];exact st.2
  ·rw[sb.2 b #[175]];exact e
 done:=λ s Q E st hQ=>by
  have hl:=(qT (w.params.setOrder a ep) es).length_eq;simp only[Rn]at hl;refine we (slot:=0) hh st.1 st.2 hd hf (λ A' E' Q' q=>FP hby st.2 hd hf (by rw[Array.getElem?_eq_none #[1]];exact q)) λ h' he=>?_;exact hQ h' s.toks λ b o hb e=>he b o (λ h=>hb (by simp[h])) e
 self:=λ _ s _ _ st hQ=>xG (h:=⟨_,st.1,rfl⟩) hQ
def rK (t:SetTable):Nat->Nat
 |0=>0
 |i+1=>t.place.getD i 0+1
def ux (hr:xF t.place):∀ i,i<=t.place.size->SetTable.below t.place (rK t i)=i
 | 0,_=>by
  obtain⟨h1,h2,h3⟩:=oK hr 0;show SetTable.below t.place 0=0;rcases UG (SetTable.below t.place 0) with z|z
  ·exact z
  ·have:=h2 0 _ (Q7 #[1]) z;omega
 | i+1,hi=>by
  have hg:t.place[i]?=some (t.place[i]'#[1]):=Q7 _;have hgd:t.place.getD i 0=t.place[i]'#[1]:=by rw[Sn,hg];rfl
  obtain⟨h1,h2,h3⟩:=oK hr (rK t (i+1));have es:rK t (i+1)=t.place[i]'#[1]+1:=by show t.place.getD i 0+1=_;rw[hgd]
  rw[es]at h1 h2 h3 ⊢;rcases Nat.lt_trichotomy (SetTable.below t.place (t.place[i]'#[1]+1)) (i+1) with z|z|z
  ·have:=h3 i _ hg #[1];omega
  ·exact z
  ·have hg':t.place[i+1]?=some (t.place[i+1]'#[1]):=Q7 _;have l:=h2 (i+1) _ hg' z;have r:=sM hr hg hg' #[1];omega
def Mc (hby:w.params.followText "set-order" = false)(hdr:(!t.plain&&decide (es.size>1))=false)(g:Good true t)(hh:A.handled=none)(hne:a≠I)(hd:#[93])(hf:#[126]) :
  Walks prog w A I [I,a] [I] es.size (λ i v=>(es.toList.map (·.2))[i]?=some v) (λ i h=>i<=es.size/\h.get? I=some (uv (.int (rK t i:Nat) 0) i a es.size ep)/\h.get? a=some o) where
 sub:=λ b hb=>by simp at hb;simp[hb]
 frame:=λ _ _ _ st hk=>⟨st.1,hk I #[32] _ st.2.1,hk a #[32] _ st.2.2⟩
 item:=λ i s Q E hi st hQ=>by
  have hp:t.place.size=es.size:=by
   unfold SetTable.fits at hf;simp only[Q4,R7]at hf;exact hf.1
  have hb:=ux g.rise i #[1];have hg:es[i]?=some (es[i]'hi):=Q7 _;have hgp:t.place[i]?=some (t.place[i]'#[1]):=Q7 _;have hgd:t.place.getD i 0=t.place[i]'#[1]:=by rw[Sn,hgp];rfl
  refine wg (slot:=rK t i) (nx:=rK t (i+1)) (x:=(es[i]'hi).2) st.2.1 st.2.2 hd hf (λ A' E' Q' q=>FQ hby hdr g.led st.2.2 hd hf (by
   rw[hb,hg,hgp];have:rK t (i+1)=t.place[i]'#[1]+1:=by show t.place.getD i 0+1=_;rw[hgd]
   rw[this]at q;exact q)) λ h' e1 sb=>?_
  refine hQ _ h' s.toks ?_ ⟨hi,e1,?_⟩ λ b o' hb e=>?_
  ·rw[QB,Ru,hg];rfl
  ·rw[sb.2 a hne];exact st.2.2
  ·rw[sb.2 b #[175]];exact e
 done:=λ s Q E st hQ=>by
  have hp:t.place.size=es.size:=by
   unfold SetTable.fits at hf;simp only[Q4,R7]at hf;exact hf.1
  have hb:=ux g.rise es.size #[1];refine we (slot:=rK t es.size) hh st.2.1 st.2.2 hd hf (λ A' E' Q' q=>FQ hby hdr g.led st.2.2 hd hf (by rw[hb,Array.getElem?_eq_none (QD _)];exact q)) λ h' he=>?_;exact hQ h' s.toks λ b o hb e=>he b o (λ h=>hb (by simp[h])) e
 self:=λ _ s _ _ st hQ=>xG (h:=⟨_,st.2.1,rfl⟩) hQ
def IS (es:Array (Int×Value))(ps:#[118]):List Value:=ps.map λ p=>((es[p]?).map (·.2)).getD .none
def Me{ps:#[118]}(hps:ps.Perm (List.range es.size))(hh:A.handled=none)(hne:a≠I)(hnT:T≠I)(hd:#[93])(hf:#[126]) :
  Walks prog w A I [I,a,T] [I] es.size (λ i v=>(IS es ps)[i]?=some v) (λ i h=>h.get? I=some (uv (.ref T) i a es.size ep)/\h.get? a=some o/\h.IsTuple T (ps.map λ p:Nat=>Value.int p 0).toArray) where
 sub:=λ b hb=>by simp at hb;simp[hb]
 frame:=λ _ _ _ st hk=>⟨hk I #[32] _ st.1,hk a #[32] _ st.2.1,st.2.2.at λ o e=>hk T #[32] o e⟩
 item:=λ i s Q E hi st hQ=>by
  have hl:ps.length=es.size:=by rw[hps.length_eq,Q6]
  have hpi:ps[i]?=some (ps[i]'#[1]):=Qo _;have hpm:ps[i]'#[1]<es.size:=QU.mp (hps.mem_iff.mp (QW _));have hg:es[ps[i]'#[1]]?=some (es[ps[i]'#[1]]'hpm):=Q7 _;refine Dm (p:=ps[i]'#[1]) (x:=(es[ps[i]'#[1]]'hpm).2) st.1 st.2.1 hd hf st.2.2 (by rw[<-Ru,List.toList_toArray,QB,hpi];rfl) (by rw[hg];rfl) λ h' e1 sb=>?_;refine hQ _ h' s.toks ?_ ⟨e1,?_,?_⟩ λ b o' hb e=>?_
  ·unfold IS;rw[QB,hpi,Tv,hg];rfl
  ·rw[sb.2 a hne];exact st.2.1
  ·exact st.2.2.at λ o e=>by rw[sb.2 T hnT];exact e
  ·rw[sb.2 b #[175]];exact e
 done:=λ s Q E st hQ=>by
  have hl:ps.length=es.size:=by rw[hps.length_eq,Q6]
  refine Dn hh st.1 st.2.1 hd hf st.2.2 (by rw[<-Ru,List.toList_toArray,RP (by rw[Qs];omega)]) λ h' he=>?_;exact hQ h' s.toks λ b o hb e=>he b o (λ h=>hb (by simp[h])) e
 self:=λ _ s _ _ st hQ=>xG (h:=⟨_,st.1,rfl⟩) hQ
def Dp {ps:#[118]}(hps:ps.Perm (List.range es.size)):(IS es ps).Perm (es.toList.map (·.2)):=by
 unfold IS;refine(hps.map _).trans ?_;refine List.Perm.of_eq ?_;refine RM #[32] λ i h1 h2=>?_;have hi:i<es.size:=by simpa using h1
 simp[hi]
end
def IT:typeLookup (.type "set") "__len__" = pure (some (.builtin "set.__len__")):=by rw[typeLookup_type,Ua];kernel_rfl
section
variable{t:SetTable}
def Mg (ho:#[191])(hex:o.ExactSet)(hd:#[93])(hf:#[126])(g:Good (vj w) t)(hb:es.size<scanBound){Q:#[7]}
  (hQ:∀ (I:Addr) (fp:#[9]) (ord:#[17]) (St:Nat->Heap->Prop) (h':Heap) d,(∀ A':Around,A'.handled=none->Walks prog w A' I fp [I] es.size (λ i v=>ord[i]?=some v) St)->ord.Perm (es.toList.map (·.2))->St 0 h' ->
   (∀ b∈fp,b=a\/s.heap.objs.size<=b)->s.heap.objs.size<=I->#[103]->Q (.ref I) { s with heap:=h',drawn:=d }):wpAny (model prog w) A (pyIter (.ref a)) Q E s:=by
 have hT:s.TypeIs (.ref a) "set" :=⟨o,ho,hex.1⟩;have hal:a<s.heap.objs.size:=QC ho;have hsl:sizeLine=16777216:=Rg;refine wpAny_pyIter_slot hT F.slot_set_iter (RB F.slot_set_iter hT uw ?_ (F.args_set_iter_1 _));unfold Builtin.«frozenset.__iter__» Builtin.Frozenset.slot0 slotArgs;simp only[Tf,Tt,QV,↓reduceIte,bind_assoc,Si,RE];unfold Builtin.Frozenset.addrOf Builtin.Frozenset.sizeOf;refine Qn (Qu ?_);dsimp only;refine Qn (Qu ?_);refine Qn (Qn (SO ho hd hf (Qu ?_)));refine Qn ?_;unfold setDrawn;refine Qn (Sh ho hd hf ?_);dsimp only;refine Qn (pT (Qu ?_));have ep_any:∀ (s1:Shared) (Q':Nat->Shared->Prop),s1.heap.get? a=some o->Q' ep s1->wpAny #[14] A.in1 (setEpoch a) Q' E s1:=λ s1 Q' h1 q=>by
  unfold setEpoch;exact Qn (Sh h1 hd hf (Qu q))
 cases hby:w.params.followText "set-order" with
 | true =>
  rw[show#[14].w.params.followText "set-order" = true from hby];simp only[Tt,Bool.false_and,QV,↓reduceIte];refine Qn (Qu ?_);refine Qn (ep_any _ _ ho ?_);refine Qn #[171];refine hQ s.heap.objs.size [s.heap.objs.size,a] _ _ _ s.drawn (λ A' hh=>Mf (prog:=prog) (I:=s.heap.objs.size) (o:=o) hby hh (QT hal) hd hf) ((qT _ es).map _) ⟨QI _ rfl,Qp _ ho⟩ (λ b hbm=>?_) (QD _) λ b o e=>Qp _ e;rcases QA.mp hbm with rfl|hbm
  ·exact .inr (QD _)
  ·rcases QA.mp hbm with rfl|hbm
   ·exact .inl rfl
   ·cases hbm
 | false =>
  rw[show#[14].w.params.followText "set-order" = false from hby];have gl:Good true t:=by
   have e:vj w=true:=by unfold vj;rw[hby];rfl
   rw[e]at g;exact g
  cases hdr:(!t.plain&&decide (es.size>1)) with
  | false =>
   refine Tw (λ hc=>?_) (λ _=>?_)
   ·have hc':(!false&&(!t.plain&&decide (es.size>1)))=true:=hc;rw[hdr]at hc';cases hc'
   refine Qn (Qu ?_);refine Qn (ep_any _ _ ho ?_);refine Qn #[171];refine hQ s.heap.objs.size [s.heap.objs.size,a] _ _ _ s.drawn (λ A' hh=>Mc (prog:=prog) (I:=s.heap.objs.size) (o:=o) hby hdr gl hh (QT hal) hd hf) (RZ _) ⟨RS _,QI _ rfl,Qp _ ho⟩ (λ b hbm=>?_) (QD _) λ b o e=>Qp _ e;rcases QA.mp hbm with rfl|hbm
   ·exact .inr (QD _)
   ·rcases QA.mp hbm with rfl|hbm
    ·exact .inl rfl
    ·cases hbm
  | true =>
   refine Tw (λ _=>?_) (λ hc=>?_)
   ·refine Qn (y9 es.size (List.range es.size) s _ (Q6) λ ps d hps=>?_);have hpl:ps.length=es.size:=by rw[hps.length_eq,Q6]
    simp only[newTuple];refine Qn (Rb ?_ ?_)
    ·refine Qn (ep_any _ _ (Qp _ ho) ?_);refine Qn #[171];refine hQ _ [_,a,s.heap.objs.size] _ _ _ d (λ A' hh=>Me (prog:=prog) (w:=w) (o:=o) (T:=s.heap.objs.size) hps hh ?_ ?_ hd hf) (Dp hps) ⟨QI _ rfl,Qp _ (Qp _ ho),?_⟩ (λ b hbm=>?_) ?_ λ b o e=>Qp _ (Qp _ e)
     ·rw[RT];exact QT (S8 hal)
     ·rw[RT];exact QT (U4 _)
     ·exact⟨_,Qp _ (QI _ rfl),rfl,0,rfl⟩
     ·rcases QA.mp hbm with rfl|hbm
      ·right;rw[RT];exact SA _
      ·rcases QA.mp hbm with rfl|hbm
       ·exact .inl rfl
       ·rcases QA.mp hbm with rfl|hbm
        ·exact .inr (QD _)
        ·cases hbm
     ·rw[RT];exact SA _
    ·show(ps.map λ (i:Nat)=>rawInt i).toArray.size<=sizeLine;rw[Qz,Qs,hpl];unfold scanBound at hb;omega
   ·exact absurd (show(!false&&(!t.plain&&decide (es.size>1)))=true by rw[hdr];rfl) hc
def FU (hT:s.TypeIs (.ref a) "set"){Q:Bool->Shared->Prop}(h:Q false s):wpAny #[14] A (Builtin.List.listLengthHint (.ref a)) Q E s:=by
 unfold Builtin.List.listLengthHint;refine Qn (wpAny_specialOf hT IT ?_);generalize hid:("set.__len__" : String)=id0
 wp_delta
 rw[show splitId id0=some ("set","__len__") from by subst hid;decide +kernel];subst hid;refine Qn (Ug (T:="set") (b:=true) hT (by rw[UH];kernel_rfl) ?_);refine Tw (λ hab=>absurd hab #[10]) (λ _=>?_);refine Tw (λ _=>?_) (λ hab=>absurd #[141] hab);refine Qn (wpAny_typeOf hT ?_);exact Qu h
def FT {ord:#[17]}{acc:#[152]}(h:ItemsOf (λ i v=>ord[i]?=some v) acc n)(hn:ord.length=n):acc.toList=ord:=by
 refine SE λ i=>?_;rcases Vc i n with q|q
 ·have hi:i<acc.size:=by rw[h.1];exact q
  have e:acc[i]?=some acc[i]:=Q7 hi;rw[Ru,e,h.2 i _ e]
 ·rw[RP (by rw[Rn,h.1];exact q),RP #[1]]
def Dq (hh:A.handled=none)(ho:#[191])(hex:o.ExactSet)(hd:#[93])(hf:#[126])(g:Good (vj w) t)(hb:es.size<scanBound){Q:List Value->Shared->Prop}
  (hQ:∀ (vs:#[17]) (h':Heap) (tk:Nat) d,vs.Perm (es.toList.map (·.2))->#[103]->s.heap.objs.size<=h'.objs.size->Q vs { s with heap:=h',toks:=tk,drawn:=d }):wpAny #[14] A (collect (.ref a)) Q E s:=by
 have hal:a<s.heap.objs.size:=QC ho;have hn:es.size<=sizeLine:=UW hb;unfold collect;refine Qn (wpAny_runValue (S4 F.entry_proto_collect ?_));rw[SJ F.plain_proto_collect _];show wpAny _ A.in1 (newList [] >>= λ l=>again (.builtin "list.__iadd__" ⟨[l,.ref a],[]⟩)) _ _ s;refine Qn (Rb ?_);refine Qu ⟨U1 F.plain_list_iadd _,S4 F.entry_list_iadd ?_⟩;rw[SJ F.plain_list_iadd _];have ho1:(s.heap.push { cls:=.type "list",data:=.seq ([]:#[17]).toArray }).get? a=some o:=Qp _ ho;show wpAny _ A.in1 (Builtin.List.listExtendWith #[73] (.ref a) #[73]) _ _ _;unfold Builtin.List.listExtendWith;refine Qn (wpAny_typeOf (T:="set") ⟨o,ho1,hex.1⟩ ?_);have h1:Builtin.List.listSameRef #[73] (.ref a)=false:=by simp[Builtin.List.listSameRef,TR hal]
 have h2:(Value.type "set" == Value.type "list")=false:=by decide
 have h3:(Value.type "set" == Value.type "tuple")=false:=by decide
 simp only[h1,h2,h3,Bool.or_false,QV,SQ];refine Qn (Mg (s:={ s with heap:=s.heap.push { cls:=.type "list",data:=.seq ([]:#[17]).toArray } }) ho1 hex hd hf g hb λ I fp ord St hp d W hord hst hfp hI kp=>?_);have hS0:hp.get? s.heap.objs.size=some { cls:=.type "list",data:=.seq ([]:#[17]).toArray }:=kp _ _ (QI _ rfl);have hsz:s.heap.objs.size+1<=I:=by
  have:(s.heap.push { cls:=.type "list",data:=.seq ([]:#[17]).toArray }).objs.size<=I:=hI;rw[RT]at this;exact this
 refine Qn (RG (FU ⟨o,kp _ _ ho1,hex.1⟩ ?_));refine Tw (λ _=>?_) (λ hc=>absurd #[141] hc);refine Qn (TF ?_);refine Qn ?_;show wpAny _ _ (updateSeq s.heap.objs.size (·.push .none) >>= λ _=>updateSeq s.heap.objs.size (·.pop)) _ _ _;refine Qn (S3 hS0 rfl ?_);have hS₂:=Ra (Obj.mapSeq (·.push Value.none)) hS0 rfl;refine S3 hS₂ rfl ?_;have hS₃:=Ra (Obj.mapSeq (·.pop)) hS₂ rfl;have oth:∀ b o,b≠s.heap.objs.size->hp.get? b=some o->((hp.update s.heap.objs.size (Obj.mapSeq (·.push Value.none))).update s.heap.objs.size (Obj.mapSeq (·.pop))).get? b=some o:=
  λ b o hb e=>(Q2 _ _ (Rr hb)).trans ((Q2 _ _ (Rr hb)).trans e)
 have WS:=(W A.in1 hh).toS;have hSf:s.heap.objs.size∉fp:=λ hm=>by
  rcases hfp _ hm with z|z
  ·exact absurd z (TR hal)
  ·have z:(s.heap.push { cls:=.type "list",data:=.seq ([]:#[17]).toArray }).objs.size<=s.heap.objs.size:=z;rw[RT]at z;exact absurd z (Nat.not_succ_le_self _)
 have hol:ord.length=es.size:=by rw[hord.length_eq,Qs,Rn]
 refine Qu ⟨U1 F.plain_extend_loop _,codeAny_extend_loopS WS hn _ hSf _ es.size 0 _ _ _ rfl (RS _)
  (WS.frame 0 ({ s with heap:=hp,drawn:=d }:Shared) _ s.toks hst (QD _) λ b hb o e=>oth b o (λ h=>hSf (h▸hb)) e) hS₃ (ItemsOf.nil _) λ s' acc' c' hm hS' hacc=>?_⟩
 show wpAny _ A (load s.heap.objs.size >>= _) _ _ s';refine Qn (wpAny_load hS' ?_);refine Qu ?_;rw[FT hacc hol];obtain⟨h',g',d',tk',os'⟩:=s';have eg:g'=s.gens:=hm.gens;have ed:d'=d:=hm.drawn;have eo:os'=s.os:=hm.os;subst eg ed eo;refine hQ ord h' tk' _ hord (λ b o' e=>hm.heap b o' (λ z=>?_) (oth b o' (QT (QC e)) (kp b o' (Qp _ e)))) (Sk (QC hS'));rcases QA.mp z with z|z
 ·exact absurd z (QT (QC e))
 ·have z:b=I:=by simpa using z
  have l:=Q0 (QC e) (S7 hsz);rw[z]at l;exact absurd l (RV _)
end
def BR:∀ (vs:#[17]),(∀ v∈vs,∃ k t,v=.int k t)->∃ ns:List Int,IntsAre vs ns/\ns.length=vs.length/\∀ k,k∈ns↔∃ t,Value.int k t∈vs
 |[],_=>⟨[],.nil,rfl,λ k=>by simp⟩
 | v::vs,h=>by
  obtain⟨k,t,rfl⟩:=h v Qx;obtain⟨ns,h1,h2,h3⟩:=BR vs λ v hv=>h v (Qw _ hv);refine⟨k::ns,.cons k t h1,by rw[QP,QP,h2],λ k'=>?_⟩;constructor
  ·intro m;rcases QA.mp m with rfl|m
   ·exact⟨t,Qx⟩
   ·obtain⟨t',q⟩:=(h3 k').mp m;exact⟨t',Qw _ q⟩
  ·rintro⟨t',m⟩;rcases QA.mp m with e|m
   ·cases e;exact Qx
   ·exact Qw _ ((h3 k').mpr ⟨t',m⟩)
section
def FY (hh:A.handled=none)(hS:jS prog w (vj w) s.heap a S n)(h64:n<64){Q:#[7]}
  (h:∀ (out:#[152]) (ns':#[6]) (h':Heap) (tk:Nat) d (q:Addr),IntsAre out.toList ns'->ns'.Pairwise (· <= ·)->(∀ k,k∈ns'↔S k=true)->ns'.length=n->#[103]->s.heap.objs.size<=q ->
   (∃ e,h'.get? q=some (seqObj "list" out e))->Q (.ref q) { s with heap:=h',toks:=tk,drawn:=d }) :
  wpAny #[14] A (call (.builtin "sorted") [.ref a]) Q E s:=by
 obtain⟨o,es,ep,t,ho,hex,hd,hel,hmem,hb,hf,hn,g⟩:=hS;refine Calls.call_function_entry kind_sorted plain_sorted entry_sorted (args_sorted1 _) ?_;unfold Builtin.«sorted»;refine Qn (m:=checkCount "sorted" 1 1 _) (Qu ?_);refine Qn (Dq (A:=A.in1) hh ho hex hd hf g hb λ vs h1 tk d hp kp hsz=>?_);have hvl:vs.length=n:=by rw[hp.length_eq,Qs,Rn,hn]
 obtain⟨ns,hI,hnl,hnm⟩:=BR vs λ v hv=>by
  obtain⟨e,he,rfl⟩:=QE.mp (hp.mem_iff.mp hv);obtain⟨⟨k,hk,_⟩,_⟩:=hel e he;obtain⟨t',q⟩:=UP hk;exact⟨k,t',q⟩
 refine Qn (Uh ?_ (by rw[hvl,Rg];omega));have hoL:(h1.push #[36]).get? h1.objs.size=some #[36]:=QI _ rfl;show wpAny _ _ _ _ _ ({ s with heap:=h1.push #[36],toks:=tk,drawn:=d }:Shared);refine Qn (RG (RB slot_list_sort ⟨_,hoL,rfl⟩ entry_list_sort (list_sort_tree hoL hI #[1] λ out ns' a1 a2 a3=>⟨_,rfl,?_⟩) (args_list_sort _)));have ge:∀ b o,s.heap.get? b=some o->b<h1.objs.size:=λ b o e=>QC (kp b o e);refine Qu ⟨_,rfl,h out ns' _ tk d h1.objs.size a1 a3 (λ k=>?_) (by rw[a2.length_eq,hnl,hvl]) (λ b o e=>?_) ?_ (sortedHeap_at hoL)⟩
 ·rw[a2.mem_iff,hnm,hmem];constructor
  ·rintro⟨t',m⟩;obtain⟨e,he,q⟩:=QE.mp (hp.mem_iff.mp m);exact⟨e,he,by rw[q];exact intKind_is _ _ _ _⟩
  ·rintro⟨e,he,q⟩;obtain⟨t',q⟩:=UP q;exact⟨t',hp.mem_iff.mpr (QE.mpr ⟨e,he,q⟩)⟩
 ·have hlt:=ge b o e;have hne:b≠h1.objs.size:=QT hlt;have sh:(sortedHeap (h1.push #[36]) h1.objs.size vs out).get? b=(h1.push #[36]).get? b:=sortedHeap_old hne (by rw[size_push'];exact S8 hlt);show(sortedHeap (h1.push #[36]) h1.objs.size vs out).get? b=some o;rw[sh];exact Qp _ (kp b o e)
 ·exact hsz
end
end SR
namespace L2
open PySem PySem.Spec PyProof.Rows
def zb:∀ (ns acc:#[6]),acc.Nodup->(ns.foldl step_dedup acc).Nodup
 |[],acc,h=>h
 | x::r,acc,h=>by
  rw[List.foldl_cons];refine zb r _ ?_;unfold step_dedup;split
  ·exact h
  ·rename_i hx;rw[QL];refine⟨h,Q8.mpr ⟨R5,Rl⟩,λ a ha b hb z=>hx ?_⟩;have e:b=x:=by simpa using hb
   rw[Th];exact⟨a,ha,by rw[z,e];simp⟩
def Mh (ns:#[6])(k:Int):(dd ns).any (· == k)=true↔k∈dd ns:=by
 rw[Th];constructor
 ·rintro⟨x,hx,e⟩;have e:x=k:=by simpa using e
  exact e▸hx
 ·intro h;exact⟨k,h,by simp⟩
def BS:∀ (d ks:#[6]),d.Nodup->(∀ k∈d,k∈ks)->ks.length<=d.length->ks.Perm d
 | [],ks,_,_,hl=>by
  have e:ks=[]:=SV.mp (Nat.le_zero.mp hl);subst e;exact RZ _
 | x::r,ks,hn,hm,hl=>by
  have hx:=hm x Qx;have hp:=List.perm_cons_erase hx;have hn':=Q8.mp hn;have ih:=BS r (ks.erase x) hn'.2 (λ k hk=>(List.mem_erase_of_ne (λ z:k=x=>hn'.1 (z▸hk))).mpr (hm k (Qw _ hk))) (by
   have:=hp.length_eq;rw[QP]at this hl;omega)
  exact hp.trans (List.Perm.cons x ih)
def Inv.FW {X:Cx}{pins:#[12]}{σ:L2.St}{H:Hp}{s:Shared}(I:#[4])(d):Inv X pins σ H { s with drawn:=d }:=
 ⟨I.ok,I.os,I.bare,I.base,I.loc,I.cell,I.free,I.gO,I.pin,I.hok,I.len⟩
section
variable {X:Cx}{x y:Str}{p p2 pos pos2:Pos}{e:Expr}{te:TE}
def xJ (hc:X.calm=true)(hg:Gl X x)(hm:X.mg x=none)(hv:bootBuiltins x=some (.builtin "sorted"))(hg2:Gl X y)(hm2:X.mg y=none)(hv2:bootBuiltins y=some (.type "set"))(he:PE X e te)
  (hn:#[115] :=by decide) (hdb:#[3]:=by decide) (hn2:y ≠ "__name__" :=by decide) (hdb2:#[81]:=by decide)
  (hst:starEach [.Call (.Name y p2) [e] [] pos2] X.env=(false,eval (.Call (.Name y p2) [e] [] pos2) X.env)::starEach [] X.env:=by rfl) (hst2:#[26]:=by rfl) :
  PE X (.Call (.Name x p) [.Call (.Name y p2) [e] [] pos2] [] pos) (λ σ H Q=>Br te Hn σ H λ vs H1=>∃ a ns,vs=[.ref a]/\fH X.K H1 a #[135]/\ns.length<64 /\
   ∀ (q:Addr) (ns':#[6]),H1 q=none->ns'.Perm (dd ns)->ns'.Pairwise (· <= ·)->Q (.ref q) (upd H1 q (.lst (ns'.map V.int)))):=by
 intro pins s σ H Q I h;refine RQ (lQ I hg hm hv ?_ hn hdb);refine Ue (e:=.Call (.Name y p2) [e] [] pos2) (rest:=[]) ?_ hst rfl;rw[hst];show wpAny _ _ (spliced ((false,eval (.Call (.Name y p2) [e] [] pos2) X.env)::[])) _ _ s;refine Uy ?_;refine RQ (lQ I hg2 hm2 hv2 ?_ hn2 hdb2);refine Sl (e:=e) (rest:=[]) (eG (cN he gP hst2 pos2 pins s σ H _ I h) λ us s1 hq5=>L2.ex5 hq5 λ vs H1 I1 r1 q1=>?_) hst2 rfl;obtain⟨a,ns,rfl,hq,hl,q⟩:=q1;obtain⟨u,rfl,ru⟩:=r1.one;cases ru;obtain⟨its,rv,pl,hz⟩:=I1.list hq;have hlen:=rv.length;rw[Qs]at hlen;have hsz:its.toArray.size=ns.length:=by rw[Qz,hlen]
 refine SR.AN (I1.ok.hd hc) pl.isList (by simpa using intsAre_of rv) (by show its.toArray.size+1<4096;omega) λ h2 tk2 hs2 kp2=>?_;rw[hsz]at hs2;refine UR ?_;have hdl:(dd ns).length<=ns.length:=PyProof.Rows.firstMet_length_le _ _;refine SR.FY (s:={ s1 with heap:=h2,toks:=tk2 }) (I1.ok.hd hc) hs2 (show(dd ns).length<64 by omega) λ out ns' h3 tk3 d q' a1 a2 a3 a4 k3 g3 a5=>?_;obtain⟨ep,e5⟩:=a5;have hpm:ns'.Perm (dd ns):=BS (dd ns) ns' (zb _ [] Rl) (λ k hk=>(a3 k).mpr ((Mh ns k).mpr hk)) (by rw[a4];exact QD _);have hge:s1.heap.objs.size<=q':=by
  obtain⟨o,es,ep',t,ho,_⟩:=hs2;exact QX (Sk (QC ho)) g3
 refine⟨.ref q',_,(I1.laid (t':=tk3) (λ b o z=>k3 b o (kp2 b o (QC z) z)) hge ?_).FW d,rfl,q q' ns' (I1.hok.fresh hge) hpm a2⟩;refine⟨?_,out.toList,ep,mY a1,by rw[Array.toArray_toList];exact e5⟩;rw[Qs,a4];exact QX (Sk (show(dd ns).length<64 by omega)) #[10]
end
end L2
namespace DL
open PySem PySem.Spec PyProof.Rows L2
section
variable {K:#[0]}{Y:XY}{X:Cx}{pos pos2 p p2:Pos}{e:Expr}{fe:#[29]}{x y:Str}
def oM:D->Res D
 |.lst _ xs=>match intsOf xs with|some ns=>if ns.length<64 then .ok (.lst .own ((sortI (dd ns)).map D.int)) else .bad|none=>.bad
 |_=>.bad
def za (hc:X.calm=true)(hg:Gl X x)(hm:X.mg x=none)(hv:bootBuiltins x=some (.builtin "sorted"))(hg2:Gl X y)(hm2:X.mg y=none)(hv2:bootBuiltins y=some (.type "set"))(he:#[46])
  (hn:#[115] :=by decide) (hdb:#[3]:=by decide) (hn2:y ≠ "__name__" :=by decide) (hdb2:#[81]:=by decide)
  (hst:starEach [.Call (.Name y p2) [e] [] pos2] X.env=(false,eval (.Call (.Name y p2) [e] [] pos2) X.env)::starEach [] X.env:=by rfl) (hst2:#[26]:=by rfl) :
  PE X (.Call (.Name x p) [.Call (.Name y p2) [e] [] pos2] [] pos) (tM X.K Y (gD oM fe)):=
 PE.imp (xJ hc hg hm hv hg2 hm2 hv2 he hn hdb hn2 hdb2 hst hst2) λ σ H Q hq=>ex8 hq λ H0 B0 B τ P F I h=>tM.seq I h λ d v H1 B1 f _ I1 _ _ r1 k h1=>by
  cases d with
  | lst t xs =>
   obtain⟨a,ws,g,rfl,q,l,s⟩:=r1.lst I1;have h3:Goal X.K Y H0 B0 B1 H1 σ τ P F Q (match intsOf xs with|some ns=>if ns.length<64 then .ok (.lst .own ((sortI (dd ns)).map D.int)) else .bad|none=>.bad):=h1;cases e:intsOf xs with
   |none=>rw[e]at h3;exact h3.elim
   | some ns =>
    rw[e]at h3;simp only at h3;split at h3
    ·rename_i hl;have ex:=gF e;subst ex;obtain⟨rfl,rfl⟩:=fU l;refine⟨a,ns,rfl,f9 q,hl,λ p ns' hp h1 h2=>?_⟩;have e2:ns'=sortI (dd ns):=fD (h1.trans (sortI_perm (dd ns)).symm) h2 (jc (dd ns));subst e2;exact Out.xh h3 I1 (j9 _) fK.nil hp
    ·exact h3.elim
  |_=>exact h1.elim
end
end DL
namespace KL
open PySem PySem.Spec PyProof.Rows L2 DL XF
def top (i:Nat):Stmt:=PySem.Challenge.pw_modulewood_k43_least_common.main.body.getD i (.Pass ⟨0,0,0,0⟩)
structure Txt (K:PySem.W.Frag)(mg:Str->Option Value)(ca:Str->Addr):Prop where
 xM:mg "ValueError" = none
 N2:mg "all" = none
 N4:mg "any" = none
 Ml:mg "bool" = none
 zd:mg "enumerate" = none
 FZ:mg "int" = none
 bM:mg "isinstance" = none
 eS:mg "len" = none
 xN:mg "list" = none
 BW:mg "max" = none
 wk:mg "min" = none
 dO:mg "range" = none
 N3:mg "set" = none
 iQ:mg "sorted" = none
 iH:mg "tuple" = none
 AS:kh K mg "NetError" (ca "NetError") yg
 nE:kh K mg "NoPlace" (ca "NoPlace") (.ref (ca "NetError")::yg)
 Dr:se K (ca "NoPlace")
 sN:kh K mg "NoSet" (ca "NoSet") (.ref (ca "NetError")::yg)
 IU:se K (ca "NoSet")
 wm:kh K mg "NoGroup" (ca "NoGroup") (.ref (ca "NetError")::yg)
 pY:kh K mg "Unlike" (ca "Unlike") (.ref (ca "NetError")::yg)
 F2:se K (ca "Unlike")
def leaf (ca:#[88]):List Addr:=[ca "NoPlace",ca "NoSet",ca "Unlike"]
def BX (ca:#[88])(x:Str)(C:Addr):Bool:=(Value.ref C :: .ref (ca "NetError")::yg).contains (.ref (ca x))
def BU (ca:#[88])(C:Addr):Bool:=(leaf ca).contains C
section
variable {K:#[0]}{mg:#[8]}{ca:#[88]}
def F0 (T:Txt K mg ca):∀ C,(leaf ca).contains C=true->∃ x,kh K mg x C (.ref (ca "NetError")::yg)/\se K C:=by
 intro C h;unfold leaf at h;simp only[UD,List.contains_nil,Bool.or_false,Bool.or_eq_true,R7]at h;rcases h with rfl|rfl|rfl
 ·exact⟨_,T.nE,T.Dr⟩
 ·exact⟨_,T.sN,T.IU⟩
 ·exact⟨_,T.pY,T.F2⟩
def hin (T:Txt K mg ca):∀ C,BU ca C=true->∃ nm bm,kh K mg nm C bm/\(Value.ref C::bm).contains (.ref (ca "NetError"))=true:=λ C h=>by
 obtain⟨x,c,_⟩:=F0 T C h;exact⟨x,_,c,by simp⟩
def OC (T:Txt K mg ca){y:Str}{D:Addr}{bd:#[17]}(d:kh K mg y D bd):∀ C,(leaf ca).contains C=true->se K C/\PySem.W.kitOne K (.ref C) (.ref D)=some ((Value.ref C :: .ref (ca "NetError")::yg).contains (.ref D)):=λ C h=>by
 obtain⟨x,c,k⟩:=F0 T C h;exact⟨k,Iv c d⟩
def Qi (T:Txt K mg ca):∀ C,(leaf ca).contains C=true->se K C/\PySem.W.kitOne K (.ref C) (.type "ValueError")=some true:=λ C h=>by
 obtain⟨x,c,k⟩:=F0 T C h;exact⟨k,LO c (by simp[yg])⟩
end
structure Bd where
 P:Program
 w:World
 K:PySem.W.Frag
 mg:Str->Option Value
 base:Heap
 ca:Str->Addr
abbrev TX (b:Bd):=Txt b.K b.mg b.ca
section
variable {b:Bd}
abbrev wu:Stmt:=top 7
def uC:aP ["knot"] ["knot"] (au wu):=nz
abbrev wo (K:#[0])(mg:#[8]):=jM K mg "is_leaf" wu ["knot"]
def wy:SF:=dX (gD (g8 Pp) (ae 0))
def iy:DF:=cF 1 1 (wy)
abbrev nB (b:Bd):=jq b.P b.w b.K b.mg b.base 1 "is_leaf" ["knot"] (jr b.K (iy))
def AR (T:TX b)  (F:wo b.K b.mg):nB b:=bS (k:=0) (g:=wy) F uC rfl rfl λ f cdv A outer s H hr=>by
 have nd:=uC.nd;have hu:=cR hr;exact aC (dH (l7 (ty:=.Name "int" ⟨0,0,0,0⟩) yG rfl T.bM (qv 0) rfl T.FZ #[141]))
abbrev wj:Stmt:=top 8
def uA:aP ["knot"] ["knot"] (au wj):=nz
abbrev wt (K:#[0])(mg:#[8]):=jM K mg "is_flat" wj ["knot"]
def qU:SF:=dX (Ak (EB (aF iy #[144])) (ai j3 (ai bB (ae 0) #[147]) (eC (.str "flat"))))
def nC:DF:=cF 1 1 (qU)
abbrev wx (b:Bd):=jq b.P b.w b.K b.mg b.base 2 "is_flat" ["knot"] (jr b.K (nC))
def AQ (T:TX b)(C_is_leaf:nB b)(F:wt b.K b.mg):wx b:=bS (k:=1) (g:=qU) F uA rfl rfl λ f cdv A outer s H hr=>by
 have nd:=uA.nd;have hu:=cR hr;exact aC (dH (EC (JX (aW C_is_leaf hr (cW (qv 0)))) (JY (xD iZ nN (ba (qv 0) aw) jx))))
abbrev n8:Stmt:=top 9
def mJ:aP ["knot"] ["knot"] (au n8):=nz
abbrev nV (K:#[0])(mg:#[8]):=jM K mg "branches_of" n8 ["knot"]
def jV:SF:=dX (NC (eT (aF iy #[144])) (eA r8 ak) (ai bB (ae 0) #[150]))
def dS:DF:=cF 1 1 (jV)
abbrev jT (b:Bd):=jq b.P b.w b.K b.mg b.base 2 "branches_of" ["knot"] (jr b.K (dS))
def uB (T:TX b)(C_is_leaf:nB b)(F:nV b.K b.mg):jT b:=bS (k:=1) (g:=jV) F mJ rfl rfl λ f cdv A outer s H hr=>by
 have nd:=mJ.nd;have hu:=cR hr;exact aC (dH (NB (f7 (aW C_is_leaf hr (cW (qv 0)))) (rH bu) (ba (qv 0) aw)))
abbrev qa:Stmt:=top 10
def oh:aP ["wood","found","waiting","knot"] ["wood"] (au qa):=nz
def bL:SD->Res Bool:=OA (ae 2)
def bK:SF:=aE (Fj 3 2) (aE (iq 1 (ae 3)) (wa 2 (aF dS #[113])))
abbrev pW (K:#[0])(mg:#[8]):=jM K mg "knots_down" qa ["wood"]
def kW:SF:=aE (aL 1 (eA bw ak)) (aE (aL 2 (eA bw #[144])) (aE (fM bL bK) (iM 1)))
def je:DF:=cF 1 4 (kW)
abbrev pV (b:Bd):=jq b.P b.w b.K b.mg b.base 3 "knots_down" ["wood"] (jr b.K (je))
def vo (T:TX b)(C_branches_of:jT b)(F:pW b.K b.mg):pV b:=bS (k:=2) (g:=kW) F oh rfl rfl λ f cdv A outer s H hr=>by
 have nd:=oh.nd;have hu:=cR hr;exact aq (aI 1 nd (cP bu))
   (aq (aI 2 nd (cP (cW (qv 0))))
   (aq (nc Q9 (LQ (qv 2))
   (aq (s_pop 3 2 nd rfl (by walk_at "l"))
   (aq (ly 1 (qv 3))
   (aC (Fi 2 (aW C_branches_of hr (cW (qv 3))))))))
   (aC (jO 1))))
abbrev rN:Stmt:=top 11
def qf:aP ["wood"] ["wood"] (au rN):=nz
def mC:SD->Res Bool:=eT (aF iy #[144])
def uD:SD->Res D:=ae 0
abbrev rM (K:#[0])(mg:#[8]):=jM K mg "leaves_of" rN ["wood"]
def mi:SF:=dX (cu (jo (aF je #[144])) (gN 0) mC uD 1 [])
def dP:DF:=cF 1 1 (mi)
abbrev iR (b:Bd):=jq b.P b.w b.K b.mg b.base 4 "leaves_of" ["wood"] (jr b.K (dP))
def xK (T:TX b)(C_is_leaf:nB b)(C_knots_down:pV b)(F:rM b.K b.mg):iR b:=bS (k:=3) (g:=mi) F qf rfl rfl λ f cdv A outer s H hr=>by
 have nd:=qf.nd;have hu:=cR hr;exact aC (dH (iX (own:=["knot"]) (cap:=[]) #[28] rfl (fL (aW C_knots_down hr (cW (qv 0)))) ⟨λ _ _ _ _ _=>bx 0 (kR ["knot"]),λ _ _ _ _ _=>nk (f7 (aW C_is_leaf hr (cW (qv 0)))),λ _ _ _ _ _=>qv 0⟩))
abbrev lG:Stmt:=top 13
def kq:aP ["places","place"] ["places","place"] (au lG):=nz
abbrev lF (K:#[0])(mg:#[8]):=jM K mg "require_place" lG ["places","place"]
def lH (ca:#[88]):SF:=fZ (eT (ai (inD true) (ae 1) (ae 0))) (uc (ca "NoPlace")) bD
def fB (ca:#[88]):DF:=cF 2 2 (lH ca)
abbrev lE (b:Bd):=yL b.P b.w b.K b.mg b.base 1 "require_place" ["places","place"] (Io b.K (fB b.ca))
def qV (T:TX b)  (F:lF b.K b.mg):lE b:=pK (k:=0) (g:=lH b.ca) F kq rfl rfl λ f cdv A outer s H E hr hx=>by
 have nd:=kq.nd;have hu:=cR hr;exact aC (gB (bG kG (Ej true) (qv 1) (qv 0))
   (aC (xu hx T.nE rfl rfl))
   (du))
abbrev nW:Stmt:=top 14
def mG:aP ["places","some","place"] ["places","some"] (au nW):=nz
def cK (ca:#[88]):SF:=tY (dz (fB ca) (aa (ae 0) #[154]))
abbrev nY (K:#[0])(mg:#[8]):=jM K mg "checked_set" nW ["places","some"]
def gm (ca:#[88]):SF:=aE (gM [1] (jo (ae 1)) (gN 2) ((cK ca))) (aE (fZ (eT (ai j3 (eA bP #[50]) #[147])) (uc (ca "NoSet")) bD) (dX (gD oM (ae 1))))
def cy (ca:#[88]):DF:=cF 2 3 (gm ca)
abbrev n6 (b:Bd):=yL b.P b.w b.K b.mg b.base 2 "checked_set" ["places","some"] (Io b.K (cy b.ca))
def uy (T:TX b)(C_require_place:lE b)(F:nY b.K b.mg):n6 b:=pK (k:=1) (g:=gm b.ca) F mG rfl rfl λ f cdv A outer s H E hr hx=>by
 have nd:=mG.nd;have hu:=cR hr;exact aq (g7 [1] UX rfl (fL (qv 1)) (bx 2 nd)
   (aC (EI (jB hx C_require_place hr (kQ (qv 0) (qv 2))))))
   (aq (gB (bG iZ nN (dR bc eL T.eS (cW (qv 1))) aw)
   (aC (xu hx T.sN rfl rfl))
   (du))
   (aC (dH (za rfl rfl T.iQ #[141] rfl T.N3 #[141] (qv 1)))))
abbrev rO:Stmt:=top 16
def pZ:aP ["wood"] ["wood"] (au rO):=nz
abbrev rL (K:#[0])(mg:#[8]):=jM K mg "places_of" rO ["wood"]
def mD:SF:=dX (eA fT (aa (aF dP #[144]) ak))
def cZ:DF:=cF 1 1 (mD)
abbrev mr (b:Bd):=jq b.P b.w b.K b.mg b.base 5 "places_of" ["wood"] (jr b.K (cZ))
def xO (T:TX b)(C_leaves_of:iR b)(F:rL b.K b.mg):mr b:=bS (k:=4) (g:=mD) F pZ rfl rfl λ f cdv A outer s H hr=>by
 have nd:=pZ.nd;have hu:=cR hr;exact aC (dH (dR jw t7 T.iQ (cW (aW C_leaves_of hr (cW (qv 0))))))
abbrev jD:Stmt:=top 18
def jl:aP ["woods","places","wood"] ["woods"] (au jD):=nz
def iP:SF:=E7 1 (aF dP #[154])
abbrev jE (K:#[0])(mg:#[8]):=jM K mg "places_together" jD ["woods"]
def gU:SF:=aE (aL 1 (eA bw ak)) (aE (gM [0] (jo (ae 0)) (gN 2) iP) (dX (eA fT #[50])))
def dM:DF:=cF 1 3 (gU)
abbrev jC (b:Bd):=jq b.P b.w b.K b.mg b.base 5 "places_together" ["woods"] (jr b.K (dM))
def oN (T:TX b)(C_leaves_of:iR b)(F:jE b.K b.mg):jC b:=bS (k:=4) (g:=gU) F jl rfl rfl λ f cdv A outer s H hr=>by
 have nd:=jl.nd;have hu:=cR hr;exact aq (aI 1 nd (cP bu))
   (aq (g7 [0] Q9 rfl (fL (qv 0)) (bx 2 nd)
   (aC (NR 1 (aW C_leaves_of hr (cW (qv 2))))))
   (aC (dH (dR jw t7 T.iQ (cW (qv 1))))))
abbrev n5:Stmt:=top 19
def mH:aP ["knot","members"] ["knot","members"] (au n5):=nz
def iw:SD->Res D:=ai (inD false) (ae 0) (ae 1)
abbrev nZ (K:#[0])(mg:#[8]):=jM K mg "has_some_of" n5 ["knot","members"]
def jU:SF:=dX (eA Py (aa (cu (jo (aF dP #[144])) (gN 0) dI iw 1 [("members",1)]) ak))
def iG:DF:=cF 2 2 (jU)
abbrev oj (b:Bd):=jq b.P b.w b.K b.mg b.base 5 "has_some_of" ["knot","members"] (jr b.K (iG))
def uE (T:TX b)(C_leaves_of:iR b)(F:nZ b.K b.mg):oj b:=bS (k:=4) (g:=jU) F mH rfl rfl λ f cdv A outer s H hr=>by
 have nd:=mH.nd;have hu:=cR hr;exact aC (dH (dR (C3 rfl) (J5 _) T.N4 (cW (iX (own:=["place"]) (cap:=[("members",1)]) #[28] rfl (fL (aW C_leaves_of hr (cW (qv 0)))) ⟨λ _ _ _ _ _=>bx 0 (kR ["place","members"]),λ _ _ _ _ _=>gQ,λ _ _ _ _ _=>xD vF (Ej false) (qv 0) (qv 1)⟩))))
abbrev gJ:Stmt:=top 20
def gn:aP ["knot","members"] ["knot","members"] (au gJ):=nz
def aV:SD->Res Bool:=eT (aF iG (aa (ae 0) #[50]))
def bb:SD->Res D:=ae 0
abbrev gH (K:#[0])(mg:#[8]):=jM K mg "branches_with_some_of" gJ ["knot","members"]
def eE:SF:=dX (cu (jo (aF dS #[144])) (gN 0) aV bb 1 [("members",1)])
def bJ:DF:=cF 2 2 (eE)
abbrev gI (b:Bd):=jq b.P b.w b.K b.mg b.base 6 "branches_with_some_of" ["knot","members"] (jr b.K (bJ))
def jW (T:TX b)(C_branches_of:jT b)(C_has_some_of:oj b)(F:gH b.K b.mg):gI b:=bS (k:=5) (g:=eE) F gn rfl rfl λ f cdv A outer s H hr=>by
 have nd:=gn.nd;have hu:=cR hr;exact aC (dH (iX (own:=["branch"]) (cap:=[("members",1)]) #[28] rfl (fL (aW C_branches_of hr (cW (qv 0)))) ⟨λ _ _ _ _ _=>bx 0 (kR ["branch","members"]),λ _ _ _ _ _=>nk (f7 (aW C_has_some_of hr (kQ (qv 0) (qv 1)))),λ _ _ _ _ _=>qv 0⟩))
abbrev n9:Stmt:=top 21
def mL:aP ["wood","some","members","knot","touched"] ["wood","some"] (au n9):=nz
def dg (ca:#[88]):SD->Res Bool:=eT (ai j3 (eA bP #[134]) #[142])
def cJ (ca:#[88]):SF:=aE (aL 3 (ai bB (ae 4) #[147])) (aL 4 (aF bJ (aa (ae 3) #[154])))
abbrev nX (K:#[0])(mg:#[8]):=jM K mg "least_group" n9 ["wood","some"]
def iF (ca:#[88]):SF:=aE (aL 2 (dz (cy ca) (aa (aF dP #[144]) #[50]))) (aE (aL 3 (ae 0)) (aE (aL 4 (aF bJ (aa (ae 3) #[154]))) (aE (fM ((dg ca)) ((cJ ca))) (dX (NC (eT (aF nC #[113])) (aF dM #[134]) (aF cZ #[113]))))))
def bz (ca:#[88]):DF:=cF 2 5 (iF ca)
abbrev nU (b:Bd):=yL b.P b.w b.K b.mg b.base 7 "least_group" ["wood","some"] (Io b.K (bz b.ca))
def uz (T:TX b)(C_is_flat:wx b)(C_leaves_of:iR b)(C_checked_set:n6 b)(C_places_of:mr b)(C_places_together:jC b)(C_branches_with_some_of:gI b)(F:nX b.K b.mg):nU b:=pK (k:=6) (g:=iF b.ca) F mL rfl rfl λ f cdv A outer s H E hr hx=>by
 have nd:=mL.nd;have hu:=cR hr;exact aq (aI 2 nd (jB hx C_checked_set hr (kQ (aW C_leaves_of hr (cW (qv 0))) (qv 1))))
   (aq (aI 3 nd (qv 0))
   (aq (aI 4 nd (aW C_branches_with_some_of hr (kQ (qv 3) (qv 2))))
   (aq (nc UX (bG iZ nN (dR bc eL T.eS (cW (qv 4))) aw)
   (aq (aI 3 nd (ba (qv 4) aw))
   (aC (aI 4 nd (aW C_branches_with_some_of hr (kQ (qv 3) (qv 2)))))))
   (aC (dH (NB (f7 (aW C_is_flat hr (cW (qv 3)))) (aW C_places_together hr (cW (qv 4))) (aW C_places_of hr (cW (qv 3)))))))))
abbrev g9:Stmt:=top 23
def gR:aP ["places","others"] ["places","others"] (au g9):=nz
abbrev ia (K:#[0])(mg:#[8]):=jM K mg "require_same_places" g9 ["places","others"]
def dC (ca:#[88]):SF:=fZ (eT (ai (mh true) (ae 0) (ae 1))) (uc (ca "Unlike")) bD
def cH (ca:#[88]):DF:=cF 2 2 (dC ca)
abbrev ib (b:Bd):=yL b.P b.w b.K b.mg b.base 1 "require_same_places" ["places","others"] (Io b.K (cH b.ca))
def kX (T:TX b)  (F:ia b.K b.mg):ib b:=pK (k:=0) (g:=dC b.ca) F gR rfl rfl λ f cdv A outer s H E hr hx=>by
 have nd:=gR.nd;have hu:=cR hr;exact aC (gB (lX (qS hu) (wd true) (qv 0) (qv 1) (kE _))
   (aC (xu hx T.pY rfl rfl))
   (du))
abbrev mF:Stmt:=top 24
def lI:aP ["wood","other","some","group","grown"] ["wood","other","some"] (au mF):=nz
def dN (ca:#[88]):SD->Res Bool:=eT (ai (mh true) (ae 4) (ae 3))
def cD (ca:#[88]):SF:=aE (aL 3 (dz (bz ca) (aa (ae 0) #[134]))) (aL 4 (dz (bz ca) (aa (ae 1) #[113])))
abbrev mK (K:#[0])(mg:#[8]):=jM K mg "least_common" mF ["wood","other","some"]
def fN (ca:#[88]):SF:=aE (tY (dz (cH ca) (aa (aF cZ #[144]) (aa (aF cZ #[50]) ak)))) (aE (aL 3 (dz (bz ca) (aa (ae 0) #[154]))) (aE (aL 4 (dz (bz ca) (aa (ae 1) #[113]))) (aE (fM ((dN ca)) ((cD ca))) (iM 4))))
def bF (ca:#[88]):DF:=cF 3 5 (fN ca)
abbrev mE (b:Bd):=yL b.P b.w b.K b.mg b.base 8 "least_common" ["wood","other","some"] (Io b.K (bF b.ca))
def sj (T:TX b)(C_places_of:mr b)(C_least_group:nU b)(C_require_same_places:ib b)(F:mK b.K b.mg):mE b:=pK (k:=7) (g:=fN b.ca) F lI rfl rfl λ f cdv A outer s H E hr hx=>by
 have nd:=lI.nd;have hu:=cR hr;exact aq (EI (jB hx C_require_same_places hr (kQ (aW C_places_of hr (cW (qv 0))) (aW C_places_of hr (cW (qv 1))))))
   (aq (aI 3 nd (jB hx C_least_group hr (kQ (qv 0) (qv 2))))
   (aq (aI 4 nd (jB hx C_least_group hr (kQ (qv 1) (qv 3))))
   (aq (nc UX (lX (qS hu) (wd true) (qv 4) (qv 3) (kE _))
   (aq (aI 3 nd (jB hx C_least_group hr (kQ (qv 0) (qv 4))))
   (aC (aI 4 nd (jB hx C_least_group hr (kQ (qv 1) (qv 3)))))))
   (aC (jO 4)))))
abbrev s_Lcell_at:Stmt:=top 26
def sc_Lcell_at:aP ["_law_script","_law_k"] ["_law_script","_law_k"] (au s_Lcell_at):=nz
abbrev E_Lcell_at (K:#[0])(mg:#[8]):=jM K mg "_law_cell_at" s_Lcell_at ["_law_script","_law_k"]
def g_Lcell_at:SF:=aE (fZ (eT (ai Ez (ae 1) (eA bP #[144]))) (dX (ai bB (ae 0) (ae 1))) bD) (dX #[147])
def G_Lcell_at:DF:=cF 2 2 (g_Lcell_at)
abbrev Q_Lcell_at (b:Bd):=jq b.P b.w b.K b.mg b.base 1 "_law_cell_at" ["_law_script","_law_k"] (jr b.K (G_Lcell_at))
def ok_Lcell_at (T:TX b)  (F:E_Lcell_at b.K b.mg):Q_Lcell_at b:=bS (k:=0) (g:=g_Lcell_at) F sc_Lcell_at rfl rfl λ f cdv A outer s H hr=>by
 have nd:=sc_Lcell_at.nd;have hu:=cR hr;exact aq (gB (bG rB CO (qv 1) #[190])
   (aC (dH (ba (qv 0) (qv 1))))
   (du))
   (aC (dH aw))
abbrev s_Lmix:Stmt:=top 27
def sc_Lmix:aP ["_law_cell","_law_k","_law_many","_law_prime_here"] ["_law_cell","_law_k","_law_many"] (au s_Lmix):=nz
abbrev E_Lmix (K:#[0])(mg:#[8]):=jM K mg "_law_mix" s_Lmix ["_law_cell","_law_k","_law_many"]
def g_Lmix:SF:=aE (aL 3 (ai bB #[128] (ai cE (ae 1) (eC (.int 7))))) (dX (ai cE (ai cE (ai jN (ai bE (ai cE (ae 0) (ae 3)) #[142]) (eC (.int 48271))) (ae 3)) (ae 2)))
def G_Lmix:DF:=cF 3 4 (g_Lmix)
abbrev Q_Lmix (b:Bd):=jq b.P b.w b.K b.mg b.base 1 "_law_mix" ["_law_cell","_law_k","_law_many"] (jr b.K (G_Lmix))
def ok_Lmix (T:TX b)  (F:E_Lmix b.K b.mg):Q_Lmix b:=bS (k:=0) (g:=g_Lmix) F sc_Lmix rfl rfl λ f cdv A outer s H hr=>by
 have nd:=sc_Lmix.nd;have hu:=cR hr;exact aq (aI 3 nd (ba (cP (aB aw (aB aw (aB aw (aB aw (aB aw (aB aw (aB aw bu)))))))) (bH dF fY (qv 1) aw)))
   (aC (dH (bH dF fY (bH dF fY (bH jy rG (bH bj cO (bH dF fY (qv 0) (qv 3)) aw) aw) (qv 3)) (qv 2))))
abbrev s_Lleaves:Stmt:=top 28
def sc_Lleaves:aP ["_law_wood_here","_law_row","_law_branch"] ["_law_wood_here"] (au s_Lleaves):=nz
def g_Lleaves_b1 (R_Lleaves:DF):SF:=aL 1 (ai bE (ae 1) (aF R_Lleaves #[154]))
abbrev E_Lleaves (K:#[0])(mg:#[8]):=jM K mg "_law_leaves" s_Lleaves ["_law_wood_here"]
def g_Lleaves (R_Lleaves:DF):SF:=aE (fZ (r6 (eT (gD (g8 An) (ae 0)))) (dX (eA bw #[144])) bD) (aE (aL 1 (eA bw ak)) (aE (gM [0] (jo (ai bB (ae 0) #[150])) (gN 2) ((g_Lleaves_b1 R_Lleaves))) (iM 1)))
def G_Lleaves:Nat->DF
 |0=>λ _=>.bad
 |n+1=>cF 1 3 (g_Lleaves (G_Lleaves n))
abbrev Q_Lleaves (b:Bd):=jq b.P b.w b.K b.mg b.base 27 "_law_leaves" ["_law_wood_here"] (jr b.K (G_Lleaves 26))
def ok_Lleaves (T:TX b)  (F:E_Lleaves b.K b.mg):∀ n:Nat,jq b.P b.w b.K b.mg b.base (n+1) "_law_leaves" ["_law_wood_here"] (jr b.K (G_Lleaves n))
 |0=>Ij F
 | n+1=>bS (k:=n+1) (n:=1) (m:=3) (g:=g_Lleaves (G_Lleaves n)) F sc_Lleaves rfl rfl λ f cdv A outer s H hr=>by
  have C_Lleaves:=ok_Lleaves T  F n;have nd:=sc_Lleaves.nd;have hu:=cR hr;exact aq (gB (tU (f7 (l7 (ty:=.Name "tuple" ⟨0,0,0,0⟩) oF rfl T.bM (qv 0) rfl T.iH #[141])))
   (aC (dH (cP (cW (qv 0)))))
   (du))
   (aq (aI 1 nd (cP bu))
   (aq (g7 [0] Q9 rfl (fL (ba (qv 0) aw)) (bx 2 nd)
   (aC (aI 1 nd (bH bj cO (qv 1) (aW C_Lleaves hr (cW (qv 2)))))))
   (aC (jO 1))))
abbrev s_Lhead:Stmt:=top 29
def sc_Lhead:aP ["_law_wood_here"] ["_law_wood_here"] (au s_Lhead):=nz
abbrev E_Lhead (K:#[0])(mg:#[8]):=jM K mg "_law_head" s_Lhead ["_law_wood_here"]
def g_Lhead:SF:=dX (eA yR (aa (aF (G_Lleaves 26) #[144]) ak))
def G_Lhead:DF:=cF 1 1 (g_Lhead)
abbrev Q_Lhead (b:Bd):=jq b.P b.w b.K b.mg b.base 28 "_law_head" ["_law_wood_here"] (jr b.K (G_Lhead))
def ok_Lhead (T:TX b)(C_Lleaves:Q_Lleaves b)(F:E_Lhead b.K b.mg):Q_Lhead b:=bS (k:=27) (g:=g_Lhead) F sc_Lhead rfl rfl λ f cdv A outer s H hr=>by
 have nd:=sc_Lhead.nd;have hu:=cR hr;exact aC (dH (dR (Dc rfl) LR T.wk (cW (aW C_Lleaves hr (cW (qv 0))))))
abbrev s_Lflat:Stmt:=top 30
def sc_Lflat:aP ["_law_shade","_law_woods","_law_parts","_law_wood_here"] ["_law_shade","_law_woods"] (au s_Lflat):=nz
def g_Lflat_b1:SF:=fZ (lK (eT (gD (g8 An) (ae 3))) (lK (eT (ai j3 (ai bB (ae 3) #[147]) (eC (.str "flat")))) (eT (ai j3 (ai bB (ae 3) #[142]) (ae 0))))) (wa 2 (ai bB (ae 3) #[150])) (iq 2 (ae 3))
abbrev E_Lflat (K:#[0])(mg:#[8]):=jM K mg "_law_flat" s_Lflat ["_law_shade","_law_woods"]
def g_Lflat:SF:=aE (aL 2 (eA bw ak)) (aE (gM [1] (jo (ae 1)) (gN 3) g_Lflat_b1) (dX (eA r8 (aa (eC (.str "flat")) (aa (ae 0) (aa (eA iV (aa (um G_Lhead (ae 2)) ak)) ak))))))
def G_Lflat:DF:=cF 2 4 (g_Lflat)
abbrev Q_Lflat (b:Bd):=jq b.P b.w b.K b.mg b.base 31 "_law_flat" ["_law_shade","_law_woods"] (jr b.K (G_Lflat))
def ok_Lflat (T:TX b)(C_Lhead:Q_Lhead b)(F:E_Lflat b.K b.mg):Q_Lflat b:=bS (k:=30) (g:=g_Lflat) F sc_Lflat rfl rfl λ f cdv A outer s H hr=>by
 have nd:=sc_Lflat.nd;have hu:=cR hr;exact aq (aI 2 nd (cP bu))
   (aq (g7 [1] Q9 rfl (fL (qv 1)) (bx 3 nd)
   (aC (gB (L2.PW.pt (oE (f7 (l7 (ty:=.Name "tuple" ⟨0,0,0,0⟩) oF rfl T.bM (qv 3) rfl T.iH #[141])) (oE (bG iZ nN (ba (qv 3) aw) jx) (pF (bG iZ nN (ba (qv 3) aw) (qv 0))))))
   (aC (Fi 2 (ba (qv 3) aw)))
   (aC (ly 2 (qv 3))))))
   (aC (dH (rH (aB jx (aB (qv 0) (aB (vg dQ kK T.iH (cW (IE C_Lhead (hr.mono #[10]) rfl T.iQ #[141] rfl (qv 2)))) bu)))))))
abbrev s_Lgrown:Stmt:=top 31
def sc_Lgrown:aP ["_law_rows","_law_got","_law_out","_law_at","_law_left","_law_x"] ["_law_rows","_law_got"] (au s_Lgrown):=nz
def g_Lgrown_b1:SF:=fZ (eT (ai Nz (ai bB (ai bB (ae 0) (eA j4 (aa (ae 5) (aa (ai bB (ae 1) (ae 3)) ak)))) (eA j5 (aa (ae 5) (aa (ai bB (ae 1) (ae 3)) ak)))) (ai bB (ai bB (ae 0) (eA j4 (aa (ae 5) (aa #[98] ak)))) (eA j5 (aa (ae 5) (aa #[98] ak)))))) (iq 1 (ae 5)) (iq 4 (ae 5))
def g_Lgrown_w2:SD->Res Bool:=eT (ai Ez (ae 3) (eA bP #[50]))
def g_Lgrown_b3:SF:=aE (aL 4 (eA bw ak)) (aE (gM [2] (jo (ae 2)) (gN 5) g_Lgrown_b1) (aE (HZ [4] (aL 2 (ae 4))) (aL 3 (ai bE (ae 3) #[142]))))
def g_Lgrown_c4:SD->Res Bool:=eT (ai (inD true) (ae 0) (ae 1))
def g_Lgrown_e5:SD->Res D:=ae 0
abbrev E_Lgrown (K:#[0])(mg:#[8]):=jM K mg "_law_grown" s_Lgrown ["_law_rows","_law_got"]
def g_Lgrown:SF:=aE (aL 2 (cu (bV #[85]) (gN 0) g_Lgrown_c4 g_Lgrown_e5 1 [("_law_got",1)])) (aE (aL 3 #[142]) (aE (fM g_Lgrown_w2 g_Lgrown_b3) (iM 1)))
def G_Lgrown:DF:=cF 2 6 (g_Lgrown)
abbrev Q_Lgrown (b:Bd):=jq b.P b.w b.K b.mg b.base 1 "_law_grown" ["_law_rows","_law_got"] (IF b.K (G_Lgrown))
def ok_Lgrown (T:TX b)  (F:E_Lgrown b.K b.mg):Q_Lgrown b:=Fx (k:=0) (g:=g_Lgrown) F sc_Lgrown rfl rfl λ f cdv A outer s H hr=>by
 have nd:=sc_Lgrown.nd;have hu:=cR hr;exact aq (kT 2 nd (own:=["_law_x"]) (cap:=[("_law_got",1)]) #[28] rfl (bZ rfl T.dO (cW #[190])) ⟨λ _ _ _ _ _=>bx 0 (kR ["_law_x","_law_got"]),λ _ _ _ _ _=>nk (bG kG (Ej true) (qv 0) (qv 1)),λ _ _ _ _ _=>qv 0⟩)
   (aq (aI 3 nd aw)
   (aq (nc Q9 (bG rB CO (qv 3) (dR bc eL T.eS (cW (qv 1))))
   (aq (aI 4 nd (cP bu))
   (aq (g7 [2] Q9 rfl (fL (qv 2)) (bx 5 nd)
   (aC (gB (bG DU Nx (ba (ba (qv 0) (dR (mW rfl) xm T.BW (kQ (qv 5) (ba (qv 1) (qv 3))))) (dR (j1 rfl) tV T.wk (kQ (qv 5) (ba (qv 1) (qv 3))))) (ba (ba (qv 0) (dR (mW rfl) xm T.BW (kQ (qv 5) (ba (qv 1) aw)))) (dR (j1 rfl) tV T.wk (kQ (qv 5) (ba (qv 1) aw)))))
   (aC (ly 1 (qv 5)))
   (aC (ly 4 (qv 5))))))
   (aq (NG [4] (aI 2 nd (qv 4)))
   (aC (aI 3 nd (bH bj cO (qv 3) aw)))))))
   (aC (jO 1))))
abbrev s_Lnone_together:Stmt:=top 32
def sc_Lnone_together:aP ["_law_rows","_law_k","_law_j"] ["_law_rows"] (au s_Lnone_together):=nz
def g_Lnone_together_b1:SF:=fZ (eT (ai Ez (eA bP (aa (xB G_Lgrown (aa (ae 0) (aa (eA bw (aa (ae 2) #[50])) ak))) ak)) (eA bP #[144]))) (dX (eC (.bl false))) bD
def g_Lnone_together_b2:SF:=gM [] (bV #[50]) (gN 2) g_Lnone_together_b1
abbrev E_Lnone_together (K:#[0])(mg:#[8]):=jM K mg "_law_none_together" s_Lnone_together ["_law_rows"]
def g_Lnone_together:SF:=aE (gM [] (bV #[85]) (gN 1) g_Lnone_together_b2) (dX (eC (.bl true)))
def G_Lnone_together:DF:=cF 1 3 (g_Lnone_together)
abbrev Q_Lnone_together (b:Bd):=jq b.P b.w b.K b.mg b.base 2 "_law_none_together" ["_law_rows"] (jr b.K (G_Lnone_together))
def ok_Lnone_together (T:TX b)(C_Lgrown:Q_Lgrown b)(F:E_Lnone_together b.K b.mg):Q_Lnone_together b:=bS (k:=1) (g:=g_Lnone_together) F sc_Lnone_together rfl rfl λ f cdv A outer s H hr=>by
 have nd:=sc_Lnone_together.nd;have hu:=cR hr;exact aq (g7 [] Q9 rfl (bZ rfl T.dO (cW #[190])) (bx 1 nd)
   (aC (g7 [] Q9 rfl (bZ rfl T.dO (cW (qv 1))) (bx 2 nd)
   (aC (gB (bG rB CO (dR bc eL T.eS (cW (LU C_Lgrown (hr.mono #[10]) rfl (kQ (qv 0) (cP (kQ (qv 2) (qv 1))))))) #[190])
   (aC (dH Ex))
   (du))))))
   (aC (dH Ex))
abbrev s_Lprime_rows:Stmt:=top 33
def sc_Lprime_rows:aP ["_law_cell","_law_many","_law_shades_here","_law_rows","_law_k"] ["_law_cell","_law_many","_law_shades_here"] (au s_Lprime_rows):=nz
def g_Lprime_rows_e1:SD->Res D:=ai bB (ae 1) (eA intD (aa (ai Ez (ai bE (ae 0) #[142]) (ae 2)) ak))
def g_Lprime_rows_b2:SF:=iq 3 (cu (bV #[134]) (gN 0) dI g_Lprime_rows_e1 1 [("_law_shades_here",2),("_law_k",4)])
def g_Lprime_rows_e3:SD->Res D:=ai bB (ae 1) (aF G_Lmix (aa (ai bE (ai bE (ae 2) (ai jN (ai jN (eC (.int 17)) (ae 3)) (ae 3))) (ae 0)) (aa (eC (.int 5)) (aa (eC (.int 3)) ak))))
def g_Lprime_rows_b4:SF:=iq 3 (cu (bV #[134]) (gN 0) dI g_Lprime_rows_e3 1 [("_law_shades_here",2),("_law_cell",0),("_law_k",4)])
abbrev E_Lprime_rows (K:#[0])(mg:#[8]):=jM K mg "_law_prime_rows" s_Lprime_rows ["_law_cell","_law_many","_law_shades_here"]
def g_Lprime_rows:SF:=aE (aL 3 (eA bw ak)) (aE (gM [] (bV #[50]) (gN 4) g_Lprime_rows_b4) (aE (fZ (lK (FA (eC (.int 3)) (ae 1) (eC (.int 17))) (lK (eT (ai j3 (ai cE (ae 0) #[150]) #[147])) (eT (aF G_Lnone_together #[113])))) (iM 3) bD) (aE #[82] (aE (aL 3 (eA bw ak)) (aE (gM [] (bV #[50]) (gN 4) g_Lprime_rows_b2) (iM 3))))))
def G_Lprime_rows:DF:=cF 3 5 (g_Lprime_rows)
abbrev Q_Lprime_rows (b:Bd):=jq b.P b.w b.K b.mg b.base 3 "_law_prime_rows" ["_law_cell","_law_many","_law_shades_here"] (jr b.K (G_Lprime_rows))
def ok_Lprime_rows (T:TX b)(C_Lmix:Q_Lmix b)(C_Lnone_together:Q_Lnone_together b)(F:E_Lprime_rows b.K b.mg):Q_Lprime_rows b:=bS (k:=2) (g:=g_Lprime_rows) F sc_Lprime_rows rfl rfl λ f cdv A outer s H hr=>by
 have nd:=sc_Lprime_rows.nd;have hu:=cR hr;exact aq (aI 3 nd (cP bu))
   (aq (g7 [] Q9 rfl (bZ rfl T.dO (cW (qv 1))) (bx 4 nd)
   (aC (ly 3 (iX (own:=["_law_j"]) (cap:=[("_law_shades_here",2),("_law_cell",0),("_law_k",4)]) #[28] rfl (bZ rfl T.dO (cW (qv 4))) ⟨λ _ _ _ _ _=>bx 0 (kR ["_law_j","_law_shades_here","_law_cell","_law_k"]),λ _ _ _ _ _=>gQ,λ _ _ _ _ _=>ba (qv 1) (aW C_Lmix hr (aB (bH bj cO (bH bj cO (qv 2) (bH jy rG (bH jy rG aw (qv 3)) (qv 3))) (qv 0)) (aB aw (aB aw bu))))⟩))))
   (aq (gB (L2.PW.pt (oE (LV aw (qv 1) aw) (oE (bG iZ nN (bH dF fY (qv 0) aw) aw) (pF (f7 (aW C_Lnone_together hr (cW (qv 3))))))))
   (aC (jO 3))
   (du))
   (aq (gB (bG iZ nN (qv 1) aw)
   (aC (dH (cP (aB (cP bu) (aB (cP (cW (ba (qv 2) aw))) (aB (cP (kQ (ba (qv 2) aw) (ba (qv 2) aw))) bu))))))
   (du))
   (aq (aI 3 nd (cP bu))
   (aq (g7 [] Q9 rfl (bZ rfl T.dO (cW (qv 1))) (bx 4 nd)
   (aC (ly 3 (iX (own:=["_law_j"]) (cap:=[("_law_shades_here",2),("_law_k",4)]) #[28] rfl (bZ rfl T.dO (cW (qv 4))) ⟨λ _ _ _ _ _=>bx 0 (kR ["_law_j","_law_shades_here","_law_k"]),λ _ _ _ _ _=>gQ,λ _ _ _ _ _=>ba (qv 1) (vg Cu NW T.FZ (cW (xD rB CO (bH bj cO (qv 0) aw) (qv 2))))⟩))))
   (aC (jO 3)))))))
abbrev s_Lprime:Stmt:=top 34
def sc_Lprime:aP ["_law_cell","_law_woods","_law_shades_here","_law_rows","_law_order","_law_made","_law_at","_law_row","_law_to","_law_one","_law_other"] ["_law_cell","_law_woods","_law_shades_here"] (au s_Lprime):=nz
def g_Lprime_e1:SD->Res D:=ai bB (ae 2) (ae 1)
def g_Lprime_b2:SF:=aE (aL 9 (ai bB (ai bB (ae 4) (ae 6)) #[142])) (aE (aL 10 (ai bB (ai bB (ae 4) (ae 8)) #[142])) (iq 7 (ai bB (ai bB (ae 3) (eA j4 (aa (ae 9) (aa (ae 10) ak)))) (eA j5 (aa (ae 9) (aa (ae 10) ak))))))
def g_Lprime_b3:SF:=aE (aL 7 (eA bw ak)) (aE (gM [] (bV (aa (ae 6) ak)) (gN 8) g_Lprime_b2) (iq 5 (eA iV (aa (ae 7) ak))))
def g_Lprime_e4:SD->Res D:=eA r8 (aa (aF G_Lhead #[50]) #[144])
abbrev E_Lprime (K:#[0])(mg:#[8]):=jM K mg "_law_prime" s_Lprime ["_law_cell","_law_woods","_law_shades_here"]
def g_Lprime:SF:=aE (aL 3 (aF G_Lprime_rows (aa (ae 0) (aa (eA bP #[50]) #[154])))) (aE (aL 4 (eA iN (aa (cu (pH #[50]) #[106] dI g_Lprime_e4 2 []) ak))) (aE (aL 5 (eA bw ak)) (aE (gM [] (bV (aa (eA bP #[134]) ak)) (gN 6) g_Lprime_b3) (dX (eA r8 (aa (eC (.str "prime")) (aa (eA iV (aa (ae 5) ak)) (aa (eA iV (aa (cu (jo (ae 4)) #[106] dI g_Lprime_e1 2 [("_law_woods",1)]) ak)) ak))))))))
def G_Lprime:DF:=cF 3 11 (g_Lprime)
abbrev Q_Lprime (b:Bd):=jq b.P b.w b.K b.mg b.base 29 "_law_prime" ["_law_cell","_law_woods","_law_shades_here"] (jr b.K (G_Lprime))
def ok_Lprime (T:TX b)(C_Lhead:Q_Lhead b)(C_Lprime_rows:Q_Lprime_rows b)(F:E_Lprime b.K b.mg):Q_Lprime b:=bS (k:=28) (g:=g_Lprime) F sc_Lprime rfl rfl λ f cdv A outer s H hr=>by
 have nd:=sc_Lprime.nd;have hu:=cR hr;exact aq (aI 3 nd (aW C_Lprime_rows hr (aB (qv 0) (aB (dR bc eL T.eS (cW (qv 1))) (aB (qv 2) bu)))))
   (aq (aI 4 nd (dR pO wc T.iQ (cW (iX (own:=["_law_k","_law_wood_here"]) (cap:=[]) #[28] rfl (Ib rfl T.zd (cW (qv 1))) ⟨λ _ _ _ _ _=>EN rfl (nh (i:=0) (kR ["_law_k","_law_wood_here"]) rfl (by walk_at "l") (nh (i:=1) (kR ["_law_k","_law_wood_here"]) rfl (by walk_at "l") Al)),λ _ _ _ _ _=>gQ,λ _ _ _ _ _=>rH (kQ (aW C_Lhead hr (cW (qv 1))) (qv 0))⟩))))
   (aq (aI 5 nd (cP bu))
   (aq (g7 [] Q9 rfl (bZ rfl T.dO (cW (dR bc eL T.eS (cW (qv 4))))) (bx 6 nd)
   (aq (aI 7 nd (cP bu))
   (aq (g7 [] Q9 rfl (bZ rfl T.dO (cW (qv 6))) (bx 8 nd)
   (aq (aI 9 nd (ba (ba (qv 4) (qv 6)) aw))
   (aq (aI 10 nd (ba (ba (qv 4) (qv 8)) aw))
   (aC (ly 7 (ba (ba (qv 3) (dR (mW rfl) xm T.BW (kQ (qv 9) (qv 10)))) (dR (j1 rfl) tV T.wk (kQ (qv 9) (qv 10)))))))))
   (aC (ly 5 (vg dQ kK T.iH (cW (qv 7))))))))
   (aC (dH (rH (aB jx (aB (vg dQ kK T.iH (cW (qv 5))) (aB (vg dQ kK T.iH (cW (iX (own:=["_law_head_here","_law_k"]) (cap:=[("_law_woods",1)]) #[28] rfl (fL (qv 4)) ⟨λ _ _ _ _ _=>EN rfl (nh (i:=0) (kR ["_law_head_here","_law_k","_law_woods"]) rfl (by walk_at "l") (nh (i:=1) (kR ["_law_head_here","_law_k","_law_woods"]) rfl (by walk_at "l") Al)),λ _ _ _ _ _=>gQ,λ _ _ _ _ _=>ba (qv 2) (qv 1)⟩))) bu)))))))))
abbrev s_Lwood:Stmt:=top 35
def sc_Lwood:aP ["_law_cells","_law_places_here","_law_shades_here","_law_order","_law_woods","_law_turn","_law_cell","_law_many","_law_some_here","_law_knot","_law_shade"] ["_law_cells","_law_places_here","_law_shades_here"] (au s_Lwood):=nz
def g_Lwood_w1:SD->Res Bool:=eT (ai BC (eA bP #[134]) #[142])
def g_Lwood_b2:SF:=aE (aL 6 (ai bE (ai bB (ae 0) (ai cE (ae 5) (eA bP #[144]))) (ai jN (eC (.int 7)) (ae 5)))) (aE (aL 7 (ai bE #[150] (aF G_Lmix (aa (ae 6) (aa #[147] (aa (eC (.int 4)) ak)))))) (aE (fZ (eT (ai j3 (aF G_Lmix (aa (ae 6) (aa (eC (.int 5)) (aa (eC (.int 4)) ak)))) #[147])) (aL 7 (ai bE #[150] (aF G_Lmix (aa (ae 6) (aa (eC (.int 6)) (aa (eC (.int 23)) ak)))))) bD) (aE (aL 7 (eA j5 (aa (ae 7) (aa (eA bP #[134]) ak)))) (aE (aL 8 (lZ (ae 4) MM (eP (ae 7)))) (aE (aL 4 (lZ (ae 4) (eP (ae 7)) MM)) (aE (fZ (lK (eT (ai BC (ae 7) #[150])) (eT (ai Ez (aF G_Lmix (aa (ae 6) (aa #[142] (aa (eC (.int 5)) ak)))) (eC (.int 3))))) (aL 9 (aF G_Lprime (aa (ae 6) (aa (ae 8) #[154])))) (aE #[27] (aL 9 (aF G_Lflat (aa (ae 10) (aa (ae 8) ak)))))) (aE (fZ (eT (ai j3 (aF G_Lmix (aa (ae 6) (aa (eC (.int 3)) (aa #[150] ak)))) #[147])) (aL 4 (ai bE (eA bw (aa (ae 9) ak)) (ae 4))) (iq 4 (ae 9))) (aL 5 (ai bE (ae 5) #[142])))))))))
def g_Lwood_e3:SD->Res D:=ai bB (ae 2) (ae 1)
def g_Lwood_e4:SD->Res D:=eA r8 (aa (aF G_Lmix (aa (ai bE (ai bB (ae 1) (ai cE (ae 0) (eA bP #[50]))) (ai jN (eC (.int 31)) (ae 0))) (aa (eC (.int 4)) (aa (eC (.int 997)) ak)))) #[144])
abbrev E_Lwood (K:#[0])(mg:#[8]):=jM K mg "_law_wood" s_Lwood ["_law_cells","_law_places_here","_law_shades_here"]
def g_Lwood:SF:=aE (aL 3 (eA iN (aa (cu (bV (aa (eA bP #[50]) ak)) (gN 0) dI g_Lwood_e4 1 [("_law_cells",0)]) ak))) (aE (aL 4 (cu (jo (ae 3)) #[106] dI g_Lwood_e3 2 [("_law_places_here",1)])) (aE (aL 5 #[147]) (aE (fM g_Lwood_w1 g_Lwood_b2) (dX (ai bB (ae 4) #[147])))))
def G_Lwood:DF:=cF 3 11 (g_Lwood)
abbrev Q_Lwood (b:Bd):=jq b.P b.w b.K b.mg b.base 32 "_law_wood" ["_law_cells","_law_places_here","_law_shades_here"] (jr b.K (G_Lwood))
def ok_Lwood (T:TX b)(C_Lmix:Q_Lmix b)(C_Lflat:Q_Lflat b)(C_Lprime:Q_Lprime b)(F:E_Lwood b.K b.mg):Q_Lwood b:=bS (k:=31) (g:=g_Lwood) F sc_Lwood rfl rfl λ f cdv A outer s H hr=>by
 have nd:=sc_Lwood.nd;have hu:=cR hr;exact aq (aI 3 nd (dR pO wc T.iQ (cW (iX (own:=["_law_k"]) (cap:=[("_law_cells",0)]) #[28] rfl (bZ rfl T.dO (cW (dR bc eL T.eS (cW (qv 1))))) ⟨λ _ _ _ _ _=>bx 0 (kR ["_law_k","_law_cells"]),λ _ _ _ _ _=>gQ,λ _ _ _ _ _=>rH (kQ (aW C_Lmix hr (aB (bH bj cO (ba (qv 1) (bH dF fY (qv 0) (dR bc eL T.eS (cW (qv 1))))) (bH jy rG aw (qv 0))) (aB aw (aB aw bu)))) (qv 0))⟩))))
   (aq (kT 4 nd (own:=["_law_mark","_law_k"]) (cap:=[("_law_places_here",1)]) #[28] rfl (fL (qv 3)) ⟨λ _ _ _ _ _=>EN rfl (nh (i:=0) (kR ["_law_mark","_law_k","_law_places_here"]) rfl (by walk_at "l") (nh (i:=1) (kR ["_law_mark","_law_k","_law_places_here"]) rfl (by walk_at "l") Al)),λ _ _ _ _ _=>gQ,λ _ _ _ _ _=>ba (qv 2) (qv 1)⟩)
   (aq (aI 5 nd aw)
   (aq (nc Q9 (bG yj EA (dR bc eL T.eS (cW (qv 4))) aw)
   (aq (aI 6 nd (bH bj cO (ba (qv 0) (bH dF fY (qv 5) #[190])) (bH jy rG aw (qv 5))))
   (aq (aI 7 nd (bH bj cO aw #[84]))
   (aq (gB (bG iZ nN #[84] aw)
   (aC (aI 7 nd (bH bj cO aw #[84])))
   (du))
   (aq (aI 7 nd (dR (j1 rfl) tV T.wk (kQ (qv 7) (dR bc eL T.eS (cW (qv 4))))))
   (aq (aI 8 nd (pG (qv 4) BE (jA (qv 7))))
   (aq (aI 4 nd (pG (qv 4) (jA (qv 7)) BE))
   (aq (gB (L2.PW.pt (oE (bG yj EA (qv 7) aw) (pF (bG rB CO #[84] aw))))
   (aC (aI 9 nd (aW C_Lprime hr (aB (qv 6) (aB (qv 8) (aB (qv 2) bu))))))
   (aq (aI 10 nd (ba (bH bj cO (qv 2) (cP (cW (bH bj cO (bH jy rG (qv 5) (bH sY yC aw aw)) (bH dF fY (qv 6) (bH sY yC aw aw)))))) #[84]))
   (aC (aI 9 nd (aW C_Lflat hr (kQ (qv 10) (qv 8)))))))
   (aq (gB (bG iZ nN #[84] aw)
   (aC (aI 4 nd (bH bj cO (cP (cW (qv 9))) (qv 4))))
   (aC (ly 4 (qv 9))))
   (aC (aI 5 nd (bH bj cO (qv 5) aw))))))))))))
   (aC (dH (ba (qv 4) aw))))))
abbrev s_Lfill:Stmt:=top 36
def sc_Lfill:aP ["_law_shade_of","_law_wood_here","_law_parts","_law_row","_law_k","_law_j","_law_shade","_law_one","_law_other"] ["_law_shade_of","_law_wood_here"] (au s_Lfill):=nz
def g_Lfill_b1 (R_Lfill:DF):SF:=BG 0 (eA r8 (aa (eA j4 (aa (ae 7) (aa (ae 8) ak))) (aa (eA j5 (aa (ae 7) (aa (ae 8) ak))) ak))) (ae 6)
def g_Lfill_b2 (R_Lfill:DF):SF:=gM [2,5] (jo (ai bB (ae 2) (ae 5))) (gN 8) ((g_Lfill_b1 R_Lfill))
def g_Lfill_b3 (R_Lfill:DF):SF:=aE (aL 6 (ai bB (ae 1) #[142])) (aE (fZ (eT (ai j3 #[98] (eC (.str "prime")))) (aL 6 (ai bB (ai bB (ai bB (ae 1) #[142]) (ae 4)) (ae 5))) bD) (gM [2,4] (jo (ai bB (ae 2) (ae 4))) (gN 7) ((g_Lfill_b2 R_Lfill))))
def g_Lfill_b4 (R_Lfill:DF):SF:=aE (gM [] (bV #[134]) (gN 5) ((g_Lfill_b3 R_Lfill))) (aL 3 (ai bE (ae 3) (ai bB (ae 2) (ae 4))))
abbrev E_Lfill (K:#[0])(mg:#[8]):=jM K mg "_law_fill" s_Lfill ["_law_shade_of","_law_wood_here"]
def g_Lfill (R_Lfill:DF):SF:=aE (fZ (r6 (eT (gD (g8 An) (ae 1)))) (Ke (eA bw #[50])) bD) (aE (ko 2 0 (jo (ai bB (ae 1) #[150])) R_Lfill #[144]) (aE (aL 3 (eA bw ak)) (aE (gM [] (bV (aa (eA bP #[154]) ak)) (gN 4) ((g_Lfill_b4 R_Lfill))) (AG 2))))
def G_Lfill:Nat->DF
 |0=>λ _=>.bad
 |n+1=>AF 2 9 (g_Lfill (G_Lfill n))
abbrev Q_Lfill (b:Bd):=jq b.P b.w b.K b.mg b.base 27 "_law_fill" ["_law_shade_of","_law_wood_here"] (LW b.K (G_Lfill 26))
def ok_Lfill (T:TX b)  (F:E_Lfill b.K b.mg):∀ n:Nat,jq b.P b.w b.K b.mg b.base (n+1) "_law_fill" ["_law_shade_of","_law_wood_here"] (LW b.K (G_Lfill n))
 |0=>FI F
 | n+1=>FF (k:=n+1) (n:=2) (m:=9) (g:=g_Lfill (G_Lfill n)) F sc_Lfill rfl rfl λ f cdv A outer s H hr=>by
  have C_Lfill:=ok_Lfill T  F n;have nd:=sc_Lfill.nd;have hu:=cR hr;exact aq (gB (tU (f7 (l7 (ty:=.Name "tuple" ⟨0,0,0,0⟩) oF rfl T.bM (qv 1) rfl T.iH #[141])))
   (aC (LX (cP (cW (qv 1)))))
   (du))
   (aq (AI (j:=2) (i:=0) nd rfl (by walk_at "l") #[28] rfl (fL (ba (qv 1) aw)) ⟨λ _ _ _ _ _=>bx 0 (show(["_law_branch","_law_shade_of"]:#[79]).Nodup by decide +kernel),λ _ _ _ _ _=>gQ,λ _ _ _ _ _=>FG 1 C_Lfill (hr.mono #[1]) rfl (cW (qv 0))⟩)
   (aq (aI 3 nd (cP bu))
   (aq (g7 [] Q9 rfl (bZ rfl T.dO (cW (dR bc eL T.eS (cW (qv 2))))) (bx 4 nd)
   (aq (g7 [] Q9 rfl (bZ rfl T.dO (cW (qv 4))) (bx 5 nd)
   (aq (aI 6 nd (ba (qv 1) aw))
   (aq (gB (bG iZ nN (ba (qv 1) aw) jx)
   (aC (aI 6 nd (ba (ba (ba (qv 1) aw) (qv 4)) (qv 5))))
   (du))
   (aC (g7 [2,4] Q9 rfl (fL (ba (qv 2) (qv 4))) (bx 7 nd)
   (aC (g7 [2,5] Q9 rfl (fL (ba (qv 2) (qv 5))) (bx 8 nd)
   (aC (Lp 0 hu (rH (kQ (dR (mW rfl) xm T.BW (kQ (qv 7) (qv 8))) (dR (j1 rfl) tV T.wk (kQ (qv 7) (qv 8))))) (qv 6))))))))))
   (aC (aI 3 nd (bH bj cO (qv 3) (ba (qv 2) (qv 4)))))))
   (aC (IK 2)))))
abbrev s_Lnet:Stmt:=top 37
def sc_Lnet:aP ["_law_wood_here","_law_shade_of","_law_places_here","_law_rows","_law_k"] ["_law_wood_here"] (au s_Lnet):=nz
def g_Lnet_e1:SD->Res D:=ai EV (ae 1) (eA r8 (aa (ai bB (ae 2) (ae 3)) (aa (ai bB (ae 2) (ae 0)) ak)))
def g_Lnet_b2:SF:=iq 3 (eA iV (aa (cu (bV #[134]) (gN 0) dI g_Lnet_e1 1 [("_law_shade_of",1),#[112],("_law_k",4)]) ak))
abbrev E_Lnet (K:#[0])(mg:#[8]):=jM K mg "_law_net" s_Lnet ["_law_wood_here"]
def g_Lnet:SF:=aE (aL 1 (EX true)) (aE (yV 2 (pR (kP 1 ((G_Lfill 26)) #[144]))) (aE (aL 3 (eA bw ak)) (aE (gM [] (bV (aa (eA bP #[154]) ak)) (gN 4) g_Lnet_b2) (dX (eA r8 (aa (eA iV #[154]) (aa (eA iV #[113]) ak)))))))
def G_Lnet:DF:=cF 1 5 (g_Lnet)
abbrev Q_Lnet (b:Bd):=jq b.P b.w b.K b.mg b.base 28 "_law_net" ["_law_wood_here"] (jr b.K (G_Lnet))
def ok_Lnet (T:TX b)(C_Lfill:Q_Lfill b)(F:E_Lnet b.K b.mg):Q_Lnet b:=bS (k:=27) (g:=g_Lnet) F sc_Lnet rfl rfl λ f cdv A outer s H hr=>by
 have nd:=sc_Lnet.nd;have hu:=cR hr;exact aq (aI 1 nd Ii)
   (aq (LZ (j:=2) nd rfl (by walk_at "l") (Dh rfl T.iQ (FG 1 C_Lfill (hr.mono #[10]) rfl (cW (qv 0)))))
   (aq (aI 3 nd (cP bu))
   (aq (g7 [] Q9 rfl (bZ rfl T.dO (cW (dR bc eL T.eS (cW (qv 2))))) (bx 4 nd)
   (aC (ly 3 (vg dQ kK T.iH (cW (iX (own:=["_law_j"]) (cap:=[("_law_shade_of",1),#[112],("_law_k",4)]) #[28] rfl (bZ rfl T.dO (cW (qv 4))) ⟨λ _ _ _ _ _=>bx 0 (kR ["_law_j","_law_shade_of","_law_places_here","_law_k"]),λ _ _ _ _ _=>gQ,λ _ _ _ _ _=>Lq hu (qv 1) (rH (kQ (ba (qv 2) (qv 3)) (ba (qv 2) (qv 0)))) (λ _ _=>rfl)⟩))))))
   (aC (dH (rH (kQ (vg dQ kK T.iH (cW (qv 2))) (vg dQ kK T.iH (cW (qv 3))))))))))
abbrev s_Lwhole:Stmt:=top 38
def sc_Lwhole:aP ["_law_thing"] ["_law_thing"] (au s_Lwhole):=nz
abbrev E_Lwhole (K:#[0])(mg:#[8]):=jM K mg "_law_whole" s_Lwhole ["_law_thing"]
def g_Lwhole:SF:=dX (Ak (gD (g8 Pp) (ae 0)) (Ak (EB (gD (g8 P0) (ae 0))) (ai PX (ae 0) #[147])))
def G_Lwhole:DF:=cF 1 1 (g_Lwhole)
abbrev Q_Lwhole (b:Bd):=jq b.P b.w b.K b.mg b.base 1 "_law_whole" ["_law_thing"] (jr b.K (G_Lwhole))
def ok_Lwhole (T:TX b)  (F:E_Lwhole b.K b.mg):Q_Lwhole b:=bS (k:=0) (g:=g_Lwhole) F sc_Lwhole rfl rfl λ f cdv A outer s H hr=>by
 have nd:=sc_Lwhole.nd;have hu:=cR hr;exact aC (dH (EC (l7 (ty:=.Name "int" ⟨0,0,0,0⟩) yG rfl T.bM (qv 0) rfl T.FZ #[141]) (EC (JX (l7 (ty:=.Name "bool" ⟨0,0,0,0⟩) CV rfl T.bM (qv 0) rfl T.Ml #[141])) (JY (xD MY Ph (qv 0) aw)))))
abbrev s_Lshades:Stmt:=top 39
def sc_Lshades:aP ["_law_cell","_law_one"] ["_law_cell"] (au s_Lshades):=nz
abbrev E_Lshades (K:#[0])(mg:#[8]):=jM K mg "_law_shades" s_Lshades ["_law_cell"]
def g_Lshades:SF:=aE (aL 1 (ai bE #[142] (ai cE (ae 0) (ai j2 (eC (.int 10)) (eC (.int 30)))))) (dX (ai bB (eA bw #[67]) (ai cE (ae 0) (eC (.int 3)))))
def G_Lshades:DF:=cF 1 2 (g_Lshades)
abbrev Q_Lshades (b:Bd):=jq b.P b.w b.K b.mg b.base 1 "_law_shades" ["_law_cell"] (jr b.K (G_Lshades))
def ok_Lshades (T:TX b)  (F:E_Lshades b.K b.mg):Q_Lshades b:=bS (k:=0) (g:=g_Lshades) F sc_Lshades rfl rfl λ f cdv A outer s H hr=>by
 have nd:=sc_Lshades.nd;have hu:=cR hr;exact aq (aI 1 nd (bH bj cO aw (bH dF fY (qv 0) (bH sY yC aw aw))))
   (aC (dH (ba (cP (aB (cP (aB aw (aB (qv 1) (aB (bH bj cO (qv 1) aw) bu)))) (aB (cP (aB (qv 1) (aB aw (aB (bH jy rG aw (qv 1)) bu)))) (aB (cP (aB aw (aB aw (aB aw bu)))) bu)))) (bH dF fY (qv 0) aw))))
abbrev s_Lplaces:Stmt:=top 40
def sc_Lplaces:aP ["_law_cell","_law_many","_law_places_here","_law_k"] ["_law_cell","_law_many"] (au s_Lplaces):=nz
def g_Lplaces_b1:SF:=iq 2 (ai bE (ai bE (ai bB (ae 2) (gD lY #[142])) #[142]) (aF G_Lmix (aa (ai bE (ae 0) (ae 3)) (aa (eC (.int 6)) (aa (eC (.int 3)) ak)))))
abbrev E_Lplaces (K:#[0])(mg:#[8]):=jM K mg "_law_places" s_Lplaces ["_law_cell","_law_many"]
def g_Lplaces:SF:=aE (aL 2 (eA bw (aa (ai cE (ae 0) (ai j2 (eC (.int 10)) (eC (.int 30)))) ak))) (aE (gM [] (bV (aa (ai Ey (ae 1) #[142]) ak)) (gN 3) g_Lplaces_b1) (iM 2))
def G_Lplaces:DF:=cF 2 4 (g_Lplaces)
abbrev Q_Lplaces (b:Bd):=jq b.P b.w b.K b.mg b.base 2 "_law_places" ["_law_cell","_law_many"] (jr b.K (G_Lplaces))
def ok_Lplaces (T:TX b)(C_Lmix:Q_Lmix b)(F:E_Lplaces b.K b.mg):Q_Lplaces b:=bS (k:=1) (g:=g_Lplaces) F sc_Lplaces rfl rfl λ f cdv A outer s H hr=>by
 have nd:=sc_Lplaces.nd;have hu:=cR hr;exact aq (aI 2 nd (cP (cW (bH dF fY (qv 0) (bH sY yC aw aw)))))
   (aq (g7 [] Q9 rfl (bZ rfl T.dO (cW (bH Km Nu (qv 1) aw))) (bx 3 nd)
   (aC (ly 2 (bH bj cO (bH bj cO (ba (qv 2) (vO aw)) aw) (aW C_Lmix hr (aB (bH bj cO (qv 0) (qv 3)) (aB aw (aB aw bu))))))))
   (aC (jO 2)))
abbrev s_Lword:Stmt:=top 41
def sc_Lword:aP ["_law_e","_law_word_here"] ["_law_e"] (au s_Lword):=nz
abbrev E_Lword (K:#[0])(mg:#[8]):=jM K mg "_law_word" s_Lword ["_law_e"]
def g_Lword (ca:#[88]):SF:=aE (aL 1 (eC (.str ""))) (aE (fZ (eT (gD (eB (leaf ca) (BX ca "Unlike")) (ae 0))) (aL 1 (ai bE (ae 1) (eC (.str "unlike")))) bD) #[37])
def G_Lword (ca:#[88]):DF:=cF 1 2 (g_Lword ca)
abbrev Q_Lword (b:Bd):=Ir b.P b.w b.K b.mg b.base 1 "_law_word" ["_law_e"] (jr b.K (G_Lword b.ca))
def ok_Lword (T:TX b)  (F:E_Lword b.K b.mg):Q_Lword b:=Iq (k:=0) (g:=g_Lword b.ca) F sc_Lword rfl rfl λ f cdv A outer s H hr hk=>by
 have nd:=sc_Lword.nd;have hu:=cR hr;exact aq (aI 1 nd jx)
   (aq (gB (f7 (sJ (OC T T.pY) rfl T.bM (qv 0) rfl T.pY.mg))
   (aC (aI 1 nd (bH bj cO (qv 1) jx)))
   (du))
   (aq (gB (f7 (sJ (OC T T.nE) rfl T.bM (qv 0) rfl T.nE.mg))
   (aC (aI 1 nd (bH bj cO (qv 1) jx)))
   (du))
   (aq (gB (f7 (sJ (OC T T.sN) rfl T.bM (qv 0) rfl T.sN.mg))
   (aC (aI 1 nd (bH bj cO (qv 1) jx)))
   (du))
   (aq (gB (L2.PW.pt (EG (f7 (sJ (OC T T.wm) rfl T.bM (qv 0) rfl T.wm.mg)) (EF (tU (f7 (Fg (Qi T) rfl T.bM (qv 0) rfl T.xM #[141]))))))
   (aC (aI 1 nd (bH bj cO (qv 1) jx)))
   (du))
   (aC (jO 1))))))
abbrev s_Lleast_of_both:Stmt:=top 42
def sc_Lleast_of_both:aP ["_law_one","_law_other","_law_some_here","_law_got","_law_many"] ["_law_one","_law_other","_law_some_here"] (au s_Lleast_of_both):=nz
def g_Lleast_of_both_e1:SD->Res D:=ai bB #[98] (ae 0)
def g_Lleast_of_both_w2:SD->Res Bool:=eT (ai Ez (ae 4) (eA bP #[113]))
def g_Lleast_of_both_b3:SF:=aE (aL 4 (eA bP #[113])) (yX 3 (ur G_Lgrown (ai bB (ae 1) #[142]) (uo 3 G_Lgrown (ai bB (ae 0) #[142]))))
def g_Lleast_of_both_c4:SD->Res Bool:=eT (ai (inD false) (ai bB #[98] (ae 0)) (ae 2))
def g_Lleast_of_both_e5:SD->Res D:=ae 0
abbrev E_Lleast_of_both (K:#[0])(mg:#[8]):=jM K mg "_law_least_of_both" s_Lleast_of_both ["_law_one","_law_other","_law_some_here"]
def g_Lleast_of_both:SF:=aE (aL 3 (cu (bV (aa (eA bP (aa (ai bB (ae 0) #[147]) ak)) ak)) (gN 0) g_Lleast_of_both_c4 g_Lleast_of_both_e5 1 [("_law_one",0),("_law_some_here",2)])) (aE (aL 4 #[147]) (aE (fM g_Lleast_of_both_w2 g_Lleast_of_both_b3) (dX (eA fT (aa (cu (jo (ae 3)) (gN 0) dI g_Lleast_of_both_e1 1 [("_law_one",0)]) ak)))))
def G_Lleast_of_both:DF:=cF 3 5 (g_Lleast_of_both)
abbrev Q_Lleast_of_both (b:Bd):=jq b.P b.w b.K b.mg b.base 2 "_law_least_of_both" ["_law_one","_law_other","_law_some_here"] (jr b.K (G_Lleast_of_both))
def ok_Lleast_of_both (T:TX b)(C_Lgrown:Q_Lgrown b)(F:E_Lleast_of_both b.K b.mg):Q_Lleast_of_both b:=bS (k:=1) (g:=g_Lleast_of_both) F sc_Lleast_of_both rfl rfl λ f cdv A outer s H hr=>by
 have nd:=sc_Lleast_of_both.nd;have hu:=cR hr;exact aq (kT 3 nd (own:=["_law_k"]) (cap:=[("_law_one",0),("_law_some_here",2)]) #[28] rfl (bZ rfl T.dO (cW (dR bc eL T.eS (cW (ba (qv 0) aw))))) ⟨λ _ _ _ _ _=>bx 0 (kR ["_law_k","_law_one","_law_some_here"]),λ _ _ _ _ _=>nk (bG vF (Ej false) (ba (ba (qv 1) aw) (qv 0)) (qv 2)),λ _ _ _ _ _=>qv 0⟩)
   (aq (aI 4 nd aw)
   (aq (nc Q9 (bG rB CO (qv 4) (dR bc eL T.eS (cW (qv 3))))
   (aq (aI 4 nd (dR bc eL T.eS (cW (qv 3))))
   (aC (L8 3 nd (L5 C_Lgrown (hr.mono #[10]) rfl (ba (qv 1) aw) (toV (L3 3 C_Lgrown (hr.mono #[10]) rfl (ba (qv 0) aw))))))))
   (aC (dH (dR jw t7 T.iQ (cW (iX (own:=["_law_k"]) (cap:=[("_law_one",0)]) #[28] rfl (fL (qv 3)) ⟨λ _ _ _ _ _=>bx 0 (kR ["_law_k","_law_one"]),λ _ _ _ _ _=>gQ,λ _ _ _ _ _=>ba (ba (qv 1) aw) (qv 0)⟩)))))))
abbrev s_Lsome:Stmt:=top 43
def sc_Lsome:aP ["_law_places_here","_law_cell","_law_some_here"] ["_law_places_here","_law_cell"] (au s_Lsome):=nz
def g_Lsome_c1:SD->Res Bool:=eT (ai j3 (aF G_Lmix (aa (ai bE (ae 2) (ai jN (eC (.int 5)) (ae 0))) (aa #[147] (aa (eC (.int 5)) ak)))) #[147])
def g_Lsome_e2:SD->Res D:=ai bB (ae 1) (ae 0)
abbrev E_Lsome (K:#[0])(mg:#[8]):=jM K mg "_law_some" s_Lsome ["_law_places_here","_law_cell"]
def g_Lsome:SF:=aE (aL 2 (cu (bV #[85]) (gN 0) g_Lsome_c1 g_Lsome_e2 1 [("_law_places_here",0),("_law_cell",1)])) (aE #[96] (aE #[2] (iM 2)))
def G_Lsome:DF:=cF 2 3 (g_Lsome)
abbrev Q_Lsome (b:Bd):=jq b.P b.w b.K b.mg b.base 2 "_law_some" ["_law_places_here","_law_cell"] (jr b.K (G_Lsome))
def ok_Lsome (T:TX b)(C_Lmix:Q_Lmix b)(F:E_Lsome b.K b.mg):Q_Lsome b:=bS (k:=1) (g:=g_Lsome) F sc_Lsome rfl rfl λ f cdv A outer s H hr=>by
 have nd:=sc_Lsome.nd;have hu:=cR hr;exact aq (kT 2 nd (own:=["_law_k"]) (cap:=[("_law_places_here",0),("_law_cell",1)]) #[28] rfl (bZ rfl T.dO (cW #[190])) ⟨λ _ _ _ _ _=>bx 0 (kR ["_law_k","_law_places_here","_law_cell"]),λ _ _ _ _ _=>nk (bG iZ nN (aW C_Lmix hr (aB (bH bj cO (qv 2) (bH jy rG aw (qv 0))) (aB aw (aB aw bu)))) aw),λ _ _ _ _ _=>ba (qv 1) (qv 0)⟩)
   (aq (gB (L2.PW.pt (oE (bG yj EA (dR bc eL T.eS (cW (qv 2))) aw) (pF (bG iZ nN (bH dF fY (qv 1) aw) aw))))
   (aC (aI 2 nd (bH bj cO (cP (cW (ba (qv 2) (vO aw)))) (qv 2))))
   (du))
   (aq (gB (bG iZ nN (bH dF fY (qv 1) aw) aw)
   (aC (NY 2 (bH dF fY (bH sD xj (qv 1) aw) (bH bj cO (dR bc eL T.eS (cW (qv 2))) aw)) (ba (cP (kQ (bH bj cO (ba (qv 0) (vO aw)) aw) (bH bj cO (bH bj cO (ba (qv 0) (vO aw)) aw) (bH dF fY (qv 1) (bH sY yC aw aw))))) (bH dF fY (bH sD xj (qv 1) aw) aw))))
   (aC (gB (L2.PW.pt (oE (bG iZ nN (dR bc eL T.eS (cW (qv 2))) aw) (pF (bG yj EA (bH dF fY (qv 1) aw) aw))))
   (aC (aI 2 nd (cP (cW (ba (qv 0) (bH dF fY (qv 1) #[190]))))))
   (du))))
   (aC (jO 2))))
abbrev s_Lasked:Stmt:=top 44
def sc_Lasked:aP ["_law_wood_here","_law_other","_law_some_here","_law_handed","_law_found","_law_e"] ["_law_wood_here","_law_other","_law_some_here"] (au s_Lasked):=nz
def g_Lasked_e1 (ca:#[88]):SD->Res D:=aF G_Lwhole #[144]
abbrev E_Lasked (K:#[0])(mg:#[8]):=jM K mg "_law_asked" s_Lasked ["_law_wood_here","_law_other","_law_some_here"]
def g_Lasked (ca:#[88]):SF:=aE (aL 3 (eA vN #[154])) (aE (ud (aL 4 (dz (bF ca) (aa (ae 0) (aa (ae 1) #[113])))) (BU ca) (G_Lword ca)) (aE (fZ (JW (eT (ai (mh true) (ae 3) (ae 2))) (JW (r6 (eT (gD (g8 yf) (ae 4)))) (r6 (eT (eA NT (aa (cu (jo (ae 4)) (gN 0) dI ((g_Lasked_e1 ca)) 1 []) ak)))))) (dX (eC (.str "none"))) bD) (iM 4)))
def G_Lasked (ca:#[88]):DF:=cF 3 6 (g_Lasked ca)
abbrev Q_Lasked (b:Bd):=jq b.P b.w b.K b.mg b.base 9 "_law_asked" ["_law_wood_here","_law_other","_law_some_here"] (jr b.K (G_Lasked b.ca))
def ok_Lasked (T:TX b)(C_least_common:mE b)(C_Lwhole:Q_Lwhole b)(C_Lword:Q_Lword b)(F:E_Lasked b.K b.mg):Q_Lasked b:=bS (k:=8) (g:=g_Lasked b.ca) F sc_Lasked rfl rfl λ f cdv A outer s H hr=>by
 have nd:=sc_Lasked.nd;have hu:=cR hr;exact aq (aI 3 nd (vg oY ED T.xN (cW (qv 2))))
   (aq (LM (i:=5) (λ pn W Y' hx=>
   (aC (aI 4 nd (jB hx C_least_common hr (aB (qv 0) (aB (qv 1) (aB (qv 3) bu)))))))
 T.AS (hin T) C_Lword (LP (hr.mono #[10])) nd rfl rfl)
   (aq (gB (L2.PW.pt (EG (lX (qS hu) (wd true) (qv 3) (qv 2) (kE _)) (EG (tU (f7 (l7 (ty:=.Name "list" ⟨0,0,0,0⟩) vX rfl T.bM (qv 4) rfl T.xN #[141]))) (EF (tU (f7 (dR (C4 rfl) (J5 _) T.N2 (cW (iX (own:=["_law_place"]) (cap:=[]) #[28] rfl (fL (qv 4)) ⟨λ _ _ _ _ _=>bx 0 (kR ["_law_place"]),λ _ _ _ _ _=>gQ,λ _ _ _ _ _=>aW C_Lwhole hr (cW (qv 0))⟩)))))))))
   (aC (dH jx))
   (du))
   (aC (jO 4))))
abbrev qd:Stmt:=top 45
def F1:aP ["_law_script","_law_many","_law_places_here","_law_way","_law_cells","_law_wood_here","_law_others","_law_other","_law_nets","_law_cell","_law_some_here","_law_due","_law_found"] ["_law_script"] (au qd):=nz
def mO (ca:#[88]):SD->Res Bool:=eT (ai (inD true) (ae 0) (ae 1))
def qe (ca:#[88]):SD->Res D:=ae 0
def pX (ca:#[88]):SF:=aE (aL 10 (aF G_Lsome (aa (ae 2) (aa (ae 9) ak)))) (aE (fZ (eT (ai (mh true) (ae 6) (ae 2))) (aL 11 (eC (.str "unlike"))) (fZ (eT (ai BC (eA bP (aa (cu (jo (ae 10)) (gN 0) ((mO ca)) ((qe ca)) 1 [#[112]]) ak)) #[147])) (aL 11 (eC (.str "place"))) #[40])) (aE (aL 12 (aF (G_Lasked ca) (aa (ae 5) (aa (ae 7) (aa (ae 10) ak))))) #[66]))
def F3 (ca:#[88]):SF:=aE (aL 1 (ai bE #[142] (ai cE (aF G_Lcell_at (aa (ae 0) (aa #[147] ak))) (eC (.int 12))))) (aE (aL 2 (aF G_Lplaces (aa (aF G_Lcell_at (aa (ae 0) (aa #[142] ak))) #[50]))) (aE (aL 3 (aF G_Lcell_at (aa (ae 0) (aa #[150] ak)))) (aE (aL 4 (ai bE (lZ (ae 0) (eP (eC (.int 5))) (eP (eC (.int 35)))) (eA bw (aa (eC (.int 4)) (aa (eC (.int 7)) ak))))) (aE (aL 5 (aF G_Lwood (aa (ae 4) (aa (ae 2) (aa (aF G_Lshades (aa (aF G_Lcell_at (aa (ae 0) (aa (eC (.int 3)) ak))) ak)) ak))))) (aE (fZ (eT (ai j3 (ai cE (ae 3) #[150]) #[142])) (aL 4 (ai bE (lZ (ae 0) (eP (eC (.int 12))) (eP (eC (.int 45)))) (eA bw (aa (eC (.int 9)) (aa #[150] ak))))) bD) (aE (aL 6 (eA vN #[154])) (aE (fZ (eT (ai j3 (ai cE (ai lq (ae 3) #[150]) (eC (.int 5))) #[142])) (yZ 6 (ai cE (ai lq (ae 3) (eC (.int 10))) (ae 1)) (ai bE (ai bB (ae 2) (gD lY #[142])) #[142])) bD) (aE (aL 7 (aF G_Lwood (aa (ae 4) (aa (ae 6) (aa (aF G_Lshades (aa (aF G_Lcell_at (aa (ae 0) (aa (eC (.int 4)) ak))) ak)) ak))))) (aE (aL 8 (eA bw (aa (aF G_Lnet (aa (ae 5) ak)) (aa (aF G_Lnet (aa (ae 7) ak)) ak)))) (aE (gM [0] (jo (ai bE (lZ (ae 0) (eP (eC (.int 5))) (eP (eC (.int 17)))) (eA bw (aa #[142] ak)))) (gN 9) ((pX ca))) (dX (eC (.bl true)))))))))))))
def BV (ca:#[88]):DF:=cF 1 13 (F3 ca)
def Mk {f:Addr}{fd:FuncData}(T:TX b)(C_Lcell_at:Q_Lcell_at b)(C_Lwood:Q_Lwood b)(C_Lnet:Q_Lnet b)(C_Lshades:Q_Lshades b)(C_Lplaces:Q_Lplaces b)(C_Lleast_of_both:Q_Lleast_of_both b)(C_Lsome:Q_Lsome b)(C_Lasked:Q_Lasked b)(F:Em b.K "law" "law" qd f fd):nK b.P b.w b.K b.mg b.base sE 33 f fd ["_law_script"] (jr b.K (BV b.ca)):=E2 (k:=32) (n:=1) (m:=13) (g:=F3 b.ca) F F1 rfl rfl λ f cdv A outer s H hr=>by
 have nd:=F1.nd;have hu:=cR hr;exact aq (aI 1 nd (bH bj cO aw (bH dF fY (aW C_Lcell_at hr (kQ (qv 0) aw)) aw)))
   (aq (aI 2 nd (aW C_Lplaces hr (kQ (aW C_Lcell_at hr (kQ (qv 0) aw)) (qv 1))))
   (aq (aI 3 nd (aW C_Lcell_at hr (kQ (qv 0) aw)))
   (aq (aI 4 nd (bH bj cO (pG (qv 0) (jA aw) (jA aw)) (cP (kQ aw aw))))
   (aq (aI 5 nd (aW C_Lwood hr (aB (qv 4) (aB (qv 2) (aB (aW C_Lshades hr (cW (aW C_Lcell_at hr (kQ (qv 0) aw)))) bu)))))
   (aq (gB (bG iZ nN (bH dF fY (qv 3) aw) aw)
   (aC (aI 4 nd (bH bj cO (pG (qv 0) (jA aw) (jA aw)) (cP (kQ aw aw)))))
   (du))
   (aq (aI 6 nd (vg oY ED T.xN (cW (qv 2))))
   (aq (gB (bG iZ nN (bH dF fY (bH sD xj (qv 3) aw) aw) aw)
   (aC (L6 6 (bH dF fY (bH sD xj (qv 3) aw) (qv 1)) (bH bj cO (ba (qv 2) (vO aw)) aw)))
   (du))
   (aq (aI 7 nd (aW C_Lwood hr (aB (qv 4) (aB (qv 6) (aB (aW C_Lshades hr (cW (aW C_Lcell_at hr (kQ (qv 0) aw)))) bu)))))
   (aq (aI 8 nd (cP (kQ (aW C_Lnet hr (cW (qv 5))) (aW C_Lnet hr (cW (qv 7))))))
   (aq (g7 [0] Q9 rfl (fL (bH bj cO (pG (qv 0) (jA aw) (jA aw)) (cP (cW aw)))) (bx 9 nd)
   (aq (aI 10 nd (aW C_Lsome hr (kQ (qv 2) (qv 9))))
   (aq (gB (lX (qS hu) (wd true) (qv 6) (qv 2) (kE _))
   (aC (aI 11 nd jx))
   (aC (gB (bG yj EA (dR bc eL T.eS (cW (iX (own:=["_law_place"]) (cap:=[#[112]]) #[28] rfl (fL (qv 10)) ⟨λ _ _ _ _ _=>bx 0 (kR ["_law_place","_law_places_here"]),λ _ _ _ _ _=>nk (bG kG (Ej true) (qv 0) (qv 1)),λ _ _ _ _ _=>qv 0⟩))) aw)
   (aC (aI 11 nd jx))
   (aC (gB (lX (L4 hu) (wd false) (qv 10) (cP bu) (kE _))
   (aC (aI 11 nd jx))
   (aC (aI 11 nd (aW C_Lleast_of_both hr (aB (ba (qv 8) aw) (aB (ba (qv 8) aw) (aB (qv 10) bu)))))))))))
   (aq (aI 12 nd (aW C_Lasked hr (aB (qv 5) (aB (qv 7) (aB (qv 10) bu)))))
   (aq (gB (lX (DU.or (qS hu)) Kg (qv 12) (qv 11) (kE _))
   (aC (dH Ex))
   (du))
   (aC (gB (f7 (l7 (ty:=.Name "list" ⟨0,0,0,0⟩) vX rfl T.bM (qv 12) rfl T.xN #[141]))
   (aq (ly 12 (vO aw))
   (aC (gB (lX (DU.or (qS hu)) Kg (aW C_Lasked hr (aB (qv 5) (aB (qv 7) (aB (qv 10) bu)))) (qv 11) (kE _))
   (aC (dH Ex))
   (du))))
   (du))))))))
   (aC (dH Ex))))))))))))
end
end KL
namespace KL
open DL
variable {a b cell i:Int}{rows:#[187]}{xs:List D}{cs ps sh:#[6]}{j n x:Nat}{a10 a7 a8 a9:#[91]}{τ:SD}{it:#[136]}{c:#[59]}{f g:#[29]}
def jY(h:f τ=.ok (.int a))(hb:0<b):ai cE f (eC (.int b)) τ=.ok (.int (a%b)):=by
 rw[bC h (show eC (.int b) τ=.ok (.int b) from rfl)];simp[Hb,hb]
def xP(h:f τ=.ok (.int a))(hb:0<b/\b<1073741824):ai lq f (eC (.int b)) τ=.ok (.int (a/b)):=by
 rw[bC h (show eC (.int b) τ=.ok (.int b) from rfl)];simp[Hb,L2.DZ,hb]
def dB(h:f τ=.ok (.int a))(h2:g τ=.ok (.int b)):ai bE f g τ=.ok (.int (a+b)):=by rw[bC h h2];rfl
def gW(h:f τ=.ok (.int a))(h2:g τ=.ok (.int b)):eT (ai j3 f g) τ=.ok (decide (a=b)):=by
 unfold eT;rw[bC h h2];show Res.ok (xor false (decide (a=b)))=_;rw[UE]
def qW(h:f τ=.ok (.int a))(h2:g τ=.ok (.int b)):eT (ai BC f g) τ=.ok (decide (b<a)):=by
 unfold eT;rw[bC h h2];rfl
def oO(h:f τ=.ok (.int a))(h2:g τ=.ok (.int b)):eT (ai Ez f g) τ=.ok (decide (a<b)):=by
 unfold eT;rw[bC h h2];rfl
def bN {N:Nat}{g:SF}{ds:List D}{d:D}(hl:ds.length=n)(ht:ds.map some++List.replicate (N-n) none=τ)(h:g τ=.rt d):cF n N g ds=.ok d:=by
 unfold cF;rw[QG hl,ht,h];rfl
def bq{x y:D}{r:Res D}(h1:f τ=.ok x)(h2:g τ=.ok y)(h3:bB x y=r):ai bB f g τ=r:=(bC h1 h2).trans h3
def dj{d:D}(hi:i=j)(h:xs[j]?=some d):bB (.tup xs) (.int i)=.ok d:=by
 simp[bB,E3 hi h]
def eF {t:Tg}{d:D}(hi:i=j)(h:xs[j]?=some d):bB (.lst t xs) (.int i)=.ok d:=by
 simp[bB,E3 hi h]
def iz {i:Nat}{d:D}(h1:τ[i]?=some (some (.lst .own xs)))(h2:f τ=.ok d)(hp:d.aN=false)(hl:xs.length<16777216):iq i f τ=.nx (τ.set i (some (.lst .own (xs++[d])))):=by
 unfold iq;have e:gY τ i=some xs:=by unfold gY;rw[h1]
 rw[e];simp[h2,hp,hl]
def cX{t:Tg}(h:f τ=.ok (.lst t xs)):eA bP (aa f ak) τ=.ok (.int xs.length):=by
 rw[bO (bf h)];rfl
def fF{b:Bool}(h:f τ=.ok (.bl b)):eT f τ=.ok b:=by
 unfold eT;rw[h];rfl
def gZ{a b:SF}(h:c τ=.ok false):fZ c a b τ=b τ:=by rw[J3 h];rfl
def ju{a b:SF}(h:c τ=.ok true):fZ c a b τ=a τ:=by rw[J3 h];rfl
def uG {f g:#[59]}(h:f τ=.ok false):lK f g τ=.ok false:=by unfold lK;rw[h];rfl
def om {f g:#[59]}{b:Bool}(h:f τ=.ok true)(h2:g τ=.ok b):lK f g τ=.ok b:=by unfold lK;rw[h,Res.aU,QG rfl,h2]
def uF {f:#[59]}{b:Bool}(h:f τ=.ok b):r6 f τ=.ok (!b):=by unfold r6;rw[h];rfl
def F4{a b s:SF}{d:D}(h:c τ=.ok true)(h2:a τ=.rt d):aE (fZ c a b) s τ=.rt d:=by
 unfold aE;rw[ju h,h2];rfl
def jF{a s:SF}(h:c τ=.ok false):aE (fZ c a bD) s τ=s τ:=by
 refine aA ?_;rw[gZ h];rfl
def F5 {a b:SF}{d:D}(h:a τ=.rt d):aE a b τ=.rt d:=by
 unfold aE;rw[h];rfl
def fO {js:#[118]}{tg:xo}{body:SF}{τ':SD}{ds:List D}(hf:fj js τ=τ')(h:it τ'=.ok (false,ds)):gM js it tg body τ=fm tg body (aK ds) τ':=by
 unfold gM;rw[hf,h]
def bA {i:Nat}{d:D}(h:τ[i]?=some (some d))(hp:d.pure=true):ae i τ=.ok d:=by
 unfold ae;rw[h];show Res.ok d.view=_;rw[qJ d hp]
def nF{t u:Tg}{ys:List D}(h:f τ=.ok (.lst t xs))(h2:g τ=.ok (.lst u ys))(hl:xs.length+ys.length<=16777216):ai bE f g τ=.ok (.lst .own (xs++ys)):=by
 rw[bC h h2];show(if xs.length+ys.length<=16777216 then Res.ok (D.lst .own (xs++ys)) else .bad)=_;rw[QG hl]
def AU(h:f τ=.ok (.tup xs))(hp:aX xs=true):jo f τ=.ok (false,xs):=by
 unfold jo;rw[h];show Res.ok (aJ xs,xs)=_;rw[cB _ hp]
def jX{t:Tg}(h:f τ=.ok (.lst t xs))(ht:t ≠ .bor)(hp:aX xs=true):jo f τ=.ok (false,xs):=by
 unfold jo;rw[h];show Res.ok ((decide (t=.bor)||aJ xs),xs)=_;rw[cB _ hp,QF ht];rfl
inductive Wd
 |leaf (p:Int)
 |flat (c:Int) (bs:#[60])
 |prime (rows:#[187]) (bs:#[60])
mutual
def Wd.d:Wd->D
 |.leaf p=>.int p
 |.flat c bs=>.tup [.str "flat",.int c,.tup (dL bs)]
 |.prime rows bs=>.tup [.str "prime",.tup (rows.map λ r=>.tup #[41]),.tup (dL bs)]
def dL:List Wd->List D
 |[]=>[]
 |b::r=>b.d::dL r
end
mutual
def Wd.ah:Wd->List Int
 |.leaf p=>[p]
 |.flat _ bs=>ao bs
 |.prime _ bs=>ao bs
def ao:List Wd->List Int
 |[]=>[]
 |b::r=>b.ah++ao r
end
mutual
def Wd.deep:Wd->Nat
 |.leaf _=>1
 |.flat _ bs=>fP bs+1
 |.prime _ bs=>fP bs+1
def fP:List Wd->Nat
 |[]=>0
 |b::r=>max b.deep (fP r)
end
variable {ws:#[60]}
def small (x:Int):Prop:=x.natAbs<2^200
def col (rows:#[187])(a b:Nat):Int:=(rows.getD (max a b) []).getD (min a b) 0
def sO (k:Nat)(t:Nat->Nat->Int)(M:Nat->Prop):Prop:=∀ x,x<k->¬ M x->∀ y z,y<k->z<k->M y->M z->t x y=t x z
def zU (k:Nat)(t:Nat->Nat->Int):Prop:=3<=k/\∀ M:Nat->Prop,(∃ i j,i<k/\j<k/\i≠j/\M i/\M j)->sO k t M->∀ x,x<k->M x
def Wd.Ds (c:Int):Wd->Prop
 |.flat d _=>d=c
 |_=>False
mutual
def Wd.good:Wd->Prop
 |.leaf p=>small p
 |.flat c bs=>2<=bs.length/\dE bs/\small c/\∀ b∈bs,¬ b.Ds c
 |.prime rows bs=>2<=bs.length/\rows.length=bs.length/\(∀ (i:Nat) (r:#[6]),rows[i]?=some r->r.length=i)/\dE bs/\#[165]/\zU bs.length (col rows)
def dE:List Wd->Prop
 |[]=>True
 |b::r=>b.good/\dE r
end
def dU:∀ bs:List Wd,dL bs=bs.map Wd.d
 |[]=>rfl|b::r=>by show b.d::dL r=_;rw[dU r];rfl
def aO:∀ bs:List Wd,ao bs=bs.flatMap Wd.ah
 |[]=>rfl|b::r=>by show b.ah++ao r=_;rw[aO r,RX]
def bo:∀ bs:List Wd,dE bs↔∀ b∈bs,b.good
 |[]=>by simp[dE]
 |b::r=>by show b.good/\dE r↔_;rw[bo r];simp
mutual
def Wd.pure:∀ w:Wd,w.d.pure=true
 |.leaf p=>rfl|.flat c bs=>by show(true&&(true&&(aX (dL bs)&&true)))=true;rw[aT bs];rfl
 | .prime rows bs=>by
  show(true&&(aX (rows.map λ r=>D.tup #[41])&&(aX (dL bs)&&true)))=true;rw[aT bs,cG λ d m=>by obtain⟨r,_,rfl⟩:=QE.mp m;exact aj r];rfl
def aT:∀ bs:List Wd,aX (dL bs)=true
 |[]=>rfl|b::r=>by show(b.d.pure&&aX (dL r))=true;rw[Wd.pure b,aT r];rfl
end
mutual
def Wd.xQ:∀ w:Wd,w.good->1<=w.ah.length/\w.deep<=w.ah.length
 |.leaf p,_=>⟨QD _,QD _⟩
 | .flat c bs,h=>by
  have:=gq bs h.2.1;have h2:=h.1;show 1<=(ao bs).length/\fP bs+1<=(ao bs).length;omega
 | .prime rows bs,h=>by
  have:=gq bs h.2.2.2.1;have h2:=h.1;show 1<=(ao bs).length/\fP bs+1<=(ao bs).length;omega
def gq:∀ bs:List Wd,dE bs->bs.length<=(ao bs).length/\(1<=bs.length->fP bs+bs.length<=(ao bs).length+1)
 |[],_=>⟨QD _,λ h=>by simp at h⟩
 | b::r,h=>by
  have h1:=Wd.xQ b h.1;have h2:=gq r h.2;show r.length+1<=(b.ah++ao r).length/\(1<=r.length+1->max b.deep (fP r)+(r.length+1)<=(b.ah++ao r).length+1);rw[Qv];refine⟨by omega,λ _=>?_⟩;rcases UG r.length with e|e
  ·have er:r=[]:=SV.mp e;subst er;show max b.deep 0+(0+1)<=b.ah.length+0+1;omega
  ·have:=h2.2 e;omega
end
def gx {bs:#[60]}{b:Wd}(h:b∈bs):b.deep<=fP bs:=by
 induction bs with
 |nil=>cases h
 | cons c r ih =>
  show b.deep<=max c.deep (fP r);rcases QA.mp h with rfl|h
  ·omega
  ·have:=ih h;omega
def eY {bs:#[60]}{b:Wd}(h:b∈bs):b.ah.length<=(ao bs).length:=by
 induction bs with
 |nil=>cases h
 | cons c r ih =>
  show b.ah.length<=(c.ah++ao r).length;rw[Qv];rcases QA.mp h with rfl|h
  ·omega
  ·have:=ih h;omega
def rP{s:PySem.Str}{x:D}{bs:#[60]}(hx:x.pure=true)(hl:(ao bs).length<=16777216)(h:∀ b∈bs,G_Lleaves n [b.d]=.ok (.lst .own (b.ah.map .int))) :
  cF 1 3 (g_Lleaves (G_Lleaves n)) [.tup [.str s,x,.tup (dL bs)]]=.ok (.lst .own ((ao bs).map .int)):=by
 have hp:(D.tup [.str s,x,.tup (dL bs)]).pure=true:=by
  show(true&&(x.pure&&(aX (dL bs)&&true)))=true;rw[hx,aT bs];rfl
 refine bN rfl rfl ?_;unfold g_Lleaves;have v0:∀ r:SD,ae 0 (some #[49]::r)=.ok #[49]:=λ r=>bA rfl hp;have c1:r6 (eT (gD (g8 An) (ae 0))) [some #[49],none,none]=.ok false:=by
  refine uF (b:=true) (fF ?_);unfold gD;rw[v0];rfl
 rw[show([D.tup [.str s,x,.tup (dL bs)]].map some++List.replicate (3-1) none:SD)=[some #[49],none,none] from rfl];rw[jF c1];have s1:aL 1 (eA bw ak) [some #[49],none,none]=.nx [some #[49],some (.lst .own []),none]:=aG rfl rfl;rw[aA s1];have hf:fj [0] [some #[49],some (.lst .own []),none]=[some #[49],some (.lst .own []),none]:=by
  show [some (D.tup [.str s,x,.tup (dL bs)]).av,_,_]=_;rw[cz _ hp]
 have hi:jo (ai bB (ae 0) #[150]) [some #[49],some (.lst .own []),none]=.ok (false,dL bs):=by
  exact AU (bq (v0 _) (show eC (.int 2) _=.ok (.int 2) from rfl) (dj (j:=2) rfl rfl)) (aT bs)
 obtain⟨t,e1,o,e2⟩:=eu (tg:=gN 2) (body:=g_Lleaves_b1 (G_Lleaves n)) (ds:=dL bs) (λ i τ=>∃ o,τ=[some #[49],some (.lst .own ((ao (bs.take i)).map .int)),o]) 0 _ ⟨none,rfl⟩ λ j d τ hd hP=>by
  obtain⟨o,rfl⟩:=hP;rw[Ro]at *;rw[dU]at hd;obtain⟨b,hb,rfl⟩:∃ b,bs[j]?=some b/\d=b.d:=by
   rw[QB]at hd;cases e:bs[j]? with
   |none=>rw[e]at hd;cases hd|some b=>rw[e]at hd;cases hd;exact⟨b,rfl,rfl⟩
  have mem:b∈bs:=QN hb;have et:ao (bs.take (j+1))=ao (bs.take j)++b.ah:=by
   rw[aO,aO,SK,hb,RH];simp
  have hlen:(ao (bs.take j)).length+b.ah.length<=16777216:=by
   rw[<-Qv,<-et];refine QX ?_ hl;rw[aO,aO]
   conv=>rhs;rw[<-Rv (j+1) bs,RH,Qv]
   omega
  refine⟨_,_,rfl,.inl ?_,some b.d,rfl⟩;unfold g_Lleaves_b1;have a1:ae 1 #[184]=.ok (.lst .bor ((ao (bs.take j)).map .int)):=by
   show Res.ok (D.lst .bor (eN ((ao (bs.take j)).map .int)))=_;rw[kc]
  have a2:aF (G_Lleaves n) #[154] #[184]=.ok (.lst .own (b.ah.map .int)):=by
   refine cI (ds:=[b.d]) (bf (bA rfl b.pure)) ?_ ?_
   ·rw[show aK [b.d]=[b.d] by show [b.d.av]=_;rw[cz _ b.pure]];exact h b mem
   ·show(b.d.aN||false)=false;rw[aQ _ b.pure];rfl
  have a3:ai bE (ae 1) (aF (G_Lleaves n) #[154]) #[184]=.ok (.lst .own ((ao (bs.take (j+1))).map .int)):=by
   rw[nF a1 a2 (by simpa using hlen),et,Rj]
  refine(aG a3 ?_).trans rfl;show(decide (Tg.own=.bor)||aJ ((ao (bs.take (j+1))).map .int))=false;rw[dJ];rfl
 have el:(dL bs).length=bs.length:=by rw[dU,Qs]
 rw[aA ((fO hf hi).trans (by rw[br _ (aT bs)];exact e1)),e2,Ro,el,SW];rfl
def qX:∀ (n:Nat) (w:Wd),w.deep<=n->w.good->w.ah.length<=16777216->G_Lleaves n [w.d]=.ok (.lst .own (w.ah.map .int))
 |0,w,h,_,_=>by cases w<;>simp[Wd.deep]at h
 |n+1,.leaf p,h,_,_=>rfl
 | n+1,.flat c bs,h,hg,hl=>by
  have h:fP bs+1<=n+1:=h;refine rP rfl hl λ b hb=>qX n b ?_ ((bo bs).mp hg.2.1 b hb) ?_
  ·have:=gx hb;omega
  ·refine QX ?_ hl;show b.ah.length<=(ao bs).length;exact eY hb
 | n+1,.prime rows bs,h,hg,hl=>by
  have h:fP bs+1<=n+1:=h;refine rP (cG λ d m=>by obtain⟨r,_,rfl⟩:=QE.mp m;exact aj r) hl λ b hb=>qX n b ?_ ((bo bs).mp hg.2.2.2.1 b hb) ?_
  ·have:=gx hb;omega
  ·refine QX ?_ hl;show b.ah.length<=(ao bs).length;exact eY hb
def F6{a b:PySem.Str}(h:f τ=.ok (.str a))(h2:g τ=.ok (.str b)):eT (ai j3 f g) τ=.ok (decide (a=b)):=by
 unfold eT;rw[bC h h2];show Res.ok (xor false (decide (a=b)))=_;rw[UE]
def mul_r {j:Int}(h : -(2^64)<j/\j<2^64):tR i j:=.inl (.inr h)
def gA(h:f τ=.ok (.int a))(h2:g τ=.ok (.int b))(hb:0<b):ai cE f g τ=.ok (.int (a%b)):=by
 rw[bC h h2];simp[Hb,hb]
def jG(h:f τ=.ok (.int a))(h2:g τ=.ok (.int b))(hb:tR a b):ai jN f g τ=.ok (.int (a*b)):=by
 rw[bC h h2];simp[Hb,hb]
def AV {c k m:Int}(hk:0<=k/\k<7)(hm:0<m):∃ r,0<=r/\r<m/\G_Lmix [.int c,.int k,.int m]=.ok (.int r):=by
 obtain⟨p,hp0,hp1,hix⟩:∃ p:Int,0<p/\p<10000/\bB (.lst .own [.int 7919,.int 6007,.int 5003,.int 9973,.int 8009,.int 4999,.int 7793]) (.int (k%7))=.ok (.int p):=by
  have:k=0\/k=1\/k=2\/k=3\/k=4\/k=5\/k=6:=by omega
  rcases this with rfl|rfl|rfl|rfl|rfl|rfl|rfl<;>refine⟨_,?_,?_,rfl⟩<;>decide
 refine⟨(c%p+1)*48271%p%m,R0 _ (Int.ne_of_gt hm),RK _ hm,bN rfl rfl ?_⟩;unfold g_Lmix;have e1:ai bB #[128] (ai cE (ae 1) (eC (.int 7))) [some (.int c),some (.int k),some (.int m),none]=.ok (.int p):=
  bq rfl (jY rfl #[10]) hix
 rw[show([D.int c,.int k,.int m].map some++List.replicate (4-3) none:SD)=[some (.int c),some (.int k),some (.int m),none] from rfl,aA (aG e1 rfl)];show dX _ [some (.int c),some (.int k),some (.int m),some (.int p)]=_;have e2:ai cE (ai cE (ai jN (ai bE (ai cE (ae 0) (ae 3)) #[142]) (eC (.int 48271))) (ae 3)) (ae 2) [some (.int c),some (.int k),some (.int m),some (.int p)]=.ok (.int ((c%p+1)*48271%p%m)):=
  gA (gA (jG (dB (gA rfl rfl hp0) rfl) rfl (mul_r #[10])) rfl hp0) rfl hm
 unfold dX;rw[e2];rfl
def qY:∀ {ds:List D},(∀ d∈ds,d.plain=true)->cV ds=true
 |[],_=>rfl
 | d::r,h=>by
  show(d.plain&&cV r)=true;rw[h d Qx,qY λ e m=>h e (Qw _ m)];rfl
def AX (ns:#[6]):cV #[89]=true:=qY λ d m=>by obtain⟨n,_,rfl⟩:=QE.mp m;rfl
mutual
def Wd.plain:∀ w:Wd,w.d.plain=true
 |.leaf p=>rfl|.flat c bs=>by show(true&&(true&&(cV (dL bs)&&true)))=true;rw[ku bs];rfl
 | .prime rows bs=>by
  show(true&&(cV (rows.map λ r=>D.tup #[41])&&(cV (dL bs)&&true)))=true;rw[ku bs,qY λ d m=>by obtain⟨r,_,rfl⟩:=QE.mp m;exact AX r];rfl
def ku:∀ bs:List Wd,cV (dL bs)=true
 |[]=>rfl|b::r=>by show(b.d.plain&&cV (dL r))=true;rw[Wd.plain b,ku r];rfl
end
def Wd.head (w:Wd):Int:=L2.least w.ah
def BY {w:Wd}(hg:w.good)(hl:w.ah.length<=24):G_Lhead [w.d]=.ok (.int w.head):=by
 have hd:=w.xQ hg;refine bN rfl rfl ?_;unfold g_Lhead;have e:aF (G_Lleaves 26) #[144] [some w.d]=.ok (.lst .own (w.ah.map .int)):=by
  refine cI (ds:=[w.d]) (bf (bA rfl w.pure)) ?_ ?_
  ·rw[show aK [w.d]=[w.d] by show [w.d.av]=_;rw[cz _ w.pure]];exact qX 26 w #[1] hg #[1]
  ·show(w.d.aN||false)=false;rw[aQ _ w.pure];rfl
 show dX _ [some w.d]=_;unfold dX;rw[bO (bf e)];show(yR [.lst .own (w.ah.map .int)]).ja _ _=_;unfold yR;simp only[ints_map];rw[QG #[1]];rfl
def part (c:Int):Wd->List Wd
 |.leaf p=>[.leaf p]
 |.flat e bs=>if e=c then bs else [.flat e bs]
 |.prime r bs=>[.prime r bs]
def nG (c e:Int)(bs:#[60]):part c (.flat e bs)=if e=c then bs else [.flat e bs]:=rfl
def iY{d:D}(h:f τ=.ok d)(hp:d.pure=true):dX f τ=.rt d:=by
 unfold dX;rw[h];show Fl.rt d.fg=_;rw[tX d (aQ d hp)]
def parts (c:Int)(ws:#[60]):List Wd:=ws.flatMap (part c)
def ze (c:Int)(w:Wd):ao (part c w)=w.ah:=by
 cases w with
 |leaf p=>rfl
 | flat e bs =>
  rw[nG];split
  ·rfl
  ·show ao bs++[]=ao bs;rw[QQ]
 | prime r bs =>
  show ao bs++[]=ao bs;rw[QQ]
def gX (a b:#[60]):ao (a++b)=ao a++ao b:=by rw[aO,aO,aO,RH]
def kY (c:Int)(ws:#[60]):ao (parts c ws)=ao ws:=by
 induction ws with
 |nil=>rfl
 | cons w r ih =>
  show ao (part c w++parts c r)=w.ah++ao r;rw[gX,ze,ih]
def Du {c:Int}{w:Wd}(h:w.good):1<=(part c w).length/\∀ b∈part c w,b.good/\¬ b.Ds c:=by
 cases w with
 |leaf p=>exact⟨QD _,λ b m=>by rw[QM.mp m];exact⟨h,λ z=>z⟩⟩
 | flat e bs =>
  rw[nG];split
  ·rename_i e;subst e;exact⟨QX #[10] h.1,λ b m=>⟨(bo bs).mp h.2.1 b m,h.2.2.2 b m⟩⟩
  ·rename_i e;exact⟨QD _,λ b m=>by rw[QM.mp m];exact⟨h,e⟩⟩
 |prime r bs=>exact⟨QD _,λ b m=>by rw[QM.mp m];exact⟨h,λ z=>z⟩⟩
def uI {c:Int}(h:dE ws):ws.length<=(parts c ws).length/\dE (parts c ws)/\∀ b∈parts c ws,¬ b.Ds c:=by
 induction ws with
 |nil=>exact⟨QD _,trivial,λ b m=>by cases m⟩
 | cons w r ih =>
  obtain⟨i1,i2,i3⟩:=ih h.2;obtain⟨p1,p2⟩:=Du (c:=c) h.1;show r.length+1<=(part c w++parts c r).length/\dE (part c w++parts c r)/\∀ b∈part c w++parts c r,¬ b.Ds c;rw[Qv,bo];exact⟨by omega,λ b m=>(QH.mp m).elim (λ m=>(p2 b m).1) ((bo _).mp i2 b),λ b m=>(QH.mp m).elim (λ m=>(p2 b m).2) (i3 b)⟩
def uH:∀ {ws:#[60]},dE ws->(∀ w∈ws,w.ah.length<=24)->uh G_Lhead (dL ws)=some (ws.map Wd.head)
 |[],_,_=>rfl
 | w::r,h,hl=>by
  show(match G_Lhead [w.d] with|.ok (.int k)=>(uh G_Lhead (dL r)).map λ ks=>k::ks|_=>none)=_;rw[BY h.1 (hl w Qx),uH h.2 λ b m=>hl b (Qw _ m)];rfl
def wz (c:Int)(ws:#[60]):Wd:=.flat c (SR.ordered (.leaf 0) (SR.jt ((parts c ws).map Wd.head)) (parts c ws))
def xR (c:Int)(ws:#[60]):(wz c ws).ah.Perm (ao ws):=by
 show(ao (SR.ordered _ _ _)).Perm _;rw[<-kY c ws,aO,aO];exact(SR.bT _ _ _).flatMap_right _
def AW {c:Int}(hc:small c)(h:dE ws)(h2:2<=ws.length):(wz c ws).good:=by
 obtain⟨p1,p2,p3⟩:=uI (c:=c) h;refine⟨?_,(bo _).mpr λ b m=>(bo _).mp p2 b ((SR.bT _ _ _).mem_iff.mp m),hc,λ b m=>p3 b ((SR.bT _ _ _).mem_iff.mp m)⟩;rw[(SR.bT _ _ _).length_eq];omega
def sr (c:Int)(ws:#[60])(ps:#[60])(o:#[91]):SD:=[some (.int c),some #[71],some (.lst .own (dL ps)),o]
def gK (a b:#[60]):dL (a++b)=dL a++dL b:=by rw[dU,dU,dU,Rj]
def gg (a:#[60]):(dL a).length=a.length:=by rw[dU,Qs]
def Dt (c:Int)(ws ps:#[60])(w:Wd)(hl:ps.length+(part c w).length<=16777216)(h1:ps.length<16777216):g_Lflat_b1 (sr c ws ps (some w.d))=.nx (sr c ws (ps++part c w) (some w.d)):=by
 have v3:ae 3 (sr c ws ps (some w.d))=.ok w.d:=bA rfl w.pure;have app:iq 2 (ae 3) (sr c ws ps (some w.d))=.nx (sr c ws (ps++[w]) (some w.d)):=by
  rw[iz (xs:=dL ps) (d:=w.d) rfl v3 (aQ _ w.pure) (by rw[gg];exact h1)];show Fl.nx [some (.int c),some #[71],some (.lst .own (dL ps++[w.d])),some w.d]=_;unfold sr;rw[gK];rfl
 unfold g_Lflat_b1;cases w with
 | leaf p =>
  rw[gZ (uG (fF (by unfold gD;rw[v3];rfl)))];exact app
 | prime r bs =>
  have i0:ai bB (ae 3) #[147] (sr c ws ps (some (Wd.prime r bs).d))=.ok (.str "prime"):=bq v3 rfl rfl;have z:eT (ai j3 (ai bB (ae 3) #[147]) (eC (.str "flat"))) (sr c ws ps (some (Wd.prime r bs).d))=.ok false:=(F6 i0 rfl).trans (RL Res.ok #[141]);rw[gZ (om (fF (by unfold gD;rw[v3];rfl)) (uG z))];exact app
 | flat e bs =>
  have i0:ai bB (ae 3) #[147] #[61]=.ok (.str "flat"):=bq v3 rfl rfl;have i1:ai bB (ae 3) #[142] #[61]=.ok (.int e):=bq v3 rfl rfl;have i2:ai bB (ae 3) #[150] #[61]=.ok (.tup (dL bs)):=bq v3 rfl rfl;have z:eT (ai j3 (ai bB (ae 3) #[147]) (eC (.str "flat"))) #[61]=.ok true:=(F6 i0 rfl).trans (RL Res.ok #[141]);have z2:eT (ai j3 (ai bB (ae 3) #[142]) (ae 0)) #[61]=.ok (decide (e=c)):=gW i1 rfl;have cc:=om (fF (show gD (g8 An) (ae 3) #[61]=.ok (.bl true) by unfold gD;rw[v3];rfl)) (om z z2);by_cases he:e=c
  ·rw[QO he]at cc;rw[ju cc];have ep:part c (Wd.flat e bs)=bs:=by rw[nG,QG he]
   rw[ep]at hl ⊢;unfold wa;rw[show gY #[61] 2=some (dL ps) from rfl];show(ai bB (ae 3) #[150] #[61]).ja _ _=_;rw[i2,kO];show(if cV (dL bs)=true/\(dL ps).length+(dL bs).length<=16777216 then Fl.nx (#[61].set 2 (some (.lst .own (dL ps++dL bs)))) else .bad)=_;rw[QG ⟨ku bs,by rw[gg,gg];exact hl⟩,<-gK];rfl
  ·rw[QF he]at cc;rw[gZ cc];have ep:part c (Wd.flat e bs)=[Wd.flat e bs]:=by rw[nG,QK he]
   rw[ep];exact app
def IV {c:Int}(hg:dE ws)(hl:(ao ws).length<=24):G_Lflat [.int c,.lst .av (dL ws)]=.ok (wz c ws).d:=by
 obtain⟨p1,p2,_⟩:=uI (c:=c) hg;have pl:=(gq _ p2).1;rw[kY]at pl;refine bN rfl rfl ?_;unfold g_Lflat;have s1:aL 2 (eA bw ak) [some (.int c),some #[71],none,none]=.nx (sr c ws [] none):=aG rfl rfl;rw[show([D.int c,.lst .av (dL ws)].map some++List.replicate (4-2) none:SD)=[some (.int c),some #[71],none,none] from rfl,aA s1];have v1:ae 1 (sr c ws [] none)=.ok #[71]:=by
  show Res.ok (D.lst .av (eN (dL ws)))=_;rw[fJ _ (aT ws)]
 have hf:fj [1] (sr c ws [] none)=sr c ws [] none:=by
  show [some (D.int c),some (D.lst .av (aK (dL ws))),some (.lst .own []),none]=_;rw[br _ (aT ws)];rfl
 obtain⟨t,e1,o,e2⟩:=eu (tg:=gN 3) (body:=g_Lflat_b1) (ds:=dL ws) (λ i τ=>∃ o,τ=sr c ws (parts c (ws.take i)) o) 0 _ ⟨none,rfl⟩ λ j d τ hd hP=>by
  obtain⟨o,rfl⟩:=hP;rw[Ro]at *;rw[dU]at hd;obtain⟨w,hw,rfl⟩:∃ b,ws[j]?=some b/\d=b.d:=by
   rw[QB]at hd;cases e:ws[j]? with
   |none=>rw[e]at hd;cases hd|some b=>rw[e]at hd;cases hd;exact⟨b,rfl,rfl⟩
  have et:parts c (ws.take (j+1))=parts c (ws.take j)++part c w:=by
   unfold parts;rw[SK,hw,RH];simp
  have eall:parts c ws=parts c (ws.take (j+1))++parts c (ws.drop (j+1)):=by
   unfold parts;rw[<-RH,Rv]
  have hlen:(parts c (ws.take j)).length+(part c w).length<=24:=by
   rw[<-Qv,<-et];have:=RL List.length eall;rw[Qv]at this;omega
  refine⟨_,_,rfl,.inl (Dt c ws (parts c (ws.take j)) w #[1] #[1]),some w.d,?_⟩;rw[et]
 rw[aA ((fO hf (jX v1 #[10] (aT ws))).trans (by rw[br _ (aT ws)];exact e1)),e2,Ro,gg,SW];have v2:ae 2 (sr c ws (parts c ws) o)=.ok (.lst .bor (dL (parts c ws))):=by
  show Res.ok (D.lst .bor (eN (dL (parts c ws))))=_;rw[fJ _ (aT _)]
 have so:um G_Lhead (ae 2) (sr c ws (parts c ws) o)=.ok (.lst .own (SR.ordered .bW (SR.jt ((parts c ws).map Wd.head)) (dL (parts c ws)))):=by
  unfold um;rw[v2,Res.aU];unfold AD;show(if cV (dL (parts c ws))=true/\(dL (parts c ws)).length<64 then _ else _)=_;rw[QG ⟨ku _,by rw[gg];omega⟩,uH p2 λ w m=>?_];have:=eY m;rw[kY]at this;omega
 have eo:SR.ordered D.bW (SR.jt ((parts c ws).map Wd.head)) (dL (parts c ws))=dL (SR.ordered (.leaf 0) (SR.jt ((parts c ws).map Wd.head)) (parts c ws)):=by
  rw[dU,dU,SR.l9 Wd.d (.leaf 0) .bW]
 rw[eo]at so;have fin:eA r8 (aa (eC (.str "flat")) (aa (ae 0) (aa (eA iV (aa (um G_Lhead (ae 2)) ak)) ak))) (sr c ws (parts c ws) o)=.ok (wz c ws).d:=by
  rw[bO (aH rfl (aH rfl (bf ((bO (bf so)).trans rfl))))];rfl
 exact iY fin (Wd.pure _)
def nH (b:Bool)(x:Int)(t:Tg)(qs:#[6]):inD b (.int x) (.lst t (qs.map .int))=.ok (.bl (if b then !decide (x∈qs) else decide (x∈qs))):=by
 have h1:(qs.map D.int).all D.flat=true:=Td.mpr λ d m=>by
  obtain⟨q,_,rfl⟩:=QE.mp m;rfl
 have h2:Hc (.int x) (qs.map D.int)=decide (x∈qs):=by
  unfold Hc;rw[Sy,Th,TZ];constructor
  ·rintro⟨y,hy,e⟩;obtain⟨z,hz,rfl⟩:=QE.mp hy;have e:z=x:=by first|exact R8 e|exact eq_of_beq e|simpa[Ny] using e
   rw[<-e];exact hz
  ·intro h;exact⟨.int x,QE.mpr ⟨x,h,rfl⟩,by first|exact QO rfl|exact U6 x|simp[Ny]⟩
 show(if (D.int x).flat=true/\(qs.map D.int).all D.flat=true then Res.ok (D.bl (if b then !Hc (.int x) (qs.map .int) else Hc (.int x) (qs.map .int))) else .bad)=_;rw[QG ⟨rfl,h1⟩,h2]
def F9(h:f τ=.ok (.int a))(h2:g τ=.ok (.int b)):eT (ai Nz f g) τ=.ok (!decide (a=b)):=by
 unfold eT;rw[bC h h2];show Res.ok (xor true (decide (a=b)))=_;rw[Bool.true_xor]
def RD (t:Tg)(rows:#[187]):D:=.lst t (rows.map λ r=>.lst t #[41])
def uJ (rows:#[187]):Prop:=∀ (i:Nat) (r:#[6]),rows[i]?=some r->r.length=i
abbrev is (ns:#[118]):List D:=(ns.map λ n:Nat=>(n:Int)).map .int
def bQ (ns:#[118]):aX (is ns)=true:=aj _
def iA (ns:#[118]):(is ns).length=ns.length:=by simp[is]
def nI (a b:#[118]):is (a++b)=is a++is b:=by simp[is]
def Dv:#[74].view=RD .av rows:=by
 show D.lst .av (eN _)=_;unfold RD
 congr 1
 induction rows with
 |nil=>rfl
 | cons r rs ih =>
  show D.lst .av (eN #[41])::eN _=_;rw[kc,ih];rfl
def xS(ht:uJ rows){fr:#[29]}{t:Tg}{y:Nat}(hr:fr τ=.ok (RD t rows))(hf:f τ=.ok (.int x))(hg:g τ=.ok (.int y))(hne:x≠y)(hx:x<rows.length)(hy:y<rows.length) :
  ai bB (ai bB fr (eA j4 (aa f (aa g ak)))) (eA j5 (aa f (aa g ak))) τ=.ok (.int (col rows x y)):=by
 have em:eA j4 (aa f (aa g ak)) τ=.ok (.int ((max x y:Nat):Int)):=by
  rw[bO (aH hf (bf hg))];show Res.ok (D.int (if (y:Int)>x then (y:Int) else x))=_
  congr 2
  split<;>omega
 have en:eA j5 (aa f (aa g ak)) τ=.ok (.int ((min x y:Nat):Int)):=by
  rw[bO (aH hf (bf hg))];show Res.ok (D.int (if (y:Int)<x then (y:Int) else x))=_
  congr 2
  split<;>omega
 have hm:max x y<rows.length:=by omega
 have e1:rows[max x y]?=some rows[max x y]:=Qo hm;have hl:=ht _ _ e1;have hmin:min x y<rows[max x y].length:=by omega
 have r1:ai bB fr (eA j4 (aa f (aa g ak))) τ=.ok (.lst t (rows[max x y].map .int)):=bq hr em (eF rfl (by rw[QB,e1];rfl));rw[bq r1 en (eF rfl (by rw[QB,Qo hmin];rfl))];unfold col;rw[Qq,Qq,e1,Sa,Qo hmin];rfl
def qZ (rows:#[187])(got:#[118])(out:D)(at_:Nat)(left x:#[91]):SD:=[some #[74],some (.lst .own (is got)),some out,some (.int at_),left,x]
def v0{r:SD}:ae 0 (some #[74]::r)=.ok #[74]:=by
 show Res.ok #[74].view=_;rw[Dv]
def Ga(ht:uJ rows){got left:#[118]}{out:D}{a:Nat}{y z:Nat}(hy:got[a]?=some y)(hz:got[0]?=some z)(hxy:x≠y)(hxz:x≠z)(hx:x<rows.length)(hyl:y<rows.length)(hzl:z<rows.length)(h1:got.length<16777216)(h2:left.length<16777216) :
  ∃ got' left',(got'=got++[x]/\left'=left/\col rows x y≠col rows x z\/got'=got/\left'=left++[x])/\g_Lgrown_b1 #[181]=.nx (qZ rows got' out a (some (.lst .own (is left'))) #[125]):=by
 have w1:ae 1 #[181]=.ok (.lst .bor (is got)):=aR rfl (bQ got);have w5:ae 5 #[181]=.ok (.int x):=rfl;have ga:ai bB (ae 1) (ae 3) #[181]=.ok (.int y):=bq w1 (show ae 3 _=.ok (.int a) from rfl) (eF (j:=a) rfl (by simp[is,hy]));have g0:ai bB (ae 1) #[147] #[181]=.ok (.int z):=bq w1 rfl (eF (j:=0) rfl (by simp[is,hz]));have w0:ae 0 #[181]=.ok #[74]:=v0;have cc:=F9 (xS ht w0 w5 ga hxy hx hyl) (xS ht w0 w5 g0 hxz hx hzl);unfold g_Lgrown_b1;cases hb:(!decide #[62]) with
 | true =>
  rw[hb]at cc;refine⟨got++[x],left,.inl ⟨rfl,rfl,by simpa using hb⟩,?_⟩;rw[ju cc,iz (xs:=is got) (d:=.int x) rfl w5 rfl (by rw[iA];exact h1)];unfold qZ;rw[nI];rfl
 | false =>
  rw[hb]at cc;refine⟨got,left++[x],.inr ⟨rfl,rfl⟩,?_⟩;rw[gZ cc,iz (xs:=is left) (d:=.int x) rfl w5 rfl (by rw[iA];exact h2)];unfold qZ;rw[nI];rfl
def oQ (ns:#[118]):aK (is ns)=is ns:=br _ (bQ ns)
def F8(ht:uJ rows){got out:#[118]}{t:Tg}{a:Nat}{o4 o5:#[91]}(hn:(got++out).Nodup)(hb:∀ x∈got++out,x<rows.length)(ha:a<got.length)(hL:(got++out).length<16777216) :
  ∃ got' out' p5,(got'++out').Perm (got++out)/\#[167]/\g_Lgrown_b3 (qZ rows got #[80] a o4 o5)=.nx (qZ rows got' (.lst .av (is out')) (a+1) (some (.lst .av (is out'))) p5):=by
 have hLL:=hL;rw[Qv]at hLL;have hy:got[a]?=some got[a]:=Qo ha;have hz:got[0]?=some got[0]:=Qo #[1];obtain⟨_,_,hdis⟩:=QL.mp hn;unfold g_Lgrown_b3;have s1:aL 4 (eA bw ak) (qZ rows got #[80] a o4 o5)=.nx (qZ rows got #[80] a #[76] o5):=aG rfl rfl;rw[aA s1];have hf:fj [2] (qZ rows got #[80] a #[76] o5)=qZ rows got #[185] a #[76] o5:=by
  show qZ rows got (.lst .av (aK (is out))) a #[76] o5=_;rw[oQ]
 have hi:jo (ae 2) (qZ rows got #[185] a #[76] o5)=.ok (false,is out):=jX (aY rfl (bQ out)) #[10] (bQ out);obtain⟨τ,e1,A,left,o,e2,hp,hM⟩:=eu (tg:=gN 5) (body:=g_Lgrown_b1) (ds:=is out) (λ i τ=>∃ A left o,τ=qZ rows (got++A) #[185] a #[43] o/\(A++left).Perm (out.take i)/\∀ M,sO rows.length (col rows) M->(∀ x∈got,M x)->∀ x∈A,M x) 0 _ ⟨[],[],o5,by rw[QQ],RZ _,λ _ _ _ x m=>by cases m⟩ λ j d τ hd hP=>by
  obtain⟨A,left,o,rfl,hp,hA⟩:=hP;rw[Ro]at *;obtain⟨x,hx,rfl⟩:∃ x,out[j]?=some x/\d=.int x:=by
   rw[QB,QB]at hd;cases e:out[j]? with
   |none=>rw[e]at hd;cases hd|some b=>rw[e]at hd;cases hd;exact⟨b,rfl,rfl⟩
  have mx:x∈out:=QN hx;have hpl:=hp.length_eq;rw[Qv,RA]at hpl;obtain⟨g',l',hc,hs⟩:=Ga ht (got:=got++A) (left:=left) (out:=.lst .av (is out)) (a:=a) (x:=x) (y:=got[a]) (z:=got[0]) (by rw[Ri ha];exact hy) (by rw[Ri #[1]];exact hz)
   (λ e=>hdis _ (QW ha) _ mx e.symm) (λ e=>hdis _ (QW (by omega:0<got.length)) _ mx e.symm) (hb x (QJ _ mx)) (hb _ (QR _ (QW ha))) (hb _ (QR _ (QW #[1]))) (by rw[Qv];omega) #[1]
  refine⟨_,_,rfl,.inl hs,?_⟩;have et:out.take (j+1)=out.take j++[x]:=by rw[SK,hx];rfl
  rcases hc with ⟨rfl,rfl,hne⟩|⟨rfl,rfl⟩
  ·refine⟨A++[x],l',_,by rw[QY],?_,λ M hM h0 u mu=>?_⟩
   rotate_left
   ·rcases QH.mp mu with mu|mu
    ·exact hA M hM h0 u mu
    ·rw[QM.mp mu];exact QS λ nM=>hne (hM x (hb x (QJ _ mx)) nM _ _ (hb _ (QR _ (QW ha))) (hb _ (QR _ (QW #[1]))) (h0 _ (QW ha)) (h0 _ (QW #[1])))
   rw[et,QY];exact((RZ A).append Ub).trans (by rw[<-QY];exact hp.append_right [x])
  ·refine⟨A,left++[x],_,rfl,?_,hA⟩;rw[et,<-QY];exact hp.append_right [x]
 rw[Ro,iA,SW]at hp;refine⟨got++A,left,o,?_,λ M h h0 x m=>(QH.mp m).elim (h0 x) (hM M h h0 x),?_⟩
 ·rw[QY];exact(RZ got).append hp
 ·rw[aA ((fO hf hi).trans (by rw[oQ];exact e1)),e2];have s2:HZ [4] (aL 2 (ae 4)) (qZ rows (got++A) #[185] a #[43] o)=.nx (qZ rows (got++A) (.lst .av (is left)) a (some (.lst .av (is left))) o):=by
   show aL 2 (ae 4) (qZ rows (got++A) #[185] a (some (.lst .av (aK (is left)))) o)=_;rw[oQ];exact aG (aY rfl (bQ left)) (by show(false||aJ (is left))=false;rw[cB _ (bQ left)];rfl)
  rw[aA s2];exact aG (d:=.int ((a+1:Nat):Int)) (show _=Res.ok (D.int ((a:Int)+1)) from dB rfl rfl) rfl
def zf(ht:uJ rows):∀ (m:Nat) {got out:#[118]}{t:Tg}{a:Nat}{o4 o5:#[91]},(got++out).Nodup->(∀ x∈got++out,x<rows.length)->(got++out).length<16777216->(got++out).length<=a+m ->
  ∃ got' r,got'.Nodup/\(∀ x∈got',x<rows.length)/\#[167]/\aS g_Lgrown_w2 g_Lgrown_b3 (m+1) (qZ rows got #[80] a o4 o5)=.nx (some #[74]::some (.lst .own (is got'))::r):=by
 intro m
 induction m with
 | zero =>
  intro got out t a o4 o5 hn hb hL hm;rw[Qv]at hm;refine⟨got,[some #[80],some (.int a),o4,o5],(QL.mp hn).1,λ x m=>hb x (QR _ m),λ _ _ h=>h,?_⟩;have c:g_Lgrown_w2 (qZ rows got #[80] a o4 o5)=.ok false:=by
   unfold g_Lgrown_w2;rw[oO (show ae 3 _=.ok (.int a) from rfl) (cX (aR (xs:=is got) rfl (bQ got))),iA,QF #[1]]
  rw[aS,c];rfl
 | succ m ih =>
  intro got out t a o4 o5 hn hb hL hm;have c:g_Lgrown_w2 (qZ rows got #[80] a o4 o5)=.ok (decide ((a:Int)<(got.length:Nat))):=by
   unfold g_Lgrown_w2;rw[oO (show ae 3 _=.ok (.int a) from rfl) (cX (aR (xs:=is got) rfl (bQ got))),iA]
  by_cases ha:a<got.length
  ·rw[QO #[1]]at c;obtain⟨g',o',p5,hp,hM,hs⟩:=F8 ht (t:=t) (o4:=o4) (o5:=o5) hn hb ha hL;obtain⟨g2,r,n2,b2,M2,h2⟩:=ih (got:=g') (out:=o') (t:=.av) (a:=a+1) (o4:=some (.lst .av (is o'))) (o5:=p5) (hp.nodup_iff.mpr hn) (λ x m=>hb x (hp.mem_iff.mp m)) (by rw[hp.length_eq];exact hL) (by rw[hp.length_eq];omega);refine⟨g2,r,n2,b2,λ M h h0=>M2 M h (hM M h h0),?_⟩;rw[aS,c];show(match g_Lgrown_b3 (qZ rows got #[80] a o4 o5) with|.nx t=>aS g_Lgrown_w2 g_Lgrown_b3 (m+1) t|.ct t=>aS g_Lgrown_w2 g_Lgrown_b3 (m+1) t|.bk t=>Fl.nx t|o=>o)=_;rw[hs];exact h2
  ·rw[QF #[1]]at c;refine⟨got,[some #[80],some (.int a),o4,o5],(QL.mp hn).1,λ x m=>hb x (QR _ m),λ _ _ h=>h,?_⟩;rw[aS,c];rfl
def N5:∀ (n:Nat) {ns:#[118]},ns.Nodup->(∀ x∈ns,x<n)->ns.length<=n
 |0,[],_,_=>QD _
 |0,a::r,_,h=>absurd (h a Qx) (Sz _)
 | n+1,ns,hn,h=>by
  have e:=N5 n (ns:=ns.erase n) (hn.erase n) λ x m=>by
   obtain⟨h1,h2⟩:=hn.mem_erase_iff.mp m;have:=h x h2;omega
  by_cases m:n∈ns
  ·rw[List.length_erase_of_mem m]at e;omega
  ·rw[List.erase_of_not_mem m]at e;omega
def IW{ns:#[118]}(nn:ns.Nodup)(nb:∀ x∈ns,x<n)(hl:ns.length=n)(hx:x<n):x∈ns:=QS λ z=>by
 have:=N5 n (ns:=x::ns) (Q8.mpr ⟨z,nn⟩) λ y m=>(QA.mp m).elim (λ e=>by rw[e];exact hx) (nb y);rw[QP]at this;omega
def F7(ht:uJ rows)(hr:rows.length<=24){k:Nat}(hj:j<rows.length)(hk:k<rows.length)(hne:j≠k):∃ ns:List Nat,ns.length<=rows.length/\(ns.length=rows.length->∀ M,sO rows.length (col rows) M->M j->M k->∀ x,x<rows.length->M x)/\G_Lgrown [RD .av rows,.lst .own [.int j,.int k]]=.ok (.lst .own (is ns)):=by
 let out:List Nat:=#[77].filter λ x:Nat=>!decide ((x:Int)∈[(j:Int),(k:Int)])
 have ho:∀ x∈out,x<rows.length/\x≠j/\x≠k:=λ x m=>by
  obtain⟨m1,m2⟩:=Q3.mp m;refine⟨QU.mp m1,?_⟩;simp only[QA,R5,U7,Bool.not_eq_true',decide_eq_false_iff_not]at m2;omega
 have hn:([j,k]++out).Nodup:=by
  refine QL.mpr ⟨by simp[hne],UK Tn Sb,λ a ma b mb=>?_⟩;obtain⟨_,h1,h2⟩:=ho b mb;rcases QA.mp ma with rfl|ma
  ·exact λ e=>h1 e.symm
  ·rw[QM.mp ma];exact λ e=>h2 e.symm
 have hb:∀ x∈[j,k]++out,x<rows.length:=λ x m=>by
  rcases QH.mp m with m|m
  ·rcases QA.mp m with rfl|m
   ·exact hj
   ·rw[QM.mp m];exact hk
  ·exact(ho x m).1
 have hl:([j,k]++out).length<=26:=by
  rw[Qv];have:out.length<=#[77].length:=RO _ _;rw[Q6]at this;show 2+out.length<=26;omega
 obtain⟨ns,r,nn,nb,nM,hw⟩:=zf ht 26 (got:=[j,k]) (out:=out) (t:=.own) (a:=1) (o4:=none) (o5:=none) hn hb #[1] #[1];refine⟨ns,N5 _ nn nb,λ hl M h h1 h2 x hx=>?_,bN rfl rfl ?_⟩
 ·refine nM M h (λ y my=>?_) x (IW nn nb hl hx);rcases QA.mp my with rfl|my
  ·exact h1
  ·rw[QM.mp my];exact h2
 unfold g_Lgrown;have hlen:eA bP #[144] [some #[74],some (.lst .own [.int j,.int k]),none,none,none,none]=.ok (.int (rows.length:Nat)):=by
  rw[cX (v0 (rows:=rows)),Qs]
 have hit:bV #[85] [some #[74],some (.lst .own [.int j,.int k]),none,none,none,none]=.ok (false,#[77].map λ k:Nat=>.int k):=by
  unfold bV;rw[bf hlen,Res.aU,oH #[1]]
 have er:aK (#[77].map λ k:Nat=>D.int k)=#[77].map λ k:Nat=>D.int k:=br _ (cG λ d m=>by obtain⟨n,_,rfl⟩:=QE.mp m;rfl);have s1:=kg (it:=bV #[85]) (tt:=g_Lgrown_c4) (elt:=g_Lgrown_e5) (cap:=[("_law_got",1)]) (τ:=[some #[74],some (.lst .own [.int j,.int k]),none,none,none,none]) (λ d=>match d with|.int x=>!decide (x∈[(j:Int),(k:Int)])|_=>false) (λ d=>d) hit
  (λ d m=>by
   rw[er]at m;obtain⟨n,_,rfl⟩:=QE.mp m;unfold g_Lgrown_c4;exact fF ((bC (show ae 0 _=.ok (.int (n:Int)) from rfl) (aY (i:=1) (xs:=[(j:Int),(k:Int)].map .int) rfl (aj _))).trans (nH true n .av [(j:Int),(k:Int)])))
  (λ d m _=>by
   rw[er]at m;obtain⟨n,_,rfl⟩:=QE.mp m;exact⟨rfl,rfl⟩) (by simp;omega)
 have eo:((aK (#[77].map λ k:Nat=>D.int k)).filter (λ d=>match d with|.int x=>!decide (x∈[(j:Int),(k:Int)])|_=>false)).map (λ d=>d)=is out:=by
  rw[er,List.map_id',Tz];show _=(out.map _).map _;rw[Q5];rfl
 rw[eo]at s1;rw[show([RD .av rows,.lst .own [.int j,.int k]].map some++List.replicate (6-2) none:SD)=[some #[74],some (.lst .own [.int j,.int k]),none,none,none,none] from rfl,aA (aG s1 (bg (bQ out)))];show aE (aL 3 #[142]) _ [some #[74],some (.lst .own [.int j,.int k]),some (.lst .own (is out)),none,none,none]=_;rw[aA (aG (d:=.int 1) rfl rfl)];show aE (fM _ _) _ (qZ rows [j,k] (.lst .own (is out)) 1 none none)=_;have hw2:fM g_Lgrown_w2 g_Lgrown_b3 (qZ rows [j,k] (.lst .own (is out)) 1 none none)=.nx (some #[74]::some (.lst .own (is ns))::r):=by
  rw[ir (n:=27) (by rw[hw];exact Fl.noConfusion),hw]
 rw[aA hw2];rfl
def xT {tg:xo}{body:SF}(Pv:SD->Prop)(Rt:D->Prop)(Gd:D->Prop):∀ {ds:List D}{τ:SD},(∀ d∈ds,∀ τ,Pv τ->∃ τ',tg d τ=some τ'/\((∃ t,body τ'=.nx t/\Pv t/\Gd d)\/∃ r,body τ'=.rt r/\Rt r))->Pv τ->(∃ t,fm tg body ds τ=.nx t/\Pv t/\∀ d∈ds,Gd d)\/(∃ r,fm tg body ds τ=.rt r/\Rt r)
 |[],τ,_,h=>.inl ⟨τ,rfl,h,λ d m=>by cases m⟩
 | d::r,τ,hs,h=>by
  obtain⟨τ',h1,h2⟩:=hs d Qx τ h;rcases h2 with ⟨t,h2,h3,h4⟩|⟨x,h2,h3⟩
  ·have ih:=xT Pv Rt Gd (ds:=r) (τ:=t) (λ e m=>hs e (Qw _ m)) h3;unfold fm;rw[h1];simp only[h2];exact ih.imp (λ ⟨t,a,b,c⟩=>⟨t,a,b,λ e m=>(QA.mp m).elim (λ z=>by rw[z];exact h4) (c e)⟩) id
  ·refine .inr ⟨x,?_,h3⟩;unfold fm;rw[h1];simp only[h2]
def fV(h:f τ=.ok (.int n))(hn:n<=1000000000):bV (aa f ak) τ=.ok (false,#[131].map λ k:Nat=>.int k):=by
 unfold bV;rw[bf h,Res.aU,oH hn]
def cS (n:Nat):aK (#[131].map λ k:Nat=>D.int k)=#[131].map λ k:Nat=>D.int k:=br _ (cG λ d m=>by obtain⟨n,_,rfl⟩:=QE.mp m;rfl)
def zg(ht:uJ rows)(hr:rows.length<=24):∃ b,(b=true->∀ j k,j<k->k<rows.length->∀ M,sO rows.length (col rows) M->M j->M k->∀ x,x<rows.length->M x)/\G_Lnone_together [RD .av rows]=.ok (.bl b):=by
 have hRD:aJ (rows.map λ r=>D.lst .av #[41])=false:=by
  induction rows with
  |nil=>rfl
  | cons r rs ih =>
   show((false||aJ #[41])||aJ _)=false;rw[dJ];have:∀ rs:List #[6],aJ (rs.map λ r=>D.lst .av #[41])=false:=λ rs=>by
    induction rs with
    |nil=>rfl
    | cons r rs ih =>
     show((false||aJ #[41])||aJ _)=false;rw[dJ,ih];rfl
   rw[this];rfl
 have hlen:∀ o1 o2:Option D,eA bP #[144] [some #[74],o1,o2]=.ok (.int (rows.length:Nat)):=λ o1 o2=>by
  rw[cX (v0 (rows:=rows)),Qs]
 have inner:∀ (k:Nat) (o:#[91]),k<rows.length->(∃ t,g_Lnone_together_b2 [some #[74],some (.int k),o]=.nx t/\(∃ o',t=[some #[74],some (.int k),o'])/\∀ j:Nat,j<k->∀ M,sO rows.length (col rows) M->M j->M k->∀ x,x<rows.length->M x)\/(∃ r,g_Lnone_together_b2 [some #[74],some (.int k),o]=.rt r/\r=.bl false):=λ k o hk=>by
  unfold g_Lnone_together_b2;rw[fO (τ':=[some #[74],some (.int k),o]) rfl (fV (show ae 1 _=.ok (.int k) from rfl) #[1]),cS];refine(xT (λ t=>∃ o',t=[some #[74],some (.int k),o']) (λ r=>r=.bl false) (λ d=>∀ j:Nat,d=.int j->∀ M,sO rows.length (col rows) M->M j->M k->∀ x,x<rows.length->M x) (λ d m τ hP=>?_) ⟨o,rfl⟩).imp (λ ⟨t,a,b,c⟩=>⟨t,a,b,λ j hj=>c _ (QE.mpr ⟨j,QU.mpr hj,rfl⟩) j rfl⟩) id;obtain⟨o',rfl⟩:=hP;obtain⟨j,hj,rfl⟩:=QE.mp m;have hj:=QU.mp hj;refine⟨[some #[74],some (.int k),some (.int j)],rfl,?_⟩;obtain⟨ns,hlen_le,hfull,hg⟩:=F7 ht hr (j:=j) (k:=k) #[1] hk #[1];have ec:xB G_Lgrown (aa (ae 0) (aa (eA bw (aa (ae 2) #[50])) ak)) [some #[74],some (.int k),some (.int j)]=.ok (.lst .own (is ns)):=by
   unfold xB;rw[aH (v0 (rows:=rows)) (bf (show eA bw (aa (ae 2) #[50]) _=.ok (.lst .own [.int j,.int k]) from rfl)),Res.aU];unfold yT;have hb:aJ [RD .av rows,.lst .own [.int j,.int k]]=false:=by
    show((false||aJ _)||_)=false;rw[hRD];rfl
   rw[hb,QK Qy,hg];rfl
  have cc:=oO (cX ec) (hlen (some (.int k)) #[69]);unfold g_Lnone_together_b1;cases hb:decide (((is ns).length:Int)<(rows.length:Nat)) with
  |true=>rw[hb]at cc;exact .inr ⟨.bl false,by rw[ju cc];exact iY rfl rfl,rfl⟩
  | false =>
   rw[hb]at cc;have hge:=of_decide_eq_false hb;rw[iA]at hge;have hle:ns.length<=rows.length:=hlen_le;exact .inl ⟨_,by rw[gZ cc];rfl,⟨_,rfl⟩,λ j' e=>by cases Int.ofNat.inj (D.int.inj e);exact hfull #[1]⟩
 have outer:(∃ t,gM [] (bV #[85]) (gN 1) g_Lnone_together_b2 [some #[74],none,none]=.nx t/\(∃ o1 o2,t=[some #[74],o1,o2])/\∀ k:Nat,k<rows.length->∀ j:Nat,j<k->∀ M,sO rows.length (col rows) M->M j->M k->∀ x,x<rows.length->M x)\/(∃ r,gM [] (bV #[85]) (gN 1) g_Lnone_together_b2 [some #[74],none,none]=.rt r/\r=.bl false):=by
  rw[fO (τ':=[some #[74],none,none]) rfl (fV (hlen none none) #[1]),cS];refine(xT (λ t=>∃ o1 o2,t=[some #[74],o1,o2]) (λ r=>r=.bl false) (λ d=>∀ k:Nat,d=.int k->∀ j:Nat,j<k->∀ M,sO rows.length (col rows) M->M j->M k->∀ x,x<rows.length->M x) (λ d m τ hP=>?_) ⟨none,none,rfl⟩).imp (λ ⟨t,a,b,c⟩=>⟨t,a,b,λ k hk=>c _ (QE.mpr ⟨k,QU.mpr hk,rfl⟩) k rfl⟩) id;obtain⟨o1,o2,rfl⟩:=hP;obtain⟨k,hk,rfl⟩:=QE.mp m;refine⟨[some #[74],some (.int k),o2],rfl,?_⟩;rcases inner k o2 (QU.mp hk) with ⟨t,h1,⟨o',rfl⟩,hf⟩|h
  ·exact .inl ⟨_,h1,⟨_,_,rfl⟩,λ k' e=>by cases Int.ofNat.inj (D.int.inj e);exact hf⟩
  ·exact .inr h
 rcases outer with ⟨t,h1,⟨o1,o2,rfl⟩,hf⟩|⟨r,h1,rfl⟩
 ·refine⟨true,λ _ j k hjk hk=>hf k hk j hjk,bN rfl rfl ?_⟩;unfold g_Lnone_together;show aE _ _ [some #[74],none,none]=_;rw[aA h1];exact iY rfl rfl
 ·refine⟨false,λ z=>(Qy z).elim,bN rfl rfl ?_⟩;unfold g_Lnone_together;exact F5 h1
def wA{elt:#[29]}{cap:List (PySem.Str×Nat)}(hit:it τ=.ok (false,#[131].map λ k:Nat=>.int k))(hn:n<=16777216)(p:Nat->Int->Prop)(he:∀ k:Nat,k<n->∃ i:Int,p k i/\elt (some (.int k)::iW τ cap)=.ok (.int i)) :
  ∃ r:List Int,r.length=n/\(∀ (k:Nat) (x:Int),r[k]?=some x->p k x)/\cu it (gN 0) dI elt 1 cap τ=.ok #[186]:=by
 let f:Nat->Int:=λ k=>match elt (some (.int k)::iW τ cap) with|.ok (.int i)=>i|_=>0
 have hf:∀ k:Nat,k<n->p k (f k)/\elt (some (.int k)::iW τ cap)=.ok (.int (f k)):=λ k hk=>by
  obtain⟨i,hi,e⟩:=he k hk;show p k (match elt (some (.int k)::iW τ cap) with|.ok (.int i)=>i|_=>0)/\_=Res.ok (D.int (match elt (some (.int k)::iW τ cap) with|.ok (.int i)=>i|_=>0));rw[e];exact⟨hi,rfl⟩
 refine⟨#[131].map f,by simp,λ k x hx=>?_,?_⟩
 ·have hk:k<n:=by have:=(Qt.mp hx).1;simpa using this
  rw[QB,Ry hk]at hx;cases hx;exact(hf k hk).1
 rw[jg (λ d=>match d with|.int x=>.int (f x.toNat)|d=>d) hit (λ d m=>?_) (by simpa using hn),cS]
 ·rw[Q5,Q5];rfl
 ·rw[cS]at m;obtain⟨k,hk,rfl⟩:=QE.mp m;exact⟨(hf k (QU.mp hk)).2,rfl⟩
def zk {j:Int}(h : -(2^64)<i/\i<2^64):tR i j:=.inl (.inl h)
def IZ (t:Tg)(rows:#[187])(r:#[6]):RD t (rows++[r])=.lst t ((rows.map λ r=>.lst t #[41])++[.lst t #[41]]):=by
 unfold RD;rw[Rj];rfl
def uJ.snoc(h:uJ rows){r:#[6]}(hr:r.length=rows.length):uJ (rows++[r]):=by
 intro i x hx;rcases Vc i rows.length with hi|hi
 ·rw[Ri hi]at hx;exact h i x hx
 ·rw[Ss hi]at hx;rcases Nat.eq_or_lt_of_le hi with e|e
  ·subst e;rw[Nat.sub_self]at hx;cases hx;exact hr
  ·rw[RP (by simp;omega)]at hx;cases hx
def qg (r:#[6]):(D.lst .own #[41]).aN=false:=bg (aj r)
def xU {α:Type}{R:Nat->α->Prop}{rows:List α}(h:∀ (i:Nat) (r:α),rows[i]?=some r->R i r){r:α}(hr:R rows.length r):∀ (i:Nat) (x:α),(rows++[r])[i]?=some x->R i x:=λ i x e=>by
 rcases Nat.lt_trichotomy i rows.length with l|l|l
 ·rw[Ri l]at e;exact h i x e
 ·subst l;rw[Ut]at e;cases e;exact hr
 ·rw[RP (by rw[Qv];show rows.length+1<=i;omega)]at e;cases e
def Ge{t:Nat->Nat->Int}{s0 s1:Int}(h4:4<=n)(hs:s0≠s1)(h:∀ i j,i<n->j<n->i≠j->t i j=if i+1=j\/j+1=i then s0 else s1):zU n t:=by
 refine⟨by omega,λ M ⟨i,j,hi,hj,hij,Mi,Mj⟩ hM x0 hx0=>QS λ n0=>?_⟩;obtain⟨x,y,hx,hy,hxy,nx,my⟩:∃ x y,x<n/\y<n/\(x+1=y\/y+1=x)/\¬ M x/\M y:=QS λ no=>by
  have st:∀ a,a+1<n->(M a↔M (a+1)):=λ a ha=>⟨λ m=>QS λ q=>no ⟨a+1,a,ha,by omega,.inr rfl,q,m⟩,λ m=>QS λ q=>no ⟨a,a+1,by omega,ha,.inl rfl,q,m⟩⟩;have all:∀ a,a<n->(M a↔M 0):=λ a=>by
   induction a with
   |zero=>intro _;exact Iff.rfl|succ a ih=>intro ha;exact(st a ha).symm.trans (ih #[1])
  exact n0 ((all x0 hx0).mpr ((all i hi).mp Mi))
 have near:∀ z,z<n->M z->x+1=z\/z+1=x:=λ z hz mz=>QS λ q=>by
  have e:=hM x hx nx z y hz hy mz my;rw[h x z hx hz (λ z'=>nx (z'▸mz)),h x y hx hy #[1],QK q,QG hxy]at e;exact hs e.symm
 have n1:=near i hi Mi;have n2:=near j hj Mj;obtain⟨hx1,ma,mb⟩:1<=x/\M (x-1)/\M (x+1):=by
  rcases n1 with n1|n1
  ·rcases n2 with n2|n2
   ·omega
   ·exact⟨by omega,by rw[show x-1=j by omega];exact Mj,by rw[n1];exact Mi⟩
  ·rcases n2 with n2|n2
   ·exact⟨by omega,by rw[show x-1=i by omega];exact Mi,by rw[n2];exact Mj⟩
   ·omega
 have hx2:x+1<n:=by omega
 by_cases h2:2<=x
 ·have e:=hM (x-2) #[1] (λ m=>by have:=near (x-2) #[1] m;omega) (x-1) (x+1) #[1] hx2 ma mb;rw[h _ _ #[1] #[1] #[1],h _ _ #[1] hx2 #[1],QG #[1],QK #[1]]at e;exact hs e
 ·have e:=hM (x+2) #[1] (λ m=>by have:=near (x+2) #[1] m;omega) (x+1) (x-1) hx2 #[1] mb ma;rw[h _ _ #[1] hx2 #[1],h _ _ #[1] #[1] #[1],QG #[1],QK #[1]]at e;exact hs e
def IY {x y z:Int}(h1:x≠y)(h2:x≠z)(h3:y≠z):zU 3 (col [[],[x],[y,z]]):=by
 refine⟨QD _,λ M ⟨i,j,hi,hj,hij,Mi,Mj⟩ hM w hw=>QS λ nw=>?_⟩;have ni:i≠w:=λ e=>nw (e▸Mi);have nj:j≠w:=λ e=>nw (e▸Mj);have e:=hM w hw nw i j hi hj Mi Mj;have hw':w=0\/w=1\/w=2:=by omega
 rcases hw' with rfl|rfl|rfl
 ·rcases (by omega:(i=1/\j=2)\/(i=2/\j=1)) with ⟨rfl,rfl⟩|⟨rfl,rfl⟩
  ·exact h1 e
  ·exact h1 e.symm
 ·rcases (by omega:(i=0/\j=2)\/(i=2/\j=0)) with ⟨rfl,rfl⟩|⟨rfl,rfl⟩
  ·exact h2 e
  ·exact h2 e.symm
 ·rcases (by omega:(i=0/\j=1)\/(i=1/\j=0)) with ⟨rfl,rfl⟩|⟨rfl,rfl⟩
  ·exact h3 e
  ·exact h3 e.symm
def zj {body:SF}{N:Nat}{a b c:#[91]}(Rk:Nat->List Int->Prop)(hN:N<=24)(hb:∀ (k:Nat) (rows:#[187]),k<N->∃ r:List Int,r.length=k/\(∀ x∈r,small x)/\Rk k r/\body [a,b,c,some #[105],some (.int k)]=(iq 3 (λ _=>.ok #[186])) [a,b,c,some #[105],some (.int k)])(o:#[91]) :
  ∃ rows o',rows.length=N/\uJ rows/\#[165]/\(∀ (i:Nat) (r:#[6]),rows[i]?=some r->Rk i r)/\fm (gN 4) body ((List.range N).map λ k:Nat=>.int k) [a,b,c,some (RD .own []),o]=.nx [a,b,c,some #[105],o']:=by
 obtain⟨t,h1,rows,o',h2,h3,h4,h5,h6⟩:=eu (tg:=gN 4) (body:=body) (ds:=(List.range N).map λ k:Nat=>.int k) (λ i τ=>∃ rows o',τ=[a,b,c,some #[105],o']/\rows.length=i/\uJ rows/\#[165]/\∀ (i:Nat) (r:#[6]),rows[i]?=some r->Rk i r) 0 [a,b,c,some (RD .own []),o] ⟨[],o,rfl,rfl,λ i r h=>by simp at h,(λ r m=>by cases m),λ i r h=>by simp at h⟩ λ j d τ hd hP=>by
  obtain⟨rows,o',rfl,hl,ht,hsm,hRk⟩:=hP;rw[Ro]at *;have hj:j<N:=by
   have:=(Qt.mp hd).1;simpa using this
  obtain rfl:d=.int j:=by
   rw[QB,Ry hj]at hd;cases hd;rfl
  obtain⟨r,hr,hrs,hrk,e⟩:=hb j rows hj;refine⟨[a,b,c,some #[105],some (.int j)],[a,b,c,some (RD .own (rows++[r])),some (.int j)],rfl,.inl ?_,rows++[r],some (.int j),rfl,by rw[Qv,hl];rfl,ht.snoc (by rw[hr,hl]),λ r' m=>(QH.mp m).elim (hsm r') (λ m=>by rw[QM.mp m];exact hrs),xU hRk (by rw[hl];exact hrk)⟩;rw[e,iz (xs:=rows.map λ r=>.lst .own #[41]) (d:=.lst .own #[41]) rfl rfl (qg r) (by rw[Qs];omega),IZ];rfl
 refine⟨rows,o',by simpa using h3,h4,h5,h6,by rw[h1,h2]⟩
def zh {i:Nat}{d:D}(h:f τ=.ok d):iq i f τ=iq i (λ _=>.ok d) τ:=by
 unfold iq;rw[h]
def zl{t:Tg}(h0:0<=i)(h1:i<sh.length):∃ x:Int,x∈sh/\bB (.lst t #[192]) (.int i)=.ok (.int x):=by
 obtain⟨n,rfl⟩:=Int.eq_ofNat_of_zero_le h0;have hn:n<sh.length:=by omega
 exact⟨sh[n],QW hn,eF rfl (by rw[QB,Qo hn];rfl)⟩
def Gb{t:Tg}(h0:0<=i)(h1:i<sh.length):sh.getD i.toNat 0∈sh/\bB (.lst t #[192]) (.int i)=.ok (.int (sh.getD i.toNat 0)):=by
 obtain⟨n,rfl⟩:=Int.eq_ofNat_of_zero_le h0;have hn:n<sh.length:=by omega
 have e:sh.getD n 0=sh[n]:=by rw[Qq,Qo hn];rfl
 show sh.getD n 0∈sh/\_=Res.ok (D.int (sh.getD n 0));rw[e];exact⟨QW hn,eF rfl (by rw[QB,Qo hn];rfl)⟩
def Kh {r:#[6]}{p:Nat->Int->Prop}(h:∀ (k:Nat) (x:Int),r[k]?=some x->p k x){q:Int->Prop}(hq:∀ k x,p k x->q x):∀ x∈r,q x:=λ x m=>by
 obtain⟨k,hk⟩:=Rf m;exact hq k x (h k x hk)
def IX(hsh:∀ x∈sh,small x)(hnd:sh.Nodup)(hs:sh.length=3)(h3:3<=n)(hn:n<=24):∃ rows,rows.length=n/\uJ rows/\#[165]/\zU n (col rows)/\G_Lprime_rows [.int cell,.int n,.lst .av #[192]]=.ok #[105]:=by
 have b4:∀ (k:Nat) (rows:#[187]),k<n->∃ r:List Int,r.length=k/\(∀ x∈r,small x)/\True/\g_Lprime_rows_b4 #[153]=(iq 3 (λ _=>.ok #[186])) #[153]:=λ k rows hk=>by
  obtain⟨r,hr,hrs,e⟩:=wA (it:=bV #[134]) (elt:=g_Lprime_rows_e3) (cap:=[("_law_shades_here",2),("_law_cell",0),("_law_k",4)]) (τ:=[some (.int cell),some (.int n),some #[16],some #[105],some (.int k)]) (n:=k) (fV rfl #[1]) #[1] (λ _=>small) λ j hj=>by
   show ∃ i:Int,small i/\g_Lprime_rows_e3 [some (.int j),some (.lst .av (aK #[192])),some (.int cell),some (.int k)]=.ok (.int i);rw[aM];obtain⟨m,m0,m1,em⟩:=AV (c:=cell+17*(k:Int)*k+j) (k:=5) (m:=3) #[10] #[10];obtain⟨x,mx,hx⟩:=zl (sh:=sh) (t:=.av) (i:=m) m0 #[1];refine⟨x,hsh x mx,?_⟩;unfold g_Lprime_rows_e3;have ec:aF G_Lmix (aa (ai bE (ai bE (ae 2) (ai jN (ai jN (eC (.int 17)) (ae 3)) (ae 3))) (ae 0)) (aa (eC (.int 5)) (aa (eC (.int 3)) ak))) [some (.int j),some #[16],some (.int cell),some (.int k)]=.ok (.int m):=
    cI (ds:=[.int (cell+17*(k:Int)*k+j),.int 5,.int 3]) (aH (dB (dB rfl (jG (jG rfl rfl (zk #[10])) rfl (mul_r #[1]))) rfl) (aH rfl (bf rfl))) em rfl
   exact bq (aY rfl (aj sh)) ec hx
  exact⟨r,hr,Kh hrs λ _ _ h=>h,trivial,zh e⟩
 have b2:∀ (k:Nat) (rows:#[187]),k<n->∃ r:List Int,r.length=k/\(∀ x∈r,small x)/\(∀ (j:Nat) (x:Int),r[j]?=some x->x=if (j:Int)+1<k then sh.getD 1 0 else sh.getD 0 0)/\g_Lprime_rows_b2 #[153]=(iq 3 (λ _=>.ok #[186])) #[153]:=λ k rows hk=>by
  obtain⟨r,hr,hrs,e⟩:=wA (it:=bV #[134]) (elt:=g_Lprime_rows_e1) (cap:=[("_law_shades_here",2),("_law_k",4)]) (τ:=[some (.int cell),some (.int n),some #[16],some #[105],some (.int k)]) (n:=k) (fV rfl #[1]) #[1] (λ j x=>small x/\x=if (j:Int)+1<k then sh.getD 1 0 else sh.getD 0 0) λ j hj=>by
   show ∃ i:Int,(small i/\i=if (j:Int)+1<k then sh.getD 1 0 else sh.getD 0 0)/\g_Lprime_rows_e1 [some (.int j),some (.lst .av (aK #[192])),some (.int k)]=.ok (.int i);rw[aM];have el:eA intD (aa (ai Ez (ai bE (ae 0) #[142]) (ae 2)) ak) [some (.int j),some #[16],some (.int k)]=.ok (.int (if decide ((j:Int)+1<k)=true then 1 else 0)):=by
    rw[bO (bf ((bC (dB (a:=(j:Int)) (b:=1) rfl rfl) rfl).trans rfl))];rfl
   obtain⟨mx,hx⟩:=Gb (sh:=sh) (t:=.av) (i:=if decide ((j:Int)+1<k)=true then 1 else 0) (by split<;>decide) (by split<;>omega);refine⟨_,⟨hsh _ mx,?_⟩,?_⟩
   ·by_cases hjk:(j:Int)+1<k
    ·rw[QG hjk,QG (QO hjk)];rfl
    ·rw[QK hjk,QK (by simpa using hjk)];rfl
   unfold g_Lprime_rows_e1;exact bq (aY rfl (aj sh)) el hx
  exact⟨r,hr,Kh hrs λ _ _ h=>h.1,λ j x h=>(hrs j x h).2,zh e⟩
 obtain⟨rows1,o1,l1,t1,q1,_,f1⟩:=zj (Rk:=λ _ _=>True) (a:=some (.int cell)) (b:=some (.int n)) (c:=some #[16]) hn b4 none;have vR:∀ (rows:#[187]) (o:#[91]),ae 3 [some (.int cell),some (.int n),some #[16],some #[105],o]=.ok (RD .bor rows):=λ rows o=>by
  show Res.ok (D.lst .bor (eN (rows.map λ r=>.lst .own #[41])))=_;unfold RD
  congr 2
  induction rows with
  |nil=>rfl
  | cons r rs ih =>
   show D.lst .bor (eN #[41])::eN _=_;rw[kc,ih];rfl
 have fR:∀ rows:List #[6],aK [RD .bor rows]=[RD .av rows]:=λ rows=>by
  show [D.lst .av (aK (rows.map λ r=>.lst .bor #[41]))]=_;unfold RD
  congr 2
  induction rows with
  |nil=>rfl
  | cons r rs ih =>
   show D.lst .av (aK #[41])::aK _=_;rw[aM,ih];rfl
 have last:∃ rows,rows.length=n/\uJ rows/\#[165]/\zU n (col rows)/\aE #[82] (aE (aL 3 (eA bw ak)) (aE (gM [] (bV #[50]) (gN 4) g_Lprime_rows_b2) (iM 3))) #[143]=.rt #[105]:=by
  have cc:eT (ai j3 (ae 1) (eC (.int 3))) #[143]=.ok (decide ((n:Int)=3)):=gW rfl rfl;by_cases he:(n:Int)=3
  ·rw[QO he]at cc;obtain⟨x,y,z,rfl⟩:∃ x y z,sh=[x,y,z]:=by
    match sh,hs with
    |[x,y,z],_=>exact⟨x,y,z,rfl⟩
   have en:n=3:=by omega
   refine⟨[[],[x],[y,z]],by simp;omega,λ i r h=>?_,λ r m u mu=>hsh u ?_,?_,F4 cc (jQ rfl rfl)⟩
   rotate_left 2
   ·rw[en];simp only[Q8,QA,R5,U7,not_or]at hnd;exact IY hnd.1.1 hnd.1.2 hnd.2.1
   rotate_left
   ·simp at m;rcases m with rfl|rfl|rfl
    ·cases mu
    ·simp at mu;simp[mu]
    ·simp at mu;rcases mu with rfl|rfl<;>simp
   match i,h with
   |0,h=>cases h;rfl|1,h=>cases h;rfl|2,h=>cases h;rfl|i+3,h=>simp at h
  ·rw[QF he]at cc;rw[jF cc];have s3:aL 3 (eA bw ak) #[143]=.nx [some (.int cell),some (.int n),some #[16],some (RD .own []),o1]:=aG rfl rfl;obtain⟨rows2,o2,l2,t2,q2,k2,f2⟩:=zj (Rk:=λ k r=>∀ (j:Nat) (x:Int),r[j]?=some x->x=if (j:Int)+1<k then sh.getD 1 0 else sh.getD 0 0) (a:=some (.int cell)) (b:=some (.int n)) (c:=some #[16]) hn b2 o1;have hp:zU n (col rows2):=by
    have at_:∀ i j,i<n->j<i->col rows2 i j=if j+1=i then sh.getD 0 0 else sh.getD 1 0:=λ i j hi hji=>by
     have hi':i<rows2.length:=by omega
     have hj':j<rows2[i].length:=by rw[t2 i _ (Qo hi')];exact hji
     have:=k2 i _ (Qo hi') j _ (Qo hj');unfold col;rw[Uo #[1],Te #[1],Qq,Qq,Qo hi',Sa,Qo hj',Sa,this];by_cases e:j+1=i
     ·rw[QG e,QK #[1]]
     ·rw[QK e,QG #[1]]
    refine Ge (s0:=sh.getD 0 0) (s1:=sh.getD 1 0) #[1] ?_ λ i j hi hj hij=>?_
    ·obtain⟨x,y,z,rfl⟩:∃ x y z,sh=[x,y,z]:=by
      match sh,hs with
      |[x,y,z],_=>exact⟨x,y,z,rfl⟩
     simp only[Q8,QA,R5,U7,not_or]at hnd;exact hnd.1.1
    ·rcases S1 hij with l|l
     ·rw[show col rows2 i j=col rows2 j i by unfold col;rw[Uu,Uv],at_ j i hj l];by_cases e:i+1=j
      ·rw[QG e,QG (.inl e)]
      ·rw[QK e,QK #[1]]
     ·rw[at_ i j hi l];by_cases e:j+1=i
      ·rw[QG e,QG (.inr e)]
      ·rw[QK e,QK #[1]]
   refine⟨rows2,l2,t2,q2,hp,?_⟩;rw[aA s3,aA ((fO (js:=[]) rfl (fV rfl #[1])).trans (by rw[cS];exact f2))];rfl
 have main:∃ rows,rows.length=n/\uJ rows/\#[165]/\zU n (col rows)/\g_Lprime_rows [some (.int cell),some (.int n),some #[16],none,none]=.rt #[105]:=by
  unfold g_Lprime_rows;have s1:aL 3 (eA bw ak) [some (.int cell),some (.int n),some #[16],none,none]=.nx [some (.int cell),some (.int n),some #[16],some (RD .own []),none]:=aG rfl rfl;rw[aA s1,aA ((fO (js:=[]) rfl (fV rfl #[1])).trans (by rw[cS];exact f1))];obtain⟨b,hbt,hb⟩:=zg t1 #[1];have en:eT (aF G_Lnone_together #[113]) #[143]=.ok b:=fF (cT (bf (vR rows1 o1)) (by rw[fR];exact hb) rfl);have e2:eT (ai j3 (ai cE (ae 0) #[150]) #[147]) #[143]=.ok (decide (cell%2=0)):=gW (jY rfl #[10]) rfl;obtain⟨c,hc⟩:∃ c,FA (eC (.int 3)) (ae 1) (eC (.int 17)) #[143]=.ok c:=by
   show ∃ c,Kd (.ok (.int 17)) 3 (n:Int)=.ok c;unfold Kd;split
   ·exact⟨_,rfl⟩
   ·exact⟨_,rfl⟩
  obtain⟨q,hqb,hq⟩:∃ q,(q=true->b=true)/\lK (FA (eC (.int 3)) (ae 1) (eC (.int 17))) (lK (eT (ai j3 (ai cE (ae 0) #[150]) #[147])) (eT (aF G_Lnone_together #[113]))) #[143]=.ok q:=by
   cases c with
   |false=>exact⟨_,λ z=>(Qy z).elim,uG hc⟩
   | true =>
    cases hd:decide (cell%2=0) with
    |false=>rw[hd]at e2;exact⟨_,λ z=>(Qy z).elim,om hc (uG e2)⟩| true=>rw[hd]at e2;exact⟨_,λ z=>z,om hc (om e2 en)⟩
  cases q with
  | true =>
   have hp:zU n (col rows1):=⟨h3,λ M ⟨i,j,hi,hj,hij,Mi,Mj⟩ hM=>by
    have hb':=hbt (hqb rfl);rw[l1]at hb';rcases S1 hij with l|l
    ·exact hb' i j l hj M hM Mi Mj
    ·exact hb' j i l hi M hM Mj Mi⟩
   exact⟨rows1,l1,t1,q1,hp,F4 hq rfl⟩
  | false =>
   obtain⟨rows,l,t,q,p,e⟩:=last;exact⟨rows,l,t,q,p,by rw[jF hq];exact e⟩
 obtain⟨rows,l,t,q,p,e⟩:=main;exact⟨rows,l,t,q,p,bN rfl rfl e⟩
def wB {elt:#[29]}{caps:SD}(f:D->D->D):∀ {ds:List (D×D)} (o0 o1:#[91]),(∀ p∈ds,elt (some p.1::some p.2::caps)=.ok (f p.1 p.2)/\(f p.1 p.2).aN=false)->gE #[106] dI elt (ds.map λ p=>.tup [p.1,p.2]) (o0::o1::caps)=.ok (ds.map λ p=>f p.1 p.2)
 |[],_,_,_=>rfl
 | p::r,o0,o1,h=>by
  have ih:=wB f (ds:=r) (some p.1) (some p.2) λ q m=>h q (Qw _ m);obtain⟨h1,h2⟩:=h p Qx;show(elt (some p.1::some p.2::caps)).bind _=_;rw[h1,Res.aU,h2,QK Qy];show(gE #[106] dI elt (r.map λ p=>.tup [p.1,p.2]) (some p.1::some p.2::caps)).bind _=_;rw[ih];rfl
def q9{elt:#[29]}{cap:List (PySem.Str×Nat)}{fl:Bool}{ds:List (D×D)}(f:D->D->D)(hit:it τ=.ok (fl,ds.map λ p=>.tup [p.1,p.2]))(hp:aX (ds.map λ p=>D.tup [p.1,p.2])=true)(he:∀ p∈ds,elt (some p.1::some p.2::iW τ cap)=.ok (f p.1 p.2)/\(f p.1 p.2).pure=true)(hl:ds.length<=16777216) :
  cu it #[106] dI elt 2 cap τ=.ok (.lst .own (ds.map λ p=>f p.1 p.2)):=by
 have hq:aX (ds.map λ p=>f p.1 p.2)=true:=cG λ d m=>by
  obtain⟨x,hx,rfl⟩:=QE.mp m;exact(he x hx).2
 have hc:gE #[106] dI elt (aK (ds.map λ p=>D.tup [p.1,p.2])) (List.replicate 2 none++iW τ cap)=.ok (ds.map λ p=>f p.1 p.2):=by
  rw[br _ hp];exact wB f none none λ p m=>⟨(he p m).1,aQ _ (he p m).2⟩
 unfold cu;rw[hit,Res.aU];simp only[hc];rw[QG (by rw[Qs];exact hl),eO _ hq,ite_self]
def hds (ws:#[60]):List (Int×Int):=ws.mapIdx λ i w=>(w.head,(i:Int))
def ord (ws:#[60]):List (Int×Int):=SR.ordered (0,0) (L2.AA (hds ws)) (hds ws)
def ixs (ws:#[60]):List Nat:=(ord ws).map λ q=>q.2.toNat
def BZ (ws:#[60]):(hds ws).length=ws.length:=by simp[hds]
def xV (ws:#[60]):(ord ws).length=ws.length:=by rw[ord,(SR.bT _ _ _).length_eq,BZ]
def mP (ws:#[60]):(ixs ws).Perm (List.range ws.length):=by
 have h:(hds ws).map (λ q=>q.2.toNat)=List.range ws.length:=by
  refine RM (by simp[hds]) λ i h1 h2=>?_;simp[hds]
 rw[<-h];exact(SR.bT _ _ _).map _
def Gh (ws:#[60]):∀ q∈ord ws,0<=q.2:=λ q m=>by
 have m:=(SR.bT _ _ _).mem_iff.mp m;obtain⟨i,w,_,rfl⟩:=List.mem_mapIdx.mp m;exact Int.natCast_nonneg _
def AY{i:Nat}(hi:i<ws.length):∃ (h:i<(ixs ws).length) (e:Int),(ord ws)[i]?=some (e,((ixs ws)[i]:Int))/\(ixs ws)[i]<ws.length:=by
 have h1:i<(ord ws).length:=by rw[xV];exact hi
 have h2:i<(ixs ws).length:=by unfold ixs;rw[Qs];exact h1
 refine⟨h2,(ord ws)[i].1,?_,QU.mp ((mP ws).mem_iff.mp (QW h2))⟩;rw[Qo h1];have:((ixs ws)[i]:Int)=(ord ws)[i].2:=by
  have e:(ixs ws)[i]=(ord ws)[i].2.toNat:=by simp[ixs]
  rw[e];have:=Gh ws _ (QW h1);omega
 rw[this]
def Mm{i:Nat}(hi:i<(ixs ws).length)(hj:j<(ixs ws).length)(h:i≠j):(ixs ws)[i]≠(ixs ws)[j]:=λ e=>h ((Uc ((mP ws).nodup_iff.mpr Sb)).mp e)
def rQ (cell:Int)(ws:#[60])(sh:#[6])(rows:#[187])(made:#[187])(a6 a7 a8 a9 a10:#[91]):SD:=
 [some (.int cell),some #[71],some #[16],some #[105],some (.lst .own ((ord ws).map lM)),some (.lst .own (made.map λ r=>.tup #[41])),a6,a7,a8,a9,a10]
section
variable{made:#[187]}
def qh (ws:#[60]):aX ((ord ws).map lM)=true:=cG λ d m=>by obtain⟨q,_,rfl⟩:=QE.mp m;rfl
def Dy (made:#[187]):aX (made.map λ r=>D.tup #[41])=true:=cG λ d m=>by obtain⟨r,_,rfl⟩:=QE.mp m;exact aj r
def Gf{a6:#[91]}{i:Nat}(hi:i<ws.length)(hf:f (rQ cell ws sh rows made a6 a7 a8 a9 a10)=.ok (.int i)):∃ h:i<(ixs ws).length,ai bB (ai bB (ae 4) f) #[142] (rQ cell ws sh rows made a6 a7 a8 a9 a10)=.ok (.int ((ixs ws)[i]:Nat)):=by
 obtain⟨h,e,h1,_⟩:=AY hi;refine⟨h,?_⟩;have e1:ai bB (ae 4) f (rQ cell ws sh rows made a6 a7 a8 a9 a10)=.ok (.tup [.int e,.int ((ixs ws)[i]:Nat)]):=bq (aR (xs:=(ord ws).map lM) rfl (qh ws)) hf (eF rfl (by rw[QB,h1];rfl));exact bq e1 rfl (dj (j:=1) rfl rfl)
def Qj {a6:#[91]}:ae 3 (rQ cell ws sh rows made a6 a7 a8 a9 a10)=.ok (RD .bor rows):=by
 show Res.ok (D.lst .bor (eN (rows.map λ r=>.lst .own #[41])))=_;unfold RD
 congr 2
 induction rows with
 |nil=>rfl
 | cons r rs ih =>
  show D.lst .bor (eN #[41])::eN _=_;rw[kc,ih];rfl
def Dw (hq:∀ r∈rows,∀ x∈r,small x)(a b:Nat):small (col rows a b):=by
 have h0:small 0:=by unfold small;decide
 unfold col;rw[Qq,Qq];cases e:rows[max a b]? with
 |none=>exact h0
 | some r =>
  rw[Sa];cases e2:r[min a b]? with
  |none=>exact h0|some x=>exact hq r (QN e) x (QN e2)
def Gi (hq:∀ r∈rows,∀ x∈r,small x)(ht:uJ rows)(hr:rows.length=ws.length){a t:Nat}(ha:a<ws.length)(hat:t<a)(r:#[6])(hl:r.length<16777216) :
  ∃ x b9 b10,small x/\x=col rows ((ixs ws).getD a 0) ((ixs ws).getD t 0)/\g_Lprime_b2 (rQ cell ws sh rows made (some (.int a)) (some #[186]) (some (.int t)) a9 a10)=.nx (rQ cell ws sh rows made (some (.int a)) (some (.lst .own ((r++[x]).map .int))) (some (.int t)) b9 b10):=by
 obtain⟨h1,e1⟩:=Gf (cell:=cell) (ws:=ws) (sh:=sh) (rows:=rows) (made:=made) (f:=ae 6) (a6:=some (.int a)) (a7:=some #[186]) (a8:=some (.int t)) (a9:=a9) (a10:=a10) ha rfl;obtain⟨h2,e2⟩:=Gf (cell:=cell) (ws:=ws) (sh:=sh) (rows:=rows) (made:=made) (f:=ae 8) (a6:=some (.int a)) (a7:=some #[186]) (a8:=some (.int t)) (a9:=some (.int ((ixs ws)[a]:Nat))) (a10:=a10) (TV hat ha) rfl;obtain⟨_,_,_,l1⟩:=AY ha;obtain⟨_,_,_,l2⟩:=AY (TV hat ha);have e3:=xS ht (fr:=ae 3) (f:=ae 9) (g:=ae 10) (τ:=rQ cell ws sh rows made (some (.int a)) (some #[186]) (some (.int t)) (some (.int ((ixs ws)[a]:Nat))) (some (.int ((ixs ws)[t]:Nat)))) Qj rfl rfl (Mm h1 h2 #[1]) #[1] #[1];refine⟨col rows (ixs ws)[a] (ixs ws)[t],some (.int ((ixs ws)[a]:Nat)),some (.int ((ixs ws)[t]:Nat)),Dw hq _ _,by rw[Qq,Qq,Qo h1,Qo h2];rfl,?_⟩;unfold g_Lprime_b2;rw[aA (aG e1 rfl)];show aE _ _ (rQ cell ws sh rows made (some (.int a)) (some #[186]) (some (.int t)) (some (.int ((ixs ws)[a]:Nat))) a10)=_;rw[aA (aG e2 rfl)];show iq 7 _ (rQ cell ws sh rows made (some (.int a)) (some #[186]) (some (.int t)) (some (.int ((ixs ws)[a]:Nat))) (some (.int ((ixs ws)[t]:Nat))))=_;rw[iz (xs:=r.map .int) rfl e3 rfl (by rw[Qs];exact hl)];show Fl.nx (rQ cell ws sh rows made (some (.int a)) (some (.lst .own (r.map .int++[_]))) (some (.int t)) _ _)=_;rw[Rj];rfl
def Gg (hq:∀ r∈rows,∀ x∈r,small x)(ht:uJ rows)(hr:rows.length=ws.length)(hw:ws.length<=24){a:Nat}(ha:a<ws.length)(hm:made.length<16777216) :
  ∃ r b7 b8 b9 b10,r.length=a/\(∀ x∈r,small x)/\(∀ (t:Nat) (x:Int),r[t]?=some x->x=col rows ((ixs ws).getD a 0) ((ixs ws).getD t 0))/\g_Lprime_b3 (rQ cell ws sh rows made (some (.int a)) a7 a8 a9 a10)=.nx (rQ cell ws sh rows (made++[r]) (some (.int a)) b7 b8 b9 b10):=by
 unfold g_Lprime_b3;have s1:aL 7 (eA bw ak) (rQ cell ws sh rows made (some (.int a)) a7 a8 a9 a10)=.nx (rQ cell ws sh rows made (some (.int a)) (some (.lst .own ([].map .int))) a8 a9 a10):=aG rfl rfl;obtain⟨t,h1,r,c8,c9,c10,h2,h3,h4,h5⟩:=eu (tg:=gN 8) (body:=g_Lprime_b2) (ds:=(List.range a).map λ k:Nat=>.int k) (λ i τ=>∃ r c8 c9 c10,τ=rQ cell ws sh rows made (some (.int a)) (some #[186]) c8 c9 c10/\r.length=i/\(∀ x∈r,small x)/\∀ (t:Nat) (x:Int),r[t]?=some x->x=col rows ((ixs ws).getD a 0) ((ixs ws).getD t 0)) 0 (rQ cell ws sh rows made (some (.int a)) (some (.lst .own (([]:#[6]).map .int))) a8 a9 a10) ⟨[],a8,a9,a10,rfl,rfl,(λ x m=>by cases m),λ t x h=>by simp at h⟩ λ j d τ hd hP=>by
  obtain⟨r,c8,c9,c10,rfl,hl,hsm,hat⟩:=hP;rw[Ro]at *;have hj:j<a:=by
   have:=(Qt.mp hd).1;simpa using this
  obtain rfl:d=.int j:=by
   rw[QB,Ry hj]at hd;cases hd;rfl
  obtain⟨x,b9,b10,hx,hxe,e⟩:=Gi (cell:=cell) (sh:=sh) (made:=made) hq ht hr ha hj r #[1] (a9:=c9) (a10:=c10);exact⟨_,_,rfl,.inl e,r++[x],_,_,_,rfl,by rw[Qv,hl];rfl,λ y m=>(QH.mp m).elim (hsm y) (λ m=>by rw[QM.mp m];exact hx),xU hat (by rw[hl];exact hxe)⟩
 refine⟨r,some #[186],c8,c9,c10,by simpa using h3,h4,h5,?_⟩;rw[aA s1,aA ((fO (js:=[]) rfl (fV rfl #[1])).trans (by rw[cS];exact h1)),h2];have e7:eA iV (aa (ae 7) ak) (rQ cell ws sh rows made (some (.int a)) (some #[186]) c8 c9 c10)=.ok (.tup #[41]):=by
  rw[bO (bf (aR (xs:=r.map .int) rfl (aj r)))];rfl
 rw[iz (xs:=made.map λ r=>.tup #[41]) (d:=.tup #[41]) rfl e7 (aQ _ (aj r)) (by rw[Qs];exact hm)];show Fl.nx (_::_::_::_::_::some (D.lst .own ((made.map λ r=>.tup #[41])++[.tup #[41]]))::_)=Fl.nx (_::_::_::_::_::some (D.lst .own ((made++[r]).map λ r=>.tup #[41]))::_);rw[Rj];rfl
end
def bR (ws:#[60]):List Wd:=(ixs ws).map λ k=>ws.getD k (.leaf 0)
def Gm (ws:#[60]):(bR ws).Perm ws:=by
 have h:(List.range ws.length).map (λ k=>ws.getD k (.leaf 0))=ws:=by
  refine RM #[32] λ i h1 h2=>?_;simp[Qo h2]
 exact((mP ws).map _).trans (by rw[h])
def xW {a b:#[60]}(h:a.Perm b):(ao a).Perm (ao b):=by
 rw[aO,aO];exact h.flatMap_right _
def AZ {a b:#[60]}(h:a.Perm b)(hb:dE b):dE a:=(bo a).mpr λ w m=>(bo b).mp hb w (h.mem_iff.mp m)
def Ja (ws:#[60]):nQ (dL ws)=(ws.mapIdx λ i w=>((D.int i),w.d)).map λ p=>D.tup [p.1,p.2]:=by
 unfold nQ;rw[dU];refine RM #[32] λ i h1 h2=>?_;simp
def Gj{made:#[187]}{σ:Nat->Nat}(hp:zU n (col rows))(inj:∀ i j,i<n->j<n->σ i=σ j->i=j)(sur:∀ k,k<n->∃ i,i<n/\σ i=k)(hs:∀ i,i<n->σ i<n)(h:∀ i j,i<n->j<n->i≠j->col made i j=col rows (σ i) (σ j)):zU n (col made):=by
 refine⟨hp.1,λ M ⟨i,j,hi,hj,hij,Mi,Mj⟩ hM x hx=>?_⟩;obtain⟨i',hi',e,Mi'⟩:=hp.2 (λ k=>∃ i,i<n/\σ i=k/\M i) ⟨σ i,σ j,hs i hi,hs j hj,λ e=>hij (inj i j hi hj e),⟨i,hi,rfl,Mi⟩,⟨j,hj,rfl,Mj⟩⟩ (λ a ha na y z _ _ ⟨y',hy,ey,My⟩ ⟨z',hz,ez,Mz⟩=>by
  obtain⟨a',ha',rfl⟩:=sur a ha;have nM:¬ M a':=λ m=>na ⟨a',ha',rfl,m⟩;subst ey;subst ez;have e:=hM a' ha' nM y' z' hy hz My Mz;rw[h a' y' ha' hy (λ q=>nM (q▸My)),h a' z' ha' hz (λ q=>nM (q▸Mz))]at e;exact e) (σ x) (hs x hx)
 rw[<-inj i' x hi' hx e];exact Mi'
def Gk(hsh:∀ x∈sh,small x)(hnd:sh.Nodup)(hs:sh.length=3)(h3:3<=ws.length)(hg:dE ws)(hl:(ao ws).length<=24) :
  ∃ w:Wd,w.good/\w.ah.Perm (ao ws)/\G_Lprime [.int cell,.lst .av (dL ws),.lst .av #[192]]=.ok w.d:=by
 have hw:ws.length<=24:=QX (gq ws hg).1 hl;obtain⟨rows,lr,tr,qr,pr,er⟩:=IX (cell:=cell) hsh hnd hs h3 hw
 let τ0:SD:=[some (.int cell),some #[71],some #[16],none,none,none,none,none,none,none,none]
 let τ1:SD:=[some (.int cell),some #[71],some #[16],some #[105],none,none,none,none,none,none,none]
 have bRD:#[105].aN=false:=by
  show(false||aJ (rows.map λ r=>D.lst .own #[41]))=false;have:∀ rs:List #[6],aJ (rs.map λ r=>D.lst .own #[41])=false:=λ rs=>by
   induction rs with
   |nil=>rfl
   | cons r rs ih =>
    show((false||aJ #[41])||aJ _)=false;rw[dJ,ih];rfl
  rw[this];rfl
 have v1:∀ r:SD,ae 1 (some (.int cell)::some #[71]::r)=.ok #[71]:=λ r=>aY rfl (aT ws);have e3:aF G_Lprime_rows (aa (ae 0) (aa (eA bP #[50]) #[154])) τ0=.ok #[105]:=by
  refine cI (ds:=[.int cell,.int (ws.length:Nat),.lst .av #[192]]) (aH rfl (aH ?_ (bf (aY rfl (aj sh))))) ?_ ?_
  ·rw[cX (v1 _),gg]
  ·show G_Lprime_rows [.int cell,.int (ws.length:Nat),.lst .av (aK #[192])]=_;rw[aM];exact er
  ·show(false||(false||((false||aJ #[192])||false)))=false;rw[dJ];rfl
 have ehead:∀ w∈ws,G_Lhead [w.d]=.ok (.int w.head):=λ w m=>BY ((bo ws).mp hg w m) (QX (eY m) hl);have ec:cu (pH #[50]) #[106] dI g_Lprime_e4 2 [] τ1=.ok (.lst .own ((hds ws).map lM)):=by
  have hit:pH #[50] τ1=.ok (false,(ws.mapIdx λ i w=>((D.int i),w.d)).map λ p=>D.tup [p.1,p.2]):=by
   unfold pH;rw[bf (v1 _),Res.aU];show Res.ok ((false||aJ (dL ws)),nQ (dL ws))=_;rw[cB _ (aT ws),Ja];rfl
  have mem:∀ p∈ws.mapIdx λ i w=>((D.int i),w.d),∃ (i:Nat) (w:Wd),w∈ws/\p=(.int i,w.d):=λ p m=>by
   obtain⟨i,hi,rfl⟩:=List.mem_mapIdx.mp m;exact⟨i,_,QW hi,rfl⟩
  rw[q9 (λ a b=>match G_Lhead [b] with|.ok h=>.tup [h,a]|_=>.bW) hit (cG λ d m=>?_) (λ p m=>?_) (by simp;omega)]
  ·congr 2
   unfold hds;refine RM #[32] λ i h1 h2=>?_;have hi:i<ws.length:=by simpa using h1
   simp only[List.getElem_map,List.getElem_mapIdx];rw[ehead _ (QW hi)];rfl
  ·obtain⟨p,mp,rfl⟩:=QE.mp m;obtain⟨i,w,_,rfl⟩:=mem p mp;show(true&&(w.d.pure&&true))=true;rw[w.pure];rfl
  ·obtain⟨i,w,mw,rfl⟩:=mem p m;have hc:aF G_Lhead #[50] [some (.int i),some w.d]=.ok (.int w.head):=by
    refine cI (ds:=[w.d]) (bf (bA rfl w.pure)) ?_ ?_
    ·rw[show aK [w.d]=[w.d] by show [w.d.av]=_;rw[cz _ w.pure]];exact ehead w mw
    ·show(w.d.aN||false)=false;rw[aQ _ w.pure];rfl
   simp only[ehead w mw];refine⟨?_,rfl⟩;show g_Lprime_e4 [some (.int i),some w.d]=_;unfold g_Lprime_e4;rw[bO (aH hc (bf rfl))];rfl
 have e4:eA iN (aa (cu (pH #[50]) #[106] dI g_Lprime_e4 2 []) ak) τ1=.ok (.lst .own ((ord ws).map lM)):=by
  rw[bO (bf ec)];unfold iN;simp only[qQ];rw[QG (by rw[BZ];omega),<-SR.l9 lM (0,0) .bW];rfl
 obtain⟨t,f1,made,c6,c7,c8,c9,c10,f2,f3,f4,f5,f6⟩:=eu (tg:=gN 6) (body:=g_Lprime_b3) (ds:=(List.range ws.length).map λ k:Nat=>.int k) (λ i τ=>∃ made c6 c7 c8 c9 c10,τ=rQ cell ws sh rows made c6 c7 c8 c9 c10/\made.length=i/\uJ made/\(∀ r∈made,∀ x∈r,small x)/\∀ (i:Nat) (r:#[6]),made[i]?=some r->∀ (t:Nat) (x:Int),r[t]?=some x->x=col rows ((ixs ws).getD i 0) ((ixs ws).getD t 0)) 0 #[183] ⟨[],none,none,none,none,none,rfl,rfl,(λ i r h=>by simp at h),(λ r m=>by cases m),λ i r h=>by simp at h⟩ λ j d τ hd hP=>by
  obtain⟨made,c6,c7,c8,c9,c10,rfl,hm,htm,hsm,hat⟩:=hP;rw[Ro]at *;have hj:j<ws.length:=by
   have:=(Qt.mp hd).1;simpa using this
  obtain rfl:d=.int j:=by
   rw[QB,Ry hj]at hd;cases hd;rfl
  obtain⟨r,b7,b8,b9,b10,hr,hrs,hra,e⟩:=Gg (cell:=cell) (sh:=sh) (made:=made) qr tr lr hw hj #[1] (a7:=c7) (a8:=c8) (a9:=c9) (a10:=c10);exact⟨_,_,rfl,.inl e,made++[r],_,_,_,_,_,rfl,by rw[Qv,hm];rfl,htm.snoc (by rw[hr,hm]),λ r' m=>(QH.mp m).elim (hsm r') (λ m=>by rw[QM.mp m];exact hrs),xU (R:=λ i r=>∀ (t:Nat) (x:Int),r[t]?=some x->x=col rows ((ixs ws).getD i 0) ((ixs ws).getD t 0)) hat (by rw[hm];exact hra)⟩
 have f3:made.length=ws.length:=by simpa using f3
 have bp:=Gm ws;have ip:=mP ws;have il:(ixs ws).length=ws.length:=by rw[ip.length_eq,Q6]
 have gd:∀ {i:Nat} (hi:i<ws.length),(ixs ws).getD i 0=(ixs ws)[i]'#[1]:=λ hi=>by rw[Qq,Qo #[1]];rfl
 have pm:zU (bR ws).length (col made):=by
  rw[bp.length_eq];refine Gj (σ:=λ i=>(ixs ws).getD i 0) pr (λ i j hi hj e=>?_) (λ k hk=>?_) (λ i hi=>?_) λ i j hi hj hij=>?_
  ·simp only[gd hi,gd hj]at e;exact(Uc (ip.nodup_iff.mpr Sb)).mp e
  ·obtain⟨i,hi,e⟩:=List.mem_iff_getElem.mp (ip.mem_iff.mpr (QU.mpr hk));exact⟨i,by omega,by rw[gd #[1]];exact e⟩
  ·simp only[gd hi];exact QU.mp (ip.mem_iff.mp (QW #[1]))
  ·have at_:∀ i j,i<ws.length->j<i->col made i j=col rows ((ixs ws).getD i 0) ((ixs ws).getD j 0):=λ i j hi hji=>by
    have hi':i<made.length:=by omega
    have hj':j<made[i].length:=by rw[f4 i _ (Qo hi')];exact hji
    have:=f6 i _ (Qo hi') j _ (Qo hj');rw[<-this];unfold col;rw[Uo #[1],Te #[1],Qq,Qq,Qo hi',Sa,Qo hj'];rfl
   rcases S1 hij with l|l
   ·rw[show col made i j=col made j i by unfold col;rw[Uu,Uv],at_ j i hj l];unfold col;rw[Uu,Uv]
   ·exact at_ i j hi l
 refine⟨.prime made (bR ws),⟨by rw[bp.length_eq];omega,by rw[f3,bp.length_eq],f4,AZ bp hg,f5,pm⟩,xW bp,bN (τ:=τ0) rfl rfl ?_⟩;unfold g_Lprime;rw[aA (aG e3 bRD)];show aE _ _ τ1=_;rw[aA (aG e4 (bg (qh ws)))];have s5:aL 5 (eA bw ak) [some (.int cell),some #[71],some #[16],some #[105],some (.lst .own ((ord ws).map lM)),none,none,none,none,none,none]=.nx #[183]:=aG rfl rfl;show aE _ _ [some (.int cell),some #[71],some #[16],some #[105],some (.lst .own ((ord ws).map lM)),none,none,none,none,none,none]=_;have hlen:eA bP #[134] #[183]=.ok (.int (ws.length:Nat)):=by
  rw[cX (aR (xs:=(ord ws).map lM) rfl (qh ws)),Qs,xV]
 have s6:gM [] (bV (aa (eA bP #[134]) ak)) (gN 6) g_Lprime_b3 #[183]=.nx (rQ cell ws sh rows made c6 c7 c8 c9 c10):=
  (fO (js:=[]) rfl (fV hlen #[1])).trans (by rw[cS,<-f2];exact f1)
 rw[aA s5,aA s6];have e5:eA iV (aa (ae 5) ak) (rQ cell ws sh rows made c6 c7 c8 c9 c10)=.ok (.tup (made.map λ r=>.tup #[41])):=by
  rw[bO (bf (aR (xs:=made.map λ r=>.tup #[41]) rfl (Dy made)))];rfl
 have e6:cu (jo (ae 4)) #[106] dI g_Lprime_e1 2 [("_law_woods",1)] (rQ cell ws sh rows made c6 c7 c8 c9 c10)=.ok (.lst .own (dL (bR ws))):=by
  have hit:jo (ae 4) (rQ cell ws sh rows made c6 c7 c8 c9 c10)=.ok (true,((ord ws).map λ q=>((D.int q.1),D.int q.2)).map λ p=>D.tup [p.1,p.2]):=by
   unfold jo;rw[aR (xs:=(ord ws).map lM) rfl (qh ws),Res.aU];show Res.ok (true,(ord ws).map lM)=_;rw[Q5];rfl
  rw[q9 (λ _ b=>match b with|.int k=>(ws.getD k.toNat (.leaf 0)).d|d=>d) hit (cG λ d m=>?_) (λ p m=>?_) (by rw[Qs,xV];omega)]
  ·congr 2
   unfold bR ixs;rw[dU,Q5,Q5,Q5];rfl
  ·obtain⟨p,mp,rfl⟩:=QE.mp m;obtain⟨q,_,rfl⟩:=QE.mp mp;rfl
  ·obtain⟨q,mq,rfl⟩:=QE.mp m;have h0:=Gh ws q mq;have hk:q.2.toNat<ws.length:=QU.mp ((mP ws).mem_iff.mp (QE.mpr ⟨q,mq,rfl⟩));refine⟨?_,Wd.pure _⟩;show ai bB (ae 2) (ae 1) [some (.int q.1),some (.int q.2),some (.lst .av (aK (dL ws)))]=_;rw[br _ (aT ws)];refine bq (aY rfl (aT ws)) rfl (eF (j:=q.2.toNat) #[1] ?_);show _=some (ws.getD q.2.toNat (.leaf 0)).d;rw[dU,QB,Qo hk,Qq,Qo hk];rfl
 refine iY ?_ (Wd.pure _);rw[bO (aH rfl (aH e5 (bf ((bO (bf e6)).trans rfl))))];rfl
def Dz{t:Tg}{k:Nat}(hf:f τ=.ok (.lst t xs))(hg:g τ=.ok (.int k)):lZ f MM (eP g) τ=.ok (.lst .own (xs.take k)):=by
 have e:eP g τ=.ok (some (k:Int)):=by unfold eP;rw[hg];rfl
 unfold lZ;rw[hf,Res.aU,show MM τ=.ok none from rfl,Res.aU,e];show cutD (.lst t xs) none (some (k:Int))=_;simp[cutD,Ly]
def zm{t:Tg}{k:Nat}(hf:f τ=.ok (.lst t xs))(hg:g τ=.ok (.int k)):lZ f (eP g) MM τ=.ok (.lst .own (xs.drop k)):=by
 have e:eP g τ=.ok (some (k:Int)):=by unfold eP;rw[hg];rfl
 unfold lZ;rw[hf,Res.aU,e,Res.aU];show cutD (.lst t xs) (some (k:Int)) none=_;simp[cutD,E5]
def Jc (ws:#[60])(k:Nat):(dL ws).take k=dL (ws.take k):=by rw[dU,dU,List.map_take]
def Jb (ws:#[60])(k:Nat):(dL ws).drop k=dL (ws.drop k):=by rw[dU,dU,List.map_drop]
def i6 (cs ps sh:#[6])(od:D)(ws:#[60])(turn:Nat)(a6 a7 a8 a9 a10:#[91]):SD:=
 [some #[56],some #[47],some #[16],some od,some (.lst .own (dL ws)),some (.int turn),a6,a7,a8,a9,a10]
section
variable{od:D}{turn:Nat}{a6:#[91]}
def mQ{c k m:Int}(hf:f τ=.ok (.int c))(hk:0<=k/\k<7)(hm:0<m):∃ r,0<=r/\r<m/\aF G_Lmix (aa f (aa (eC (.int k)) (aa (eC (.int m)) ak))) τ=.ok (.int r):=by
 obtain⟨r,h0,h1,e⟩:=AV (c:=c) hk hm;exact⟨r,h0,h1,cI (ds:=[.int c,.int k,.int m]) (aH hf (aH rfl (bf rfl))) e rfl⟩
def v4:ae 4 #[45]=.ok (.lst .bor (dL ws)):=aR rfl (aT ws)
def Mn:eA bP #[134] #[45]=.ok (.int (ws.length:Nat)):=by rw[cX v4,gg]
def P6:ae 2 #[45]=.ok #[16]:=aY rfl (aj sh)
def Jd (hsh:∀ x∈sh,small x)(hnd:sh.Nodup)(htn:turn<1000)(hc:cs≠[])(hs:sh.length=3)(hg:dE ws)(hl:(ao ws).length<=24)(h2:2<=ws.length) :
  ∃ ws' b6 b7 b8 b9 b10,dE ws'/\(ao ws').Perm (ao ws)/\1<=ws'.length/\ws'.length<ws.length/\g_Lwood_b2 #[45]=.nx (i6 cs ps sh od ws' (turn+1) b6 b7 b8 b9 b10):=by
 have hn:ws.length<=24:=QX (gq ws hg).1 hl;have hcl:0<(cs.length:Int):=by
  have:=List.length_pos_iff.mpr hc;omega
 unfold g_Lwood_b2;obtain⟨cell,ec⟩:∃ cell:Int,ai bE (ai bB (ae 0) (ai cE (ae 5) (eA bP #[144]))) (ai jN (eC (.int 7)) (ae 5)) #[45]=.ok (.int cell):=by
  have v0':ae 0 #[45]=.ok #[56]:=aY rfl (aj cs);have em:ai cE (ae 5) (eA bP #[144]) #[45]=.ok (.int ((turn:Int)%(cs.length:Nat))):=gA rfl (by rw[cX v0',Qs]) hcl;obtain⟨x,_,hx⟩:=zl (sh:=cs) (t:=.av) (i:=(turn:Int)%(cs.length:Nat)) (R0 _ (Int.ne_of_gt hcl)) (RK _ hcl);exact⟨x+7*(turn:Int),dB (bq v0' em hx) (jG rfl rfl (zk #[10]))⟩
 rw[aA (aG ec rfl)];show ∃ ws' b6 b7 b8 b9 b10,_/\_/\_/\_/\aE _ _ (i6 cs ps sh od ws turn #[195] a7 a8 a9 a10)=_;obtain⟨m1,m10,m11,em1⟩:=mQ (f:=ae 6) (τ:=i6 cs ps sh od ws turn #[195] a7 a8 a9 a10) (c:=cell) (k:=0) (m:=4) rfl #[10] #[10];rw[aA (aG (dB (a:=2) rfl em1) rfl)];show ∃ ws' b6 b7 b8 b9 b10,_/\_/\_/\_/\aE _ _ #[168]=_;obtain⟨m2,m20,m21,em2⟩:=mQ (f:=ae 6) (τ:=i6 cs ps sh od ws turn #[195] (some (.int (2+m1))) a8 a9 a10) (c:=cell) (k:=5) (m:=4) rfl #[10] #[10];obtain⟨m3,m30,m31,em3⟩:=mQ (f:=ae 6) (τ:=i6 cs ps sh od ws turn #[195] (some (.int (2+m1))) a8 a9 a10) (c:=cell) (k:=6) (m:=23) rfl #[10] #[10];obtain⟨mm,hm2,eif⟩:∃ mm:Int,2<=mm/\fZ (eT (ai j3 (aF G_Lmix (aa (ae 6) (aa (eC (.int 5)) (aa (eC (.int 4)) ak)))) #[147])) (aL 7 (ai bE #[150] (aF G_Lmix (aa (ae 6) (aa (eC (.int 6)) (aa (eC (.int 23)) ak)))))) bD #[168]=.nx (i6 cs ps sh od ws turn #[195] (some (.int mm)) a8 a9 a10):=by
  have cc:=gW em2 (show eC (.int 0) #[168]=.ok (.int 0) from rfl);cases hb:decide (m2=0) with
  | true =>
   rw[hb]at cc;refine⟨2+m3,by omega,?_⟩;rw[ju cc,aG (dB (a:=2) rfl em3) rfl];rfl
  | false =>
   rw[hb]at cc;refine⟨2+m1,by omega,?_⟩;rw[gZ cc];rfl
 rw[aA eif];obtain⟨k,hk2,hkl,ek⟩:∃ k:Nat,2<=k/\k<=ws.length/\eA j5 (aa (ae 7) (aa (eA bP #[134]) ak)) (i6 cs ps sh od ws turn #[195] (some (.int mm)) a8 a9 a10)=.ok (.int k):=by
  refine⟨(if ((ws.length:Nat):Int)<mm then ((ws.length:Nat):Int) else mm).toNat,by split<;>omega,by split<;>omega,?_⟩;rw[bO (aH (show ae 7 _=.ok (.int mm) from rfl) (bf Mn))];show Res.ok (D.int (if ((ws.length:Nat):Int)<mm then ((ws.length:Nat):Int) else mm))=_
  congr 2
  split<;>omega
 rw[aA (aG ek rfl)];show ∃ ws' b6 b7 b8 b9 b10,_/\_/\_/\_/\aE _ _ (i6 cs ps sh od ws turn #[195] (some (.int k)) a8 a9 a10)=_;have c1:=Dz (f:=ae 4) (g:=ae 7) (τ:=i6 cs ps sh od ws turn #[195] (some (.int k)) a8 a9 a10) v4 rfl;rw[Jc]at c1;rw[aA (aG c1 (bg (aT _)))];show ∃ ws' b6 b7 b8 b9 b10,_/\_/\_/\_/\aE _ _ (i6 cs ps sh od ws turn #[195] (some (.int k)) #[146] a9 a10)=_;have c2:=zm (f:=ae 4) (g:=ae 7) (τ:=i6 cs ps sh od ws turn #[195] (some (.int k)) #[146] a9 a10) v4 rfl;rw[Jb]at c2;rw[aA (aG c2 (bg (aT _)))];show ∃ ws' b6 b7 b8 b9 b10,_/\_/\_/\_/\aE _ _ #[13]=_;have eapp:ao (ws.take k)++ao (ws.drop k)=ao ws:=by rw[<-gX,Rv]
 have gt:dE (ws.take k):=(bo _).mpr λ w m=>(bo ws).mp hg w (List.mem_of_mem_take m);have gd:dE (ws.drop k):=(bo _).mpr λ w m=>(bo ws).mp hg w (List.mem_of_mem_drop m);have lt:(ao (ws.take k)).length<=24:=by
  have:=RL List.length eapp;rw[Qv]at this;omega
 have tk:(ws.take k).length=k:=by rw[RA];omega
 have v8:∀ b9 b10:Option D,ae 8 (i6 cs ps sh od (ws.drop k) turn #[195] (some (.int k)) #[146] b9 b10)=.ok (.lst .bor (dL (ws.take k))):=λ b9 b10=>aR rfl (aT _);have fz:aK (dL (ws.take k))=dL (ws.take k):=br _ (aT _);obtain⟨kn,b10,gk,pk,e9⟩:∃ (kn:Wd) (b10:#[91]),kn.good/\kn.ah.Perm (ao (ws.take k))/\fZ (lK (eT (ai BC (ae 7) #[150])) (eT (ai Ez (aF G_Lmix (aa (ae 6) (aa #[142] (aa (eC (.int 5)) ak)))) (eC (.int 3))))) (aL 9 (aF G_Lprime (aa (ae 6) (aa (ae 8) #[154])))) (aE #[27] (aL 9 (aF G_Lflat (aa (ae 10) (aa (ae 8) ak))))) #[13]=.nx #[19]:=by
  obtain⟨m4,m40,m41,em4⟩:=mQ (f:=ae 6) (τ:=i6 cs ps sh od (ws.drop k) turn #[195] (some (.int k)) #[146] a9 a10) (c:=cell) (k:=1) (m:=5) rfl #[10] #[10];have cg:eT (ai BC (ae 7) #[150]) #[13]=.ok (decide ((2:Int)<(k:Nat))):=qW rfl rfl;have cl:=oO em4 (show eC (.int 3) #[13]=.ok (.int 3) from rfl);have flatcase:∃ (kn:Wd) (b10:#[91]),kn.good/\kn.ah.Perm (ao (ws.take k))/\aE #[27] (aL 9 (aF G_Lflat (aa (ae 10) (aa (ae 8) ak)))) #[13]=.nx #[19]:=by
   obtain⟨m5,m50,m51,em5⟩:=mQ (f:=ae 6) (τ:=i6 cs ps sh od (ws.drop k) turn #[195] (some (.int k)) #[146] a9 a10) (c:=cell) (k:=2) (m:=4) rfl #[10] #[10];have p9:∀ τ:SD,ai j2 (eC (.int 10)) (eC (.int 9)) τ=.ok (.int 1000000000):=λ τ=>rfl;have e1:eA bw (aa (ai bE (ai jN (ae 5) (ai j2 (eC (.int 10)) (eC (.int 9)))) (ai cE (ae 6) (ai j2 (eC (.int 10)) (eC (.int 9))))) ak) #[13]=.ok (.lst .own [.int ((turn:Int)*1000000000+cell%1000000000)]):=by
    rw[bO (bf (dB (jG (show ae 5 _=.ok (.int (turn:Int)) from rfl) (p9 _) (mul_r #[10])) (gA (show ae 6 _=.ok (.int cell) from rfl) (p9 _) #[10])))];rfl
   have e2:=nF (P6 (cs:=cs) (ps:=ps) (sh:=sh) (od:=od) (ws:=ws.drop k) (turn:=turn) (a6:=some (.int cell)) (a7:=some (.int k)) (a8:=some (.lst .own (dL (ws.take k)))) (a9:=a9) (a10:=a10)) e1 (by simp[hs]);obtain⟨x,mx,hx⟩:=zl (sh:=sh++[(turn:Int)*1000000000+cell%1000000000]) (t:=.own) (i:=m5) m50 (by rw[Qv,hs];exact m51);rw[Rj]at hx;have e3:=bq e2 em5 hx;have sx:small x:=(QH.mp mx).elim (hsh x) λ m=>by
    rw[QM.mp m];unfold small;have h1:=R0 cell (show(1000000000:Int)≠0 by decide);have h2:=RK cell (show(0:Int)<1000000000 by decide);have h3:((turn:Int)*1000000000+cell%1000000000).natAbs<1000000000000:=by omega
    exact TV h3 #[10]
   refine⟨wz x (ws.take k),some (.int x),AW sx gt #[1],xR x (ws.take k),?_⟩;rw[aA (aG e3 rfl)];show aL 9 _ (i6 cs ps sh od (ws.drop k) turn #[195] (some (.int k)) #[146] a9 #[125])=_;have e4:aF G_Lflat (aa (ae 10) (aa (ae 8) ak)) (i6 cs ps sh od (ws.drop k) turn #[195] (some (.int k)) #[146] a9 #[125])=.ok (wz x (ws.take k)).d:=by
    refine cT (ds:=[.int x,.lst .bor (dL (ws.take k))]) (aH rfl (bf (v8 _ _))) ?_ (Wd.pure _);show G_Lflat [.int x,.lst .av (aK (dL (ws.take k)))]=_;rw[fz];exact IV gt lt
   rw[aG e4 (aQ _ (Wd.pure _))];rfl
  by_cases hk3:(2:Int)<(k:Nat)
  ·rw[QO hk3]at cg;cases hb:decide (m4<3) with
   | true =>
    rw[hb]at cl;obtain⟨kn,gk,pk,ep⟩:=Gk (cell:=cell) (ws:=ws.take k) (sh:=sh) hsh hnd hs #[1] gt lt;refine⟨kn,a10,gk,pk,?_⟩;rw[ju (om cg cl)];have e4:aF G_Lprime (aa (ae 6) (aa (ae 8) #[154])) #[13]=.ok kn.d:=by
     refine cT (ds:=[.int cell,.lst .bor (dL (ws.take k)),.lst .av #[192]]) (aH rfl (aH (v8 _ _) (bf P6))) ?_ (Wd.pure _);show G_Lprime [.int cell,.lst .av (aK (dL (ws.take k))),.lst .av (aK #[192])]=_;rw[fz,aM];exact ep
    rw[aG e4 (aQ _ (Wd.pure _))];rfl
   | false =>
    rw[hb]at cl;rw[gZ (om cg cl)];exact flatcase
  ·rw[QF hk3]at cg;rw[gZ (uG cg)];exact flatcase
 rw[aA e9];obtain⟨m6,m60,m61,em6⟩:=mQ (f:=ae 6) (τ:=i6 cs ps sh od (ws.drop k) turn #[195] (some (.int k)) #[146] (some kn.d) b10) (c:=cell) (k:=3) (m:=2) rfl #[10] #[10];have v9:ae 9 #[19]=.ok kn.d:=bA rfl kn.pure;obtain⟨ws',g',p',l',e4⟩:∃ ws':List Wd,dE ws'/\(ao ws').Perm (ao ws)/\ws'.length=(ws.drop k).length+1/\fZ (eT (ai j3 (aF G_Lmix (aa (ae 6) (aa (eC (.int 3)) (aa #[150] ak)))) #[147])) (aL 4 (ai bE (eA bw (aa (ae 9) ak)) (ae 4))) (iq 4 (ae 9)) #[19]=.nx (i6 cs ps sh od ws' turn #[195] (some (.int k)) #[146] (some kn.d) b10):=by
  have cc:=gW em6 (show eC (.int 0) #[19]=.ok (.int 0) from rfl);have dl:(ws.drop k).length<=24:=by rw[R3];omega
  cases hb:decide (m6=0) with
  | true =>
   rw[hb]at cc;refine⟨kn::ws.drop k,⟨gk,gd⟩,?_,rfl,?_⟩
   ·show(kn.ah++ao (ws.drop k)).Perm _;rw[<-eapp];exact pk.append_right _
   ·have e1:eA bw (aa (ae 9) ak) #[19]=.ok (.lst .own [kn.d]):=by
     rw[bO (bf v9)];rfl
    have e2:=nF e1 (v4 (cs:=cs) (ps:=ps) (sh:=sh) (od:=od) (ws:=ws.drop k) (turn:=turn) (a6:=some (.int cell)) (a7:=some (.int k)) (a8:=some (.lst .own (dL (ws.take k)))) (a9:=some kn.d) (a10:=b10)) (by rw[gg];show 1+_<=_;omega);rw[ju cc,aG e2 (bg (by exact aT (kn::ws.drop k)))];rfl
  | false =>
   rw[hb]at cc;refine⟨ws.drop k++[kn],(bo _).mpr λ w m=>(QH.mp m).elim ((bo _).mp gd w) λ m=>by rw[QM.mp m];exact gk,?_,by rw[Qv];rfl,?_⟩
   ·rw[gX,<-eapp];show(ao (ws.drop k)++(kn.ah++[])).Perm _;rw[QQ];exact(List.Perm.append_left _ pk).trans Ub
   ·rw[gZ cc,iz (xs:=dL (ws.drop k)) (d:=kn.d) rfl v9 (aQ _ kn.pure) (by rw[gg];omega)];unfold i6;rw[gK];rfl
 rw[aA e4];rw[R3]at l';refine⟨ws',some (.int cell),some (.int k),some (.lst .own (dL (ws.take k))),some kn.d,b10,g',p',by omega,by omega,?_⟩;exact aG (d:=.int ((turn+1:Nat):Int)) (show _=Res.ok (D.int ((turn:Int)+1)) from dB rfl rfl) rfl
end
def A0{od:D}(hsh:∀ x∈sh,small x)(hnd:sh.Nodup)(hc:cs≠[])(hs:sh.length=3):∀ (m:Nat) {ws:#[60]}{turn:Nat}{a6 a7 a8 a9 a10:#[91]},dE ws->(ao ws).length<=24->1<=ws.length->ws.length<=m+1->turn+m<1000 ->
  ∃ (w:Wd) (turn':Nat) (b6 b7 b8 b9 b10:#[91]),w.good/\w.ah.Perm (ao ws)/\aS g_Lwood_w1 g_Lwood_b2 (m+1) #[45]=.nx (i6 cs ps sh od [w] turn' b6 b7 b8 b9 b10):=by
 intro m
 induction m with
 | zero =>
  intro ws turn a6 a7 a8 a9 a10 hg hl h1 hm htn;obtain⟨w,rfl⟩:∃ w,ws=[w]:=T6.mp #[1];have c:g_Lwood_w1 (i6 cs ps sh od [w] turn a6 a7 a8 a9 a10)=.ok false:=by
   unfold g_Lwood_w1;exact(qW Mn (show eC (.int 1) _=.ok (.int 1) from rfl)).trans rfl
  refine⟨w,turn,a6,a7,a8,a9,a10,hg.1,by show w.ah.Perm (w.ah++[]);rw[QQ],?_⟩;rw[aS,c];rfl
 | succ m ih =>
  intro ws turn a6 a7 a8 a9 a10 hg hl h1 hm htn;have c:g_Lwood_w1 #[45]=.ok (decide ((1:Int)<(ws.length:Nat))):=by
   unfold g_Lwood_w1;exact qW Mn rfl
  by_cases h2:2<=ws.length
  ·rw[QO #[1]]at c;obtain⟨ws',b6,b7,b8,b9,b10,g',p',l1,l2,e⟩:=Jd (cs:=cs) (ps:=ps) (sh:=sh) (od:=od) (ws:=ws) (turn:=turn) (a6:=a6) (a7:=a7) (a8:=a8) (a9:=a9) (a10:=a10) hsh hnd #[1] hc hs hg hl h2;obtain⟨w,t',d6,d7,d8,d9,d10,gw,pw,e2⟩:=ih (ws:=ws') (turn:=turn+1) (a6:=b6) (a7:=b7) (a8:=b8) (a9:=b9) (a10:=b10) g' (by rw[p'.length_eq];exact hl) l1 #[1] #[1];refine⟨w,t',d6,d7,d8,d9,d10,gw,pw.trans p',?_⟩;rw[aS,c];show(match g_Lwood_b2 #[45] with|.nx t=>aS g_Lwood_w1 g_Lwood_b2 (m+1) t|.ct t=>aS g_Lwood_w1 g_Lwood_b2 (m+1) t|.bk t=>Fl.nx t|o=>o)=_;rw[e];exact e2
  ·obtain⟨w,rfl⟩:∃ w,ws=[w]:=T6.mp #[1];rw[QF (by show ¬ (1:Int)<((1:Nat):Int);omega)]at c;refine⟨w,turn,a6,a7,a8,a9,a10,hg.1,by show w.ah.Perm (w.ah++[]);rw[QQ],?_⟩;rw[aS,c];rfl
def Mp (xs:#[6]):dL (xs.map Wd.leaf)=xs.map .int:=by rw[dU,Q5];rfl
def Gn (xs:#[6]):ao (xs.map Wd.leaf)=xs:=by
 induction xs with
 |nil=>rfl|cons x r ih=>show [x]++ao (r.map Wd.leaf)=_;rw[ih];rfl
def Mq (xs:#[6])(h:∀ x∈xs,small x):dE (xs.map Wd.leaf):=(bo _).mpr λ w m=>by obtain⟨x,mx,rfl⟩:=QE.mp m;exact h x mx
def B6(hps:∀ x∈ps,small x)(hsh:∀ x∈sh,small x)(hnd:sh.Nodup)(hc:cs≠[])(hp1:1<=ps.length)(hp:ps.length<=24)(hs:sh.length=3) :
  ∃ w:Wd,w.good/\w.ah.Perm ps/\G_Lwood [.lst .av (cs.map .int),.lst .av (ps.map .int),.lst .av #[192]]=.ok w.d:=by
 have hcl:0<(cs.length:Int):=by
  have:=List.length_pos_iff.mpr hc;omega
 let τ0:SD:=[some #[56],some #[47],some #[16],none,none,none,none,none,none,none,none]
 have v1:∀ r:SD,ae 1 (some #[56]::some #[47]::r)=.ok #[47]:=λ r=>aY rfl (aj ps);have helt:∀ k:Nat,∃ i:Int,g_Lwood_e4 [some (.int k),some #[56]]=.ok (lM (i,(k:Int))):=λ k=>by
  have w1:ae 1 [some (.int (k:Int)),some #[56]]=.ok #[56]:=aY rfl (aj cs);have em:ai cE (ae 0) (eA bP #[50]) [some (.int (k:Int)),some #[56]]=.ok (.int ((k:Int)%(cs.length:Nat))):=gA rfl (by rw[cX w1,Qs]) hcl;obtain⟨x,_,hx⟩:=zl (sh:=cs) (t:=.av) (i:=(k:Int)%(cs.length:Nat)) (R0 _ (Int.ne_of_gt hcl)) (RK _ hcl);obtain⟨r,_,_,er⟩:=mQ (f:=ai bE (ai bB (ae 1) (ai cE (ae 0) (eA bP #[50]))) (ai jN (eC (.int 31)) (ae 0))) (τ:=[some (.int (k:Int)),some #[56]]) (c:=x+31*(k:Int)) (k:=4) (m:=997) (dB (bq w1 em hx) (jG rfl rfl (zk #[10]))) #[10] #[10];refine⟨r,?_⟩;unfold g_Lwood_e4;rw[bO (aH er (bf rfl))];rfl
 let f:Nat->Int:=λ k=>match g_Lwood_e4 [some (.int k),some #[56]] with|.ok (.tup [.int i,_])=>i|_=>0
 have hf:∀ k:Nat,g_Lwood_e4 [some (.int k),some #[56]]=.ok (lM (f k,(k:Int))):=λ k=>by
  obtain⟨i,e⟩:=helt k;have:f k=i:=by
   show(match g_Lwood_e4 [some (.int k),some #[56]] with|.ok (.tup [.int i,_])=>i|_=>0)=i;rw[e];rfl
  rw[this];exact e
 let mk:List (Int×Int):=#[132].map λ k=>(f k,(k:Int))
 let od:List (Int×Int):=SR.ordered (0,0) (L2.AA mk) mk
 have hml:mk.length=ps.length:=by simp[mk]
 have odp:od.Perm mk:=SR.bT _ _ _;have pod:aX (od.map lM)=true:=cG λ d m=>by obtain⟨q,_,rfl⟩:=QE.mp m;rfl
 have ec:cu (bV (aa (eA bP #[50]) ak)) (gN 0) dI g_Lwood_e4 1 [("_law_cells",0)] τ0=.ok (.lst .own (mk.map lM)):=by
  have hlen:eA bP #[50] τ0=.ok (.int (ps.length:Nat)):=by rw[cX (v1 _),Qs]
  rw[jg (λ d=>match d with|.int x=>lM (f x.toNat,x)|d=>d) (fV hlen #[1]) (λ d m=>?_) (by simp;omega),cS]
  ·rw[Q5,Q5];rfl
  ·rw[cS]at m;obtain⟨k,hk,rfl⟩:=QE.mp m;refine⟨?_,rfl⟩;show g_Lwood_e4 [some (.int k),some (.lst .av (aK (cs.map .int)))]=_;rw[aM];exact hf k
 have e3:eA iN (aa (cu (bV (aa (eA bP #[50]) ak)) (gN 0) dI g_Lwood_e4 1 [("_law_cells",0)]) ak) τ0=.ok (.lst .own (od.map lM)):=by
  rw[bO (bf ec)];unfold iN;simp only[qQ];rw[QG (by rw[hml];omega),<-SR.l9 lM (0,0) .bW]
 let xs:List Int:=od.map λ q=>ps.getD q.2.toNat 0
 have xp:xs.Perm ps:=by
  have h:mk.map (λ q=>ps.getD q.2.toNat 0)=ps:=by
   refine RM (by simp[mk]) λ i h1 h2=>?_;simp[mk,Qo h2]
  have:=odp.map (λ q:Int×Int=>ps.getD q.2.toNat 0);rw[h]at this;exact this
 let τ1:SD:=[some #[56],some #[47],some #[16],some (.lst .own (od.map lM)),none,none,none,none,none,none,none]
 have e4:cu (jo (ae 3)) #[106] dI g_Lwood_e3 2 [("_law_places_here",1)] τ1=.ok (.lst .own (dL (xs.map Wd.leaf))):=by
  have hit:jo (ae 3) τ1=.ok (true,(od.map λ q=>((D.int q.1),D.int q.2)).map λ p=>D.tup [p.1,p.2]):=by
   unfold jo;rw[aR (xs:=od.map lM) rfl pod,Res.aU];show Res.ok (true,od.map lM)=_;rw[Q5];rfl
  rw[q9 (λ _ b=>match b with|.int k=>.int (ps.getD k.toNat 0)|d=>d) hit (cG λ d m=>?_) (λ p m=>?_) (by rw[Qs,odp.length_eq,hml];omega)]
  ·rw[Mp,Q5,Q5];rfl
  ·obtain⟨p,mp,rfl⟩:=QE.mp m;obtain⟨q,_,rfl⟩:=QE.mp mp;rfl
  ·obtain⟨q,mq,rfl⟩:=QE.mp m;obtain⟨k,hk,eq⟩:=QE.mp (odp.mem_iff.mp mq);have hk:=QU.mp hk;have e2:q.2=(k:Int):=by rw[<-eq]
   have et:q.2.toNat=k:=by omega
   refine⟨?_,rfl⟩;show ai bB (ae 2) (ae 1) [some (.int q.1),some (.int q.2),some (.lst .av (aK (ps.map .int)))]=.ok (.int (ps.getD q.2.toNat 0));rw[aM,et];refine bq (aY rfl (aj ps)) rfl (eF (j:=k) e2 ?_);rw[QB,Qo hk,Qq,Qo hk];rfl
 obtain⟨w,t',b6,b7,b8,b9,b10,gw,pw,ew⟩:=A0 (cs:=cs) (ps:=ps) (sh:=sh) (od:=.lst .own (od.map lM)) hsh hnd hc hs 24 (ws:=xs.map Wd.leaf) (turn:=0) (a6:=none) (a7:=none) (a8:=none) (a9:=none) (a10:=none) (Mq xs λ x m=>hps x (xp.mem_iff.mp m)) (by rw[Gn,xp.length_eq];exact hp) (by rw[Qs,xp.length_eq];exact hp1) (by rw[Qs,xp.length_eq];omega) #[1];rw[Gn]at pw;refine⟨w,gw,pw.trans xp,bN (τ:=τ0) rfl rfl ?_⟩;unfold g_Lwood;rw[aA (aG e3 (bg pod))];show aE _ _ τ1=_;rw[aA (aG e4 (bg (aT _)))];have s5:aL 5 #[147] #[176]=.nx (i6 cs ps sh (.lst .own (od.map lM)) (xs.map Wd.leaf) 0 none none none none none):=aG rfl rfl;show aE _ _ #[176]=_;have s6:fM g_Lwood_w1 g_Lwood_b2 (i6 cs ps sh (.lst .own (od.map lM)) (xs.map Wd.leaf) 0 none none none none none)=.nx (i6 cs ps sh (.lst .own (od.map lM)) [w] t' b6 b7 b8 b9 b10):=by
  rw[ir (n:=25) (by rw[ew];exact Fl.noConfusion),ew]
 rw[aA s5,aA s6];exact iY (bq v4 rfl (eF (j:=0) rfl rfl)) w.pure
end KL
namespace KL
open DL PySem
variable {p q x:Int}{c:Int->Int->Int}{hs rows:#[187]}{S ps qs:#[6]}{i j n:Nat}{τ:SD}{b v w:Wd}
abbrev Sc (ns:#[6]):D:=.lst .av (ns.map .int)
def cellAt (ns:#[6])(k:Nat):Int:=ns.getD k 0
def DB (ns:#[6])(k:Nat):G_Lcell_at [Sc ns,.int k]=.ok (.int (cellAt ns k)):=by
 refine bN (τ:=[some (Sc ns),some (.int k)]) rfl rfl ?_;unfold g_Lcell_at;have v0:ae 0 [some (Sc ns),some (.int k)]=.ok (Sc ns):=aY rfl (aj ns);have cc:eT (ai Ez (ae 1) (eA bP #[144])) [some (Sc ns),some (.int k)]=.ok (decide ((k:Int)<(ns.length:Nat))):=oO rfl (by rw[cX v0,Qs]);unfold cellAt;by_cases hk:k<ns.length
 ·rw[QO #[1]]at cc;rw[Qq,Qo hk];exact F4 cc (iY (bq v0 rfl (eF (j:=k) rfl (by rw[QB,Qo hk];rfl))) rfl)
 ·rw[QF #[1]]at cc;rw[jF cc,Qq,RP #[1]];exact iY rfl rfl
def xX {t:Tg}{xs:#[6]}:bB (.lst t ((xs++[x]).map .int)) (.int (-1))=.ok (.int x):=by
 have e:L2.vI ((xs++[x]).map D.int) (-1)=some (D.int x):=by
  have hl:((xs++[x]).map D.int).length=xs.length+1:=by simp
  have hn:L2.DQ (xs.length+1) (-1)=some xs.length:=by
   unfold L2.DQ;simp;omega
  unfold L2.vI;rw[hl,hn];simp
 show(match L2.vI ((xs++[x]).map D.int) (-1) with|some d=>Res.ok d|none=>.bad)=_;rw[e]
def DA (c:Int){m:Nat}(h1:1<=m)(hm:m<=24):∃ ps:List Int,ps.length=m/\ps.Pairwise (· < ·)/\(∀ x∈ps,0<=x/\x<10^30+100)/\(∃ q,ps[0]?=some q/\∀ x∈ps,x<=q+72)/\G_Lplaces [.int c,.int m]=.ok #[22]:=by
 have hc0:=R0 c (show(10^30:Int)≠0 by decide);have hc1:=RK c (show(0:Int)<10^30 by decide);have p30:∀ τ:SD,ai j2 (eC (.int 10)) (eC (.int 30)) τ=.ok (.int (10^30)):=λ τ=>rfl;have s1:aL 2 (eA bw (aa (ai cE (ae 0) (ai j2 (eC (.int 10)) (eC (.int 30)))) ak)) [some (.int c),some (.int m),none,none]=.nx #[145]:=by
  have e:=gA (f:=ae 0) (g:=ai j2 (eC (.int 10)) (eC (.int 30))) (τ:=[some (.int c),some (.int m),none,none]) (a:=c) rfl (p30 _) #[10];rw[aG ((bO (bf e)).trans rfl) rfl];rfl
 obtain⟨t,f1,xs,x,o,f2,f3,f4,f5,f6⟩:=eu (tg:=gN 3) (body:=g_Lplaces_b1) (ds:=(List.range (m-1)).map λ k:Nat=>.int k) (λ i τ=>∃ xs x o,τ=[some (.int c),some (.int m),some (.lst .own ((xs++[x]).map .int)),o]/\xs.length=i/\(xs++[x]).Pairwise (· < ·)/\((xs++[x])[0]?=some (c%10^30)/\∀ y∈xs++[x],0<=y/\y<=c%10^30+3*(i:Int))/\∀ y∈xs++[x],y<=x/\y<10^30+3*(i:Int)+1 ) 0 #[145] ⟨[],c%10^30,none,rfl,rfl,TM _ _,⟨rfl,λ y my=>by rw[QM.mp my];exact⟨hc0,by omega⟩⟩,λ y my=>by rw[QM.mp my];exact⟨Int.le_refl _,by omega⟩⟩ λ j d τ hd hP=>by
  obtain⟨xs,x,o,rfl,hl,hp,h0,hx⟩:=hP;rw[Ro]at *;have hj:j<m-1:=by
   have:=(Qt.mp hd).1;simpa using this
  obtain rfl:d=.int j:=by
   rw[QB,Ry hj]at hd;cases hd;rfl
  obtain⟨r,r0,r1,er⟩:=mQ (f:=ai bE (ae 0) (ae 3)) (τ:=[some (.int c),some (.int m),some (.lst .own ((xs++[x]).map .int)),some (.int j)]) (c:=c+j) (k:=6) (m:=3) (dB rfl rfl) #[10] #[10];have el:ai bB (ae 2) (gD lY #[142]) [some (.int c),some (.int m),some (.lst .own ((xs++[x]).map .int)),some (.int j)]=.ok (.int x):=bq (aR rfl (aj _)) (show gD lY #[142] _=.ok (.int (-1)) from rfl) xX;have ea:=dB (dB el (show eC (.int 1) _=.ok (.int 1) from rfl)) er;have hxx:=hx x (QJ _ Qx);refine⟨_,_,rfl,.inl (iz (xs:=(xs++[x]).map .int) rfl ea rfl (by simp only[Qs,Qv,T9];omega)),xs++[x],x+1+r,some (.int j),?_,by rw[Qv,hl];rfl,?_,?_,?_⟩
  ·show [some (D.int c),some (D.int m),some (D.lst .own ((xs++[x]).map .int++[.int (x+1+r)])),some (D.int j)]=_;rw[Rj (l₁:=xs++[x])];rfl
  ·refine SG.mpr ⟨hp,TM _ _,λ a ma b mb=>?_⟩;rw[QM.mp mb];have:=(hx a ma).1;omega
  ·refine⟨by rw[Ri #[32]];exact h0.1,λ y my=>?_⟩;rcases QH.mp my with my|my
   ·have:=h0.2 y my;omega
   ·rw[QM.mp my];have:=h0.2 x (QJ _ Qx);omega
  ·intro y my;rcases QH.mp my with my|my
   ·have:=hx y my;omega
   ·rw[QM.mp my];omega
 have f3:xs.length=m-1:=by simpa using f3
 refine⟨xs++[x],by rw[Qv,f3];show m-1+1=m;omega,f4,λ y my=>⟨(f5.2 y my).1,?_⟩,⟨_,f5.1,λ y my=>?_⟩,bN (τ:=[some (.int c),some (.int m),none,none]) rfl rfl ?_⟩
 ·have:=(f6 y my).2;have e:(0+((List.range (m-1)).map λ k:Nat=>D.int k).length:Nat)=m-1:=by simp
  rw[e]at this;omega
 ·have:=(f5.2 y my).2;have e:(0+((List.range (m-1)).map λ k:Nat=>D.int k).length:Nat)=m-1:=by simp
  rw[e]at this;omega
 ·unfold g_Lplaces;have hr:bV (aa (ai Ey (ae 1) #[142]) ak) #[145]=.ok (false,(List.range (m-1)).map λ k:Nat=>.int k):=by
   refine fV ?_ #[1];have:ai Ey (ae 1) #[142] #[145]=.ok (.int ((m:Int)-1)):=(bC (show ae 1 _=.ok (.int (m:Int)) from rfl) rfl).trans rfl;rw[this]
   congr 2
   omega
  have s2:gM [] (bV (aa (ai Ey (ae 1) #[142]) ak)) (gN 3) g_Lplaces_b1 #[145]=.nx [some (.int c),some (.int m),some (.lst .own ((xs++[x]).map .int)),o]:=
   (fO (js:=[]) rfl hr).trans (by rw[cS,<-f2];exact f1)
  rw[aA s1,aA s2];rfl
def PF {y z:Int}(h1:x≠y)(h2:x≠z)(h3:y≠z):[x,y,z].Nodup:=by
 simp only[Q8,QA,R5,U7,not_or,Rl,and_true];exact⟨⟨h1,h2⟩,h3,λ z=>z⟩
def wC (c:Int):∃ sh:List Int,sh.length=3/\sh.Nodup/\(∀ x∈sh,0<=x/\x<=2*10^30)/\G_Lshades [.int c]=.ok (.lst .own #[192]):=by
 have hc0:=R0 c (show(10^30:Int)≠0 by decide);have hc1:=RK c (show(0:Int)<10^30 by decide);have h0:=R0 c (show(3:Int)≠0 by decide);have h1:=RK c (show(0:Int)<3 by decide)
 let u:Int:=1+c%10^30
 have p30:∀ τ:SD,ai j2 (eC (.int 10)) (eC (.int 30)) τ=.ok (.int (10^30)):=λ τ=>rfl;have e1:=dB (f:=eC (.int 1)) (τ:=[some (.int c),none]) (a:=1) rfl (gA (f:=ae 0) (a:=c) rfl (p30 _) #[10]);have e2:eA bw #[67] [some (.int c),some (.int u)]=.ok (.lst .own [.lst .own [.int 0,.int u,.int (u+1)],.lst .own [.int u,.int 0,.int (2*u)],.lst .own [.int 1,.int 0,.int 2]]):=by
  have em:ai jN #[150] (ae 1) [some (.int c),some (.int u)]=.ok (.int (2*u)):=jG rfl rfl (zk #[10]);rw[bO (aH (show eA bw _ _=.ok (.lst .own [.int 0,.int u,.int (u+1)]) from rfl) (aH ((bO (aH rfl (aH rfl (bf em)))).trans rfl) (bf rfl)))];rfl
 have hm:ai cE (ae 0) (eC (.int 3)) [some (.int c),some (.int u)]=.ok (.int (c%3)):=jY rfl #[10];have hcase:c%3=0\/c%3=1\/c%3=2:=by omega
 have run:∀ sh:List Int,bB (.lst .own [.lst .own [.int 0,.int u,.int (u+1)],.lst .own [.int u,.int 0,.int (2*u)],.lst .own [.int 1,.int 0,.int 2]]) (.int (c%3))=.ok (.lst .own #[192])->G_Lshades [.int c]=.ok (.lst .own #[192]):=λ sh hx=>by
  refine bN (τ:=[some (.int c),none]) rfl rfl ?_;unfold g_Lshades;rw[aA (aG e1 rfl)];exact jQ (bq e2 hm hx) (bg (aj sh))
 rcases hcase with e|e|e
 ·refine⟨[0,u,u+1],rfl,PF #[1] #[1] #[1],λ x mx=>?_,run _ (by rw[e];rfl)⟩;simp only[QA,R5,U7]at mx;omega
 ·refine⟨[u,0,2*u],rfl,PF #[1] #[1] #[1],λ x mx=>?_,run _ (by rw[e];rfl)⟩;simp only[QA,R5,U7]at mx;omega
 ·refine⟨[1,0,2],rfl,PF #[1] #[1] #[1],λ x mx=>?_,run _ (by rw[e];rfl)⟩;simp only[QA,R5,U7]at mx;omega
def qi(h0:0<=x)(h1:x<10^31):small x:=by
 unfold small;have:x.natAbs<10^31:=by omega
 exact TV this #[10]
def sd (w:Wd):aK [w.d]=[w.d]:=by show [w.d.av]=_;rw[cz _ w.pure]
def Jf (w:Wd):aJ [w.d]=false:=by show(w.d.aN||false)=false;rw[aQ _ w.pure];rfl
def Wd.bR:Wd->List Wd
 |.leaf _=>[]
 |.flat _ bs=>bs
 |.prime _ bs=>bs
def Wd.yf:Wd->Bool
 |.leaf _=>true
 |_=>false
mutual
def Wd.nodes:Wd->Nat
 |.leaf _=>1
 |.flat _ bs=>1+ck bs
 |.prime _ bs=>1+ck bs
def ck:List Wd->Nat
 |[]=>0
 |b::r=>b.nodes+ck r
end
def gy:∀ a b:List Wd,ck (a++b)=ck a+ck b
 |[],b=>by show ck b=0+ck b;omega
 |x::a,b=>by show x.nodes+ck (a++b)=x.nodes+ck a+ck b;rw[gy a b];omega
def wF (w:Wd):w.nodes=1+ck w.bR:=by cases w<;>rfl
mutual
def Wd.uK:∀ w:Wd,w.good->w.nodes+1<=2*w.ah.length
 |.leaf p,_=>by show 1+1<=2*1;omega
 | .flat c bs,h=>by
  have h1:=rf bs h.2.1;have h2:=h.1;show 1+ck bs+1<=2*(ao bs).length;omega
 | .prime rows bs,h=>by
  have h1:=rf bs h.2.2.2.1;have h2:=h.1;show 1+ck bs+1<=2*(ao bs).length;omega
def rf:∀ bs:List Wd,dE bs->ck bs+bs.length<=2*(ao bs).length
 |[],_=>QD _
 | b::r,h=>by
  have h1:=Wd.uK b h.1;have h2:=rf r h.2;show b.nodes+ck r+(r.length+1)<=2*(b.ah++ao r).length;rw[Qv];omega
end
def DE (w:Wd):iy [w.d]=.ok (.bl w.yf):=by cases w<;>exact bN rfl rfl rfl
def uM{r:SD}:aF iy #[144] (some w.d::r)=.ok (.bl w.yf):=cT (bf (bA rfl w.pure)) (by rw[sd];exact DE w) rfl
def rR (w:Wd):dS [w.d]=.ok (.tup (dL w.bR)):=by
 refine bN rfl rfl ?_;unfold jV;show dX _ [some w.d]=_;refine iY ?_ (show(D.tup (dL w.bR)).pure=true from aT w.bR);unfold NC;rw[fF uM];cases w with
 |leaf p=>rfl
 | flat c bs =>
  show ai bB (ae 0) #[150] [some (Wd.flat c bs).d]=_;exact bq (bA rfl (Wd.pure (.flat c bs))) (show eC (.int 2) _=.ok (.int 2) from rfl) (dj (j:=2) rfl rfl)
 | prime rows bs =>
  show ai bB (ae 0) #[150] [some (Wd.prime rows bs).d]=_;exact bq (bA rfl (Wd.pure (.prime rows bs))) (show eC (.int 2) _=.ok (.int 2) from rfl) (dj (j:=2) rfl rfl)
def su (w:Wd)(fs ws:#[60])(o:#[91]):SD:=[some w.d,some (.lst .own (dL fs)),some (.lst .own (dL ws)),o]
def Je (w v:Wd)(fs ws:#[60])(o:#[91])(h1:fs.length<16777216)(h2:ws.length+v.bR.length<=16777216):bK (su w fs (ws++[v]) o)=.nx (su w (fs++[v]) (ws++v.bR) (some v.d)):=by
 unfold bK;have e1:Fj 3 2 (su w fs (ws++[v]) o)=.nx (su w fs ws (some v.d)):=by
  unfold Fj;rw[show gY (su w fs (ws++[v]) o) 2=some (dL (ws++[v])) from rfl];show IA 3 2 (dL (ws++[v])) (su w fs (ws++[v]) o) (dL (ws++[v]))[(dL (ws++[v])).length-1]?=_;have e:(dL (ws++[v]))[(dL (ws++[v])).length-1]?=some v.d:=by
   rw[gK,Qv];show(dL ws++[v.d])[(dL ws).length+1-1]?=_;rw[Nat.add_sub_cancel,Ut]
  rw[e];show(if v.d.plain=true then Fl.nx (((su w fs (ws++[v]) o).set 2 (some (.lst .own (dL (ws++[v])).dropLast))).set 3 (some v.d)) else .bad)=_;rw[QG v.plain,gK];show Fl.nx [some w.d,some (.lst .own (dL fs)),some (.lst .own (dL ws++[v.d]).dropLast),some v.d]=_;rw[List.dropLast_concat];rfl
 rw[aA e1];have e2:iq 1 (ae 3) (su w fs ws (some v.d))=.nx (su w (fs++[v]) ws (some v.d)):=by
  rw[iz (xs:=dL fs) (d:=v.d) rfl (bA rfl v.pure) (aQ _ v.pure) (by rw[gg];exact h1)];show Fl.nx [some w.d,some (.lst .own (dL fs++[v.d])),some (.lst .own (dL ws)),some v.d]=Fl.nx [some w.d,some (.lst .own (dL (fs++[v]))),some (.lst .own (dL ws)),some v.d];rw[gK];rfl
 rw[aA e2];have e3:aF dS #[113] (su w (fs++[v]) ws (some v.d))=.ok (.tup (dL v.bR)):=cT (bf (bA rfl v.pure)) (by rw[sd];exact rR v) (aT _);unfold wa;rw[show gY (su w (fs++[v]) ws (some v.d)) 2=some (dL ws) from rfl];show(aF dS #[113] (su w (fs++[v]) ws (some v.d))).ja _ _=_;rw[e3,kO];show(if cV (dL v.bR)=true/\(dL ws).length+(dL v.bR).length<=16777216 then Fl.nx ((su w (fs++[v]) ws (some v.d)).set 2 (some (.lst .own (dL ws++dL v.bR)))) else .bad)=_;rw[QG ⟨ku _,by rw[gg,gg];exact h2⟩,<-gK];rfl
def DC (w:Wd):1<=w.nodes:=by rw[wF];omega
def nJ:∀ l:List Wd,l.length<=ck l
 |[]=>QD _
 | b::r=>by
  have h1:=DC b;have h2:=nJ r;show r.length+1<=b.nodes+ck r;omega
mutual
def Wd.subs:Wd->List Wd
 |.leaf p=>[.leaf p]
 |.flat c bs=>.flat c bs::fC bs
 |.prime rows bs=>.prime rows bs::fC bs
def fC:List Wd->List Wd
 |[]=>[]
 |b::r=>b.subs++fC r
end
def uL (w:Wd):w.subs=w::fC w.bR:=by cases w<;>rfl
def kZ:∀ a b:List Wd,fC (a++b)=fC a++fC b
 |[],b=>rfl|x::a,b=>by show x.subs++fC (a++b)=(x.subs++fC a)++fC b;rw[kZ a b,QY]
def Gp (w:Wd):∀ (m:Nat) (ws fs:#[60]) (o:#[91]),ck ws<=m->fs.length+ck ws<=1000->∃ gs o',gs.Perm (fC ws)/\gs.length=ck ws/\aS bL bK (m+1) (su w fs ws o)=.nx (su w (fs++gs) [] o'):=by
 intro m;have nil:∀ (m:Nat) (fs:#[60]) (o:#[91]),∃ gs o',gs.Perm (fC [])/\gs.length=ck []/\aS bL bK (m+1) (su w fs [] o)=.nx (su w (fs++gs) [] o'):=λ m fs o=>by
  refine⟨[],o,.refl _,rfl,?_⟩;rw[aS,show bL (su w fs [] o)=.ok false from rfl,QQ];rfl
 induction m with
 | zero =>
  intro ws fs o hm hf;cases ws with
  |nil=>exact nil 0 fs o
  | cons a r =>
   have:=nJ (a::r);simp only[QP]at this;omega
 | succ m ih =>
  intro ws fs o hm hf;rcases List.eq_nil_or_concat ws with rfl|⟨us,v,rfl⟩
  ·exact nil _ fs o
  ·rw[List.concat_eq_append]at *;have hn:ck (us++[v])=ck us+(1+ck v.bR):=by rw[gy,<-wF];rfl
   have h1:=nJ us;have h2:=nJ v.bR;obtain⟨gs,o',pg,lg,eg⟩:=ih (us++v.bR) (fs++[v]) (some v.d) (by rw[gy];omega) (by rw[gy,Qv];show fs.length+1+_<=_;omega);refine⟨v::gs,o',?_,?_,?_⟩
   ·have e:fC (us++[v])=fC us++v.subs:=by rw[kZ];show fC us++(v.subs++[])=_;rw[QQ]
    rw[e,uL];rw[kZ]at pg;exact(List.Perm.cons v pg).trans List.perm_middle.symm
   ·rw[QP,lg,gy,hn];omega
   ·have c:bL (su w fs (us++[v]) o)=.ok true:=by
     unfold bL OA;rw[show ae 2 (su w fs (us++[v]) o)=.ok (.lst .bor (dL (us++[v]))) from aR rfl (aT _),gK];show Res.ok (!(dL us++[v.d]).isEmpty)=_;simp
    rw[aS,c];show(match bK (su w fs (us++[v]) o) with|.nx t=>aS bL bK (m+1) t|.ct t=>aS bL bK (m+1) t|.bk t=>Fl.nx t|o=>o)=_;rw[Je w v fs us o #[1] #[1]];show aS bL bK (m+1) (su w (fs++[v]) (us++v.bR) (some v.d))=_;rw[eg,QY];rfl
def Gq(hg:w.good)(hl:w.ah.length<=24):∃ gs,gs.Perm w.subs/\gs.length<=48/\je [w.d]=.ok (.lst .own (dL gs)):=by
 have hn:=w.uK hg;obtain⟨gs,o',pg,lg,eg⟩:=Gp w (ck [w]) [w] [] none (QD _) (by show 0+(w.nodes+0)<=_;omega);have lg':gs.length=w.nodes:=lg;refine⟨gs,?_,by omega,?_⟩
 ·have pg:gs.Perm (w.subs++[]):=pg;rw[QQ]at pg;exact pg
 ·refine bN (τ:=[some w.d,none,none,none]) rfl rfl ?_;unfold kW;rw[aA (aG (show eA bw ak _=.ok (.lst .own []) from rfl) rfl)];have e2:eA bw #[144] [some w.d,some (.lst .own []),none,none]=.ok (.lst .own [w.d]):=by
   rw[bO (bf (bA rfl w.pure))];rfl
  show aE _ _ [some w.d,some (.lst .own []),none,none]=_;rw[aA (aG e2 (by show(false||(w.d.aN||false))=false;rw[aQ _ w.pure];rfl))];show aE _ _ (su w [] [w] none)=_;have e3:fM bL bK (su w [] [w] none)=.nx (su w gs [] o'):=(ir (by rw[eg];exact λ z=>by cases z)).trans eg;rw[aA e3];rfl
def Gr (p:Int)(w:Wd):Bool:=decide (p∈w.ah)
abbrev At (bs:#[60])(p:Int)(j:Nat):Prop:=bs.findIdx? (Gr p)=some j
def At.of {bs:#[60]}(h:p∈ao bs):∃ j,At bs p j:=by
 cases e:bs.findIdx? (Gr p) with
 |some j=>exact⟨j,e⟩
 | none =>
  rw[UO]at e;rw[aO,Sd]at h;obtain⟨b,mb,hp⟩:=h;have:=e b mb;unfold Gr at this;rw[QO hp]at this;cases this
def At.get {bs:#[60]}(h:At bs p j):∃ b,bs[j]?=some b/\b∈bs/\p∈b.ah/\∀ m b',m<j->bs[m]?=some b'->¬ p∈b'.ah:=by
 rw[At,TQ]at h;obtain⟨h1,h2,h3⟩:=h;refine⟨bs[j],Qo h1,QW h1,R8 h2,λ m b' hm hb=>?_⟩;have:=h3 m hm;obtain⟨hm',rfl⟩:=Qt.mp hb;intro z;apply this;exact QO z
def zo(hg:w.good):dE w.bR:=by
 cases w with
 |leaf p=>exact trivial|flat c bs=>exact hg.2.1|prime rows bs=>exact hg.2.2.2.1
def dW(h:w.yf=false):ao w.bR=w.ah:=by
 cases w with
 |leaf p=>cases h|flat c bs=>rfl|prime rows bs=>rfl
def k6(hg:w.good)(hl:w.ah.length<=24):w.bR.length<=24/\∀ b∈w.bR,b.good/\b.ah.length<=24/\b.deep+1<=w.deep:=by
 cases w with
 |leaf p=>exact⟨RS _,λ b m=>by cases m⟩
 | flat c bs =>
  have h1:dE bs:=hg.2.1;refine⟨QX (gq bs h1).1 hl,λ b m=>⟨(bo bs).mp h1 b m,QX (eY m) hl,?_⟩⟩;have:b.deep<=fP bs:=gx m;show b.deep+1<=fP bs+1;omega
 | prime rows bs =>
  have h1:dE bs:=hg.2.2.2.1;refine⟨QX (gq bs h1).1 hl,λ b m=>⟨(bo bs).mp h1 b m,QX (eY m) hl,?_⟩⟩;have:b.deep<=fP bs:=gx m;show b.deep+1<=fP bs+1;omega
def zq(ht:uJ rows){f g fr:#[29]}{x y:Nat}(hr:fr τ=.ok (.tup (rows.map λ r=>.tup #[41])))(hf:f τ=.ok (.int x))(hg:g τ=.ok (.int y))(hne:x≠y)(hx:x<rows.length)(hy:y<rows.length) :
  ai bB (ai bB fr (eA j4 (aa f (aa g ak)))) (eA j5 (aa f (aa g ak))) τ=.ok (.int (col rows x y)):=by
 have em:eA j4 (aa f (aa g ak)) τ=.ok (.int ((max x y:Nat):Int)):=by
  rw[bO (aH hf (bf hg))];show Res.ok (D.int (if (y:Int)>x then (y:Int) else x))=_
  congr 2
  split<;>omega
 have en:eA j5 (aa f (aa g ak)) τ=.ok (.int ((min x y:Nat):Int)):=by
  rw[bO (aH hf (bf hg))];show Res.ok (D.int (if (y:Int)<x then (y:Int) else x))=_
  congr 2
  split<;>omega
 have hm:max x y<rows.length:=by omega
 have e1:rows[max x y]?=some rows[max x y]:=Qo hm;have hl:=ht _ _ e1;have hmin:min x y<rows[max x y].length:=by omega
 have r1:ai bB fr (eA j4 (aa f (aa g ak))) τ=.ok (.tup (rows[max x y].map .int)):=bq hr em (dj rfl (by rw[QB,e1];rfl));rw[bq r1 en (dj rfl (by rw[QB,Qo hmin];rfl))];unfold col;rw[Qq,Qq,e1,Sa,Qo hmin];rfl
def df:Wd->Nat->Nat->Int
 |.flat c _,_,_=>c
 |.prime rows _,i,j=>col rows i j
 |.leaf _,_,_=>0
def rh (bs:#[60])(p:Int):Nat:=(bs.findIdx? (Gr p)).getD 0
def At.rh {bs:#[60]}(h:At bs p j):rh bs p=j:=by unfold KL.rh;rw[show bs.findIdx? (Gr p)=some j from h];rfl
def iU:Nat->Wd->Int->Int->Int
 |0,_,_,_=>0
 |n+1,w,p,q=>if rh w.bR p=rh w.bR q then iU n (w.bR.getD (rh w.bR p) (.leaf 0)) p q else df w (rh w.bR p) (rh w.bR q)
def wG (w:Wd)(i j:Nat):df w i j=df w j i:=by
 cases w with
 |prime rows bs=>show col rows i j=col rows j i;unfold col;rw[Uu,Uv]|_=>rfl
def zp:∀ (n:Nat) (w:Wd) (p q:Int),iU n w p q=iU n w q p
 |0,_,_,_=>rfl
 | n+1,w,p,q=>by
  show(if rh w.bR p=rh w.bR q then iU n (w.bR.getD (rh w.bR p) (.leaf 0)) p q else df w (rh w.bR p) (rh w.bR q))=(if rh w.bR q=rh w.bR p then iU n (w.bR.getD (rh w.bR q) (.leaf 0)) q p else df w (rh w.bR q) (rh w.bR p));by_cases h:rh w.bR p=rh w.bR q
  ·rw[QG h,QG h.symm,zp n,h]
  ·rw[QK h,QK (Rr h),wG]
def Wd.OD:Wd->Bool
 |.flat _ _=>true
 |_=>false
def DG (w:Wd):nC [w.d]=.ok (.bl w.OD):=by
 refine bN (τ:=[some w.d]) rfl rfl ?_;unfold qU;refine iY ?_ rfl;have e1:EB (aF iy #[144]) [some w.d]=.ok (.bl (!w.yf)):=by
  unfold EB;rw[uM];rfl
 unfold Ak;rw[e1];cases w with
 |leaf p=>rfl
 | flat c bs =>
  show ai j3 (ai bB (ae 0) #[147]) (eC (.str "flat")) [some (Wd.flat c bs).d]=_;rw[bC (bq (bA rfl (Wd.pure (.flat c bs))) (show eC (.int 0) _=.ok (.int 0) from rfl) (dj (j:=0) rfl rfl)) rfl];exact RL (λ b=>Res.ok (D.bl b)) (show xor false (decide (("flat" : Str) = "flat"))=true by decide +kernel)
 | prime rows bs =>
  show ai j3 (ai bB (ae 0) #[147]) (eC (.str "flat")) [some (Wd.prime rows bs).d]=_;rw[bC (bq (bA rfl (Wd.pure (.prime rows bs))) (show eC (.int 0) _=.ok (.int 0) from rfl) (dj (j:=0) rfl rfl)) rfl];exact RL (λ b=>Res.ok (D.bl b)) (show xor false (decide (("prime" : Str) = "flat"))=false by decide +kernel)
def Jg(hp:p∈v.ah)(hq:q∈v.ah)(hpq:p≠q):v.yf=false:=by
 cases v with
 | leaf x =>
  have h1:p∈[x]:=hp;have h2:q∈[x]:=hq;exact absurd ((QM.mp h1).trans (QM.mp h2).symm) hpq
 |_=>rfl
def wH:∀ {bs:#[60]}{v:Wd},v∈fC bs↔∃ b∈bs,v∈b.subs
 |[],v=>by simp[fC]
 | a::r,v=>by
  show v∈a.subs++fC r↔_;rw[QH,wH];simp
def qj (w:Wd):w∈w.subs:=by rw[uL];exact Qx
def iS:v∈w.subs↔v=w\/∃ b∈w.bR,v∈b.subs:=by rw[uL,QA,wH]
def ky(m:b∈w.bR):w.yf=false:=by cases w with
 |leaf p=>cases m|_=>rfl
def iI(m:b∈w.bR)(h:p∈b.ah):p∈w.ah:=by
 rw[<-dW (ky m),aO,Sd];exact⟨b,m,h⟩
def B7:∀ {bs:#[60]},(ao bs).Nodup->∀ {i j:Nat}{a b:Wd}{p:Int},bs[i]?=some a->bs[j]?=some b->p∈a.ah->p∈b.ah->i=j
 |[],_,i,j,a,b,p,h1,h2,h3,h4=>by simp at h1
 | c::r,hn,i,j,a,b,p,h1,h2,h3,h4=>by
  have hn:(c.ah++ao r).Nodup:=hn;rw[QL]at hn;have inr:∀ {k:Nat}{d:Wd},r[k]?=some d->p∈d.ah->p∈ao r:=λ hk hp=>by
   rw[aO,Sd];exact⟨_,QN hk,hp⟩
  cases i with
  | zero =>
   cases j with
   |zero=>rfl
   | succ j =>
    simp only[List.getElem?_cons_zero,SH,TN]at h1 h2;subst h1;exact absurd rfl (hn.2.2 p h3 p (inr h2 h4))
  | succ i =>
   cases j with
   | zero =>
    simp only[List.getElem?_cons_zero,SH,TN]at h1 h2;subst h2;exact absurd rfl (hn.2.2 p h4 p (inr h1 h3))
   | succ j =>
    simp only[TN]at h1 h2;rw[B7 hn.2.1 h1 h2 h3 h4]
def xY {bs:#[60]}(hn:(ao bs).Nodup)(hb:bs[i]?=some b)(hp:p∈b.ah):rh bs p=i:=by
 obtain⟨j,hj⟩:=At.of (bs:=bs) (p:=p) (by rw[aO,Sd];exact⟨b,QN hb,hp⟩);obtain⟨b',hb',_,hp',_⟩:=hj.get;rw[hj.rh];exact B7 hn hb' hb hp' hp
def A1(hn:w.ah.Nodup)(m:b∈w.bR):b.ah.Nodup:=by
 rw[<-dW (ky m),aO]at hn;obtain⟨i,hi,rfl⟩:=List.mem_iff_getElem.mp m;have:=Rv i w.bR;rw[<-List.getElem_cons_drop hi]at this;rw[<-this,RH,RX,QL,QL]at hn;exact hn.2.1.1
def qk:∀ (n:Nat) (c:Wd),c.deep<=n->∀ u∈c.subs,∀ x,x∈u.ah->x∈c.ah
 |0,c,hd,_,_,_,_=>by cases c<;>simp[Wd.deep]at hd
 | n+1,c,hd,u,hu,x,hx=>by
  rcases iS.mp hu with rfl|⟨b,mb,hb⟩
  ·exact hx
  ·have hdc:b.deep<=n:=by
    have:=gx mb;have:c.deep=fP c.bR+1:=by cases c with
     |leaf p=>cases mb|_=>rfl
    omega
   exact iI mb (qk n b hdc u hb x hx)
def gC (c:Wd):∀ u∈c.subs,∀ x,x∈u.ah->x∈c.ah:=qk c.deep c (QD _)
def sQ:∀ (n:Nat) {w v:Wd}{i j:Nat}{a b:Wd}{p q:Int},w.deep<=n->w.ah.Nodup->v∈w.subs->v.bR[i]?=some a->v.bR[j]?=some b->i≠j->p∈a.ah->q∈b.ah->iU n w p q=df v i j
 |0,w,v,i,j,a,b,p,q,hd,_,_,_,_,_,_,_=>by cases w<;>simp[Wd.deep]at hd
 | n+1,w,v,i,j,a,b,p,q,hd,hn,hv,ha,hb,hij,hp,hq=>by
  show(if rh w.bR p=rh w.bR q then iU n (w.bR.getD (rh w.bR p) (.leaf 0)) p q else df w (rh w.bR p) (rh w.bR q))=_;rcases iS.mp hv with rfl|⟨c,mc,hc⟩
  ·have hn':(ao v.bR).Nodup:=by rw[dW (ky (QN ha))];exact hn
   rw[xY hn' ha hp,xY hn' hb hq,QK hij]
  ·have hn':(ao w.bR).Nodup:=by rw[dW (ky mc)];exact hn
   obtain⟨k,hk⟩:=Rf mc;have up:∀ (u:Wd),u∈c.subs->∀ x,x∈u.ah->x∈c.ah:=gC c;have hpc:=up v hc p (iI (QN ha) hp);have hqc:=up v hc q (iI (QN hb) hq);rw[xY hn' hk hpc,xY hn' hk hqc,QG rfl,Qq,hk];have hdc:c.deep<=n:=by
    have:=gx mc;have:w.deep=fP w.bR+1:=by cases w with
     |leaf p=>cases mc|_=>rfl
    omega
   exact sQ n hdc (A1 hn mc) hc ha hb hij hp hq
def zv:∀ (n:Nat) {w:Wd}{p q:Int},w.deep<=n->p∈w.ah->q∈w.ah->p≠q->∃ v∈w.subs,∃ (i j:Nat) (a b:Wd),v.bR[i]?=some a/\v.bR[j]?=some b/\i≠j/\p∈a.ah/\q∈b.ah
 |0,w,p,q,hd,_,_,_=>by cases w<;>simp[Wd.deep]at hd
 | n+1,w,p,q,hd,hp,hq,hpq=>by
  have hL:=Jg hp hq hpq;have hp':=hp;have hq':=hq;rw[<-dW hL]at hp' hq';obtain⟨i,hi⟩:=At.of hp';obtain⟨j,hj⟩:=At.of hq';obtain⟨a,ga,ma,pa,_⟩:=hi.get;obtain⟨b,gb,mb,qb,_⟩:=hj.get;by_cases h:i=j
  ·subst h;rw[ga]at gb;cases gb;have hdc:a.deep<=n:=by
    have:=gx ma;have:w.deep=fP w.bR+1:=by cases w with
     |leaf p=>cases hL|_=>rfl
    omega
   obtain⟨v,mv,r⟩:=zv n hdc pa qb hpq;exact⟨v,iS.mpr (.inr ⟨a,ma,mv⟩),r⟩
  ·exact⟨w,qj w,i,j,a,b,ga,gb,h,pa,qb⟩
abbrev Wr:=(Int×Int)×Int
variable {ws:List Wr}
def lN (p q:Int):Int×Int:=if p>q then (p,q) else (q,p)
def Gu (p q:Int):lN p q=lN q p:=by
 unfold lN;split<;>split<;>first|rfl|(have:p=q:=by omega)<;>subst this<;>rfl|omega
def Jh {a b:Int}(h:lN p q=lN a b):(p=a/\q=b)\/(p=b/\q=a):=by
 unfold lN at h;split at h<;>split at h<;>(injection h with h1 h2;omega)
def lJ (c:Int)(ps qs:#[6]):List Wr:=ps.flatMap λ p=>qs.map λ q=>(lN p q,c)
def i7 (t:Nat->Nat->Int)(hs:#[187]):List Wr:=(List.range hs.length).flatMap λ i=>(List.range i).flatMap λ j=>lJ (t i j) (hs.getD i []) (hs.getD j [])
def DH {c:Int}{x:Wr}:x∈lJ c ps qs↔∃ p∈ps,∃ q∈qs,x=(lN p q,c):=by
 unfold lJ;simp only[Sd,QE];exact⟨λ ⟨p,mp,q,mq,e⟩=>⟨p,mp,q,mq,e.symm⟩,λ ⟨p,mp,q,mq,e⟩=>⟨p,mp,q,mq,e.symm⟩⟩
def rm {t:Nat->Nat->Int}{x:Wr}:x∈i7 t hs↔∃ i j,j<i/\i<hs.length/\∃ p∈hs.getD i [],∃ q∈hs.getD j [],x=(lN p q,t i j):=by
 unfold i7;simp only[Sd,QU,DH];exact⟨λ ⟨i,hi,j,hj,r⟩=>⟨i,j,hj,hi,r⟩,λ ⟨i,j,hj,hi,r⟩=>⟨i,hi,j,hj,r⟩⟩
def sR {α β:Type}(f:α->List β)(B:Nat):∀ (xs:List α),(∀ x∈xs,(f x).length<=B)->(xs.flatMap f).length<=xs.length*B
 |[],_=>RS _
 | a::r,h=>by
  rw[RX,Qv,QP,Nat.succ_mul,Nat.add_comm];exact Nat.add_le_add (sR f B r λ x m=>h x (Qw _ m)) (h a Qx)
def DI {c:Int}(h1:ps.length<=24)(h2:qs.length<=24):(lJ c ps qs).length<=576:=by
 have:=sR (λ p=>qs.map λ q=>((lN p q,c):Wr)) 24 ps λ x _=>by rw[Qs];exact h2
 unfold lJ;have h3:ps.length*24<=24*24:=Ui _ h1;omega
def zr(h:∀ l∈hs,l.length<=24)(i:Nat):(hs.getD i []).length<=24:=by
 rw[Qq];cases e:hs[i]? with
 |none=>exact RS _|some l=>exact h l (QN e)
def Gs {t:Nat->Nat->Int}(h:∀ l∈hs,l.length<=24)(hi:i<=24):((List.range i).flatMap λ j=>lJ (t i j) (hs.getD i []) (hs.getD j [])).length<=13824:=by
 have:=sR (λ j=>lJ (t i j) (hs.getD i []) (hs.getD j [])) 576 (List.range i) λ x _=>DI (zr h i) (zr h x);rw[Q6]at this;have h3:i*576<=24*576:=Ui _ hi;omega
def wI {t:Nat->Nat->Int}(hl:hs.length<=24)(h:∀ l∈hs,l.length<=24):(i7 t hs).length<=331776:=by
 have:=sR (λ i=>(List.range i).flatMap λ j=>lJ (t i j) (hs.getD i []) (hs.getD j [])) 13824 (List.range hs.length) λ x mx=>Gs h (by have:=QU.mp mx;omega);unfold i7;rw[Q6]at this;have h3:hs.length*13824<=24*13824:=Ui _ hl;omega
def Ji (v:Wd)(hs:#[187]):Prop:=hs.length=v.bR.length/\∀ (i:Nat) (l:#[6]) (b:Wd),hs[i]?=some l->v.bR[i]?=some b->l.Perm b.ah
def Ji.get(h:Ji v hs)(hi:i<hs.length):∃ b,v.bR[i]?=some b/\(hs.getD i []).Perm b.ah:=by
 have hb:i<v.bR.length:=by rw[<-h.1];exact hi
 refine⟨_,Qo hb,?_⟩;rw[Qq,Qo hi];exact h.2 i _ _ (Qo hi) (Qo hb)
structure Hf (w:Wd)(ws:List Wr):Prop where
 all:∀ p∈w.ah,∀ q∈w.ah,p≠q->∃ x∈ws,x.1=lN p q
 right:∀ n p q,w.deep<=n->∀ x∈ws,x.1=lN p q->x.2=iU n w p q
def Hf.of(hn:w.ah.Nodup){hs:Wd->List #[6]}(hh:∀ v∈w.subs,Ji v (hs v))(hm:∀ x,x∈ws↔∃ v∈w.subs,x∈i7 (df v) (hs v)):Hf w ws:=by
 refine⟨λ p hp q hq hpq=>?_,λ n p q hd x mx ex=>?_⟩
 ·obtain⟨v,mv,i,j,a,b,ga,gb,hij,pa,qb⟩:=zv w.deep (QD _) hp hq hpq;have H:=hh v mv;have hi:i<(hs v).length:=by rw[H.1];exact(Qt.mp ga).1
  have hj:j<(hs v).length:=by rw[H.1];exact(Qt.mp gb).1
  obtain⟨a',ga',pa'⟩:=H.get hi;obtain⟨b',gb',pb'⟩:=H.get hj;rw[ga]at ga';rw[gb]at gb';cases ga';cases gb';rcases S1 hij with h|h
  ·exact⟨(lN q p,df v j i),(hm _).mpr ⟨v,mv,rm.mpr ⟨j,i,h,hj,q,pb'.mem_iff.mpr qb,p,pa'.mem_iff.mpr pa,rfl⟩⟩,Gu q p⟩
  ·exact⟨(lN p q,df v i j),(hm _).mpr ⟨v,mv,rm.mpr ⟨i,j,h,hi,p,pa'.mem_iff.mpr pa,q,pb'.mem_iff.mpr qb,rfl⟩⟩,rfl⟩
 ·obtain⟨v,mv,hx⟩:=(hm x).mp mx;obtain⟨i,j,hji,hi,p',hp',q',hq',rfl⟩:=rm.mp hx;have H:=hh v mv;obtain⟨a,ga,pa⟩:=H.get hi;obtain⟨b,gb,pb⟩:=H.get (i:=j) #[1];have ha:=pa.mem_iff.mp hp';have hb:=pb.mem_iff.mp hq';show df v i j=_;rcases Jh (show lN p' q'=lN p q from ex) with ⟨rfl,rfl⟩|⟨rfl,rfl⟩
  ·exact(sQ n hd hn mv ga gb #[1] ha hb).symm
  ·rw[wG];exact(sQ n hd hn mv gb ga #[1] hb ha).symm
mutual
def Wd.cM:Wd->List Wr
 |.leaf _=>[]
 |.flat c bs=>eU bs++i7 (df (.flat c bs)) (bs.map Wd.ah)
 |.prime rows bs=>eU bs++i7 (df (.prime rows bs)) (bs.map Wd.ah)
def eU:List Wd->List Wr
 |[]=>[]
 |b::r=>b.cM++eU r
end
def zt (w:Wd):w.cM=eU w.bR++i7 (df w) (w.bR.map Wd.ah):=by cases w<;>rfl
mutual
def zw:∀ (w:Wd) (x:Wr),x∈w.cM↔∃ v∈w.subs,x∈i7 (df v) (v.bR.map Wd.ah)
 | .leaf p,x=>by
  show x∈[]↔∃ v∈[Wd.leaf p],_;simp[Wd.bR,i7]
 | .flat c bs,x=>by
  show x∈eU bs++_↔∃ v∈Wd.flat c bs::fC bs,_;rw[QH,rj bs x];simp only[QA,exists_eq_or_imp,Wd.bR];exact⟨λ h=>h.symm,λ h=>h.symm⟩
 | .prime rows bs,x=>by
  show x∈eU bs++_↔∃ v∈Wd.prime rows bs::fC bs,_;rw[QH,rj bs x];simp only[QA,exists_eq_or_imp,Wd.bR];exact⟨λ h=>h.symm,λ h=>h.symm⟩
def rj:∀ (bs:#[60]) (x:Wr),x∈eU bs↔∃ v∈fC bs,x∈i7 (df v) (v.bR.map Wd.ah)
 |[],x=>by simp[eU,fC]
 | b::r,x=>by
  show x∈b.cM++eU r↔∃ v∈b.subs++fC r,_;rw[QH,zw b x,rj r x];simp only[QH,or_and_right,exists_or]
end
def zu (v:Wd):Ji v (v.bR.map Wd.ah):=by
 refine⟨Qs ..,λ i l b h1 h2=>?_⟩;rw[QB,h2]at h1;cases h1;exact .refl _
def Gv(hn:w.ah.Nodup):Hf w w.cM:=Hf.of hn (hs:=λ v=>v.bR.map Wd.ah) (λ v _=>zu v) (zw w)
def Hf.rev(h:Hf w ws):Hf w ws.reverse:=⟨λ p hp q hq hpq=>by obtain⟨x,mx,e⟩:=h.all p hp q hq hpq;exact⟨x,List.mem_reverse.mpr mx,e⟩,λ n p q hd x mx=>h.right n p q hd x (List.mem_reverse.mp mx)⟩
def kt (k:Int×Int):KT:=.inr [.inl k.1,.inl k.2]
def Mr {a b:Int×Int}(h:kt a=kt b):a=b:=by
 cases a;cases b;simp only[kt,Sum.inr.injEq,List.cons.injEq,Sum.inl.injEq,and_true]at h;obtain⟨h1,h2⟩:=h;subst h1 h2;rfl
def wD:List Wr->List KT×List D
 |[]=>([],[])
 |x::r=>(lB (wD r).1 (kt x.1),lA (wD r).1 (wD r).2 (kt x.1) (.int x.2))
def kB (t:Tg)(ws:List Wr):D:=.dct t true (wD ws).1 (wD ws).2
def zx:∀ (ks:List KT) (ds:List D) (q:KT) (x:D),(nR ks ds q x).length=ds.length
 |[],ds,q,x=>by cases ds<;>rfl
 |k::ks,[],q,x=>rfl|k::ks,d::ds,q,x=>by show(nR ks ds q x).length+1=ds.length+1;rw[zx]
def wJ:∀ (ks:List KT) (ds:List D) (q:KT) (x:D),aX ds=true->x.pure=true->aX (nR ks ds q x)=true
 |[],ds,q,x,h,_=>by cases ds<;>exact h
 |k::ks,[],q,x,_,_=>rfl
 | k::ks,d::ds,q,x,h,hx=>by
  have h:(d.pure&&aX ds)=true:=h;rw[Q4]at h;show((if k=q then x else d).pure&&aX (nR ks ds q x))=true;rw[wJ ks ds q x h.2 hx];split
  ·rw[hx];rfl
  ·rw[h.1];rfl
def wK:∀ (ks:List KT) (ds:List D) (q q':KT) (x:D),ks.length=ds.length->gG ks (nR ks ds q x) q'=if q=q'/\qL ks q=true then some x else gG ks ds q'
 | [],[],q,q',x,_=>by
  rw[QK λ z=>by cases z.2];rfl
 |k::ks,[],q,q',x,h=>by cases h
 |[],d::ds,q,q',x,h=>by cases h
 | k::ks,d::ds,q,q',x,h=>by
  have ih:=wK ks ds q q' x (Nat.succ.inj h);show(if k=q' then some (if k=q then x else d) else gG ks (nR ks ds q x) q')=if q=q'/\(decide (k=q)||qL ks q)=true then some x else (if k=q' then some d else gG ks ds q')
  by_cases e:k=q'
  ·rw[QG e,QG e];by_cases e2:q=q'
   ·have:k=q:=e.trans e2.symm;rw[QG this,QG ⟨e2,by rw[QO this];rfl⟩]
   ·rw[QK λ z=>e2 (z.symm.trans e),QK λ z=>e2 z.1]
  ·rw[QK e,QK e,ih];by_cases e2:q=q'
   ·have:¬ k=q:=λ z=>e (z.trans e2);rw[QF this,Bool.false_or]
   ·rw[QK λ z=>e2 z.1,QK λ z=>e2 z.1]
def zy:∀ (ks:List KT) (ds:List D) (q q':KT) (x:D),ks.length=ds.length->qL ks q=false->gG (ks++[q]) (ds++[x]) q'=if q=q' then some x else gG ks ds q'
 |[],[],q,q',x,_,_=>rfl|k::ks,[],q,q',x,h,_=>by cases h
 |[],d::ds,q,q',x,h,_=>by cases h
 | k::ks,d::ds,q,q',x,h,hk=>by
  have hk:(decide (k=q)||qL ks q)=false:=hk;rw[Sf]at hk;have ih:=zy ks ds q q' x (Nat.succ.inj h) hk.2;have hn:¬ k=q:=of_decide_eq_false hk.1;show(if k=q' then some d else gG (ks++[q]) (ds++[x]) q')=if q=q' then some x else (if k=q' then some d else gG ks ds q')
  rw[ih];by_cases e:k=q'
  ·rw[QG e,QG e,QK λ z=>hn (e.trans z.symm)]
  ·rw[QK e,QK e]
def Gx (ks:List KT)(ds:List D)(q q':KT)(x:D)(h:ks.length=ds.length):gG (lB ks q) (lA ks ds q x) q'=if q=q' then some x else gG ks ds q':=by
 unfold lB lA;cases e:qL ks q with
 | true =>
  rw[QG rfl,QG rfl,wK ks ds q q' x h,e];by_cases e2:q=q'
  ·rw[QG ⟨e2,rfl⟩,QG e2]
  ·rw[QK λ z=>e2 z.1,QK e2]
 |false=>rw[QK #[10],QK #[10],zy ks ds q q' x h e]
def uN:∀ ws:List Wr,(wD ws).1.length=(wD ws).2.length/\(wD ws).1.length<=ws.length/\aX (wD ws).2=true
 |[]=>⟨rfl,QD _,rfl⟩
 | x::r=>by
  obtain⟨h1,h2,h3⟩:=uN r;show(lB (wD r).1 (kt x.1)).length=(lA (wD r).1 (wD r).2 (kt x.1) (.int x.2)).length/\(lB (wD r).1 (kt x.1)).length<=r.length+1/\aX (lA (wD r).1 (wD r).2 (kt x.1) (.int x.2))=true;unfold lB lA;cases e:qL (wD r).1 (kt x.1) with
  | true =>
   rw[QG rfl,QG rfl,zx];exact⟨h1,by omega,wJ _ _ _ _ h3 rfl⟩
  | false =>
   rw[QK #[10],QK #[10],Qv,Qv,h1];refine⟨rfl,by rw[<-h1];show _+1<=_;omega,?_⟩;exact cG λ d m=>by
    rcases QH.mp m with m|m
    ·exact vL h3 d m
    ·rw[QM.mp m];rfl
def Gw:∀ (ws:List Wr) {k:Int×Int}{c:Int},(∃ x∈ws,x.1=k)->(∀ x∈ws,x.1=k->x.2=c)->gG (wD ws).1 (wD ws).2 (kt k)=some (.int c)
 |[],k,c,⟨x,m,_⟩,_=>by cases m
 | y::r,k,c,h1,h2=>by
  show gG (lB (wD r).1 (kt y.1)) (lA (wD r).1 (wD r).2 (kt y.1) (.int y.2)) (kt k)=_;rw[Gx _ _ _ _ _ (uN r).1];by_cases e:kt y.1=kt k
  ·rw[QG e,h2 y Qx (Mr e)]
  ·rw[QK e];obtain⟨x,m,ex⟩:=h1;rcases QA.mp m with rfl|m
   ·exact absurd (by rw[ex]) e
   ·exact Gw r ⟨x,m,ex⟩ λ z mz=>h2 z (Qw _ mz)
def Hf.look(h:Hf w ws)(hp:p∈w.ah)(hq:q∈w.ah)(hpq:p≠q):gG (wD ws).1 (wD ws).2 (kt (lN p q))=some (.int (iU w.deep w p q)):=Gw ws (h.all p hp q hq hpq) (h.right w.deep p q (QD _))
def N6{fk fv:#[29]}{t:Tg}{c:Int}(hv:fv τ=.ok (.int c))(ho:τ[i]?=some (some (kB t ws)))(ht:t.jh=true)(hk:fk τ=.ok (.tup [.int (lN p q).1,.int (lN p q).2]))(hl:ws.length<16777216) :
  BG i fk fv τ=.nx (τ.set i (some (kB t ((lN p q,c)::ws)))):=by
 unfold BG;rw[hv,kO];have e:l8 τ i=some (t,true,(wD ws).1,(wD ws).2):=by
  unfold l8;rw[ho];show(if t.jh=true then _ else _)=_;rw[QG ht]
 rw[e];show(fk τ).ja τ _=_;rw[hk,kO];show(if (kt (lN p q)).kind=true/\(D.int c).aN=false/\(wD ws).1.length<16777216/\(qL (wD ws).1 (kt (lN p q))=true->(D.int c).pure=true) then Fl.nx _ else Fl.bad)=_;rw[QG ⟨rfl,rfl,Nat.lt_of_le_of_lt (uN ws).2.1 hl,λ _=>rfl⟩];rfl
def xZ {α:Type}{tg:xo}{body:SF}(Pv:List Wr->SD->Prop)(g:α->D)(W:α->List Wr)(B:Nat):∀ (xs:List α) (ws:List Wr) (τ:SD),Pv ws τ->ws.length+(xs.flatMap W).length<=B ->
  (∀ x∈xs,∀ ws τ,Pv ws τ->ws.length+(W x).length<=B->∃ τ' t,tg (g x) τ=some τ'/\body τ'=.nx t/\Pv ((W x).reverse++ws) t)->∃ t,fm tg body (xs.map g) τ=.nx t/\Pv ((xs.flatMap W).reverse++ws) t
 |[],ws,τ,h,_,_=>⟨τ,rfl,h⟩
 | x::r,ws,τ,h,hl,hb=>by
  rw[RX,Qv]at hl;obtain⟨τ',t,e1,e2,h2⟩:=hb x Qx ws τ h #[1];obtain⟨u,e3,h3⟩:=xZ Pv g W B r ((W x).reverse++ws) t h2 (by rw[Qv,To];omega) λ y my=>hb y (Qw _ my);refine⟨u,?_,?_⟩
  ·show(match tg (g x) τ with|none=>Fl.bad|some τ'=>match body τ' with|.nx t=>fm tg body (r.map g) t|.ct t=>fm tg body (r.map g) t|.bk t=>.nx t|o=>o)=_;rw[e1];show(match body τ' with|.nx t=>fm tg body (r.map g) t|.ct t=>fm tg body (r.map g) t|.bk t=>.nx t|o=>o)=_;rw[e2];exact e3
  ·rw[RX,Tp,QY];exact h3
def li (t:Tg)(l:#[6]):D:=.lst t (l.map .int)
def hD (t:Tg)(hs:#[187]):D:=.lst t (hs.map (li t))
def Gy (t:Tg)(l:#[6]):(li t l).av=li .av l:=by show D.lst .av (aK (l.map .int))=_;rw[aM];rfl
def qo (t:Tg)(l:#[6]):(li t l).view=li t.view l:=by show D.lst t.view (eN (l.map .int))=_;rw[kc];rfl
def B9 (t:Tg):∀ hs:List #[6],aK (hs.map (li t))=hs.map (li .av)
 |[]=>rfl|l::r=>by show(li t l).av::aK (r.map (li t))=_;rw[Gy,B9];rfl
def zz (t:Tg):∀ hs:List #[6],eN (hs.map (li t))=hs.map (li t.view)
 |[]=>rfl|l::r=>by show(li t l).view::eN (r.map (li t))=_;rw[qo,zz];rfl
def Gz (t:Tg)(hs:#[187]):(hD t hs).av=hD .av hs:=by show D.lst .av (aK (hs.map (li t)))=_;rw[B9];rfl
def sU (t:Tg)(hs:#[187]):(hD t hs).view=hD t.view hs:=by show D.lst t.view (eN (hs.map (li t)))=_;rw[zz];rfl
def x6 {t:Tg}(h:t ≠ .bor)(l:#[6]):(li t l).aN=false:=by show(decide (t=.bor)||aJ (l.map .int))=false;rw[dJ,QF h];rfl
def qm{d e:D}(h:τ[i]?=some (some d))(hv:d.view=e):ae i τ=.ok e:=by
 unfold ae;rw[h];show Res.ok d.view=_;rw[hv]
def zA {α β:Type}(f:α->β):∀ qs:List α,(qs.flatMap λ q=>[f q])=qs.map f
 |[]=>rfl|q::r=>by rw[RX,zA f r];rfl
def B8 {N:Nat}{g:SF}{ds:List D}(hl:ds.length=n)(ht:ds.map some++List.replicate (N-n) none=τ):AF n N g ds=(g τ).IL:=by
 unfold AF;rw[QG hl,ht]
mutual
def zB:∀ w:Wd,w.good->w.ah.length<=24->w.cM.length<=331776*w.nodes
 |.leaf p,_,_=>RS _
 | .flat c bs,h,hl=>by
  have hl:(ao bs).length<=24:=hl;have h1:=rn bs h.2.1 hl;have h2:=wI (t:=df (.flat c bs)) (hs:=bs.map Wd.ah) (by rw[Qs];exact QX (gq bs h.2.1).1 hl) λ l ml=>by obtain⟨b,mb,rfl⟩:=QE.mp ml;exact QX (eY mb) hl
  show(eU bs++i7 (df (.flat c bs)) (bs.map Wd.ah)).length<=331776*(1+ck bs);rw[Qv];omega
 | .prime rows bs,h,hl=>by
  have hl:(ao bs).length<=24:=hl;have h1:=rn bs h.2.2.2.1 hl;have h2:=wI (t:=df (.prime rows bs)) (hs:=bs.map Wd.ah) (by rw[Qs];exact QX (gq bs h.2.2.2.1).1 hl) λ l ml=>by obtain⟨b,mb,rfl⟩:=QE.mp ml;exact QX (eY mb) hl
  show(eU bs++i7 (df (.prime rows bs)) (bs.map Wd.ah)).length<=331776*(1+ck bs);rw[Qv];omega
def rn:∀ bs:List Wd,dE bs->(ao bs).length<=24->(eU bs).length<=331776*ck bs
 |[],_,_=>RS _
 | b::r,h,hl=>by
  have hl:(b.ah++ao r).length<=24:=hl;rw[Qv]at hl;have h1:=zB b h.1 #[1];have h2:=rn r h.2 #[1];show(b.cM++eU r).length<=331776*(b.nodes+ck r);rw[Qv];omega
end
def eZ (a:Addr)(w:Wd)(t:Tg)(hs:#[187])(ws:List Wr)(row:#[6])(o4 o5 o6 o7 o8:#[91]):SD:=[some (kB (.len a) ws),some w.d,some (hD t hs),some (li .own row),o4,o5,o6,o7,o8]
section
variable {R:DF}{a:Addr}{t:Tg}{row:#[6]}{o4 o5 o6 o7 o8:#[91]}
def N8{c:Int}(hl:ws.length<16777216):g_Lfill_b1 R (eZ a w t hs ws row o4 o5 #[31] (some (.int p)) (some (.int q)))=.nx (eZ a w t hs ((lN p q,c)::ws) row o4 o5 #[31] (some (.int p)) (some (.int q))):=by
 unfold g_Lfill_b1;refine N6 (t:=.len a) (ws:=ws) rfl rfl rfl ?_ hl;have em:eA j4 (aa (ae 7) (aa (ae 8) ak)) (eZ a w t hs ws row o4 o5 #[31] (some (.int p)) (some (.int q)))=.ok (.int (lN p q).1):=by
  rw[bO (aH rfl (bf rfl))];show Res.ok (D.int (if q>p then q else p))=_
  congr 2
  unfold lN;split<;>split<;>first|rfl|(show _=_;omega)
 have en:eA j5 (aa (ae 7) (aa (ae 8) ak)) (eZ a w t hs ws row o4 o5 #[31] (some (.int p)) (some (.int q)))=.ok (.int (lN p q).2):=by
  rw[bO (aH rfl (bf rfl))];show Res.ok (D.int (if q<p then q else p))=_
  congr 2
  unfold lN;split<;>rfl
 rw[bO (aH em (bf en))];rfl
def GB(hi:i<hs.length):bB (hD t hs) (.int i)=.ok (li t (hs.getD i [])):=by
 refine eF (j:=i) rfl ?_;rw[QB,Qo hi,Qq,Qo hi];rfl
def N9{c:Int}(hj:j<hs.length)(hl:ws.length+((hs.getD j []).flatMap λ q=>[((lN p q,c):Wr)]).length<=16777215):∃ o,g_Lfill_b2 R (eZ a w .av hs ws row o4 #[69] #[31] (some (.int p)) o8)=.nx (eZ a w .av hs (((hs.getD j []).flatMap λ q=>[((lN p q,c):Wr)]).reverse++ws) row o4 #[69] #[31] (some (.int p)) o):=by
 obtain⟨t,e1,o,e2⟩:=xZ (tg:=gN 8) (body:=g_Lfill_b1 R) (λ ws τ=>∃ o,τ=eZ a w .av hs ws row o4 #[69] #[31] (some (.int p)) o) D.int (λ q=>[((lN p q,c):Wr)]) 16777215 (hs.getD j []) ws _ ⟨o8,rfl⟩ hl λ q mq ws τ hP hw=>by
  obtain⟨o,rfl⟩:=hP;have hw:ws.length+1<=16777215:=hw;exact⟨_,_,rfl,N8 #[1],some (.int q),rfl⟩
 subst e2;refine⟨o,?_⟩;unfold g_Lfill_b2;have hf:fj [2,5] (eZ a w .av hs ws row o4 #[69] #[31] (some (.int p)) o8)=eZ a w .av hs ws row o4 #[69] #[31] (some (.int p)) o8:=by
  show [_,_,some (hD .av hs).av,_,_,some (D.int j),_,_,_]=_;rw[Gz];rfl
 have hi:jo (ai bB (ae 2) (ae 5)) (eZ a w .av hs ws row o4 #[69] #[31] (some (.int p)) o8)=.ok (false,(hs.getD j []).map .int):=jX (bq (show ae 2 _=.ok (hD .av hs) from qm rfl (sU _ _)) rfl (GB hj)) #[10] (aj _);rw[fO hf hi,aM];exact e1
def Jj(s:SF)(hg:w.good)(hji:j<i)(hi:i<w.bR.length):aE (aL 6 (ai bB (ae 1) #[142])) (aE (fZ (eT (ai j3 #[98] (eC (.str "prime")))) (aL 6 (ai bB (ai bB (ai bB (ae 1) #[142]) (ae 4)) (ae 5))) bD) s) (eZ a w t hs ws row #[54] #[69] o6 o7 o8)=s (eZ a w t hs ws row #[54] #[69] (some (.int (df w i j))) o7 o8):=by
 cases w with
 |leaf p=>exact absurd hi (Sz _)
 | flat c bs =>
  have v1:∀ o,ae 1 (eZ a (.flat c bs) t hs ws row #[54] #[69] o o7 o8)=.ok (Wd.flat c bs).d:=λ o=>bA rfl (Wd.pure (.flat c bs));have e1:ai bB (ae 1) #[142] (eZ a (.flat c bs) t hs ws row #[54] #[69] o6 o7 o8)=.ok (.int c):=bq (v1 _) (show eC (.int 1) _=.ok (.int 1) from rfl) (dj (j:=1) rfl rfl);rw[aA (aG e1 rfl)];show aE _ _ (eZ a (.flat c bs) t hs ws row #[54] #[69] #[31] o7 o8)=_;have c1:eT (ai j3 #[98] (eC (.str "prime"))) (eZ a (.flat c bs) t hs ws row #[54] #[69] #[31] o7 o8)=.ok false:=by
   refine fF ?_;rw[bC (bq (v1 _) (show eC (.int 0) _=.ok (.int 0) from rfl) (dj (j:=0) rfl rfl)) rfl];exact RL (λ b=>Res.ok (D.bl b)) (show xor false (decide (("flat" : Str) = "prime"))=false by decide +kernel)
  exact jF c1
 | prime rows bs =>
  have v1:∀ o,ae 1 (eZ a (.prime rows bs) t hs ws row #[54] #[69] o o7 o8)=.ok (Wd.prime rows bs).d:=λ o=>bA rfl (Wd.pure (.prime rows bs));have e1:∀ o,ai bB (ae 1) #[142] (eZ a (.prime rows bs) t hs ws row #[54] #[69] o o7 o8)=.ok (.tup (rows.map λ r=>.tup #[41])):=λ o=>bq (v1 _) (show eC (.int 1) _=.ok (.int 1) from rfl) (dj (j:=1) rfl rfl);rw[aA (aG (e1 _) (aQ _ (cG λ d m=>by obtain⟨r,_,rfl⟩:=QE.mp m;exact aj r)))];show aE _ _ #[156]=_;have c1:eT (ai j3 #[98] (eC (.str "prime"))) #[156]=.ok true:=by
   refine fF ?_;rw[bC (bq (v1 _) (show eC (.int 0) _=.ok (.int 0) from rfl) (dj (j:=0) rfl rfl)) rfl];exact RL (λ b=>Res.ok (D.bl b)) (show xor false (decide (("prime" : Str) = "prime"))=true by decide +kernel)
  have hi:i<bs.length:=hi;have hr:rows.length=bs.length:=hg.2.1;have hir:i<rows.length:=by omega
  have hl:=hg.2.2.1 i _ (Qo hir);have hj:j<rows[i].length:=by omega
  have e2:ai bB (ai bB (ai bB (ae 1) #[142]) (ae 4)) (ae 5) #[156]=.ok (.int rows[i][j]):=
   bq (bq (e1 _) rfl (dj (j:=i) (d:=.tup (rows[i].map .int)) rfl (by rw[QB,Qo hir];rfl))) rfl (dj (j:=j) rfl (by rw[QB,Qo hj];rfl))
  have ec:df (.prime rows bs) i j=rows[i][j]:=by
   show col rows i j=_;unfold col;rw[Uo #[1],Te #[1],Qq,Qq,Qo hir,Sa,Qo hj];rfl
  rw[ec];refine aA ?_;rw[ju c1,aG e2 rfl];rfl
def Oa(hg:w.good)(hlen:hs.length=w.bR.length)(hji:j<i)(hi:i<hs.length)(hl:ws.length+(lJ (df w i j) (hs.getD i []) (hs.getD j [])).length<=16777215) :
  ∃ p6 p7 p8,g_Lfill_b3 R (eZ a w t hs ws row #[54] #[69] o6 o7 o8)=.nx (eZ a w .av hs ((lJ (df w i j) (hs.getD i []) (hs.getD j [])).reverse++ws) row #[54] #[69] p6 p7 p8):=by
 unfold g_Lfill_b3;rw[Jj _ hg hji #[1]];generalize df w i j=c at hl;have ew:∀ p,((hs.getD j []).flatMap λ q=>[((lN p q,c):Wr)])=(hs.getD j []).map λ q=>(lN p q,c):=λ p=>zA _ _;obtain⟨t',e1,p7,p8,e2⟩:=xZ (tg:=gN 7) (body:=g_Lfill_b2 R) (λ ws τ=>∃ p7 o,τ=eZ a w .av hs ws row #[54] #[69] #[31] p7 o) D.int (λ p=>(hs.getD j []).map λ q=>((lN p q,c):Wr)) 16777215 (hs.getD i []) ws _ ⟨o7,o8,rfl⟩ hl λ p mp ws τ hP hw=>by
  obtain⟨p7,o,rfl⟩:=hP;rw[<-ew]at hw ⊢;obtain⟨o',e⟩:=N9 (R:=R) (a:=a) (w:=w) (hs:=hs) (row:=row) (o4:=some (.int i)) (o8:=o) (show j<hs.length by omega) hw;exact⟨_,_,rfl,e,some (.int p),o',rfl⟩
 subst e2;refine⟨some (.int c),p7,p8,?_⟩;have hf:fj [2,4] (eZ a w t hs ws row #[54] #[69] #[31] o7 o8)=eZ a w .av hs ws row #[54] #[69] #[31] o7 o8:=by
  show [_,_,some (hD t hs).av,_,some (D.int i),_,_,_,_]=_;rw[Gz];rfl
 have hi':jo (ai bB (ae 2) (ae 4)) (eZ a w .av hs ws row #[54] #[69] #[31] o7 o8)=.ok (false,(hs.getD i []).map .int):=jX (bq (show ae 2 _=.ok (hD .av hs) from qm rfl (sU _ _)) rfl (GB hi)) #[10] (aj _);rw[fO hf hi',aM];exact e1
abbrev uO (w:Wd)(hs:#[187])(i:Nat):List Wr:=(List.range i).flatMap λ j=>lJ (df w i j) (hs.getD i []) (hs.getD j [])
def qp (n:Nat):aK (#[131].map λ k:Nat=>D.int k)=#[131].map λ k:Nat=>D.int k:=by
 have:(#[131].map λ k:Nat=>D.int k)=(#[131].map λ k:Nat=>(k:Int)).map .int:=by rw[Q5];rfl
 rw[this,aM]
def x8 {f:#[29]}(h:f τ=.ok (.int n))(hn:n<=1000):bV (aa f ak) τ=.ok (false,#[131].map λ k:Nat=>.int k):=by
 unfold bV;rw[bf h];exact oH #[1]
def x9 {it:#[136]}{tg:xo}{body:SF}{ds:List D}(h:it τ=.ok (false,ds)):gM [] it tg body τ=fm tg body (aK ds) τ:=fO rfl h
def N7(ht:t=.own\/t=.av)(hg:w.good)(hlen:hs.length=w.bR.length)(hi:i<hs.length)(hil:i<=24)(hr:row.length+(hs.getD i []).length<=24)(hl:ws.length+(uO w hs i).length<=16777215) :
  ∃ t' p5 p6 p7 p8,(t'=.own\/t'=.av)/\g_Lfill_b4 R (eZ a w t hs ws row #[54] o5 o6 o7 o8)=.nx (eZ a w t' hs ((uO w hs i).reverse++ws) (row++hs.getD i []) #[54] p5 p6 p7 p8):=by
 obtain⟨u,e1,t',p5,p6,p7,p8,ht',e2⟩:=xZ (tg:=gN 5) (body:=g_Lfill_b3 R) (λ ws τ=>∃ t p5 p6 p7 p8,(t=.own\/t=.av)/\τ=eZ a w t hs ws row #[54] p5 p6 p7 p8) (λ k:Nat=>D.int k) (λ j=>lJ (df w i j) (hs.getD i []) (hs.getD j [])) 16777215 (List.range i) ws (eZ a w t hs ws row #[54] o5 o6 o7 o8) ⟨t,o5,o6,o7,o8,ht,rfl⟩ hl λ j mj ws τ hP hw=>by
  obtain⟨t,p5,p6,p7,p8,ht,rfl⟩:=hP;obtain⟨q6,q7,q8,e⟩:=Oa (R:=R) (a:=a) (w:=w) (t:=t) (hs:=hs) (row:=row) (o6:=p6) (o7:=p7) (o8:=p8) hg hlen (QU.mp mj) hi hw;exact⟨_,_,rfl,e,.av,_,q6,q7,q8,.inr rfl,rfl⟩
 subst e2;refine⟨t',p5,p6,p7,p8,ht',?_⟩;unfold g_Lfill_b4;have hi':bV #[134] (eZ a w t hs ws row #[54] o5 o6 o7 o8)=.ok (false,(List.range i).map λ k:Nat=>.int k):=x8 rfl #[1];have e3:=x9 (tg:=gN 5) (body:=g_Lfill_b3 R) hi';rw[qp,e1]at e3;rw[aA e3];have e4:ai bE (ae 3) (ai bB (ae 2) (ae 4)) (eZ a w t' hs ((uO w hs i).reverse++ws) row #[54] p5 p6 p7 p8)=.ok (li .own (row++hs.getD i [])):=by
  have x1:ae 3 (eZ a w t' hs ((uO w hs i).reverse++ws) row #[54] p5 p6 p7 p8)=.ok (li .bor row):=qm rfl (qo _ _);have x2:ai bB (ae 2) (ae 4) (eZ a w t' hs ((uO w hs i).reverse++ws) row #[54] p5 p6 p7 p8)=.ok (li t'.view (hs.getD i [])):=bq (show ae 2 _=.ok (hD t'.view hs) from qm rfl (sU _ _)) rfl (GB hi);rw[nF x1 x2 (by rw[Qs,Qs];omega),<-Rj];rfl
 rw[aG e4 (x6 #[10] _)];rfl
end
def Ca {n:Nat}:∀ (bs:#[60]) (ws:List Wr),ws.length+(eU bs).length<=16777215->(∀ b∈bs,∀ (ws:List Wr) (a:Addr),ws.length+b.cM.length<=16777215->G_Lfill n [kB (.len a) ws,b.d]=.ok (.tup [li .own b.ah,kB (.len a) (b.cM.reverse++ws)])) ->
  pS (G_Lfill n) #[144] true (dL bs) (wD ws).1 (wD ws).2=.ok ((bs.map Wd.ah).map (li .own),(wD ((eU bs).reverse++ws)).1,(wD ((eU bs).reverse++ws)).2)
 |[],ws,_,_=>rfl
 | b::r,ws,hl,h=>by
  have hl:ws.length+(b.cM++eU r).length<=16777215:=hl;rw[Qv]at hl;have e1:km (G_Lfill n) true (wD ws).1 (wD ws).2 [b.d]=.ok (li .own b.ah,(wD (b.cM.reverse++ws)).1,(wD (b.cM.reverse++ws)).2):=yU λ a=>h b Qx ws a #[1];have e2:=Ca r (b.cM.reverse++ws) (by rw[Qv,To];omega) λ x mx=>h x (Qw _ mx);show(#[144] [some b.d,none]).bind (λ ds=>if aX ds=true then (km (G_Lfill n) true (wD ws).1 (wD ws).2 ds).bind λ y=>if y.1.aN=true then .bad else (pS (G_Lfill n) #[144] true (dL r) y.2.1 y.2.2).bind λ z=>.ok (y.1::z.1,z.2) else .bad)=_;rw[bf (show ae 0 [some b.d,none]=.ok b.d from bA rfl b.pure),Res.aU,QG (by show(b.d.pure&&true)=true;rw[b.pure];rfl),e1,Res.aU];show(if (li .own b.ah).aN=true then _ else _)=_;rw[x6 #[10],QK #[10]];show(pS (G_Lfill n) #[144] true (dL r) (wD (b.cM.reverse++ws)).1 (wD (b.cM.reverse++ws)).2).bind _=_;rw[e2,Res.aU];show Res.ok (_::_,(wD ((eU r).reverse++(b.cM.reverse++ws))).1,(wD ((eU r).reverse++(b.cM.reverse++ws))).2)=Res.ok (_,(wD ((b.cM++eU r).reverse++ws)).1,(wD ((b.cM++eU r).reverse++ws)).2);rw[Tp,QY];rfl
def DJ {α β:Type}(f:α->List β)(xs:List α)(i:Nat):((xs.take i).flatMap f).length<=(xs.flatMap f).length:=by
 conv=>rhs;rw[<-Rv i xs,RH,Qv]
 omega
def GA(h:i<=n):#[131].take i=List.range i:=by rw[List.take_range,Um h]
def wL(hL:w.yf=false)(hg:w.good)(hl:w.ah.length<=24)(ih:∀ b∈w.bR,∀ (ws:List Wr) (a:Addr),ws.length+b.cM.length<=16777215->G_Lfill n [kB (.len a) ws,b.d]=.ok (.tup [li .own b.ah,kB (.len a) (b.cM.reverse++ws)]))(ws:List Wr)(a:Addr)(hw:ws.length+w.cM.length<=16777215) :
  G_Lfill (n+1) [kB (.len a) ws,w.d]=.ok (.tup [li .own w.ah,kB (.len a) (w.cM.reverse++ws)]):=by
 rw[zt,Qv]at hw;have hb:=(k6 hg hl).1;refine(B8 (τ:=[some (kB (.len a) ws),some w.d,none,none,none,none,none,none,none]) rfl rfl).trans ?_;unfold g_Lfill;have v1:ae 1 #[58]=.ok w.d:=bA rfl w.pure;have c1:r6 (eT (gD (g8 An) (ae 1))) #[58]=.ok false:=by
  refine uF (b:=true) (fF ?_);unfold gD;rw[v1];cases w with
  |leaf p=>cases hL|_=>rfl
 rw[jF c1];have hi:jo (ai bB (ae 1) #[150]) #[58]=.ok (false,dL w.bR):=by
  refine AU (bq v1 (show eC (.int 2) _=.ok (.int 2) from rfl) ?_) (aT w.bR);cases w with
  |leaf p=>cases hL|flat c bs=>exact dj (j:=2) rfl rfl|prime rows bs=>exact dj (j:=2) rfl rfl
 have e2:=Ca w.bR ws #[1] ih;generalize hsq:w.bR.map Wd.ah=hs at *;have hlen:hs.length=w.bR.length:=by rw[<-hsq,Qs]
 have hflat:hs.flatten=w.ah:=by rw[<-dW hL,aO,<-hsq];rfl
 have e3:ko 2 0 (jo (ai bB (ae 1) #[150])) (G_Lfill n) #[144] #[58]=.nx [some (kB (.len a) ((eU w.bR).reverse++ws)),some w.d,some (hD .own hs),none,none,none,none,none,none]:=by
  unfold ko;rw[show l8 #[58] 0=some (.len a,true,(wD ws).1,(wD ws).2) from rfl,hi];show(if aX (dL w.bR)=true then (match pS (G_Lfill n) #[144] true (dL w.bR) (wD ws).1 (wD ws).2 with
   |.ok (rs,ks',xs')=>if rs.length<=16777216 then Fl.nx _ else .bad
   |_=>.bad) else .bad)=_
  rw[QG (aT _),e2];show(if (hs.map (li .own)).length<=16777216 then Fl.nx _ else .bad)=_;rw[QG (by rw[Qs];omega)];rfl
 rw[aA e3];rw[aA (aG (d:=.lst .own []) rfl rfl)];have hw1:((eU w.bR).reverse++ws).length+(i7 (df w) hs).length<=16777215:=by rw[Qv,To];omega
 have eW:w.cM.reverse++ws=(i7 (df w) hs).reverse++((eU w.bR).reverse++ws):=by rw[zt,hsq,Tp,QY]
 rw[eW];show(aE _ _ (eZ a w .own hs ((eU w.bR).reverse++ws) [] none none none none none)).IL=_;generalize (eU w.bR).reverse++ws=ws1 at hw1;obtain⟨u,f1,t',o4,o5,o6,o7,o8,ht',f2⟩:=eu (tg:=gN 4) (body:=g_Lfill_b4 (G_Lfill n)) (ds:=(List.range hs.length).map λ k:Nat=>D.int k) (λ i τ=>∃ t o4 o5 o6 o7 o8,(t=.own\/t=.av)/\τ=eZ a w t hs (((List.range i).flatMap (uO w hs)).reverse++ws1) ((hs.take i).flatten) o4 o5 o6 o7 o8) 0 (eZ a w .own hs ws1 [] none none none none none) ⟨.own,none,none,none,none,none,.inl rfl,rfl⟩ λ j d τ hd hP=>by
  obtain⟨t,p4,p5,p6,p7,p8,ht,rfl⟩:=hP;rw[Ro]at *;have hj:j<hs.length:=by have:=(Qt.mp hd).1;simpa using this
  have ed:d=.int j:=by rw[QB,Ry hj]at hd;cases hd;rfl
  subst ed;have et:(hs.take (j+1)).flatten=(hs.take j).flatten++hs.getD j []:=by rw[SK,Qq,Qo hj,List.flatten_append];simp
  have er:(List.range (j+1)).flatMap (uO w hs)=(List.range j).flatMap (uO w hs)++uO w hs j:=by rw[List.range_succ,RH];simp
  have hle:((List.range (j+1)).flatMap (uO w hs)).length<=(i7 (df w) hs).length:=by rw[<-GA (show j+1<=hs.length by omega)];exact DJ _ _ _
  rw[er,Qv]at hle;have hrow:((hs.take (j+1)).flatten).length<=24:=by
   refine QX ?_ hl;rw[<-hflat]
   conv=>rhs;rw[<-Rv (j+1) hs,List.flatten_append,Qv]
   omega
  rw[et,Qv]at hrow;obtain⟨t',q5,q6,q7,q8,ht',e⟩:=N7 (R:=G_Lfill n) (a:=a) (w:=w) (t:=t) (hs:=hs) (row:=(hs.take j).flatten) (ws:=((List.range j).flatMap (uO w hs)).reverse++ws1) (i:=j) (o5:=p5) (o6:=p6) (o7:=p7) (o8:=p8) ht hg hlen hj #[1] hrow (by rw[Qv,To];omega);refine⟨_,_,rfl,.inl e,t',some (.int j),q5,q6,q7,q8,ht',?_⟩;rw[er,et,Tp,QY]
 subst f2;have hn:eA bP #[154] (eZ a w .own hs ws1 [] none none none none none)=.ok (.int (hs.length:Nat)):=by
  rw[cX (t:=.bor) (xs:=hs.map (li .bor)) (show ae 2 _=.ok (hD .bor hs) from qm rfl (sU _ _)),Qs]
 have f3:=x9 (tg:=gN 4) (body:=g_Lfill_b4 (G_Lfill n)) (x8 hn #[1]);rw[qp,f1]at f3;rw[aA f3,Ro,Qs,Q6,SW,hflat];rfl
def fill_eq:∀ (n:Nat) (w:Wd),w.deep<=n->w.good->w.ah.length<=24->∀ (ws:List Wr) (a:Addr),ws.length+w.cM.length<=16777215->G_Lfill n [kB (.len a) ws,w.d]=.ok (.tup [li .own w.ah,kB (.len a) (w.cM.reverse++ws)])
 |0,w,hd,_,_,_,_,_=>by cases w<;>simp[Wd.deep]at hd
 | n+1,.leaf p,hd,hg,hl,ws,a,hw=>by
  exact(B8 (g:=g_Lfill (G_Lfill n)) (N:=9) (τ:=[some (kB (.len a) ws),some (.int p),none,none,none,none,none,none,none]) rfl rfl).trans rfl
 |n+1,.flat c bs,hd,hg,hl,ws,a,hw=>wL rfl hg hl (λ b mb ws a=>fill_eq n b (by have:=((k6 hg hl).2 b mb).2.2;omega) ((k6 hg hl).2 b mb).1 ((k6 hg hl).2 b mb).2.1 ws a) ws a hw
 |n+1,.prime rows bs,hd,hg,hl,ws,a,hw=>wL rfl hg hl (λ b mb ws a=>fill_eq n b (by have:=((k6 hg hl).2 b mb).2.2;omega) ((k6 hg hl).2 b mb).1 ((k6 hg hl).2 b mb).2.1 ws a) ws a hw
def rowOf (w:Wd)(ps:#[6])(i:Nat):List Int:=(ps.take i).map λ q=>iU w.deep w (ps.getD i 0) q
def fG (w:Wd)(ps:#[6]):List #[6]:=#[132].map (rowOf w ps)
def rD (rs:#[187]):List D:=rs.map λ r=>.tup #[41]
def gz (w:Wd)(ps:#[6]):D:=.tup [.tup (ps.map .int),.tup (rD (fG w ps))]
def qq (rs:#[187]):aX (rD rs)=true:=cG λ d m=>by obtain⟨r,_,rfl⟩:=QE.mp m;exact aj r
def cL (w:Wd)(ps:#[6]):(gz w ps).pure=true:=by
 show(aX (ps.map .int)&&(aX (rD (fG w ps))&&true))=true;rw[aj,qq];rfl
structure Full (w:Wd)(ps:List Int)(ws:List Wr):Prop where
 wr:Hf w ws
 perm:w.ah.Perm ps
 rise:ps.Pairwise (· < ·)
 len:ps.length<=24
def Full.look(F:Full w ps ws)(hj:j<i)(hi:i<ps.length):gG (wD ws).1 (wD ws).2 (kt (lN ps[i] ps[j]))=some (.int (iU w.deep w ps[i] ps[j]))/\lN ps[i] ps[j]=(ps[i],ps[j]):=by
 have h:=UN.mp F.rise j i #[1] hi hj;refine⟨F.wr.look (F.perm.mem_iff.mpr (QW hi)) (F.perm.mem_iff.mpr (QW #[1])) #[1],?_⟩;unfold lN;rw[QG h]
def Jl (t:Tg)(ws:List Wr):(kB t ws).av=kB .av ws:=by show D.dct .av true (wD ws).1 (aK (wD ws).2)=_;rw[br _ (uN ws).2.2];rfl
def GC (t:Tg)(ws:List Wr):(kB t ws).view=kB t.view ws:=by show D.dct t.view true (wD ws).1 (eN (wD ws).2)=_;rw[fJ _ (uN ws).2.2];rfl
def sV(hp:qs.Perm ps)(hs:ps.Pairwise (· < ·))(hl:ps.length<=24)(t:Tg):fT [.lst t (qs.map .int)]=.ok #[22]:=by
 show(match intsOf (qs.map D.int) with|some ns=>if ns.length<64 then Res.ok (D.lst .own ((sortI ns).map D.int)) else .bad|none=>.bad)=_;rw[iu];have hll:qs.length<=24:=by rw[hp.length_eq];exact hl
 show(if qs.length<64 then Res.ok (D.lst .own ((sortI qs).map D.int)) else .bad)=_;rw[QG #[1],fD ((sortI_perm qs).trans hp) (jc qs) (hs.imp λ h=>Int.le_of_lt h)]
def uP (w:Wd)(ps:#[6])(ws:List Wr)(acc:#[187])(a:#[91]):SD:=[some w.d,some (kB .own ws),some (li .own ps),some (.lst .own (rD acc)),a]
def Jk(F:Full w ps ws)(acc:#[187])(hi:i<ps.length)(ha:acc.length<=24) :
  g_Lnet_b2 (uP w ps ws acc #[54])=.nx (uP w ps ws (acc++[rowOf w ps i]) #[54]):=by
 have hlen:=F.len;have hpi:ps.getD i 0=ps[i]:=by rw[Qq,Qo hi];rfl
 have hc:=jg (elt:=g_Lnet_e1) (cap:=[("_law_shade_of",1),#[112],("_law_k",4)]) (λ d=>match d with|.int q=>.int (iU w.deep w ps[i] (ps.getD q.toNat 0))|_=>.bW) (x8 (f:=ae 4) (τ:=uP w ps ws acc #[54]) (n:=i) rfl #[1]) (λ d hd=>by
   rw[qp]at hd;obtain⟨j,hj,rfl⟩:=QE.mp hd;have hj:=QU.mp hj;refine⟨?_,rfl⟩;have ecap:iW (uP w ps ws acc #[54]) [("_law_shade_of",1),#[112],("_law_k",4)]=[some (kB .av ws),some (li .av ps),some (.int i)]:=by
    show [some (kB .own ws).av,some (li .own ps).av,some (D.int i)]=_;rw[Jl,Gy]
   rw[ecap];have hj':j<ps.length:=by omega
   obtain⟨l1,l2⟩:=F.look hj hi;rw[l2]at l1;have v2:ae 2 [some (.int j),some (kB .av ws),some (li .av ps),some (.int i)]=.ok (li .av ps):=qm rfl (qo _ _);have at_:∀ {k:Nat} (hk:k<ps.length),bB (li .av ps) (.int k)=.ok (.int ps[k]):=λ hk=>eF rfl (by rw[QB,Qo hk];rfl);have ek:eA r8 (aa (ai bB (ae 2) (ae 3)) (aa (ai bB (ae 2) (ae 0)) ak)) [some (.int j),some (kB .av ws),some (li .av ps),some (.int i)]=.ok (.tup [.int ps[i],.int ps[j]]):=(bO (aH (bq v2 rfl (at_ hi)) (bf (bq v2 rfl (at_ hj'))))).trans rfl;unfold g_Lnet_e1;rw[bC (show ae 1 [some (.int j),some (kB .av ws),some (li .av ps),some (.int i)]=.ok (kB .av ws) from qm rfl (GC _ _)) ek];show(if (kt (ps[i],ps[j])).kind=true then (match gG (wD ws).1 (wD ws).2 (kt (ps[i],ps[j])) with|some d=>Res.ok d|none=>.bad) else .bad)=_;rw[QG (show(kt (ps[i],ps[j])).kind=true from rfl),l1];show Res.ok (D.int (iU w.deep w ps[i] ps[j]))=Res.ok (D.int (iU w.deep w ps[i] (ps.getD j 0)));rw[Qq,Qo hj'];rfl) (by rw[Qs,Q6];omega)
 unfold g_Lnet_b2;rw[iz (xs:=rD acc) (d:=.tup ((rowOf w ps i).map .int)) rfl ?_ (aQ _ (aj _)) (by unfold rD;rw[Qs];omega)]
 ·unfold uP rD;rw[Rj];rfl
 ·rw[bO (bf hc),qp,Q5];show Res.ok (D.tup _)=_;unfold rowOf;rw[Q5]
  congr 2
  refine SE λ k=>?_;rw[QB,QB];by_cases h:k<i
  ·rw[Ry h,SM h,Qo (show k<ps.length by omega),hpi];show some (D.int (iU w.deep w ps[i] (ps.getD k 0)))=some (D.int (iU w.deep w ps[i] ps[k]));rw[Qq,Qo (show k<ps.length by omega)];rfl
  ·rw[RP (by rw[Q6];omega),RP (by rw[RA];omega)];rfl
def uQ(hg:w.good)(hp:w.ah.Perm ps)(hs:ps.Pairwise (· < ·))(hl:ps.length<=24):G_Lnet [w.d]=.ok (gz w ps):=by
 have hwl:w.ah.length<=24:=by rw[hp.length_eq];exact hl
 have hnd:w.ah.Nodup:=hp.nodup_iff.mpr (hs.imp λ h=>Int.ne_of_lt h);have F:Full w ps w.cM.reverse:=⟨(Gv hnd).rev,hp,hs,hl⟩;have hn:=w.uK hg;have hfl:=zB w hg hwl;have hd:=(w.xQ hg).2;refine bN (τ:=[some w.d,none,none,none,none]) rfl rfl ?_;unfold g_Lnet;rw[aA (aG (show EX true _=.ok (kB .own []) from rfl) rfl)];show aE _ _ #[64]=_;have e1:kP 1 (G_Lfill 26) #[144] #[64]=.ok (li .own w.ah,[some w.d,some (kB .own w.cM.reverse),none,none,none]):=by
  unfold kP;rw[show l8 #[64] 1=some (.own,true,(wD []).1,(wD []).2) from rfl];show(#[144] #[64]).bind (λ ds=>if aX ds=true then (km (G_Lfill 26) true (wD []).1 (wD []).2 ds).bind λ y=>if y.1.aN=true then .bad else .ok (y.1,#[64].set 1 (some (.dct .own true y.2.1 y.2.2))) else .bad)=_;rw[bf (show ae 0 #[64]=.ok w.d from bA rfl w.pure),Res.aU,QG (by show(w.d.pure&&true)=true;rw[w.pure];rfl),yU (λ a=>fill_eq 26 w #[1] hg hwl [] a (by rw[Si];omega)),QQ,Res.aU];show(if (li .own w.ah).aN=true then _ else _)=_;rw[x6 #[10],QK #[10]];rfl
 have e2:yV 2 (pR (kP 1 (G_Lfill 26) #[144])) #[64]=.nx [some w.d,some (kB .own w.cM.reverse),some (li .own ps),none,none]:=by
  unfold yV pR;rw[e1];show(match (fT [li .own w.ah]).bind λ x=>Res.ok (x,[some w.d,some (kB .own w.cM.reverse),none,none,none]) with|.ok (d,τ')=>if d.aN=true then Fl.bad else .nx (τ'.set 2 (some d))|_=>.bad)=_;rw[show fT [li .own w.ah]=.ok (li .own ps) from sV hp hs hl .own,Res.aU];show(if (li .own ps).aN=true then Fl.bad else _)=_;rw[x6 #[10],QK #[10]];rfl
 rw[aA e2,aA (aG (d:=.lst .own []) rfl rfl)];show aE _ _ (uP w ps w.cM.reverse [] none)=_;obtain⟨t,h1,a,h2⟩:=eu (tg:=gN 4) (body:=g_Lnet_b2) (λ i t=>∃ a,t=uP w ps w.cM.reverse ((List.range i).map (rowOf w ps)) a) (ds:=#[132].map λ k:Nat=>D.int k) 0 (uP w ps w.cM.reverse [] none) ⟨none,rfl⟩ λ k x t hx hP=>by
  obtain⟨q3,rfl⟩:=hP;rw[Ro]at *;have hk:k<ps.length:=by have:=(Qt.mp hx).1;simpa using this
  have ex:x=.int k:=by rw[QB,Ry hk]at hx;cases hx;rfl
  subst ex;have e:=Jk F ((List.range k).map (rowOf w ps)) hk (by rw[Qs,Q6];omega);refine⟨_,_,rfl,.inl e,some (.int k),?_⟩;rw[List.range_succ,Rj];rfl
 rw[Ro,Qs,Q6]at h2;subst h2;have hn':eA bP #[154] (uP w ps w.cM.reverse [] none)=.ok (.int (ps.length:Nat)):=by
  rw[cX (t:=.bor) (xs:=ps.map .int) (show ae 2 _=.ok (li .bor ps) from qm rfl (qo _ _)),Qs]
 have e3:=x9 (tg:=gN 4) (body:=g_Lnet_b2) (x8 hn' #[1]);rw[qp,h1]at e3;rw[aA e3];have v2:ae 2 (uP w ps w.cM.reverse (#[132].map (rowOf w ps)) a)=.ok (li .bor ps):=qm rfl (qo _ _);have v3:ae 3 (uP w ps w.cM.reverse (#[132].map (rowOf w ps)) a)=.ok (.lst .bor (rD (fG w ps))):=aR rfl (qq _);exact jQ ((bO (aH ((bO (bf v2)).trans rfl) (bf ((bO (bf v3)).trans rfl)))).trans rfl) (aQ _ (cL w ps))
section
variable {α β:Type}
end
section
variable (Pb:Wd->List Int->Prop)
end
def Fe (r:#[60])(t:#[6]):Prop:=∀ b∈r,(∀ p∈b.ah,p∉t)\/∀ p∈b.ah,p∈t
mutual
def Wd.proper:Wd->Prop
 |.leaf _=>True
 |.flat c bs=>2<=bs.length/\(∀ b∈bs,¬ b.Ds c)/\jH bs
 |.prime rows bs=>zU bs.length (col rows)/\jH bs
def jH:List Wd->Prop
 |[]=>True
 |b::r=>b.proper/\jH r
end
def mS:∀ bs:List Wd,jH bs↔∀ b∈bs,b.proper
 |[]=>by simp[jH]
 |b::r=>by show b.proper/\jH r↔_;rw[mS r];simp
def A2 (c:Int->Int->Int)(w:Wd):Prop:=∀ v∈w.subs,∀ (i j:Nat) (a b:Wd) (p q:Int),v.bR[i]?=some a->v.bR[j]?=some b->i≠j->p∈a.ah->q∈b.ah->c p q=df v i j
def A2.bR(h:A2 c w)(m:b∈w.bR):A2 c b:=λ v mv=>h v (iS.mpr (.inr ⟨b,m,mv⟩))
def A2.top(h:A2 c w){a:Wd}(ha:w.bR[i]?=some a)(hb:w.bR[j]?=some b)(hij:i≠j)(hp:p∈a.ah)(hq:q∈b.ah):c p q=df w i j:=h w (qj w) i j a b p q ha hb hij hp hq
def rq:∀ (n:Nat) (w:Wd),w.deep<=n->w.proper->w.ah≠[]
 |0,w,hd,_=>by cases w<;>simp[Wd.deep]at hd
 |n+1,.leaf p,_,_=>λ z=>by cases z
 |n+1,.flat c [],_,h=>by have:=h.1;simp at this
 | n+1,.flat c (b::r),hd,h=>λ z=>by
  have z:b.ah++ao r=[]:=z;have:b.deep<=fP (b::r):=gx Qx;have hd:fP (b::r)+1<=n+1:=hd;exact rq n b #[1] h.2.2.1 (T4.mp z).1
 |n+1,.prime rows [],_,h=>by have:=h.1.1;simp at this
 | n+1,.prime rows (b::r),hd,h=>λ z=>by
  have z:b.ah++ao r=[]:=z;have:b.deep<=fP (b::r):=gx Qx;have hd:fP (b::r)+1<=n+1:=hd;exact rq n b #[1] h.2.1 (T4.mp z).1
def zD(h:b.proper):∃ p,p∈b.ah:=RJ _ (rq _ b (QD _) h)
def fW {bs:#[60]}(h:p∈ao bs):∃ (i:Nat) (b:Wd),bs[i]?=some b/\p∈b.ah:=by
 obtain⟨i,hi⟩:=At.of h;obtain⟨b,hb,_,hp,_⟩:=hi.get;exact⟨i,b,hb,hp⟩
def ya {bs:#[60]}(hp:jH bs)(hi:i<bs.length):∃ (b:Wd) (p:Int),bs[i]?=some b/\p∈b.ah:=by
 obtain⟨p,hp⟩:=zD ((mS bs).mp hp bs[i] (QW hi));exact⟨bs[i],p,Qo hi,hp⟩
def mR {bs:#[60]}(h:bs[i]?=some b):i<bs.length:=(Qt.mp h).1
def GD (k m:Nat)(h:3<=k):∃ i j,i<k/\j<k/\i≠j/\i≠m/\j≠m:=by
 by_cases h0:m=0
 ·exact⟨1,2,by omega,by omega,by omega,by omega,by omega⟩
 ·by_cases h1:m=1
  ·exact⟨0,2,by omega,by omega,by omega,by omega,by omega⟩
  ·exact⟨0,1,by omega,by omega,by omega,by omega,by omega⟩
def uR (rows:#[187])(i j:Nat):col rows i j=col rows j i:=by unfold col;rw[Uu,Uv]
def zU.no {k:Nat}(h:zU k (col rows)){m:Nat}(hm:m<k)(ha:∀ y,y<k->y≠m->col rows m y=x):False:=by
 obtain⟨i,j,hi,hj,hij,him,hjm⟩:=GD k m h.1;exact h.2 (λ i=>i≠m) ⟨i,j,hi,hj,hij,him,hjm⟩ (λ y hy hM z z' hz hz' h1 h2=>by
  have e:y=m:=Classical.not_not.mp hM;subst e;rw[ha z hz h1,ha z' hz' h2]) m hm rfl
def Qk{k:Int}(hc:A2 c w)(hw:w.proper)(hf:¬ w.Ds k){N:Int->Prop}(hy:∃ y∈w.ah,N y)(hx:∃ x∈w.ah,¬ N x)(h:∀ x∈w.ah,∀ y∈w.ah,¬ N x->N y->c x y=k):False:=by
 obtain⟨y,my,ny⟩:=hy;obtain⟨x,mx,nx⟩:=hx;cases w with
 | leaf p =>
  have h1:y∈[p]:=my;have h2:x∈[p]:=mx;rw[QM.mp h1]at ny;rw[QM.mp h2]at nx;exact nx ny
 | flat d bs =>
  have cr:∀ {i j:Nat}{a b:Wd}{p q:Int},bs[i]?=some a->bs[j]?=some b->i≠j->p∈a.ah->q∈b.ah->¬ N p->N q->False:=λ {i j a b p q} ha hb hij hp hq np nq=>by
   have e1:=h p (iI (w:=.flat d bs) (QN ha) hp) q (iI (w:=.flat d bs) (QN hb) hq) np nq;have e2:c p q=d:=hc.top (w:=.flat d bs) ha hb hij hp hq;exact hf (e2.symm.trans e1)
  obtain⟨i,a,ha,hya⟩:=fW (bs:=bs) my;obtain⟨j,b,hb,hxb⟩:=fW (bs:=bs) mx;by_cases e:j=i
  ·subst e;have h2:2<=bs.length:=hw.1;obtain⟨j',hj',hne⟩:∃ j',j' < bs.length/\j'≠j:=by
    by_cases z:j=0
    ·exact⟨1,by omega,by omega⟩
    ·exact⟨0,by omega,by omega⟩
   obtain⟨b',q,hb',hq⟩:=ya hw.2.2 hj';by_cases nq:N q
   ·exact cr hb hb' (Rr hne) hxb hq nx nq
   ·exact cr hb' ha hne hq hya nq ny
  ·exact cr hb ha e hxb hya nx ny
 | prime rows bs =>
  have hP:zU bs.length (col rows):=hw.1
  let A:Nat->Prop:=λ i=>∃ b p,bs[i]?=some b/\p∈b.ah/\N p
  let B:Nat->Prop:=λ i=>∃ b p,bs[i]?=some b/\p∈b.ah/\¬ N p
  have cr:∀ {i j:Nat},i≠j->B i->A j->col rows i j=k:=λ {i j} hij ⟨a,p,ha,hp,np⟩ ⟨b,q,hb,hq,nq⟩=>by
   have e1:=h p (iI (w:=.prime rows bs) (QN ha) hp) q (iI (w:=.prime rows bs) (QN hb) hq) np nq;have e2:c p q=col rows i j:=hc.top (w:=.prime rows bs) ha hb hij hp hq;exact e2.symm.trans e1
  have ab:∀ {i:Nat},i<bs.length->A i\/B i:=λ {i} hi=>by
   obtain⟨b,p,hb,hp⟩:=ya hw.2 hi;by_cases np:N p
   ·exact .inl ⟨b,p,hb,hp,np⟩
   ·exact .inr ⟨b,p,hb,hp,np⟩
  obtain⟨i,a,ha,hya⟩:=fW (bs:=bs) my;obtain⟨j,b,hb,hxb⟩:=fW (bs:=bs) mx;have Ai:A i:=⟨a,y,ha,hya,ny⟩;have Bj:B j:=⟨b,x,hb,hxb,nx⟩;have hi:=mR ha;have hj:=mR hb;have mixed:∀ {m:Nat},m<bs.length->A m->B m->False:=λ {m} hm Am Bm=>hP.no hm (x:=k) λ y hy hne=>by
   rcases ab hy with h|h
   ·exact cr (Rr hne) Bm h
   ·rw[uR];exact cr hne h Am
  by_cases two:∃ i',i' < bs.length/\i'≠i/\A i'
  ·obtain⟨i',hi',hne,Ai'⟩:=two;have all:=hP.2 A ⟨i,i',hi,hi',Rr hne,Ai,Ai'⟩ λ x hx nA y z hy hz Ay Az=>by
    have Bx:=(ab hx).resolve_left nA;rw[cr (i:=x) (j:=y) (λ e=>nA (by rw[e];exact Ay)) Bx Ay,cr (i:=x) (j:=z) (λ e=>nA (by rw[e];exact Az)) Bx Az]
   exact mixed hj (all j hj) Bj
  ·refine hP.no hi (x:=k) λ y hy hne=>?_;have:¬ A y:=λ z=>two ⟨y,hy,hne,z⟩;rw[uR];exact cr hne ((ab hy).resolve_left this) Ai
def Mod (c:Int->Int->Int)(L S:#[6]):Prop:=∀ x∈L,x∉S->∀ y∈S,∀ z∈S,c x y=c x z
def Ms(hc:A2 c w)(hn:w.ah.Nodup)(mb:b∈w.bR)(hS:∀ p∈S,p∈b.ah):Mod c w.ah S↔Mod c b.ah S:=by
 obtain⟨j,hj⟩:=Rf mb;refine⟨λ h x mx=>h x (iI mb mx),λ h x mx nx y my z mz=>?_⟩;rw[<-dW (ky mb)]at mx;obtain⟨i,a,ha,hxa⟩:=fW mx;by_cases e:i=j
 ·subst e;rw[hj]at ha;cases ha;exact h x hxa nx y my z mz
 ·rw[hc.top ha hj e hxa (hS y my),hc.top ha hj e hxa (hS z mz)]
def zC{d:Int}{bs:#[60]}(hc:A2 c (.flat d bs))(hw:(Wd.flat d bs).proper)(hn:(ao bs).Nodup)(hS:∀ p∈S,p∈ao bs)(h2:¬ ∃ b∈bs,∀ p∈S,p∈b.ah):Mod c (ao bs) S↔Fe bs S:=by
 have cr:∀ {i j:Nat}{a b:Wd}{p q:Int},bs[i]?=some a->bs[j]?=some b->i≠j->p∈a.ah->q∈b.ah->c p q=d:=λ ha hb hij hp hq=>hc.top (w:=.flat d bs) ha hb hij hp hq;refine⟨λ h b mb=>?_,λ h x mx nx y my z mz=>?_⟩
 ·obtain⟨i,hi⟩:=Rf mb;refine Classical.or_iff_not_imp_left.mpr λ hb p mp=>QS λ np=>?_;obtain⟨q,mq,nq⟩:∃ q,q∈S/\q∉b.ah:=QS λ z=>h2 ⟨b,mb,λ q mq=>QS λ nq=>z ⟨q,mq,nq⟩⟩;obtain⟨j,a,ha,hqa⟩:=fW (hS q mq);have hij:i≠j:=λ e=>by subst e;rw[hi]at ha;cases ha;exact nq hqa
  refine Qk (hc.bR (b:=b) mb) ((mS bs).mp hw.2.2 b mb) (hw.2.1 b mb) (N:=(· ∈ S)) ?_ ⟨p,mp,np⟩ λ x mx y my nx ny=>?_
  ·exact QS λ z=>hb λ p mp ms=>z ⟨p,mp,ms⟩
  ·rw[h x (iI (w:=.flat d bs) mb mx) nx y ny q mq];exact cr hi ha hij mx hqa
 ·obtain⟨i,a,ha,hxa⟩:=fW mx;have un:∀ p∈a.ah,p∉S:=(h a (QN ha)).resolve_right λ z=>nx (z x hxa);have see:∀ y∈S,c x y=d:=λ y my=>by
   obtain⟨j,b,hb,hyb⟩:=fW (hS y my);exact cr ha hb (λ e=>by subst e;rw[ha]at hb;cases hb;exact un y hyb my) hxa hyb
  rw[see y my,see z mz]
def DK{bs:#[60]}(hc:A2 c (.prime rows bs))(hw:(Wd.prime rows bs).proper)(hn:(ao bs).Nodup)(hS:∀ p∈S,p∈ao bs)(h0:S≠[])(h2:¬ ∃ b∈bs,∀ p∈S,p∈b.ah):Mod c (ao bs) S↔∀ p∈ao bs,p∈S:=by
 have hP:zU bs.length (col rows):=hw.1;have cr:∀ {i j:Nat}{a b:Wd}{p q:Int},bs[i]?=some a->bs[j]?=some b->i≠j->p∈a.ah->q∈b.ah->c p q=col rows i j:=λ ha hb hij hp hq=>hc.top (w:=.prime rows bs) ha hb hij hp hq;refine⟨λ h=>?_,λ h x mx nx=>absurd (h x mx) nx⟩;obtain⟨q,mq⟩:=RJ _ h0;obtain⟨i,a,ha,hqa⟩:=fW (hS q mq);obtain⟨q',mq',nq'⟩:∃ q',q'∈S/\q'∉a.ah:=QS λ z=>h2 ⟨a,QN ha,λ q mq=>QS λ nq=>z ⟨q,mq,nq⟩⟩;obtain⟨i',a',ha',hqa'⟩:=fW (hS q' mq');have hii:i≠i':=λ e=>by subst e;rw[ha]at ha';cases ha';exact nq' hqa'
 let T:Nat->Prop:=λ j=>∃ b p,bs[j]?=some b/\p∈b.ah/\p∈S
 have all:∀ j,j<bs.length->T j:=hP.2 T ⟨i,i',mR ha,mR ha',hii,⟨a,q,ha,hqa,mq⟩,⟨a',q',ha',hqa',mq'⟩⟩ λ x hx nT y z hy hz ⟨b1,p1,hb1,hp1,ms1⟩ ⟨b2,p2,hb2,hp2,ms2⟩=>by
  obtain⟨b,p,hb,hp⟩:=ya hw.2 hx;have np:p∉S:=λ z=>nT ⟨b,p,hb,hp,z⟩;have e:=h p (by rw[aO,Sd];exact⟨b,QN hb,hp⟩) np p1 ms1 p2 ms2;rw[cr hb hb1 (λ z=>nT (z▸⟨b1,p1,hb1,hp1,ms1⟩)) hp hp1,cr hb hb2 (λ z=>nT (z▸⟨b2,p2,hb2,hp2,ms2⟩)) hp hp2]at e;exact e
 intro p mp;refine QS λ np=>?_;obtain⟨m,b,hb,hpb⟩:=fW mp;have hm:=mR hb;obtain⟨i0,j0,hi0,hj0,_,hne,_⟩:=GD bs.length m hP.1;obtain⟨b0,p0,hb0,hp0,ms0⟩:=all i0 hi0;refine hP.no hm (x:=c p p0) λ y hy hym=>?_;obtain⟨b1,p1,hb1,hp1,ms1⟩:=all y hy;rw[<-cr hb hb1 (Rr hym) hpb hp1];exact h p mp np p1 ms1 p0 ms0
mutual
def rS:∀ w:Wd,w.good->w.proper
 |.leaf _,_=>trivial|.flat c bs,h=>⟨h.1,h.2.2.2,k7 bs h.2.1⟩
 |.prime rows bs,h=>⟨h.2.2.2.2.2,k7 bs h.2.2.2.1⟩
def k7:∀ bs:List Wd,dE bs->jH bs
 |[],_=>trivial|b::r,h=>⟨rS b h.1,k7 r h.2⟩
end
def Jm(hn:w.ah.Nodup):A2 #[99] w:=λ v mv i j a b p q ha hb hij hp hq=>sQ w.deep (QD _) hn mv ha hb hij hp hq
def yb(m:b∈w.bR):b.deep+1<=w.deep:=by
 have:=gx m;have:w.deep=fP w.bR+1:=by cases w with
  |leaf p=>cases m|_=>rfl
 omega
def jm {Pr:Wd->Prop}(h:∀ w b,Pr w->b∈w.bR->Pr b):∀ (n:Nat) {w:Wd},w.deep<=n->Pr w->∀ v∈w.subs,Pr v
 |0,w,hd,_,_,_=>by cases w<;>simp[Wd.deep]at hd
 | n+1,w,hd,hw,v,mv=>by
  rcases iS.mp mv with rfl|⟨b,mb,mv⟩
  ·exact hw
  ·exact jm h n (by have:=yb mb;omega) (h w b hw mb) v mv
def qy(hg:w.good)(m:v∈w.subs):v.good:=jm (Pr:=Wd.good) (λ w b h m=>(bo _).mp (zo h) b m) _ (QD _) hg v m
def rz(hn:w.ah.Nodup)(m:v∈w.subs):v.ah.Nodup:=jm (Pr:=λ w=>w.ah.Nodup) (λ w b h m=>A1 h m) _ (QD _) hn v m
def Jo(hc:A2 c w)(m:v∈w.subs):A2 c v:=jm (Pr:=A2 c) (λ w b h m=>h.bR m) _ (QD _) hc v m
def Cb {c:Int->Int->Int}:∀ (n:Nat) {w:Wd},w.deep<=n->A2 c w->w.ah.Nodup->∀ v∈w.subs,∀ {S:#[6]},(∀ p∈S,p∈v.ah)->(Mod c w.ah S↔Mod c v.ah S)
 |0,w,hd,_,_,_,_,_,_=>by cases w<;>simp[Wd.deep]at hd
 | n+1,w,hd,hc,hn,v,mv,S,hS=>by
  rcases iS.mp mv with rfl|⟨b,mb,mv⟩
  ·exact Iff.rfl
  ·exact(Ms hc hn mb λ p mp=>gC b v mv p (hS p mp)).trans (Cb n (by have:=yb mb;omega) (hc.bR mb) (A1 hn mb) v mv hS)
structure GF (c:Int->Int->Int)(w:Wd)(S R:List Int):Prop where
 sup:∀ p∈S,p∈R
 ins:∀ p∈R,p∈w.ah
 md:Mod c w.ah R
 low:∀ M,Mod c w.ah M->(∀ p∈S,p∈M)->∀ p∈R,p∈M
def qx (S:#[6])(b:Wd):Bool:=b.ah.any λ p=>decide (p∈S)
def qw:qx S b=true↔∃ p∈S,p∈b.ah:=by
 unfold qx;rw[Th];exact⟨λ ⟨p,m,h⟩=>⟨p,R8 h,m⟩,λ ⟨p,m,h⟩=>⟨p,h,QO m⟩⟩
def Wd.MQ (S:#[6])(v:Wd):List Int:=if v.OD=true then ao (v.bR.filter (qx S)) else v.ah
def qu{bs:#[60]}:p∈ao (bs.filter (qx S))↔∃ b∈bs,(∃ q∈S,q∈b.ah)/\p∈b.ah:=by
 rw[aO,Sd];constructor
 ·rintro⟨b,mb,h⟩;obtain⟨m1,m2⟩:=Q3.mp mb;exact⟨b,m1,qw.mp m2,h⟩
 ·rintro⟨b,mb,h1,h2⟩;exact⟨b,Q3.mpr ⟨mb,qw.mpr h1⟩,h2⟩
def Mt(hc:A2 c w)(hn:w.ah.Nodup)(hg:w.good)(mv:v∈w.subs)(h0:S≠[])(hS:∀ p∈S,p∈v.ah)(h2:¬ ∃ b∈v.bR,∀ p∈S,p∈b.ah):GF c w S (v.MQ S):=by
 have gv:=rS v (qy hg mv);have nv:=rz hn mv;have cv:=Jo hc mv;have ms:=λ {S:#[6]} (h:∀ p∈S,p∈v.ah)=>Cb (c:=c) w.deep (QD _) hc hn v mv h;have vm:Mod c w.ah v.ah:=(ms λ p m=>m).mpr λ x mx nx=>absurd mx nx;have cut:∀ M,Mod c w.ah M->(∀ p∈S,p∈M)->∃ M',(∀ p∈M',p∈M/\p∈v.ah)/\(∀ p∈S,p∈M')/\Mod c v.ah M':=λ M hM hSM=>by
  refine⟨v.ah.filter λ p=>decide (p∈M),λ p m=>?_,λ p m=>Q3.mpr ⟨hS p m,QO (hSM p m)⟩,(ms λ p m=>(Q3.mp m).1).mp λ x mx nx y my z mz=>?_⟩
  ·obtain⟨m1,m2⟩:=Q3.mp m;exact⟨R8 m2,m1⟩
  ·obtain⟨y1,y2⟩:=Q3.mp my;obtain⟨z1,z2⟩:=Q3.mp mz;by_cases hx:x∈v.ah
   ·exact hM x mx (λ h=>nx (Q3.mpr ⟨hx,QO h⟩)) y (R8 y2) z (R8 z2)
   ·exact vm x mx hx y y1 z z1
 obtain⟨q,mq⟩:=RJ _ h0;cases v with
 | leaf a =>
  show GF c w S [a];have hq:q=a:=QM.mp (hS q mq);exact⟨λ p m=>hS p m,λ p m=>gC w _ mv p m,vm,λ M _ h p m=>by rw[QM.mp m,<-hq];exact h q mq⟩
 | flat d bs =>
  show GF c w S (ao (bs.filter (qx S)));have hS':∀ p∈S,p∈ao bs:=hS;have ins:∀ p∈ao (bs.filter (qx S)),p∈ao bs:=λ p m=>by
   obtain⟨b,mb,_,h⟩:=qu.mp m;exact iI (w:=.flat d bs) mb h
  have sup:∀ p∈S,p∈ao (bs.filter (qx S)):=λ p m=>by
   obtain⟨i,b,hb,hp⟩:=fW (hS' p m);exact qu.mpr ⟨b,QN hb,⟨p,m,hp⟩,hp⟩
  refine⟨sup,λ p m=>gC w _ mv p (ins p m),(ms ins).mpr ((zC cv gv nv ins λ ⟨b,mb,h⟩=>h2 ⟨b,mb,λ p m=>h p (sup p m)⟩).mpr λ b mb=>?_),λ M hM hSM p m=>?_⟩
  ·by_cases ht:∃ q∈S,q∈b.ah
   ·exact .inr λ p m=>qu.mpr ⟨b,mb,ht,m⟩
   ·refine .inl λ p m h=>?_;obtain⟨b',mb',ht',h'⟩:=qu.mp h;obtain⟨i,hi⟩:=Rf mb;obtain⟨j,hj⟩:=Rf mb';have e:=B7 nv hi hj m h';subst e;rw[hi]at hj;cases hj;exact ht ht'
  ·obtain⟨M',a1,a2,a3⟩:=cut M hM hSM;obtain⟨b,mb,⟨q,mq,hq⟩,hp⟩:=qu.mp m;have fe:=(zC cv gv nv (λ p m=>(a1 p m).2) λ ⟨b,mb,h⟩=>h2 ⟨b,mb,λ p m=>h p (a2 p m)⟩).mp a3 b mb;exact(a1 p (fe.resolve_left (λ z=>z q hq (a2 q mq)) p hp)).1
 | prime rows bs =>
  show GF c w S (ao bs);refine⟨hS,λ p m=>gC w _ mv p m,vm,λ M hM hSM p m=>?_⟩;obtain⟨M',a1,a2,a3⟩:=cut M hM hSM;exact(a1 p ((DK cv gv nv (λ p m=>(a1 p m).2) (λ e=>by have:=a2 q mq;rw[e]at this;cases this) λ ⟨b,mb,h⟩=>h2 ⟨b,mb,λ p m=>h p (a2 p m)⟩).mp a3 p m)).1
def Kl (c:Int->Int->Int)(w:Wd)(S:#[6])(x:Int):Prop:=∀ M,Mod c w.ah M->(∀ p∈S,p∈M)->x∈M
open Classical in
def sA (c:Int->Int->Int)(w:Wd)(ps S:#[6]):List Int:=ps.filter λ x=>decide (Kl c w S x)
def mT:x∈sA c w ps S↔x∈ps/\Kl c w S x:=by
 classical
 unfold sA;rw[Q3,UL]
def zE(h:ps.Pairwise (· < ·)):(sA c w ps S).Pairwise (· < ·):=List.Pairwise.filter _ h
def GF.mem{R:#[6]}(h:GF c w S R)(hp:w.ah.Perm ps)(x:Int):x∈R↔x∈sA c w ps S:=by
 rw[mT];exact⟨λ m=>⟨hp.mem_iff.mp (h.ins x m),λ M hM hS=>h.low M hM hS x m⟩,λ m=>m.2 R h.md h.sup⟩
def jI {l:#[6]}(h:l.Pairwise (· < ·)):l.Nodup:=h.imp λ h e=>by omega
def qt {a b:#[6]}(ha:a.Nodup)(hb:b.Nodup)(h:∀ x,x∈a↔x∈b):a.Perm b:=(UM ha hb).mpr h
def GF.perm{R:#[6]}(h:GF c w S R)(hp:w.ah.Perm ps)(hu:ps.Pairwise (· < ·))(hn:R.Nodup):R.Perm (sA c w ps S):=qt hn (jI (zE hu)) (h.mem hp)
def A3(h:∀ p∈S,p∈ps)(m:p∈S):p∈sA c w ps S:=mT.mpr ⟨h p m,λ M _ hS=>hS p m⟩
end KL
namespace KL
open DL PySem XF
variable {C:Addr}{p:Addr->Bool}{G:DF}{c:Int->Int->Int}{rows:#[187]}{ds:List D}{A B S T ms ns ps qs xs:#[6]}{got:#[118]}{a i n y:Nat}{r τ τ':SD}{f g:#[29]}{s x:Str}{v w w':Wd}
def GG {N:Nat}{g:SF}{t:SD}(hl:ds.length=n)(ht:ds.map some++List.replicate (N-n) none=τ)(h:g τ=.nx t):cF n N g ds=.ok .bW:=by
 unfold cF;rw[QG hl,ht,h];rfl
def yc{d:D}(h:f τ=.ok d):tY f τ=.nx τ:=by
 unfold tY;rw[h];rfl
def Cc(h:f τ=.dY C):tY f τ=.ex C τ:=by
 unfold tY;rw[h];rfl
def qz {a b:SF}{t:SD}(h:a τ=.ex C t):aE a b τ=.ex C t:=by
 unfold aE;rw[h];rfl
def oR {N:Nat}{g:SF}{t:SD}(hl:ds.length=n)(ht:ds.map some++List.replicate (N-n) none=τ)(h:g τ=.ex C t):cF n N g ds=.dY C:=by
 unfold cF;rw[QG hl,ht,h];rfl
def qA{fs:#[34]}{r:Res D}(ha:fs τ=.ok ds)(hb:aJ ds=false)(hG:G (aK ds)=r):dz G fs τ=r:=by
 unfold dz;rw[ha];show v5 G ds=_;unfold v5;rw[hb,QK Qy,hG]
def PH (ls:#[6])(p:Int):aJ [D.lst .av #[108],.int p]=false:=by
 show((false||aJ #[108])||(false||false))=false;rw[dJ];rfl
def Jr {tg:xo}{body:SF}{x:D}{r:List D}{t:SD}(h1:tg x τ=some τ')(h2:body τ'=.nx t):fm tg body (x::r) τ=fm tg body r t:=by
 show(match tg x τ with|none=>Fl.bad|some τ'=>match body τ' with|.nx t=>fm tg body r t|.ct t=>fm tg body r t|.bk t=>.nx t|o=>o)=_;rw[h1];show(match body τ' with|.nx t=>fm tg body r t|.ct t=>fm tg body r t|.bk t=>Fl.nx t|o=>o)=_;rw[h2]
def Jt {tg:xo}{body:SF}{x:D}{r:List D}{t:SD}{C:PySem.Addr}(h1:tg x τ=some τ')(h2:body τ'=.ex C t):fm tg body (x::r) τ=.ex C t:=by
 show(match tg x τ with|none=>Fl.bad|some τ'=>match body τ' with|.nx t=>fm tg body r t|.ct t=>fm tg body r t|.bk t=>.nx t|o=>o)=_;rw[h1];show(match body τ' with|.nx t=>fm tg body r t|.ct t=>fm tg body r t|.bk t=>Fl.nx t|o=>o)=_;rw[h2]
def Oc {c:#[59]}{s:SF}{C:PySem.Addr}(h:c τ=.ok true):aE (fZ c (uc C) bD) s τ=.ex C τ:=qz ((ju h).trans rfl)
def Mv (ns:#[6])(k:Int):k∈L2.dd ns↔k∈ns:=by
 have h:=PyProof.Rows.firstMet_any (λ i=>ns.getD i 0) ns.length k;have e:(List.range ns.length).map (λ i=>ns.getD i 0)=ns:=by
  refine RM #[32] λ i h1 h2=>?_;simp;rw[Qo h2];rfl
 rw[e]at h;have m:∀ l:List Int,(l.any λ x=>x == k)=true↔k∈l:=λ l=>by
  rw[Th];constructor
  ·rintro⟨x,hx,e⟩;have:x=k:=by simpa using e
   exact this▸hx
  ·intro hk;exact⟨k,hk,by simp⟩
 unfold L2.dd;rw[<-m,h,m]
def iB{fs:#[34]}{d:D}(ha:fs τ=.ok ds)(h:G (aK ds)=.ok d)(ht:d.dm=d):aF G fs τ=.ok d:=by
 unfold aF;rw[ha,Res.aU];unfold t6;rw[h];show(if aJ ds=true then Res.ok d.dm else Res.ok d)=_;rw[ht,ite_self]
def fX {xs:List D}(h:aX xs=true):(D.lst .own xs).dm=.lst .own xs:=by
 show D.lst .own (ig xs)=_;rw[eO _ h]
def Mu{xs ys:List D}(h1:τ[i]?=some (some (.lst .own xs)))(h2:f τ=.ok (.lst .own ys))(hp:aJ ys=false)(hl:xs.length+ys.length<=16777216):E7 i f τ=.nx #[121]:=by
 unfold E7;have e:gY τ i=some xs:=by unfold gY;rw[h1]
 rw[e];show(f τ).ja τ (LC i xs τ)=_;rw[h2,kO];show(if aJ ys=true then Fl.bad else if xs.length+ys.length<=16777216 then .nx #[121] else .bad)=_;rw[hp,QK Qy,QG hl]
def fQ (gs:#[60]):List Int:=ao (gs.filter Wd.yf)
def vp {a b:#[60]}(h:a.Perm b):(fQ a).Perm (fQ b):=by
 unfold fQ;rw[aO,aO];exact(h.filter _).flatMap_right _
def sC (a b:#[60]):fQ (a++b)=fQ a++fQ b:=by unfold fQ;rw[TJ,gX]
mutual
def oq:∀ w:Wd,fQ w.subs=w.ah
 |.leaf p=>rfl|.flat c bs=>jn bs
 |.prime rows bs=>jn bs
def jn:∀ bs:List Wd,fQ (fC bs)=ao bs
 |[]=>rfl|b::r=>by show fQ (b.subs++fC r)=b.ah++ao r;rw[sC,oq b,jn r]
end
def rV(hg:w.good)(hl:w.ah.length<=24):∃ ls:List Int,ls.Perm w.ah/\dP [w.d]=.ok (.lst .own #[108]):=by
 obtain⟨gs,pg,lg,eg⟩:=Gq hg hl;refine⟨fQ gs,(vp pg).trans (.of_eq (oq w)),?_⟩;refine bN (τ:=[some w.d]) rfl rfl ?_;unfold mi;have e1:aF je #[144] [some w.d]=.ok (.lst .own (dL gs)):=cI (ds:=[w.d]) (bf (bA rfl w.pure)) (by rw[sd];exact eg) (Jf w);have hit:=jX e1 #[10] (aT gs);refine jQ ?_ (bg (aj _));rw[kg (λ d=>match d with|.int _=>true|_=>false) id hit (λ d m=>?_) (λ d m _=>?_) (by rw[gg];omega),br _ (aT gs),List.map_id]
 ·congr 2
  clear eg e1 hit pg lg
  induction gs with
  |nil=>rfl
  | cons g gs ih =>
   cases g with
   |leaf p=>show D.int p::_=D.int p::_;rw[ih];rfl|flat c bs=>exact ih|prime rows bs=>exact ih
 ·rw[br _ (aT gs),dU]at m;obtain⟨g,mg,rfl⟩:=QE.mp m;have:=fF (uM (w:=g) (r:=iW [some w.d] []));unfold mC;rw[this];cases g<;>rfl
 ·rw[br _ (aT gs),dU]at m;obtain⟨g,mg,rfl⟩:=QE.mp m;exact⟨bA rfl g.pure,g.pure⟩
variable (ca:#[88])
def GH (ls:#[6])(x:Int):fB ca [.lst .av #[108],.int x]=if x∈ls then .ok .bW else .dY (ca "NoPlace"):=by
 have c:eT (ai (inD true) (ae 1) (ae 0)) [some (.lst .av #[108]),some (.int x)]=.ok (!decide (x∈ls)):=fF ((bC (show ae 1 [some (.lst .av #[108]),some (.int x)]=.ok (.int x) from rfl) (aY rfl (aj ls))).trans (nH true x .av ls));by_cases h:x∈ls
 ·rw[QG h];rw[QO h]at c;exact GG (t:=[some (.lst .av #[108]),some (.int x)]) rfl rfl (gZ c)
 ·rw[QK h];rw[QF h]at c;exact oR (t:=[some (.lst .av #[108]),some (.int x)]) rfl rfl ((ju c).trans rfl)
section
def Js(hg:v.good)(hl:v.ah.length<=24):∃ ls:List Int,ls.Perm v.ah/\aF dP #[144] (some v.d::r)=.ok (.lst .own #[108]):=by
 obtain⟨ls,pl,el⟩:=rV hg hl;exact⟨ls,pl,cI (ds:=[v.d]) (bf (bA rfl v.pure)) (by rw[sd];exact el) (Jf v)⟩
def rT (hg:v.good)(hl:v.ah.length<=24)(hp:v.ah.Perm qs)(hu:qs.Pairwise (· < ·)):cZ [v.d]=.ok (.lst .own (qs.map .int)):=by
 obtain⟨ls,pl,el⟩:=Js (r:=[]) hg hl;refine bN (τ:=[some v.d]) rfl rfl ?_;unfold mD;exact jQ ((bO (bf el)).trans (sV (pl.trans hp) hu (by rw[<-hp.length_eq];exact hl) .own)) (bg (aj _))
def zF (ws:#[60])(j:Nat){b:Wd}(h:ws[j]?=some b):ao (ws.take (j+1))=ao (ws.take j)++b.ah:=by
 rw[aO,aO,SK,h,RH];simp
def Jp (ws:#[60])(j:Nat):(ao (ws.take j)).length<=(ao ws).length:=by
 rw[aO,aO]
 conv=>rhs;rw[<-Rv j ws,RH,Qv]
 omega
def zH {ws:#[60]}(hg:dE ws)(hl:(ao ws).length<=24)(hp:(ao ws).Perm qs)(hu:qs.Pairwise (· < ·)):dM [.lst .av (dL ws)]=.ok (.lst .own (qs.map .int)):=by
 refine bN (τ:=[some #[71],none,none]) rfl rfl ?_;unfold gU;rw[aA (aG (d:=.lst .own []) rfl rfl)];show aE _ _ [some #[71],some (.lst .own []),none]=_;have hf:fj [0] [some #[71],some (.lst .own []),none]=[some #[71],some (.lst .own []),none]:=by
  show [some (D.lst .av (aK (dL ws))),_,_]=_;rw[br _ (aT ws)]
 have hi:jo (ae 0) [some #[71],some (.lst .own []),none]=.ok (false,dL ws):=jX (aY rfl (aT ws)) #[10] (aT ws);obtain⟨t,e1,ls,o,e2,pl⟩:=eu (tg:=gN 2) (body:=iP) (ds:=dL ws) (λ i τ=>∃ (ls:#[6]) (o:#[91]),τ=[some #[71],some (.lst .own #[108]),o]/\ls.Perm (ao (ws.take i))) 0 _ ⟨[],none,rfl,.refl _⟩ λ j d τ hd hP=>by
  obtain⟨ls,o,rfl,pl⟩:=hP;rw[Ro]at *;rw[dU]at hd;obtain⟨b,hb,rfl⟩:∃ b,ws[j]?=some b/\d=b.d:=by
   rw[QB]at hd;cases e:ws[j]? with
   |none=>rw[e]at hd;cases hd|some b=>rw[e]at hd;cases hd;exact⟨b,rfl,rfl⟩
  have mb:=QN hb;have bl:=eY mb;obtain⟨ks,pk,ek⟩:=rV ((bo ws).mp hg b mb) #[1];refine⟨_,_,rfl,.inl (Mu (xs:=ls.map .int) (ys:=ks.map .int) rfl (cI (ds:=[b.d]) (bf (bA rfl b.pure)) (by rw[sd];exact ek) (Jf b)) (cB _ (aj _)) ?_),ls++ks,some b.d,?_,?_⟩
  ·have:=Jp ws j;rw[Qs,Qs,pl.length_eq,pk.length_eq];omega
  ·rw[Rj];rfl
  ·rw[zF ws j hb];exact pl.append pk
 rw[Ro,gg,SW]at pl;rw[aA ((fO hf hi).trans (by rw[br _ (aT ws)];exact e1)),e2];exact jQ ((bO (bf (aR rfl (aj ls)))).trans (sV (pl.trans hp) hu (by rw[<-hp.length_eq];exact hl) .bor)) (bg (aj _))
def Ju(hg:v.good)(hl:v.ah.length<=24):iG [v.d,.lst .av (ms.map .int)]=.ok (.bl (qx ms v)):=by
 obtain⟨ls,pl,el⟩:=Js (r:=[some #[94]]) hg hl;refine bN (τ:=[some v.d,some #[94]]) rfl rfl ?_;unfold jU;have e1:=jg (elt:=iw) (cap:=[("members",1)]) (λ d=>match d with|.int x=>.bl (decide (x∈ms))|d=>d) (jX el #[10] (aj ls)) (λ d m=>by
  rw[aM]at m;obtain⟨x,_,rfl⟩:=QE.mp m;unfold iw;refine⟨(bC (show ae 0 _=.ok (.int x) from rfl) (aY (i:=1) (xs:=ms.map .int) (by show some (some (D.lst .av (aK (ms.map .int))))=_;rw[aM]) (aj ms))).trans ?_,rfl⟩;rw[nH];rfl) (by rw[Qs,pl.length_eq];omega)
 rw[aM,Q5]at e1;refine iY (d:=.bl (qx ms v)) ((bO (bf e1)).trans ?_) rfl;have e2:ls.map ((λ d=>match d with|.int x=>D.bl (decide (x∈ms))|d=>d)∘D.int)=(ls.map λ x=>decide (x∈ms)).map D.bl:=by rw[Q5];rfl
 rw[e2];show(match pJ ((ls.map λ x=>decide (x∈ms)).map D.bl) with|some bs=>Res.ok (D.bl (bs.any id))|none=>.bad)=_;rw[qO];show Res.ok (D.bl ((ls.map λ x=>decide (x∈ms)).any id))=_
 congr 2
 rw[List.any_map];unfold qx;exact pl.any_eq
def A6(hg:v.good)(hl:v.ah.length<=24):bJ [v.d,.lst .av (ms.map .int)]=.ok (.lst .own (dL (v.bR.filter (qx ms)))):=by
 refine bN (τ:=[some v.d,some #[94]]) rfl rfl ?_;unfold eE;have eb:aF dS #[144] [some v.d,some #[94]]=.ok (.tup (dL v.bR)):=cT (bf (bA rfl v.pure)) (by rw[sd];exact rR v) (aT _);obtain⟨hb1,hb2⟩:=k6 hg hl;have hit:=AU eb (aT v.bR);have key:∀ bs:List Wd,(∀ b∈bs,b.good/\b.ah.length<=24)->∀ o:Option D,gE (gN 0) aV bb (dL bs) (o::[some #[94]])=.ok (dL (bs.filter (qx ms))):=λ bs=>by
  induction bs with
  |nil=>intro _ o;rfl
  | cons b r ih =>
   intro h o;have c1:aV [some b.d,some #[94]]=.ok (qx ms b):=by
    unfold aV;refine fF (cT (ds:=[b.d,.lst .av (ms.map .int)]) (aH (bA rfl b.pure) (bf (aY rfl (aj ms)))) ?_ rfl);show iG [b.d.av,.lst .av (aK (ms.map .int))]=_;rw[cz _ b.pure,aM];exact Ju (h b Qx).1 (h b Qx).2
   have e1:bb [some b.d,some #[94]]=.ok b.d:=bA rfl b.pure;have hr:=ih (λ b' m=>h b' (Qw _ m)) (some b.d);show((aV [some b.d,some #[94]]).bind λ t=>if t=true then (bb [some b.d,some #[94]]).bind λ x=>if x.aN=true then .bad else (gE (gN 0) aV bb (dL r) [some b.d,some #[94]]).bind λ xs=>.ok (x::xs) else gE (gN 0) aV bb (dL r) [some b.d,some #[94]])=_;rw[c1,Res.aU];cases ht:qx ms b with
   | false =>
    rw[QK Qy,hr,U8,ht,QK Qy]
   | true =>
    rw[QG rfl,e1,Res.aU,aQ _ b.pure,QK Qy,hr,Res.aU,U8,ht,QG rfl];rfl
 have k:=key v.bR (λ b m=>⟨(hb2 b m).1,(hb2 b m).2.1⟩) none;refine jQ ?_ (bg (aT _));unfold cu;rw[hit,Res.aU];show(match gE (gN 0) aV bb (aK (dL v.bR)) (none::[some (D.lst .av (aK (ms.map .int)))]) with|.ok xs=>if xs.length<=16777216 then Res.ok (D.lst .own (if (false||kN _ [("members",1)])=true then ig xs else xs)) else .bad|_=>.bad)=_;rw[br _ (aT _),aM,k];show(if (dL (v.bR.filter (qx ms))).length<=16777216 then _ else _)=_;rw[QG (by rw[gg];have:=RO (qx ms) v.bR;omega),eO _ (aT _),ite_self]
end
def lL (ls qs:#[6])(o:#[91]):SD:=[some (.lst .av #[108]),some (.lst .av (qs.map .int)),o]
section
variable {ls:#[6]}
def Jq {q:Int}:dz (fB ca) (aa (ae 0) #[154]) (lL ls qs (some (.int q)))=if q∈ls then .ok .bW else .dY (ca "NoPlace"):=
 qA (aH (aY rfl (aj ls)) (bf rfl)) (PH ls q) (by show fB ca [.lst .av (aK #[108]),.int q]=_;rw[aM];exact GH ca ls q)
def sW:∀ (R:#[6]) (o:#[91]),((∀ q∈R,q∈ls)->∃ o',fm (gN 2) (cK ca) (R.map .int) (lL ls qs o)=.nx (lL ls qs o'))/\(¬ (∀ q∈R,q∈ls)->∃ t,fm (gN 2) (cK ca) (R.map .int) (lL ls qs o)=.ex (ca "NoPlace") t)
 |[],o=>⟨λ _=>⟨o,rfl⟩,λ h=>absurd (λ q hq=>by cases hq) h⟩
 | q::R,o=>by
  obtain⟨i1,i2⟩:=sW R (some (.int q));have c:=Jq ca (ls:=ls) (qs:=qs) (q:=q);by_cases hq:q∈ls
  ·rw[QG hq]at c;have st:fm (gN 2) (cK ca) ((q::R).map .int) (lL ls qs o)=fm (gN 2) (cK ca) (R.map .int) (lL ls qs (some (.int q))):=
    Jr (τ':=lL ls qs (some (.int q))) rfl (yc c)
   rw[st];refine⟨λ h=>i1 λ x hx=>h x (Qw _ hx),λ h=>i2 λ z=>h λ x hx=>?_⟩;rcases QA.mp hx with rfl|hx
   ·exact hq
   ·exact z x hx
  ·rw[QK hq]at c;exact⟨λ h=>absurd (h q Qx) hq,λ _=>⟨_,Jt (τ':=lL ls qs (some (.int q))) rfl (Cc c)⟩⟩
def A5:gM [1] (jo (ae 1)) (gN 2) (cK ca) (lL ls qs none)=fm (gN 2) (cK ca) (qs.map .int) (lL ls qs none):=by
 have hf:fj [1] (lL ls qs none)=lL ls qs none:=by
  show [some (D.lst .av #[108]),some (.lst .av (aK (qs.map .int))),none]=_;rw[aM];rfl
 refine(fO hf (jX (aY (xs:=qs.map .int) rfl (aj qs)) #[10] (aj qs))).trans ?_;rw[aM]
def Ob{t:Tg}(h:f τ=.ok (.lst t (qs.map .int)))(hl:qs.length<64):gD oM f τ=.ok (.lst .own ((sortI (L2.dd qs)).map .int)):=by
 unfold gD;rw[h,Res.aU];show(match intsOf (qs.map D.int) with|some ns=>if ns.length<64 then Res.ok (D.lst .own ((sortI (L2.dd ns)).map D.int)) else .bad|none=>.bad)=_;rw[iu];show(if qs.length<64 then Res.ok (D.lst .own ((sortI (L2.dd qs)).map D.int)) else .bad)=_;rw[QG hl]
def A4 (h1:∀ q∈qs,q∈ls)(h2:qs≠[])(hl:qs.length<64):cy ca [.lst .av #[108],.lst .av (qs.map .int)]=.ok (.lst .own ((sortI (L2.dd qs)).map .int)):=by
 obtain⟨o,e⟩:=(sW ca (ls:=ls) (qs:=qs) qs none).1 h1;refine bN (τ:=lL ls qs none) rfl rfl ?_;unfold gm;rw[aA ((A5 ca).trans e)];have v1:ae 1 (lL ls qs o)=.ok (.lst .av (qs.map .int)):=aY rfl (aj qs);have t:=gW (cX v1) (g:=eC (.int 0)) (b:=0) rfl;rw[QF (by rw[Qs];cases qs with|nil=>exact absurd rfl h2|cons _ _=>simp only[QP];omega)]at t;rw[jF t];exact jQ (Ob v1 hl) (bg (aj _))
def yd:cy ca [.lst .av #[108],.lst .av (([]:#[6]).map .int)]=.dY (ca "NoSet"):=by
 obtain⟨o,e⟩:=(sW ca (ls:=ls) (qs:=[]) [] none).1 (λ q hq=>by cases hq);refine oR (τ:=lL ls [] none) (t:=lL ls [] o) rfl rfl ?_;unfold gm;rw[aA ((A5 ca).trans e)];have v1:ae 1 (lL ls [] o)=.ok (.lst .av (([]:#[6]).map .int)):=aY rfl (aj []);have t:=gW (cX v1) (g:=eC (.int 0)) (b:=0) rfl;exact Oc t
def zI (h:¬ ∀ q∈qs,q∈ls):cy ca [.lst .av #[108],.lst .av (qs.map .int)]=.dY (ca "NoPlace"):=by
 obtain⟨t,e⟩:=(sW ca (ls:=ls) (qs:=qs) qs none).2 h;refine oR (τ:=lL ls qs none) (t:=t) rfl rfl ?_;unfold gm;exact qz ((A5 ca).trans e)
end
variable (ca:PySem.Str->PySem.Addr)
open DL PySem XF
def A7 {α:Type}{P:α->Bool}{bs:List α}{b:α}(hb:bs[i]?=some b)(h:P b=true)(hu:∀ j b',bs[j]?=some b'->P b'=true->j=i):bs.filter P=[b]:=by
 have hi:=(Qt.mp hb).1;have e:bs=bs.take i++b::bs.drop (i+1):=by
  conv=>lhs;rw[<-Rv i bs,R9 hi]
  rw[Qo hi]at hb;cases hb;rfl
 have n1:(bs.take i).filter P=[]:=T7.mpr λ a m z=>by
  obtain⟨j,hj⟩:=Rf m;have hlt:=(Qt.mp hj).1;rw[RA]at hlt;rw[SM #[1]]at hj;have:=hu j a hj z;omega
 have n2:(bs.drop (i+1)).filter P=[]:=T7.mpr λ a m z=>by
  obtain⟨j,hj⟩:=Rf m;rw[List.getElem?_drop]at hj;have:=hu _ a hj z;omega
 rw[e,TJ,n1,U8,h,QG rfl,n2];rfl
def zK(hn:v.ah.Nodup)(h0:S≠[])(hS:∀ p∈S,p∈v.ah):(∀ b,v.bR.filter (qx S)=[b]->∀ p∈S,p∈b.ah)/\((∃ b∈v.bR,∀ p∈S,p∈b.ah)->∃ b,v.bR.filter (qx S)=[b]):=by
 constructor
 ·intro b e p m;have hL:v.yf=false:=by
   cases v with
   |leaf a=>cases e|_=>rfl
  have hn':=hS p m;rw[<-dW hL]at hn';obtain⟨i,b',hb',hp⟩:=fW hn';have mb:b'∈v.bR.filter (qx S):=Q3.mpr ⟨QN hb',qw.mpr ⟨p,m,hp⟩⟩;rw[e]at mb;rw[<-QM.mp mb];exact hp
 ·rintro⟨b,mb,hb⟩;obtain⟨q,mq⟩:=RJ _ h0;obtain⟨i,hi⟩:=Rf mb;refine⟨b,A7 hi (qw.mpr ⟨q,mq,hb q mq⟩) λ j b' hj ht=>?_⟩;obtain⟨p,mp,hp⟩:=qw.mp ht;have hn':=hn;rw[<-dW (ky mb)]at hn';exact B7 hn' hj hi hp (hb p mp)
def GI {α β:Type}(f:α->List β){a b:List α}(h:a.Sublist b):(a.flatMap f).Sublist (b.flatMap f):=by
 induction h with
 |slnil=>exact .refl _|cons x _ ih=>rw[RX];exact ih.trans (QZ _ _)|cons_cons x _ ih=>rw[RX,RX];exact(Rm _).append ih
def GJ (w:Wd)(S:#[6])(ms:#[6])(v:Wd):SD:=[some w.d,some #[25],some (.lst .own (ms.map .int)),some v.d,some (.lst .own (dL (v.bR.filter (qx ms))))]
section
def Cd{o:#[91]}(hg:v.good)(hl:v.ah.length<=24):aF bJ (aa (ae 3) #[154]) [some w.d,some #[25],some (.lst .own (ms.map .int)),some v.d,o]=.ok (.lst .own (dL (v.bR.filter (qx ms)))):=by
 refine iB (ds:=[v.d,.lst .bor (ms.map .int)]) (aH (bA rfl v.pure) (bf (aR rfl (aj ms)))) ?_ (fX (aT _));show bJ [v.d.av,.lst .av (aK (ms.map .int))]=_;rw[cz _ v.pure,aM];exact A6 hg hl
def Jv:dg ca (GJ w S ms v)=.ok (decide ((v.bR.filter (qx ms)).length=1)):=by
 unfold dg;rw[gW (cX (aR (xs:=dL (v.bR.filter (qx ms))) rfl (aT _))) (g:=eC (.int 1)) (b:=1) rfl,gg]
 congr 1
 rw[U9];omega
def zJ (hn:w.ah.Nodup)(hg:w.good)(hl:w.ah.length<=24)(h0:ms≠[]):∀ (m:Nat) (v:Wd),v.deep<=m->v∈w.subs->(∀ p∈ms,p∈v.ah) ->
  ∃ u,u∈w.subs/\(∀ p∈ms,p∈u.ah)/\(¬ ∃ b∈u.bR,∀ p∈ms,p∈b.ah)/\aS (dg ca) (cJ ca) (m+1) (GJ w S ms v)=.nx (GJ w S ms u)
 |0,v,hd,_,_=>by cases v<;>simp[Wd.deep]at hd
 | m+1,v,hd,mv,hv=>by
  have c:=Jv ca (w:=w) (S:=S) (ms:=ms) (v:=v);obtain⟨o1,o2⟩:=zK (rz hn mv) h0 hv;by_cases h1:(v.bR.filter (qx ms)).length=1
  ·obtain⟨b,eb⟩:=T6.mp h1;have mb:b∈v.bR:=(Q3.mp (by rw[eb];exact Qx:b∈v.bR.filter (qx ms))).1;have mbs:b∈w.subs:=jm (Pr:=λ x=>∀ u∈x.subs,u∈w.subs) (λ x y h m u mu=>h u (iS.mpr (.inr ⟨y,m,mu⟩))) _ (QD _) (λ u mu=>mu) v mv b (iS.mpr (.inr ⟨b,mb,qj b⟩));have gb:=qy hg mbs;have lb:b.ah.length<=24:=by
    have s1:=k6 (qy hg mv) (by
     have:v.ah.length<=w.ah.length:=(rz hn mv).length_le_of_subset λ x m=>gC w v mv x m;omega)
    exact(s1.2 b mb).2.1
   obtain⟨u,mu,hu,nu,e⟩:=zJ hn hg hl h0 m b (by have:=yb mb;omega) mbs (o1 b eb);refine⟨u,mu,hu,nu,?_⟩;rw[QO h1]at c;rw[aS,c];have s1:cJ ca (GJ w S ms v)=.nx (GJ w S ms b):=by
    unfold cJ;have i0:ai bB (ae 4) #[147] (GJ w S ms v)=.ok b.d:=bq (aR (xs:=dL (v.bR.filter (qx ms))) rfl (aT _)) rfl (eF (j:=0) rfl (by rw[eb];rfl));rw[aA (aG i0 (aQ _ b.pure))];exact aG (Cd gb lb) (bg (aT _))
   show(match cJ ca (GJ w S ms v) with|.nx t=>aS (dg ca) (cJ ca) (m+1) t|.ct t=>aS (dg ca) (cJ ca) (m+1) t|.bk t=>Fl.nx t|o=>o)=_;rw[s1];exact e
  ·refine⟨v,mv,hv,λ z=>?_,?_⟩
   ·obtain⟨b,eb⟩:=o2 z;rw[eb]at h1;exact h1 rfl
   ·rw[QF h1]at c;rw[aS,c];rfl
end
section
def mU (hg:w.good)(hp:w.ah.Perm ps)(hu:ps.Pairwise (· < ·))(hl:ps.length<=24)(h0:S≠[])(hS:∀ p∈S,p∈ps)(h64:S.length<64) :
  bz ca [w.d,.lst .av #[159]]=.ok (.lst .own ((sA #[99] w ps S).map .int))/\∃ R,GF #[99] w S R:=by
 have hn:w.ah.Nodup:=hp.nodup_iff.mpr (jI hu);have hwl:w.ah.length<=24:=by rw[hp.length_eq];exact hl
 obtain⟨ls,pl,el⟩:=Js (r:=[some #[25],none,none,none]) hg hwl;have mm:∀ x,x∈sortI (L2.dd S)↔x∈S:=λ x=>(sortI_perm _).mem_iff.trans (Mv S x);have c1:dz (cy ca) (aa (aF dP #[144]) #[50]) [some w.d,some #[25],none,none,none]=.ok (.lst .own (#[193].map .int)):=by
  refine qA (ds:=[.lst .own #[108],.lst .av #[159]]) (aH el (bf (aY rfl (aj S)))) ?_ ?_
  ·show((false||aJ #[108])||((false||aJ #[159])||false))=false;rw[dJ,dJ];rfl
  ·show cy ca [.lst .av (aK #[108]),.lst .av (aK #[159])]=_;rw[aM,aM];exact A4 ca (λ q m=>pl.mem_iff.mpr (hp.mem_iff.mpr (hS q m))) h0 h64
 have hms0:sortI (L2.dd S)≠[]:=λ e=>by
  obtain⟨q,mq⟩:=RJ _ h0;have:=(mm q).mpr mq;rw[e]at this;cases this
 obtain⟨u,mu,hu1,hu2,ew⟩:=zJ ca (S:=S) hn hg hwl hms0 w.deep w (QD _) (qj w) λ p m=>hp.mem_iff.mpr (hS p ((mm p).mp m));have L0:=Mt (Jm hn) hn hg mu hms0 hu1 hu2;have L1:GF #[99] w S (u.MQ #[193]):=⟨λ p m=>L0.sup p ((mm p).mpr m),L0.ins,L0.md,λ M hM h p m=>L0.low M hM (λ q mq=>h q ((mm q).mp mq)) p m⟩;refine⟨bN (τ:=[some w.d,some #[25],none,none,none]) rfl rfl ?_,_,L1⟩;have gu:=qy hg mu;have lu:u.ah.length<=24:=by
  have:u.ah.length<=w.ah.length:=(rz hn mu).length_le_of_subset λ x m=>gC w u mu x m;omega
 unfold iF;rw[aA (aG c1 (bg (aj _)))];show aE _ _ [some w.d,some #[25],some (.lst .own (#[193].map .int)),none,none]=_;rw[aA (aG (d:=w.d) (bA rfl w.pure) (aQ _ w.pure))];show aE _ _ [some w.d,some #[25],some (.lst .own (#[193].map .int)),some w.d,none]=_;rw[aA (aG (Cd hg hwl) (bg (aT _)))];show aE _ _ (GJ w S #[193] w)=_;rw[aA ((ir (n:=w.deep+1) (by rw[ew];exact Fl.noConfusion)).trans ew)];refine jQ (d:=.lst .own ((sA #[99] w ps S).map .int)) ?_ (bg (aj _));have cf:eT (aF nC #[113]) (GJ w S #[193] u)=.ok u.OD:=fF (cT (ds:=[u.d]) (bf (bA rfl u.pure)) (by rw[sd];exact DG u) rfl);have up:=zE (c:=iU w.deep w) (w:=w) (S:=S) hu;unfold NC;rw[cf];cases hF:u.OD with
 | true =>
  have er:u.MQ #[193]=ao (u.bR.filter (qx #[193])):=by unfold Wd.MQ;rw[hF,QG rfl]
  have nb:(ao (u.bR.filter (qx #[193]))).Nodup:=by
   have:=rz hn mu;have hL:u.yf=false:=by cases u with
    |leaf a=>cases hF|_=>rfl
   rw[<-dW hL,aO]at this;rw[aO];exact this.sublist (GI _ Tn)
  rw[er]at L1;have pm:=L1.perm hp hu nb;show aF dM #[134] (GJ w S #[193] u)=_;refine iB (ds:=[.lst .bor (dL (u.bR.filter (qx #[193])))]) (bf (aR rfl (aT _))) ?_ (fX (aj _));show dM [.lst .av (aK (dL _))]=_;rw[br _ (aT _)];refine zH ((bo _).mpr λ b m=>(bo _).mp (zo gu) b (Q3.mp m).1) ?_ pm up;rw[pm.length_eq];exact QX (RO _ _) hl
 | false =>
  have er:u.MQ #[193]=u.ah:=by unfold Wd.MQ;rw[hF,QK Qy]
  rw[er]at L1;have pm:=L1.perm hp hu (rz hn mu);show aF cZ #[113] (GJ w S #[193] u)=_;exact cI (ds:=[u.d]) (bf (bA rfl u.pure)) (by rw[sd];exact rT gu lu pm up) (Jf u)
def wM(hg:w.good)(hwl:w.ah.length<=24)(hc:∀ ls:List Int,ls.Perm w.ah->cy ca [.lst .av #[108],.lst .av #[159]]=.dY C):bz ca [w.d,.lst .av #[159]]=.dY C:=by
 obtain⟨ls,pl,el⟩:=Js (r:=[some #[25],none,none,none]) hg hwl;have c1:dz (cy ca) (aa (aF dP #[144]) #[50]) [some w.d,some #[25],none,none,none]=.dY C:=by
  refine qA (ds:=[.lst .own #[108],.lst .av #[159]]) (aH el (bf (aY rfl (aj S)))) ?_ ?_
  ·show((false||aJ #[108])||((false||aJ #[159])||false))=false;rw[dJ,dJ];rfl
  ·show cy ca [.lst .av (aK #[108]),.lst .av (aK #[159])]=_;rw[aM,aM];exact hc ls pl
 refine oR (τ:=[some w.d,some #[25],none,none,none]) (t:=[some w.d,some #[25],none,none,none]) rfl rfl ?_;unfold iF;refine qz ?_;unfold aL;rw[c1];rfl
def Ql{t:Tg}{r:Res D}(h0:τ[i]?=some (some w.d))(h1:g τ=.ok (.lst t #[159]))(ht:t ≠ .bor)(hG:bz ca [w.d,.lst .av #[159]]=r):dz (bz ca) (aa (ae i) (aa g ak)) τ=r:=by
 refine qA (ds:=[w.d,.lst t #[159]]) (aH (bA h0 w.pure) (bf h1)) ?_ ?_
 ·show(w.d.aN||((decide (t=.bor)||aJ #[159])||false))=false;rw[aQ _ w.pure,dJ,QF ht];rfl
 ·show bz ca [w.d.av,.lst .av (aK #[159])]=r;rw[cz _ w.pure,aM];exact hG
end
def zM (w:Wd):uJ (fG w ps):=λ i r h=>by
 have hi:i<ps.length:=by have:=(Qt.mp h).1;simpa[fG] using this
 unfold fG at h;rw[QB,Ry hi]at h;cases h;unfold rowOf;rw[Qs,RA];omega
def zL (w:Wd)(ps:#[6]):(fG w ps).length=ps.length:=by unfold fG;rw[Qs,Q6]
def qB (w:Wd){x:Nat}(hx:x<ps.length)(hy:y<ps.length)(hne:x≠y):col (fG w ps) x y=iU w.deep w (ps.getD x 0) (ps.getD y 0):=by
 have at_:∀ i j,i<ps.length->j<i->col (fG w ps) i j=iU w.deep w (ps.getD i 0) (ps.getD j 0):=λ i j hi hji=>by
  have er:(fG w ps)[i]?=some (rowOf w ps i):=by unfold fG;rw[QB,Ry hi];rfl
  have ec:(rowOf w ps i)[j]?=some (iU w.deep w (ps.getD i 0) (ps.getD j 0)):=by
   unfold rowOf;rw[QB,SM hji,Qq (i:=j),Qo (show j<ps.length by omega)];rfl
  unfold col;rw[Uo #[1],Te #[1],Qq,Qq,er,Sa,ec];rfl
 rcases S1 hne with l|l
 ·rw[uR,at_ y x hy l,zp]
 ·exact at_ x y hx l
open DL PySem XF
def iC (rows:#[187])(got:#[118])(out:D)(a:Nat)(left x:#[91]):SD:=[some (.tup (rD rows)),some (.lst .own (is got)),some out,some (.int a),left,x]
def P7:ae 0 (some (.tup (rD rows))::r)=.ok (.tup (rD rows)):=bA rfl (qq rows)
def Oe(ht:uJ rows){left:#[118]}{out:D}{x z:Nat}(hy:got[a]?=some y)(hz:got[0]?=some z)(hxy:x≠y)(hxz:x≠z)(hx:x<rows.length)(hyl:y<rows.length)(hzl:z<rows.length)(h1:got.length<16777216)(h2:left.length<16777216) :
  g_Lgrown_b1 #[180]=.nx (if col rows x y=col rows x z then iC rows got out a (some (.lst .own (is (left++[x])))) #[125] else iC rows (got++[x]) out a #[43] #[125]):=by
 have w1:ae 1 #[180]=.ok (.lst .bor (is got)):=aR rfl (bQ got);have w5:ae 5 #[180]=.ok (.int x):=rfl;have ga:ai bB (ae 1) (ae 3) #[180]=.ok (.int y):=bq w1 (show ae 3 _=.ok (.int a) from rfl) (eF (j:=a) rfl (by simp[is,hy]));have g0:ai bB (ae 1) #[147] #[180]=.ok (.int z):=bq w1 rfl (eF (j:=0) rfl (by simp[is,hz]));have w0:ae 0 #[180]=.ok (.tup (rD rows)):=P7;have cc:=F9 (zq ht w0 w5 ga hxy hx hyl) (zq ht w0 w5 g0 hxz hx hzl);unfold g_Lgrown_b1;by_cases hb:col rows x y=col rows x z
 ·rw[QO hb]at cc;rw[QG hb,gZ cc,iz (xs:=is left) (d:=.int x) rfl w5 rfl (by rw[iA];exact h2)];unfold iC;rw[nI];rfl
 ·rw[QF hb]at cc;rw[QK hb,ju cc,iz (xs:=is got) (d:=.int x) rfl w5 rfl (by rw[iA];exact h1)];unfold iC;rw[nI];rfl
def Od(ht:uJ rows){out:#[118]}{t:Tg}{z:Nat}{o4 o5:#[91]}(hy:got[a]?=some y)(hz:got[0]?=some z)(hn:(got++out).Nodup)(hb:∀ x∈got++out,x<rows.length)(hL:(got++out).length<16777216) :
  ∃ p5,g_Lgrown_b3 (iC rows got #[80] a o4 o5)=.nx (iC rows (got++out.filter λ x=>!decide #[62]) (.lst .av (is (out.filter λ x=>decide #[62]))) (a+1) (some (.lst .av (is (out.filter λ x=>decide #[62])))) p5):=by
 have hLL:=hL;rw[Qv]at hLL;obtain⟨_,_,hdis⟩:=QL.mp hn;have my:=QN hy;have mz:=QN hz;have ha:=(Qt.mp hy).1;have ha0:=(Qt.mp hz).1;unfold g_Lgrown_b3;have s1:aL 4 (eA bw ak) (iC rows got #[80] a o4 o5)=.nx (iC rows got #[80] a #[76] o5):=aG rfl rfl;rw[aA s1];have hf:fj [2] (iC rows got #[80] a #[76] o5)=iC rows got #[185] a #[76] o5:=by
  show iC rows got (.lst .av (aK (is out))) a #[76] o5=_;rw[oQ]
 have hi:jo (ae 2) (iC rows got #[185] a #[76] o5)=.ok (false,is out):=jX (aY rfl (bQ out)) #[10] (bQ out);obtain⟨τ,e1,o,e2⟩:=eu (tg:=gN 5) (body:=g_Lgrown_b1) (ds:=is out) (λ i τ=>∃ o,τ=iC rows (got++(out.take i).filter λ x=>!decide #[62]) #[185] a (some (.lst .own (is ((out.take i).filter λ x=>decide #[62])))) o) 0 (iC rows got #[185] a #[76] o5) ⟨o5,by rw[List.take_zero,List.filter_nil,List.filter_nil,QQ]⟩ λ j d τ hd hP=>by
  obtain⟨o,rfl⟩:=hP;rw[Ro]at *;obtain⟨x,hx,rfl⟩:∃ x,out[j]?=some x/\d=.int x:=by
   rw[QB,QB]at hd;cases e:out[j]? with
   |none=>rw[e]at hd;cases hd|some b=>rw[e]at hd;cases hd;exact⟨b,rfl,rfl⟩
  have mx:x∈out:=QN hx;have et:out.take (j+1)=out.take j++[x]:=by rw[SK,hx];rfl
  have l1:=RO (λ x=>!decide #[62]) (out.take j);have l2:=RO (λ x=>decide #[62]) (out.take j);rw[RA]at l1 l2;have hs:=Oe ht (got:=got++(out.take j).filter λ x=>!decide #[62]) (left:=(out.take j).filter λ x=>decide #[62]) (out:=.lst .av (is out)) (a:=a) (x:=x) (y:=y) (z:=z) (by rw[Ri ha];exact hy) (by rw[Ri ha0];exact hz)
   (λ e=>hdis _ my _ mx e.symm) (λ e=>hdis _ mz _ mx e.symm) (hb x (QJ _ mx)) (hb _ (QR _ my)) (hb _ (QR _ mz)) (by rw[Qv];omega) #[1]
  refine⟨_,_,rfl,.inl hs,some (.int x),?_⟩;rw[et,TJ,TJ];by_cases hc:col rows x y=col rows x z
  ·rw[QG hc];simp[hc]
  ·rw[QK hc];simp[hc]
 rw[Ro,iA,SW]at e2;refine⟨o,?_⟩;rw[aA ((fO hf hi).trans (by rw[oQ];exact e1)),e2];generalize (got++out.filter λ x=>!decide #[62])=g2;generalize (out.filter λ x=>decide #[62])=left;have s2:HZ [4] (aL 2 (ae 4)) (iC rows g2 #[185] a #[43] o)=.nx (iC rows g2 (.lst .av (is left)) a (some (.lst .av (is left))) o):=by
  show aL 2 (ae 4) (iC rows g2 #[185] a (some (.lst .av (aK (is left)))) o)=_;rw[oQ];exact aG (aY rfl (bQ left)) (by show(false||aJ (is left))=false;rw[cB _ (bQ left)];rfl)
 rw[aA s2];exact aG (d:=.int ((a+1:Nat):Int)) (show _=Res.ok (D.int ((a:Int)+1)) from dB rfl rfl) rfl
def Ce{out:D}{o4 o5:#[91]}:g_Lgrown_w2 (iC rows got out a o4 o5)=.ok (decide (a<got.length)):=by
 unfold g_Lgrown_w2;rw[oO (show ae 3 _=.ok (.int a) from rfl) (cX (aR (xs:=is got) rfl (bQ got))),iA]
 congr 1
 rw[U9];omega
def GK(ht:uJ rows)(hN:rows.length<=24):∀ (m:Nat) {got out:#[118]}{t:Tg}{a:Nat}{o4 o5:#[91]},(got++out).Perm #[77]->(∀ x∈out,∀ i y z,i<a->got[i]?=some y->got[0]?=some z->col rows x y=col rows x z)->rows.length<=a+m ->
  ∃ got' r,got'.Nodup/\(∀ x∈got',x<rows.length)/\(∀ x∈got,x∈got')/\#[167]/\sO rows.length (col rows) (· ∈ got')/\aS g_Lgrown_w2 g_Lgrown_b3 (m+1) (iC rows got #[80] a o4 o5)=.nx (some (.tup (rD rows))::some (.lst .own (is got'))::r):=by
 intro m
 induction m with
 | zero =>
  intro got out t a o4 o5 hp hJ hm;have hlen:=hp.length_eq;rw[Qv,Q6]at hlen;have nd:=hp.nodup_iff.mpr Sb;have c:=Ce (rows:=rows) (got:=got) (out:=.lst t (is out)) (a:=a) (o4:=o4) (o5:=o5);rw[QF #[1]]at c;refine⟨got,[some #[80],some (.int a),o4,o5],(QL.mp nd).1,λ x m=>QU.mp (hp.mem_iff.mp (QR _ m)),λ x m=>m,λ M _ h=>h,λ x hx nx y z hy hz my mz=>?_,?_⟩
  ·have mo:x∈out:=(QH.mp (hp.mem_iff.mpr (QU.mpr hx))).resolve_left nx;obtain⟨i,hi⟩:=Rf my;obtain⟨k,hk⟩:=Rf mz;have li:=(Qt.mp hi).1;have lk:=(Qt.mp hk).1;have e0:got[0]?=some got[0]:=Qo #[1];rw[hJ x mo i y _ #[1] hi e0,hJ x mo k z _ #[1] hk e0]
  ·rw[aS,c];rfl
 | succ m ih =>
  intro got out t a o4 o5 hp hJ hm;have hlen:=hp.length_eq;rw[Qv,Q6]at hlen;have nd:=hp.nodup_iff.mpr Sb;have hb:∀ x∈got++out,x<rows.length:=λ x m=>QU.mp (hp.mem_iff.mp m);have c:=Ce (rows:=rows) (got:=got) (out:=.lst t (is out)) (a:=a) (o4:=o4) (o5:=o5);by_cases ha:a<got.length
  ·rw[QO ha]at c;have ey:got[a]?=some got[a]:=Qo ha;have ez:got[0]?=some got[0]:=Qo #[1];have my:got[a]∈got:=QW ha;have mz:got[0]∈got:=QW #[1];obtain⟨p5,hs⟩:=Od ht (t:=t) (o4:=o4) (o5:=o5) ey ez nd hb (by rw[Qv];omega);have hp2:((got++out.filter λ x=>!decide (col rows x got[a]=col rows x got[0]))++out.filter λ x=>decide (col rows x got[a]=col rows x got[0])).Perm #[77]:=by
    refine List.Perm.trans ?_ hp;rw[QY];refine(RZ got).append (Ub.trans ?_);exact List.filter_append_perm (λ x=>decide (col rows x got[a]=col rows x got[0])) out
   obtain⟨g2,r,n2,b2,s2,M2,d2,h2⟩:=ih (t:=.av) (a:=a+1) (o4:=some (.lst .av (is (out.filter λ x=>decide (col rows x got[a]=col rows x got[0]))))) (o5:=p5) hp2 (λ x mx i y z hi hy hz=>by
    obtain⟨mx1,mx2⟩:=Q3.mp mx;rw[Ri #[1]]at hy hz;by_cases hia:i<a
    ·exact hJ x mx1 i y z hia hy hz
    ·have e:i=a:=by omega
     subst e;rw[ey]at hy;rw[ez]at hz;cases hy;cases hz;exact R8 mx2) (by omega)
   refine⟨g2,r,n2,b2,λ x m=>s2 x (QR _ m),λ M hM h0=>M2 M hM λ x mx=>?_,d2,?_⟩
   ·rcases QH.mp mx with mx|mx
    ·exact h0 x mx
    ·obtain⟨mx1,mx2⟩:=Q3.mp mx;have hne:¬ col rows x got[a]=col rows x got[0]:=by simpa using mx2
     exact QS λ nM=>hne (hM x (hb x (QJ _ mx1)) nM _ _ (hb _ (QR _ my)) (hb _ (QR _ mz)) (h0 _ my) (h0 _ mz))
   ·rw[aS,c];show(match g_Lgrown_b3 (iC rows got #[80] a o4 o5) with|.nx t=>aS g_Lgrown_w2 g_Lgrown_b3 (m+1) t|.ct t=>aS g_Lgrown_w2 g_Lgrown_b3 (m+1) t|.bk t=>Fl.nx t|o=>o)=_;rw[hs];exact h2
  ·rw[QF ha]at c;refine⟨got,[some #[80],some (.int a),o4,o5],(QL.mp nd).1,λ x m=>hb x (QR _ m),λ x m=>m,λ M _ h=>h,λ x hx nx y z hy hz my mz=>?_,?_⟩
   ·have mo:x∈out:=(QH.mp (hp.mem_iff.mpr (QU.mpr hx))).resolve_left nx;obtain⟨i,hi⟩:=Rf my;obtain⟨k,hk⟩:=Rf mz;have li:=(Qt.mp hi).1;have lk:=(Qt.mp hk).1;have e0:got[0]?=some got[0]:=Qo #[1];rw[hJ x mo i y _ #[1] hi e0,hJ x mo k z _ #[1] hk e0]
   ·rw[aS,c];rfl
def wN(ht:uJ rows)(hr:rows.length<=24)(hn:got.Nodup)(hb:∀ x∈got,x<rows.length):∃ ns:List Nat,ns.Nodup/\(∀ x∈ns,x<rows.length)/\(∀ x∈got,x∈ns)/\(∀ M,sO rows.length (col rows) M->(∀ x∈got,M x)->∀ x∈ns,M x)/\sO rows.length (col rows) (· ∈ ns)/\G_Lgrown [.tup (rD rows),.lst .own (is got)]=.ok (.lst .own (is ns)):=by
 let out:List Nat:=#[77].filter λ x:Nat=>!decide ((x:Int)∈got.map λ n:Nat=>(n:Int))
 have ho:∀ x,x∈out↔x<rows.length/\x∉got:=λ x=>by
  rw[Q3,QU];have:((x:Int)∈got.map λ n:Nat=>(n:Int))↔x∈got:=by
   rw[QE];exact⟨λ ⟨n,m,e⟩=>by rw[<-(by omega:n=x)];exact m,λ m=>⟨x,m,rfl⟩⟩
  simp[this]
 have hp:(got++out).Perm #[77]:=by
  refine(UM (QL.mpr ⟨hn,UK Tn Sb,λ a ma b mb e=>((ho b).mp mb).2 (e▸ma)⟩) Sb).mpr λ x=>?_;rw[QH,ho,QU];exact⟨λ h=>h.elim (hb x) λ h=>h.1,λ h=>(Classical.em (x∈got)).imp id λ n=>⟨h,n⟩⟩
 obtain⟨ns,r,nn,nb,nS,nM,nD,hw⟩:=GK ht hr 26 (got:=got) (out:=out) (t:=.own) (a:=1) (o4:=none) (o5:=none) hp (λ x _ i y z hi hy hz=>by
  have:i=0:=by omega
  subst this;rw[hy]at hz;cases hz;rfl) (by omega)
 refine⟨ns,nn,nb,nS,nM,nD,bN (τ:=[some (.tup (rD rows)),some (.lst .own (is got)),none,none,none,none]) rfl rfl ?_⟩;unfold g_Lgrown;have hlen:eA bP #[144] [some (.tup (rD rows)),some (.lst .own (is got)),none,none,none,none]=.ok (.int (rows.length:Nat)):=by
  rw[bO (bf (P7 (rows:=rows)))];show Res.ok (D.int ((rD rows).length:Nat))=_;unfold rD;rw[Qs]
 have hit:bV #[85] [some (.tup (rD rows)),some (.lst .own (is got)),none,none,none,none]=.ok (false,#[77].map λ k:Nat=>.int k):=fV hlen #[1];have s1:=kg (tt:=g_Lgrown_c4) (elt:=g_Lgrown_e5) (cap:=[("_law_got",1)]) (λ d=>match d with|.int x=>!decide (x∈got.map λ n:Nat=>(n:Int))|_=>false) (λ d=>d) hit
  (λ d m=>by
   rw[cS]at m;obtain⟨n,_,rfl⟩:=QE.mp m;unfold g_Lgrown_c4;exact fF ((bC (show ae 0 _=.ok (.int (n:Int)) from rfl) (aY (i:=1) (xs:=(got.map λ n:Nat=>(n:Int)).map .int) (by show some (some (D.lst .av (aK (is got))))=_;rw[oQ]) (aj _))).trans (nH true n .av _)))
  (λ d m _=>by
   rw[cS]at m;obtain⟨n,_,rfl⟩:=QE.mp m;exact⟨rfl,rfl⟩) (by simp;omega)
 have eo:((aK (#[77].map λ k:Nat=>D.int k)).filter (λ d=>match d with|.int x=>!decide (x∈got.map λ n:Nat=>(n:Int))|_=>false)).map (λ d=>d)=is out:=by
  rw[cS,List.map_id',Tz];show _=(out.map _).map _;rw[Q5];rfl
 rw[eo]at s1;rw[aA (aG s1 (bg (bQ out)))];show aE (aL 3 #[142]) _ [some (.tup (rD rows)),some (.lst .own (is got)),some (.lst .own (is out)),none,none,none]=_;rw[aA (aG (d:=.int 1) rfl rfl)];show aE (fM _ _) _ (iC rows got (.lst .own (is out)) 1 none none)=_;rw[aA ((ir (n:=27) (by rw[hw];exact Fl.noConfusion)).trans hw)];rfl
def GN {j:Nat}{xs:List D}{d r:D}(h1:τ[j]?=some (some (.lst .own xs)))(h2:f τ=.ok d)(hd:d.pure=true)(hx:aX xs=true)(hG:G [d,.lst .own xs]=.ok r)(hb:r.aN=false):uo j G f τ=.ok (r,τ.set j none):=by
 unfold uo;rw[show gY τ j=some xs by unfold gY;rw[h1]];show(f τ).bind _=_;rw[h2,Res.aU,QG ⟨hd,hx⟩,hG,Res.aU,hb,QK Qy]
section
def GL (n:Nat)(h:n<ps.length)(hf:f (some (.int n)::some (gz w ps)::r)=.ok (.int n)):ai bB #[98] f (some (.int n)::some (gz w ps)::r)=.ok (.int (ps.getD n 0)):=
 bq (bq (bA (i:=1) rfl (cL w ps)) rfl (dj (j:=0) rfl rfl)) hf (dj (j:=n) rfl (by rw[QB,Qo h,Qq,Qo h];rfl))
def getD_mem(h:n<ps.length):ps.getD n 0∈ps:=by
 rw[Qq,Qo h];exact QW h
def getD_inj (hu:ps.Pairwise (· < ·)){j:Nat}(hi:i<ps.length)(hj:j<ps.length)(h:ps.getD i 0=ps.getD j 0):i=j:=by
 rw[Qq,Qo hi,Qq,Qo hj]at h;exact(Uc (jI hu)).mp h
end
variable (ca:PySem.Str->PySem.Addr)
def oS{fs:#[34]}{r:Res D}(ha:fs τ=.ok ds)(hG:G (aK ds)=r)(hr:∀ d,r=.ok d->d.dm=d):dz G fs τ=r:=by
 unfold dz;rw[ha];show v5 G ds=_;unfold v5;rw[hG];split
 ·cases r with
  |ok d=>show Res.ok d.dm=_;rw[hr d rfl]|dY C=>rfl|bad=>rfl
 ·rfl
def uU{t u:Tg}(hf:f τ=.ok (.lst t (A.map .int)))(hg:g τ=.ok (.lst u (B.map .int))):eT (ai (mh true) f g) τ=.ok (!decide (A=B)):=by
 refine fF ?_;rw[bC hf hg];unfold mh;simp only[iu];rw[Bool.true_xor]
def GO(ha:A.Pairwise (· < ·))(hb:B.Pairwise (· < ·))(h:∀ x,x∈A↔x∈B):A=B:=
 fD (qt (jI ha) (jI hb) h) (ha.imp λ z=>by omega) (hb.imp λ z=>by omega)
def GQ(ha:A.Nodup)(hb:B.Nodup)(h:∀ x∈A,x∈B)(hl:A.length=B.length):A.Perm B:=by
 refine qt ha hb λ x=>⟨h x,λ m=>QS λ n=>?_⟩;have:=(Q8.mpr ⟨n,ha⟩).length_le_of_subset (l₂:=B) λ y my=>(QA.mp my).elim (λ e=>e▸m) (h y);rw[QP]at this;omega
def sub_len(ha:A.Nodup)(hb:B.Nodup)(h:∀ x∈A,x∈B)(hl:B.length<=A.length):∀ x,x∈A↔x∈B:=by
 have:=ha.length_le_of_subset h;exact λ x=>(GQ ha hb h #[1]).mem_iff
structure DS (w w':Wd)(ps S C:List Int):Prop where
 up:C.Pairwise (· < ·)
 ins:∀ p∈C,p∈ps
 sup:∀ p∈S,p∈C
 m1:Mod #[99] w.ah C
 m2:Mod (iU w'.deep w') w'.ah C
 low:∀ T,Mod #[99] w.ah T->Mod (iU w'.deep w') w'.ah T->(∀ p∈S,p∈T)->∀ p∈C,p∈T
def DS.one{C C':#[6]}(a:DS w w' ps S C)(b:DS w w' ps S C'):C=C':=GO a.up b.up λ x=>⟨a.low C' b.m1 b.m2 b.sup x,b.low C a.m1 a.m2 a.sup x⟩
def uT{L:#[6]}(h:∀ x,x∈A↔x∈B)(m:Mod c L A):Mod c L B:=λ x hx nx y hy z hz=>m x hx (λ q=>nx ((h x).mp q)) y ((h y).mpr hy) z ((h z).mpr hz)
def GP{R:#[6]}(h:GF c w S R)(hp:w.ah.Perm ps):Mod c w.ah (sA c w ps S):=uT (h.mem hp) h.md
def GR:(sA c w ps S).length<=ps.length:=by unfold sA;exact RO _ _
def rA(h:A≠[])(s:∀ x∈A,x∈B):B≠[]:=λ e=>by
 obtain⟨q,mq⟩:=RJ _ h;have:=s q mq;rw[e]at this;cases this
def c5 (w w':Wd)(t:Tg)(S g h:#[6]):SD:=[some w.d,some w'.d,some (.lst t #[159]),some (.lst .own (g.map .int)),some (.lst .own (h.map .int))]
section
variable{t:Tg}
def Jx{L:#[6]}(h0:ae i τ=.ok v.d)(hf:f τ=.ok (.lst t (A.map .int)))(hG:bz ca [v.d,.lst .av (A.map .int)]=.ok (.lst .own (L.map .int))):dz (bz ca) (aa (ae i) (aa f ak)) τ=.ok (.lst .own (L.map .int)):=by
 refine oS (ds:=[v.d,.lst t (A.map .int)]) (aH h0 (bf hf)) ?_ λ d e=>by cases e;exact fX (aj _)
 show bz ca [v.d.av,.lst .av (aK (A.map .int))]=_;rw[cz _ v.pure,aM];exact hG
def Jy {g h:#[6]}:dN ca (c5 w w' t S g h)=.ok (!decide (h=g)):=uU (aR rfl (aj h)) (aR rfl (aj g))
def zN (hg:w.good)(hp:w.ah.Perm ps)(hg':w'.good)(hp':w'.ah.Perm ps)(hu:ps.Pairwise (· < ·))(hl:ps.length<=24):∀ (m:Nat) (g h:#[6]),ps.length+1<=m+g.length->g.Pairwise (· < ·)->(∀ p∈g,p∈ps)->g≠[]->Mod #[99] w.ah g->h=sA (iU w'.deep w') w' ps g->(∀ p∈S,p∈g) ->
  (∀ T,Mod #[99] w.ah T->Mod (iU w'.deep w') w'.ah T->(∀ p∈S,p∈T)->∀ p∈g,p∈T)->∃ C,DS w w' ps S C/\aS (dN ca) (cD ca) (m+1) (c5 w w' t S g h)=.nx (c5 w w' t S C C)
 | 0,g,h,hm,up,ins,_,_,_,_,_=>by
  have:=(jI up).length_le_of_subset ins;omega
 | m+1,g,h,hm,up,ins,ne,m1,eh,sup,low=>by
  have c:=Jy ca (w:=w) (w':=w') (t:=t) (S:=S) (g:=g) (h:=h);have hlen:=(jI up).length_le_of_subset ins;obtain⟨_,R,L⟩:=mU ca hg' hp' hu hl ne ins #[1];have uph:h.Pairwise (· < ·):=by rw[eh];exact zE hu
  have inh:∀ p∈h,p∈ps:=λ p q=>by rw[eh]at q;exact(mT.mp q).1
  have gh:∀ p∈g,p∈h:=λ p q=>by rw[eh];exact A3 ins q
  by_cases e:h=g
  ·refine⟨g,⟨up,ins,sup,m1,?_,low⟩,?_⟩
   ·have:=GP L hp';rw[<-eh,e]at this;exact this
   ·rw[QO e]at c;rw[aS,c,e];rfl
  ·have lh:=(jI uph).length_le_of_subset inh;have neh:=rA ne gh;obtain⟨e1,R1,L1⟩:=mU ca hg hp hu hl neh inh #[1];have ing:∀ p∈sA #[99] w ps h,p∈ps:=λ p q=>(mT.mp q).1;have hgl:∀ p∈h,p∈sA #[99] w ps h:=λ p q=>A3 inh q;have neg:=rA neh hgl;have lg1:=GR (c:=iU w.deep w) (w:=w) (ps:=ps) (S:=h);obtain⟨e2,R2,L2⟩:=mU ca hg' hp' hu hl neg ing #[1];have grow:g.length<h.length:=by
    refine Nat.lt_of_not_le λ q=>e (GO uph up λ x=>(sub_len (jI up) (jI uph) gh q x).symm)
   have grow2:=(jI uph).length_le_of_subset hgl;obtain⟨C,hC,eC⟩:=zN hg hp hg' hp' hu hl m (sA #[99] w ps h) _ #[1] (zE hu) ing neg (GP L1 hp) rfl (λ p q=>hgl p (gh p (sup p q)))
    (λ T t1 t2 sT p q=>(mT.mp q).2 T t1 λ x mx=>by
     rw[eh]at mx;exact(mT.mp mx).2 T t2 λ y my=>low T t1 t2 sT y my)
   refine⟨C,hC,?_⟩;rw[QF e]at c;rw[aS,c];have s1:cD ca (c5 w w' t S g h)=.nx (c5 w w' t S (sA #[99] w ps h) (sA (iU w'.deep w') w' ps (sA #[99] w ps h))):=by
    unfold cD;rw[aA (aG (Jx ca (bA rfl w.pure) (aR rfl (aj h)) e1) (bg (aj _)))];exact aG (Jx ca (v:=w') (bA rfl w'.pure) (aR (xs:=(sA #[99] w ps h).map .int) rfl (aj _)) e2) (bg (aj _))
   show(match cD ca (c5 w w' t S g h) with|.nx t=>aS (dN ca) (cD ca) (m+1) t|.ct t=>aS (dN ca) (cD ca) (m+1) t|.bk t=>Fl.nx t|o=>o)=_;rw[s1];exact eC
def Jw:cH ca [.lst .av (A.map .int),.lst .av (B.map .int)]=if A=B then .ok .bW else .dY (ca "Unlike"):=by
 have c:eT (ai (mh true) (ae 0) (ae 1)) [some (.lst .av (A.map .int)),some (.lst .av (B.map .int))]=.ok (!decide (A=B)):=uU (aY rfl (aj A)) (aY rfl (aj B));by_cases e:A=B
 ·rw[QG e];rw[QO e]at c;refine GG (τ:=[some (.lst .av (A.map .int)),some (.lst .av (B.map .int))]) (t:=[some (.lst .av (A.map .int)),some (.lst .av (B.map .int))]) rfl rfl ?_;unfold dC;exact(gZ c).trans rfl
 ·rw[QK e];rw[QF e]at c;refine oR (τ:=[some (.lst .av (A.map .int)),some (.lst .av (B.map .int))]) (t:=[some (.lst .av (A.map .int)),some (.lst .av (B.map .int))]) rfl rfl ?_;unfold dC;exact(ju c).trans rfl
def Of(h0:ae i τ=.ok v.d)(hg:v.good)(hl:v.ah.length<=24)(hp:v.ah.Perm qs)(hu:qs.Pairwise (· < ·)):aF cZ (aa (ae i) ak) τ=.ok (.lst .own (qs.map .int)):=by
 refine iB (ds:=[v.d]) (bf h0) ?_ (fX (aj _));show cZ [v.d.av]=_;rw[cz _ v.pure];exact rT hg hl hp hu
def Mw{qs':#[6]}(h0:ae 0 τ=.ok w.d)(h1:ae 1 τ=.ok w'.d)(hg:w.good)(hl:w.ah.length<=24)(hp:w.ah.Perm qs)(hu:qs.Pairwise (· < ·))(hg':w'.good)(hl':w'.ah.length<=24)(hp':w'.ah.Perm qs')(hu':qs'.Pairwise (· < ·)) :
  dz (cH ca) (aa (aF cZ #[144]) (aa (aF cZ #[50]) ak)) τ=if qs=qs' then .ok .bW else .dY (ca "Unlike"):=by
 refine oS (ds:=[.lst .own (qs.map .int),.lst .own (qs'.map .int)]) (aH (Of h0 hg hl hp hu) (bf (Of h1 hg' hl' hp' hu'))) ?_ λ d e=>?_
 ·show cH ca [.lst .av (aK (qs.map .int)),.lst .av (aK (qs'.map .int))]=_;rw[aM,aM];exact Jw ca
 ·split at e
  ·cases e;rfl
  ·cases e
def DM (hg:w.good)(hp:w.ah.Perm ps)(hg':w'.good)(hp':w'.ah.Perm ps)(hu:ps.Pairwise (· < ·))(hl:ps.length<=24)(h0:S≠[])(hS:∀ p∈S,p∈ps)(h64:S.length<64):∃ C,DS w w' ps S C/\bF ca [w.d,w'.d,.lst .av #[159]]=.ok #[38]:=by
 have hwl:w.ah.length<=24:=by rw[hp.length_eq];exact hl
 have hwl':w'.ah.length<=24:=by rw[hp'.length_eq];exact hl
 obtain⟨e1,R1,L1⟩:=mU ca hg hp hu hl h0 hS h64;have ing:∀ p∈sA #[99] w ps S,p∈ps:=λ p q=>(mT.mp q).1;have sg:∀ p∈S,p∈sA #[99] w ps S:=λ p q=>A3 hS q;have neg:=rA h0 sg;have lg1:=GR (c:=iU w.deep w) (w:=w) (ps:=ps) (S:=S);obtain⟨e2,_⟩:=mU ca hg' hp' hu hl neg ing #[1];obtain⟨C,hC,eC⟩:=zN ca (t:=.av) hg hp hg' hp' hu hl (ps.length+1) (sA #[99] w ps S) _ #[1] (zE hu) ing neg (GP L1 hp) rfl sg (λ T t1 t2 sT p q=>(mT.mp q).2 T t1 sT);refine⟨C,hC,bN (τ:=[some w.d,some w'.d,some #[25],none,none]) rfl rfl ?_⟩;unfold fN;have c0:=Mw ca (τ:=[some w.d,some w'.d,some #[25],none,none]) (w:=w) (w':=w') (bA rfl w.pure) (bA rfl w'.pure) hg hwl hp hu hg' hwl' hp' hu;rw[QG rfl]at c0;rw[aA (yc c0)];rw[aA (aG (Jx ca (v:=w) (bA rfl w.pure) (aY rfl (aj S)) e1) (bg (aj _)))];show aE _ _ [some w.d,some w'.d,some #[25],some (.lst .own ((sA #[99] w ps S).map .int)),none]=_;rw[aA (aG (Jx ca (v:=w') (τ:=[some w.d,some w'.d,some #[25],some (.lst .own ((sA #[99] w ps S).map .int)),none]) (bA rfl w'.pure) (aR (xs:=(sA #[99] w ps S).map .int) rfl (aj _)) e2) (bg (aj _)))];show aE (fM _ _) _ (c5 w w' .av S _ _)=_;rw[aA ((ir (n:=ps.length+1+1) (by rw[eC];exact Fl.noConfusion)).trans eC)];rfl
def vq(hg:w.good)(hp:w.ah.Perm ps)(hg':w'.good)(hp':w'.ah.Perm qs)(hu:ps.Pairwise (· < ·))(hu':qs.Pairwise (· < ·))(hl:ps.length<=24)(hl':qs.length<=24)(hne:ps≠qs):bF ca [w.d,w'.d,.lst .av #[159]]=.dY (ca "Unlike"):=by
 have hwl:w.ah.length<=24:=by rw[hp.length_eq];exact hl
 have hwl':w'.ah.length<=24:=by rw[hp'.length_eq];exact hl'
 refine oR (τ:=[some w.d,some w'.d,some #[25],none,none]) rfl rfl (t:=[some w.d,some w'.d,some #[25],none,none]) ?_;unfold fN;have c0:=Mw ca (τ:=[some w.d,some w'.d,some #[25],none,none]) (w:=w) (w':=w') (bA rfl w.pure) (bA rfl w'.pure) hg hwl hp hu hg' hwl' hp' hu';rw[QK hne]at c0;exact qz (Cc c0)
def uS(hg:w.good)(hp:w.ah.Perm ps)(hg':w'.good)(hp':w'.ah.Perm ps)(hu:ps.Pairwise (· < ·))(hl:ps.length<=24)(hG:bz ca [w.d,.lst .av #[159]]=.dY C):bF ca [w.d,w'.d,.lst .av #[159]]=.dY C:=by
 have hwl:w.ah.length<=24:=by rw[hp.length_eq];exact hl
 have hwl':w'.ah.length<=24:=by rw[hp'.length_eq];exact hl
 refine oR (τ:=[some w.d,some w'.d,some #[25],none,none]) rfl rfl (t:=[some w.d,some w'.d,some #[25],none,none]) ?_;unfold fN;have c0:=Mw ca (τ:=[some w.d,some w'.d,some #[25],none,none]) (w:=w) (w':=w') (bA rfl w.pure) (bA rfl w'.pure) hg hwl hp hu hg' hwl' hp' hu;rw[QG rfl]at c0;rw[aA (yc c0)];refine qz ?_;unfold aL;rw[Ql ca (i:=0) (g:=ae 2) (t:=.av) (w:=w) rfl (aY rfl (aj S)) #[10] hG];rfl
end
variable (ca:PySem.Str->PySem.Addr)
def Jz{f:SD->Res (D×SD)}{d:D}(h:f τ=.ok (d,τ')):yX i f τ=.nx (τ'.set i (some d)):=by
 unfold yX;rw[h]
def GV{g:SD->Res (D×SD)}{d x r:D}(h1:f τ=.ok d)(hd:d.pure=true)(h2:g τ=.ok (x,τ'))(hG:G [d,x]=.ok r)(hb:r.aN=false):ur G f g τ=.ok (r,τ'):=by
 unfold ur;rw[h1];show(if d.pure=true then _ else _)=_;rw[QG hd,h2];show((G [d,x]).bind _)=_;rw[hG];show(if r.aN=true then _ else _)=_;rw[hb];rfl
section
def gl (ps:#[6])(got:#[118]):List Int:=got.map λ n=>ps.getD n 0
def Mx {x:Int}(mx:x∈ps):∃ i,i<ps.length/\ps.getD i 0=x:=by
 obtain⟨i,hi⟩:=Rf mx;exact⟨i,(Qt.mp hi).1,by rw[Qq,hi];rfl⟩
def uW(hp:w.ah.Perm ps)(nb:∀ x∈got,x<ps.length)(nD:sO ps.length (col (fG w ps)) (· ∈ got)):Mod #[99] w.ah (gl ps got):=λ x mx nx y my z mz=>by
 obtain⟨i,hi,rfl⟩:=Mx (hp.mem_iff.mp mx);obtain⟨j,mj,rfl⟩:=QE.mp my;obtain⟨k,mk,rfl⟩:=QE.mp mz;have ni:i∉got:=λ m=>nx (QE.mpr ⟨i,m,rfl⟩);rw[<-qB w hi (nb j mj) λ e=>ni (e▸mj),<-qB w hi (nb k mk) λ e=>ni (e▸mk)];exact nD i hi ni j k (nb j mj) (nb k mk) mj mk
def uV(hp:w.ah.Perm ps)(h:Mod #[99] w.ah T):sO ps.length (col (fG w ps)) (λ i=>ps.getD i 0∈T):=λ x hx nx y z hy hz my mz=>by
 rw[qB w hx hy λ e=>nx (e▸my),qB w hx hz λ e=>nx (e▸mz)];exact h _ (hp.mem_iff.mpr (getD_mem hx)) nx _ my _ mz
def GS{c:Nat->Nat->Int}{A B:#[118]}(h:∀ x,x∈A↔x∈B)(m:sO n c (· ∈ A)):sO n c (· ∈ B):=λ x hx nx y z hy hz my mz=>m x hx (λ q=>nx ((h x).mp q)) y z hy hz ((h y).mpr my) ((h z).mpr mz)
def GW {A B:#[118]}(ha:A.Nodup)(h:∀ x∈A,x∈B)(hb:B.Nodup)(hl:B.length<=A.length)(x:Nat):x∈A↔x∈B:=⟨h x,λ m=>QS λ n=>by
 have:=(Q8.mpr ⟨n,ha⟩).length_le_of_subset (l₂:=B) λ y my=>(QA.mp my).elim (λ e=>e▸m) (h y);rw[QP]at this;omega⟩
structure Got (w w':Wd)(ps S:List Int)(got:List Nat):Prop where
 nd:got.Nodup
 bd:∀ x∈got,x<ps.length
 sup:∀ k,k<ps.length->ps.getD k 0∈S->k∈got
 low:∀ T,Mod #[99] w.ah T->Mod (iU w'.deep w') w'.ah T->(∀ p∈S,p∈T)->∀ k∈got,ps.getD k 0∈T
def l5 (w w':Wd)(ps S:#[6])(got:#[118])(many:Nat):SD:=[some (gz w ps),some (gz w' ps),some #[25],some (.lst .own (is got)),some (.int (many:Nat))]
def Cf{many:Nat}:g_Lleast_of_both_w2 (l5 w w' ps S got many)=.ok (decide (many<got.length)):=by
 unfold g_Lleast_of_both_w2;rw[oO (bA (i:=4) rfl rfl) (cX (aR (i:=3) (xs:=is got) rfl (bQ got))),iA]
 congr 1
 rw[U9];omega
def GU (hp:w.ah.Perm ps)(hp':w'.ah.Perm ps)(hl:ps.length<=24):∀ (m:Nat) (got:#[118]) (many:Nat),ps.length<=m+many->Got w w' ps S got->(many<got.length\/(sO ps.length (col (fG w ps)) (· ∈ got)/\sO ps.length (col (fG w' ps)) (· ∈ got))) ->
  ∃ fin many',Got w w' ps S fin/\sO ps.length (col (fG w ps)) (· ∈ fin)/\sO ps.length (col (fG w' ps)) (· ∈ fin)/\aS g_Lleast_of_both_w2 g_Lleast_of_both_b3 (m+1) (l5 w w' ps S got many)=.nx (l5 w w' ps S fin many'):=by
 intro m
 induction m with
 | zero =>
  intro got many hm g h;have c:=Cf (w:=w) (w':=w') (ps:=ps) (S:=S) (got:=got) (many:=many);have:=N5 _ g.nd g.bd;have e:¬ many<got.length:=by omega
  obtain⟨h1,h2⟩:=h.resolve_left e;refine⟨got,many,g,h1,h2,?_⟩;rw[QF e]at c;rw[aS,c];rfl
 | succ m ih =>
  intro got many hm g h;have c:=Cf (w:=w) (w':=w') (ps:=ps) (S:=S) (got:=got) (many:=many);by_cases e:many<got.length
  ·have hlen:=zL w ps;have hlen':=zL w' ps;obtain⟨n1,nn1,nb1,nS1,nM1,nD1,eG1⟩:=wN (rows:=fG w ps) (zM w) #[1] g.nd λ x m=>by rw[hlen];exact g.bd x m
   rw[hlen]at nb1 nM1 nD1;obtain⟨n2,nn2,nb2,nS2,nM2,nD2,eG2⟩:=wN (rows:=fG w' ps) (zM w') #[1] nn1 λ x m=>by rw[hlen'];exact nb1 x m
   rw[hlen']at nb2 nM2 nD2;have g2:Got w w' ps S n2:=⟨nn2,nb2,λ k hk hs=>nS2 k (nS1 k (g.sup k hk hs)),λ T t1 t2 sT=>nM2 (λ i=>ps.getD i 0∈T) (uV hp' t2) (nM1 (λ i=>ps.getD i 0∈T) (uV hp t1) (g.low T t1 t2 sT))⟩;obtain⟨fin,many',f1,f2,f3,f4⟩:=ih n2 got.length #[1] g2 (by
    by_cases q:got.length<n2.length
    ·exact .inl q
    ·have l1:=g.nd.length_le_of_subset nS1;have s1:=GW nn1 nS2 nn2 #[1];exact .inr ⟨GS s1 nD1,nD2⟩)
   refine⟨fin,many',f1,f2,f3,?_⟩;rw[QO e]at c;rw[aS,c];have s1:g_Lleast_of_both_b3 (l5 w w' ps S got many)=.nx (l5 w w' ps S n2 got.length):=by
    unfold g_Lleast_of_both_b3;have hlen3:eA bP #[113] (l5 w w' ps S got many)=.ok (.int (got.length:Nat)):=by
     rw[cX (aR (i:=3) (xs:=is got) rfl (bQ got)),iA]
    rw[aA (aG hlen3 rfl)];have i1:ai bB (ae 0) #[142] (l5 w w' ps S got got.length)=.ok (.tup (rD (fG w ps))):=bq (bA (i:=0) rfl (cL w ps)) rfl (dj (j:=1) rfl rfl);have i2:ai bB (ae 1) #[142] (l5 w w' ps S got got.length)=.ok (.tup (rD (fG w' ps))):=bq (bA (i:=1) rfl (cL w' ps)) rfl (dj (j:=1) rfl rfl);have c1:=GN (j:=3) (G:=G_Lgrown) rfl i1 (qq _) (bQ got) eG1 (bg (bQ n1));exact Jz (GV i2 (qq _) c1 eG2 (bg (bQ n2)))
   show(match g_Lleast_of_both_b3 (l5 w w' ps S got many) with|.nx t=>aS g_Lleast_of_both_w2 g_Lleast_of_both_b3 (m+1) t|.ct t=>aS g_Lleast_of_both_w2 g_Lleast_of_both_b3 (m+1) t|.bk t=>Fl.nx t|o=>o)=_;rw[s1];exact f4
  ·obtain⟨h1,h2⟩:=h.resolve_left e;refine⟨got,many,g,h1,h2,?_⟩;rw[QF e]at c;rw[aS,c];rfl
def MA(hp:w.ah.Perm ps)(hp':w'.ah.Perm ps)(hu:ps.Pairwise (· < ·))(hS:∀ p∈S,p∈ps)(g:Got w w' ps S got)(m1:sO ps.length (col (fG w ps)) (· ∈ got))(m2:sO ps.length (col (fG w' ps)) (· ∈ got)) :
  ∃ C,DS w w' ps S C/\(gl ps got).Perm C:=by
 let C:=ps.filter λ x=>decide (x∈gl ps got)
 have hC:∀ x,x∈gl ps got↔x∈C:=λ x=>by
  rw[Q3,UL];refine⟨λ m=>⟨?_,m⟩,λ m=>m.2⟩;obtain⟨n,mn,rfl⟩:=QE.mp m;exact getD_mem (g.bd n mn)
 have up:C.Pairwise (· < ·):=List.Pairwise.filter _ hu;refine⟨C,⟨up,λ p m=>(Q3.mp m).1,λ p m=>(hC p).mp ?_,uT hC (uW hp g.bd m1),uT hC (uW hp' g.bd m2),λ T t1 t2 sT p m=>?_⟩,qt ?_ (jI up) hC⟩
 ·obtain⟨i,hi,rfl⟩:=Mx (hS p m);exact QE.mpr ⟨i,g.sup i hi m,rfl⟩
 ·obtain⟨n,mn,rfl⟩:=QE.mp ((hC p).mpr m);exact g.low T t1 t2 sT n mn
 ·have nn:=g.nd;rw[List.nodup_iff_pairwise_ne]at nn ⊢;show(got.map _).Pairwise _;rw[List.pairwise_map];exact nn.imp_of_mem λ {a b} ma mb hne e=>hne (getD_inj hu (g.bd a ma) (g.bd b mb) e)
def A8{xs:List D}(h:f τ=.ok (.lst .bor xs))(hp:aX xs=true):∃ fl,jo f τ=.ok (fl,xs):=by
 unfold jo;rw[h];exact⟨_,rfl⟩
def JB (hp:w.ah.Perm ps)(hp':w'.ah.Perm ps)(hu:ps.Pairwise (· < ·))(hl:ps.length<=24)(h0:S≠[])(hS:∀ p∈S,p∈ps):∃ C,DS w w' ps S C/\G_Lleast_of_both [gz w ps,gz w' ps,.lst .av #[159]]=.ok #[38]:=by
 let got:List Nat:=#[132].filter λ k=>decide (ps.getD k 0∈S)
 have hgot:∀ k,k∈got↔k<ps.length/\ps.getD k 0∈S:=λ k=>by rw[Q3,QU,UL]
 have ng:got.Nodup:=UK Tn Sb;have g0:Got w w' ps S got:=⟨ng,λ x m=>((hgot x).mp m).1,λ k hk hs=>(hgot k).mpr ⟨hk,hs⟩,λ T _ _ sT k m=>sT _ ((hgot k).mp m).2⟩;have gp:0<got.length:=by
  obtain⟨q,mq⟩:=RJ _ h0;obtain⟨i,hi,rfl⟩:=Mx (hS q mq);exact List.length_pos_of_mem ((hgot i).mpr ⟨hi,mq⟩)
 obtain⟨fin,many',f1,f2,f3,ew⟩:=GU hp hp' hl ps.length got 0 #[1] g0 (.inl gp);obtain⟨C,hC,pC⟩:=MA hp hp' hu hS f1 f2 f3;refine⟨C,hC,bN (τ:=[some (gz w ps),some (gz w' ps),some #[25],none,none]) rfl rfl ?_⟩;unfold g_Lleast_of_both;have hl0:eA bP (aa (ai bB (ae 0) #[147]) ak) [some (gz w ps),some (gz w' ps),some #[25],none,none]=.ok (.int (ps.length:Nat)):=by
  rw[bO (bf (bq (bA (i:=0) rfl (cL w ps)) rfl (dj (j:=0) rfl rfl)))];show Res.ok (D.int ((ps.map D.int).length:Nat))=_;rw[Qs]
 have cp:iW [some (gz w ps),some (gz w' ps),some #[25],none,none] [("_law_one",0),("_law_some_here",2)]=[some (gz w ps),some #[25]]:=by
  show [some (gz w ps).av,some (.lst .av (aK #[159]))]=_;rw[cz _ (cL w ps),aM]
 have s1:=kg (tt:=g_Lleast_of_both_c4) (elt:=g_Lleast_of_both_e5) (cap:=[("_law_one",0),("_law_some_here",2)]) (λ d=>match d with|.int x=>decide (ps.getD x.toNat 0∈S)|_=>false) (λ d=>d) (fV hl0 #[1])
  (λ d m=>by
   rw[cS]at m;obtain⟨n,mn,rfl⟩:=QE.mp m;have hn:=QU.mp mn;rw[cp];unfold g_Lleast_of_both_c4;rw[fF ((bC (GL n hn (f:=ae 0) rfl) (aY (i:=2) rfl (aj S))).trans (nH false _ .av S))];rfl)
  (λ d m _=>by
   rw[cS]at m;obtain⟨n,_,rfl⟩:=QE.mp m;exact⟨rfl,rfl⟩) (by simp;omega)
 have eo:((aK (#[132].map λ k:Nat=>D.int k)).filter (λ d=>match d with|.int x=>decide (ps.getD x.toNat 0∈S)|_=>false)).map (λ d=>d)=is got:=by
  rw[cS,List.map_id',Tz];show _=(got.map _).map _;rw[Q5];rfl
 rw[eo]at s1;rw[aA (aG s1 (bg (bQ got)))];rw[aA (aG (d:=.int 0) rfl rfl)];show aE (fM _ _) _ (l5 w w' ps S got 0)=_;rw[aA ((ir (n:=ps.length+1) (by rw[ew];exact Fl.noConfusion)).trans ew)];obtain⟨fl,hi⟩:=A8 (aR (τ:=l5 w w' ps S fin many') (i:=3) (xs:=is fin) rfl (bQ fin)) (bQ fin);have cp2:iW (l5 w w' ps S fin many') [("_law_one",0)]=[some (gz w ps)]:=by
  show [some (gz w ps).av]=_;rw[cz _ (cL w ps)]
 have c2:=jg (elt:=g_Lleast_of_both_e1) (cap:=[("_law_one",0)]) (λ d=>match d with|.int x=>.int (ps.getD x.toNat 0)|d=>d) hi (λ d m=>by
  rw[br _ (bQ fin)]at m;obtain⟨x,mx,rfl⟩:=QE.mp m;obtain⟨n,mn,rfl⟩:=QE.mp mx;rw[cp2];exact⟨GL n (f1.bd n mn) (f:=ae 0) rfl,rfl⟩) (by rw[iA];have:=N5 _ f1.nd f1.bd;omega)
 rw[br _ (bQ fin)]at c2;have em:(is fin).map (λ d=>match d with|.int x=>.int (ps.getD x.toNat 0)|d=>d)=(gl ps fin).map D.int:=by
  unfold gl;rw[Q5,Q5,Q5];rfl
 rw[em]at c2;have hCl:C.length<=24:=by have:=(jI hC.up).length_le_of_subset hC.ins;omega
 exact jQ ((bO (bf c2)).trans (sV pC hC.up hCl .own)) (bg (aj _))
end
variable (ca:PySem.Str->PySem.Addr)
def G1 {f g:#[59]}{a b:Bool}(h:f τ=.ok a)(h2:g τ=.ok b):JW f g τ=.ok (a||b):=by
 unfold JW;rw[h];cases a
 ·exact h2
 ·rfl
def Apart (ca:#[88])(NM:#[79]):Prop:=∀ x y,x∈NM->y∈NM->ca x=ca y->x=y
def G2 (ca:#[88])(x:Str)(C:Addr):BX ca x C=(decide (ca x=C)||decide (ca x=ca "NetError")):=by
 unfold BX;rw[Sy];simp[List.contains_iff_mem,yg]
def names:List Str:=["NetError","NoPlace","NoSet","NoGroup","Unlike"]
def ye {L:#[9]}{b:Bool}(h0:τ[i]?=some (some (.exc C)))(hL:L.contains C=true)(hp:p C=b):eT (gD (eB L p) (ae i)) τ=.ok b:=by
 refine fF ?_;unfold gD;rw[E4 h0 rfl];show(if L.contains C=true then Res.ok (D.bl (p C)) else .bad)=_;rw[QG hL,hp]
section
variable {ca:#[88]}
def uX (c:Str):BX ca c (ca c)=true:=by simp[G2]
def k8 (h:Apart ca names){c:Str}(hx:x∈names)(hc:c∈names)(n1:x≠c)(n2:x ≠ "NetError"):BX ca x (ca c)=false:=by
 rw[G2,QF λ e=>n1 (h _ _ hx hc e),QF λ e=>n2 (h _ _ hx #[10] e)];rfl
def DN{r:SF}(hL:(leaf ca).contains C=true)(hp:p C=false):aE (fZ (eT (gD (eB (leaf ca) p) (ae 0))) (aL 1 (ai bE (ae 1) (eC (.str x)))) bD) r [some (.exc C),some (.str s)]=r [some (.exc C),some (.str s)]:=jF (ye (i:=0) rfl hL hp)
def G0{r:SF}(hL:(leaf ca).contains C=true)(hp:p C=true)(hx:x.length<=100):aE (fZ (eT (gD (eB (leaf ca) p) (ae 0))) (aL 1 (ai bE (ae 1) (eC (.str x)))) bD) r [some (.exc C),some (.str "")]=r [some (.exc C),some (.str ("" ++ x))]:=by
 refine aA ((ju (ye (i:=0) rfl hL hp)).trans (aG (d:=.str ("" ++ x)) ?_ rfl));rw[bC (show ae 1 [some (.exc C),some (.str "")]=.ok (.str "") from rfl) (show eC (.str x) [some (.exc C),some (.str "")]=.ok (.str x) from rfl)];show(if (Str.length "")+x.length<=16777216 then _ else _)=_;rw[QG (by have:Str.length "" = 0:=rfl;omega)]
def GY(hL:(leaf ca).contains C=true)(hp:BX ca "NoGroup" C=false):aE #[161] (iM 1) [some (.exc C),some (.str s)]=.rt (.str s):=by
 rw[jF (G1 (a:=false) (b:=false) (ye (i:=0) rfl hL hp) (uF (b:=true) (ye (i:=0) rfl hL rfl)))];rfl
def oU{d:D}(h:aE (fZ (eT (gD (eB (leaf ca) (BX ca "Unlike")) (ae 0))) (aL 1 (ai bE (ae 1) (eC (.str "unlike")))) bD) #[37] [some (.exc C),some (.str "")]=.rt d):G_Lword ca [.exc C]=.ok d:=by
 refine bN (τ:=[some (.exc C),none]) rfl rfl ?_;unfold g_Lword;rw[aA (aG (d:=.str "") rfl rfl)];exact h
def zO (h:Apart ca names):G_Lword ca [.exc (ca "Unlike")]=.ok (.str "unlike"):=by
 have hL:(leaf ca).contains (ca "Unlike")=true:=by simp[leaf]
 refine oU ?_;rw[G0 hL (uX _) #[10],DN hL #[155],DN hL #[155]];exact GY hL #[155]
def A9 (h:Apart ca names):G_Lword ca [.exc (ca "NoPlace")]=.ok (.str "place"):=by
 have hL:(leaf ca).contains (ca "NoPlace")=true:=by simp[leaf]
 refine oU ?_;rw[DN hL #[155],G0 hL (uX _) #[10],DN hL #[155]];exact GY hL #[155]
def GX (h:Apart ca names):G_Lword ca [.exc (ca "NoSet")]=.ok (.str "set"):=by
 have hL:(leaf ca).contains (ca "NoSet")=true:=by simp[leaf]
 refine oU ?_;rw[DN hL #[155],DN hL #[155],G0 hL (uX _) #[10]];exact GY hL #[155]
end
def G3 {x:Int}(h:0<=x):G_Lwhole [.int x]=.ok (.bl true):=by
 refine bN (τ:=[some (.int x)]) rfl rfl ?_;unfold g_Lwhole;refine iY (d:=.bl true) ?_ rfl;show Ak _ _ [some (.int x)]=_;unfold Ak;show(Res.ok (D.bl (decide (0<=x))))=_;rw[QO h]
section
def a6 (w w':Wd)(S:#[6])(o3 o4:#[91]):SD:=[some w.d,some w'.d,some #[25],o3,o4,none]
def Og {r:Res D}(hr:∀ d,r=.ok d->d.dm=d)(hG:bF ca [w.d,w'.d,.lst .av #[159]]=r):dz (bF ca) (aa (ae 0) (aa (ae 1) #[113])) (a6 w w' S #[57] none)=r:=by
 refine oS (ds:=[w.d,w'.d,.lst .bor #[159]]) (aH (bA rfl w.pure) (aH (bA rfl w'.pure) (bf (aR rfl (aj S))))) ?_ hr;show bF ca [w.d.av,w'.d.av,.lst .av (aK #[159])]=_;rw[cz _ w.pure,cz _ w'.pure,aM];exact hG
def G4 {r:SD}:eA vN #[154] (a6 w w' S none none)=.ok (.lst .own #[159]):=by
 rw[bO (bf (aY rfl (aj S)))];rfl
def uY {c:Str}(hL:BU ca (ca c)=true)(hw:G_Lword ca [.exc (ca c)]=.ok (.str s))(hG:bF ca [w.d,w'.d,.lst .av #[159]]=.dY (ca c)):G_Lasked ca [w.d,w'.d,.lst .av #[159]]=.ok (.str s):=by
 refine bN (τ:=a6 w w' S none none) rfl rfl ?_;unfold g_Lasked;rw[aA (aG (G4 (r:=[])) (bg (aj S)))];refine F5 ?_;unfold ud;have e:aL 4 (dz (bF ca) (aa (ae 0) (aa (ae 1) #[113]))) ((a6 w w' S none none).set 3 #[57])=.ex (ca c) (a6 w w' S #[57] none):=by
  show aL 4 _ (a6 w w' S #[57] none)=_;unfold aL;rw[Og ca (by intro d q;cases q) hG];rfl
 rw[e];show(if BU ca (ca c)=true then (match G_Lword ca [.exc (ca c)] with|.ok d=>Fl.rt d|_=>Fl.bad) else Fl.bad)=_;rw[QG hL,hw]
def GZ {C:#[6]}(hC:∀ p∈C,0<=p)(hl:C.length<=24)(hG:bF ca [w.d,w'.d,.lst .av #[159]]=.ok #[38]):G_Lasked ca [w.d,w'.d,.lst .av #[159]]=.ok #[38]:=by
 refine bN (τ:=a6 w w' S none none) rfl rfl ?_;unfold g_Lasked;rw[aA (aG (G4 (r:=[])) (bg (aj S)))];have e:ud (aL 4 (dz (bF ca) (aa (ae 0) (aa (ae 1) #[113])))) (BU ca) (G_Lword ca) ((a6 w w' S none none).set 3 #[57])=.nx (a6 w w' S #[57] (some #[38])):=by
  unfold ud;show(match aL 4 _ (a6 w w' S #[57] none) with|.ex C _=>_|r=>r)=_;rw[aG (Og ca (by intro d q;cases q;exact fX (aj _)) hG) (bg (aj _))];rfl
 rw[aA e];have c1:=uU (aR (τ:=a6 w w' S #[57] (some #[38])) (i:=3) rfl (aj S)) (aY (i:=2) rfl (aj S));rw[QO rfl]at c1;have c2:eT (gD (g8 yf) (ae 4)) (a6 w w' S #[57] (some #[38]))=.ok true:=by
  refine fF ?_;unfold gD;rw[aR (i:=4) rfl (aj C)];rfl
 obtain⟨fl,hi⟩:=A8 (aR (τ:=a6 w w' S #[57] (some #[38])) (i:=4) rfl (aj C)) (aj C);have e1:=jg (elt:=g_Lasked_e1 ca) (cap:=[]) (λ d=>.bl true) hi (λ d m=>by
  rw[aM]at m;obtain⟨x,mx,rfl⟩:=QE.mp m;exact⟨cT (ds:=[.int x]) (bf rfl) (G3 (hC x mx)) rfl,rfl⟩) (by rw[Qs];omega)
 have c3:eT (eA NT (aa (cu (jo (ae 4)) (gN 0) dI (g_Lasked_e1 ca) 1 []) ak)) (a6 w w' S #[57] (some #[38]))=.ok true:=by
  refine fF ((bO (bf e1)).trans ?_);rw[aM,Q5];have e2:C.map ((λ _:D=>D.bl true)∘D.int)=(C.map λ _=>true).map D.bl:=by rw[Q5];rfl
  rw[e2];show(match pJ ((C.map λ _=>true).map D.bl) with|some bs=>Res.ok (D.bl (bs.all id))|none=>.bad)=_;rw[qO];show Res.ok (D.bl ((C.map λ _=>true).all id))=_;rw[List.all_map]
  congr 2
  exact Td.mpr λ _ _=>rfl
 rw[jF (G1 (a:=false) (b:=false) c1 (G1 (a:=false) (b:=false) (uF c2) (uF c3)))];rfl
end
variable (ca:PySem.Str->PySem.Addr)
def Cg(h:xs≠[]):∃ x:Int,x∈xs/\∀ t:Tg,bB (.lst t (xs.map .int)) (.int (-1))=.ok (.int x):=by
 obtain⟨ys,x,rfl⟩:∃ ys x,xs=ys++[x]:=⟨xs.dropLast,xs.getLast h,(Up h).symm⟩;exact⟨x,by simp,λ t=>xX⟩
def MD{fi fv:#[29]}{k y:Int}(h:τ[i]?=some (some (.lst .own (xs.map .int))))(h1:fi τ=.ok (.int k))(h2:fv τ=.ok (.int y))(k0:0<=k)(k1:k.toNat<=xs.length)(hl:xs.length<16777216):AE i fi fv τ=.nx (τ.set i (some (.lst .own ((L2.jj xs k.toNat y).map .int)))):=by
 unfold AE gY;rw[h];simp only;rw[h1,h2];show(if 0<=k/\k.toNat<=(xs.map D.int).length/\(xs.map D.int).length<16777216 then Fl.nx (τ.set i (some (.lst .own (L2.jj (xs.map D.int) k.toNat (.int y))))) else .bad)=_;rw[QG (by rw[Qs];exact⟨k0,k1,hl⟩)];unfold L2.jj;rw[Rj,Rc,List.map_take,List.map_drop]
def s3 (ps:#[6])(c:Int)(T:#[6]):SD:=[some #[47],some (.int c),some (.lst .own (T.map .int))]
section
variable{c:Int}
def MB:ae 0 (s3 ps c T)=.ok #[47]:=aY rfl (aj ps)
def MF:ae 2 (s3 ps c T)=.ok (.lst .bor (T.map .int)):=aR rfl (aj T)
def Ba:eA bP #[154] (s3 ps c T)=.ok (.int (T.length:Nat)):=by rw[cX MF,Qs]
def JD:eA bP #[144] (s3 ps c T)=.ok (.int (ps.length:Nat)):=by rw[cX MB,Qs]
def ME (τ:SD):gD lY #[142] τ=.ok (.int (-1)):=rfl
def MG (hl:ps.length<=24):∃ T:List Int,T.length<=24/\aL 2 (cu (bV #[85]) (gN 0) g_Lsome_c1 g_Lsome_e2 1 [("_law_places_here",0),("_law_cell",1)]) [some #[47],some (.int c),none]=.nx (s3 ps c T):=by
 have v0:ae 0 [some #[47],some (.int c),none]=.ok #[47]:=aY rfl (aj ps);have hl0:eA bP #[144] [some #[47],some (.int c),none]=.ok (.int (ps.length:Nat)):=by rw[cX v0,Qs]
 have cp:iW [some #[47],some (.int c),none] [("_law_places_here",0),("_law_cell",1)]=[some #[47],some (.int c)]:=by
  show [some (D.lst .av (aK (ps.map .int))),some (D.int c)]=_;rw[aM]
 let q:Nat->Bool:=λ k=>match G_Lmix [.int (c+5*(k:Int)),.int 0,.int 5] with|.ok (.int r)=>decide (r=0)|_=>false
 have s1:=kg (tt:=g_Lsome_c1) (elt:=g_Lsome_e2) (cap:=[("_law_places_here",0),("_law_cell",1)]) (λ d=>match d with|.int x=>q x.toNat|_=>false) (λ d=>match d with|.int x=>.int (ps.getD x.toNat 0)|d=>d) (fV hl0 #[1])
  (λ d m=>by
   rw[cS]at m;obtain⟨n,mn,rfl⟩:=QE.mp m;rw[cp];unfold g_Lsome_c1;obtain⟨r,_,_,er⟩:=AV (c:=c+5*(n:Int)) (k:=0) (m:=5) #[10] #[10];have e:=cI (G:=G_Lmix) (fs:=aa (ai bE (ae 2) (ai jN (eC (.int 5)) (ae 0))) (aa #[147] (aa (eC (.int 5)) ak))) (τ:=[some (.int n),some #[47],some (.int c)]) (ds:=[.int (c+5*(n:Int)),.int 0,.int 5]) (aH (dB rfl (jG (a:=5) rfl rfl (zk #[10]))) (aH rfl (bf rfl))) er rfl;rw[gW e (g:=eC (.int 0)) (b:=0) rfl];show Res.ok (decide (r=0))=Res.ok (match G_Lmix [.int (c+5*(n:Int)),.int 0,.int 5] with|.ok (.int r)=>decide (r=0)|_=>false);rw[er])
  (λ d m _=>by
   rw[cS]at m;obtain⟨n,mn,rfl⟩:=QE.mp m;have hn:=QU.mp mn;rw[cp];exact⟨bq (aY (i:=1) rfl (aj ps)) (g:=ae 0) rfl (Gb (sh:=ps) (t:=.av) (i:=(n:Int)) #[1] #[1]).2,rfl⟩) (by simp;omega)
 refine⟨(#[132].filter q).map λ k=>ps.getD k 0,?_,?_⟩
 ·rw[Qs];exact QX (RO _ _) (by rw[Q6];exact hl)
 ·have eo:((aK (#[132].map λ k:Nat=>D.int k)).filter (λ d=>match d with|.int x=>q x.toNat|_=>false)).map (λ d=>match d with|.int x=>.int (ps.getD x.toNat 0)|d=>d)=((#[132].filter q).map λ k=>ps.getD k 0).map D.int:=by
   rw[cS,Tz,Q5,Q5];rfl
  rw[eo]at s1;exact aG s1 (bg (aj _))
def MC(hl:T.length<=24)(r:SF):∃ T':List Int,T'.length<=25/\aE #[96] r (s3 ps c T)=r (s3 ps c T'):=by
 have g1:=qW (Ba (ps:=ps) (c:=c) (T:=T)) (g:=eC (.int 0)) (b:=0) rfl;have g2:=gW (jY (show ae 1 (s3 ps c T)=.ok (.int c) from rfl) (b:=3) #[10]) (g:=eC (.int 0)) (b:=0) rfl;by_cases h1:(0:Int)<(T.length:Nat)
 ·rw[QO h1]at g1;have b:=om g1 g2;by_cases h2:c%3=0
  ·rw[QO h2]at b;obtain⟨x,_,ex⟩:=Cg (xs:=T) (λ e=>by rw[e]at h1;simp at h1);refine⟨x::T,by rw[QP];omega,aA ((ju b).trans (aG (d:=.lst .own ((x::T).map .int)) ?_ (bg (aj _))))⟩;have i1:=bq MF (ME (s3 ps c T)) (ex .bor);rw[bC (bO (bf i1)) MF];show(if ([D.int x]:List D).length+(T.map D.int).length<=16777216 then Res.ok (D.lst .own ([D.int x]++T.map D.int)) else .bad)=_;rw[QG (by rw[Qs];simp;omega)];rfl
  ·rw[QF h2]at b;exact⟨T,by omega,jF b⟩
 ·rw[QF h1]at g1;exact⟨T,by omega,jF (uG g1)⟩
def JC (c:Int)(h1:1<=ps.length)(hl:ps.length<=24):∃ T:List Int,T.length<60/\G_Lsome [.lst .av (ps.map .int),.int c]=.ok (.lst .own (T.map .int)):=by
 obtain⟨T0,l0,e0⟩:=MG (ps:=ps) (c:=c) hl;obtain⟨x0,_,ex0⟩:=Cg (xs:=ps) (λ e=>by rw[e]at h1;simp at h1)
 suffices h:∀ T1:List Int,T1.length<=25->∃ T:List Int,T.length<60/\aE #[2] (iM 2) (s3 ps c T1)=.rt (.lst .own (T.map .int)) by
  obtain⟨T1,l1,e1⟩:=MC (ps:=ps) (c:=c) (T:=T0) l0 (aE #[2] (iM 2));obtain⟨T,l,e⟩:=h T1 l1;refine⟨T,l,bN (τ:=[some #[47],some (.int c),none]) rfl rfl ?_⟩;unfold g_Lsome;rw[aA e0,e1];exact e
 intro T l;have v1:ae 1 (s3 ps c T)=.ok (.int c):=rfl;have b1:=gW (jY v1 (b:=7) #[10]) (g:=eC (.int 3)) (b:=3) rfl;by_cases h7:c%7=3
 ·rw[QO h7]at b1;have d7:=xP v1 (b:=7) #[10];have fi:=gA d7 (dB Ba (g:=eC (.int 1)) (b:=1) rfl) #[1];have pl:=bq MB (ME (s3 ps c T)) (ex0 .av);have p30:ai j2 (eC (.int 10)) (eC (.int 30)) (s3 ps c T)=.ok (.int (10^30)):=rfl;have f1:=dB pl (g:=eC (.int 1)) (b:=1) rfl;have f2:=dB (dB pl (g:=eC (.int 2)) (b:=2) rfl) (gA v1 p30 #[10]);have li:=bO (g:=bw) (aH f1 (bf f2));obtain⟨y,ey⟩:∃ y:Int,bB (.lst .own [.int (x0+1),.int (x0+2+c%10^30)]) (.int (c/7%2))=.ok (.int y):=by
   have:c/7%2=0\/c/7%2=1:=by omega
   rcases this with q|q
   ·exact⟨_,eF (j:=0) q rfl⟩
   ·exact⟨_,eF (j:=1) q rfl⟩
  have fv:=bq li (jY d7 (b:=2) #[10]) ey;have k0:0<=c/7%((T.length:Nat)+1:Int):=R0 _ #[1];have k1:c/7%((T.length:Nat)+1:Int)<(T.length:Nat)+1:=RK _ #[1];refine⟨L2.jj T (c/7%((T.length:Nat)+1:Int)).toNat y,?_,?_⟩
  ·unfold L2.jj;rw[Qv,QP,RA,R3];omega
  ·rw[aA ((ju b1).trans (MD rfl fi fv k0 #[1] #[1]))];rfl
 ·rw[QF h7]at b1;have b2:=gW (Ba (ps:=ps) (c:=c) (T:=T)) (g:=eC (.int 0)) (b:=0) rfl;have b3:=qW (jY v1 (b:=5) #[10]) (g:=eC (.int 0)) (b:=0) rfl;by_cases hz:((T.length:Nat):Int)=0
  ·rw[QO hz]at b2;have b:=om b2 b3;by_cases h5:0<c%5
   ·rw[QO h5]at b;have m0:0<=c%(ps.length:Nat):=R0 _ #[1];have m1:c%(ps.length:Nat)<(ps.length:Nat):=RK _ #[1];obtain⟨y,_,ey⟩:=zl (sh:=ps) (t:=.av) m0 m1;have i1:=bq MB (gA v1 JD #[1]) ey;refine⟨[y],by simp,?_⟩;rw[aA ((gZ b1).trans ((ju b).trans (aG (d:=.lst .own ([y].map .int)) ((bO (bf i1)).trans rfl) rfl)))];rfl
   ·rw[QF h5]at b;refine⟨T,by omega,?_⟩;rw[aA ((gZ b1).trans ((gZ (b:=bD) b).trans (show bD (s3 ps c T)=.nx (s3 ps c T) from rfl)))];rfl
  ·rw[QF hz]at b2;refine⟨T,by omega,?_⟩;rw[aA ((gZ b1).trans ((gZ (b:=bD) (uG b2)).trans (show bD (s3 ps c T)=.nx (s3 ps c T) from rfl)))];rfl
end
variable (ca:PySem.Str->PySem.Addr)
def JG(hf:f τ=.ok (.str s))(hg:g τ=.ok (.str s)):eT (ai yY f g) τ=.ok false:=by
 refine fF ?_;rw[bC hf hg];show Res.ok (D.bl (xor true (decide (s=s))))=_;rw[QO rfl];rfl
def Cj{t u:Tg}(hf:f τ=.ok (.lst t (A.map .int)))(hg:g τ=.ok (.lst u (A.map .int))):eT (ai yY f g) τ=.ok false:=by
 have:=uU hf hg;rw[QO rfl]at this;unfold eT at this ⊢;rw[bC hf hg]at this ⊢;exact this
structure En where
 (ns:#[6]) (m:Nat) (ps:#[6]) (way:Int) (cs:#[6]) (w:Wd) (os:#[6]) (w':Wd) (qs:#[6])
def En.st (e:En)(o9 o10 o11 o12:#[91]):SD:=[some (Sc e.ns),some (.int (e.m:Nat)),some (.lst .own (e.ps.map .int)),some (.int e.way),some (.lst .own (e.cs.map .int)),some e.w.d,some (.lst .own (e.os.map .int)),some e.w'.d,some (.lst .own [gz e.w e.ps,gz e.w' e.qs]),o9,o10,o11,o12]
section
variable {e:En}{c:Int}{o10 o11 o12:#[91]}
def Ci (ca:#[88]):SF:=aE (aL 12 (aF (G_Lasked ca) (aa (ae 5) (aa (ae 7) (aa (ae 10) ak))))) #[66]
def MH {d:D}(hd:d.dm=d)(hG:G_Lasked ca [e.w.d,e.w'.d,.lst .av (T.map .int)]=.ok d):aF (G_Lasked ca) (aa (ae 5) (aa (ae 7) (aa (ae 10) ak))) #[157]=.ok d:=by
 refine iB (ds:=[e.w.d,e.w'.d,.lst .bor (T.map .int)]) (aH (bA rfl e.w.pure) (aH (bA rfl e.w'.pure) (bf (aR rfl (aj T))))) ?_ hd;show G_Lasked ca [e.w.d.av,e.w'.d.av,.lst .av (aK (T.map .int))]=_;rw[cz _ e.w.pure,cz _ e.w'.pure,aM];exact hG
def JE(hG:G_Lasked ca [e.w.d,e.w'.d,.lst .av (T.map .int)]=.ok (.str s)):Ci ca (e.st #[31] #[21] (some (.str s)) o12)=.nx (e.st #[31] #[21] (some (.str s)) (some (.str s))):=by
 unfold Ci;rw[aA (aG (MH ca rfl hG) rfl)];show aE _ _ (e.st #[31] #[21] (some (.str s)) (some (.str s)))=_;rw[jF (JG (f:=ae 12) (g:=ae 11) (s:=s) rfl rfl)];exact(gZ (b:=bD) (show eT (gD (g8 yf) (ae 12)) (e.st #[31] #[21] (some (.str s)) (some (.str s)))=.ok false from rfl)).trans rfl
def JF {C:#[6]}(hl:C.length<=24)(hG:G_Lasked ca [e.w.d,e.w'.d,.lst .av (T.map .int)]=.ok #[38]):∃ p12,Ci ca (e.st #[31] #[21] (some #[38]) o12)=.nx (e.st #[31] #[21] (some #[38]) p12):=by
 refine⟨some (.lst .own (C.map .int++[.int (-1)])),?_⟩;unfold Ci;rw[aA (aG (MH ca (fX (aj C)) hG) (bg (aj C)))];show aE _ _ (e.st #[31] #[21] (some #[38]) (some #[38]))=_;have v11:∀ o,ae 11 (e.st #[31] #[21] (some #[38]) o)=.ok (.lst .bor (C.map .int)):=λ o=>aR rfl (aj C);rw[jF (Cj (f:=ae 12) (g:=ae 11) (aR rfl (aj C)) (v11 _))];have c2:eT (gD (g8 yf) (ae 12)) (e.st #[31] #[21] (some #[38]) (some #[38]))=.ok true:=by
  refine fF ?_;unfold gD;rw[aR (i:=12) rfl (aj C)];rfl
 rw[ju c2];rw[aA (iz (i:=12) (xs:=C.map .int) (d:=.int (-1)) rfl rfl rfl (by rw[Qs];omega))];show fZ _ _ _ (e.st #[31] #[21] (some #[38]) (some (.lst .own (C.map .int++[.int (-1)]))))=_;exact(gZ (b:=bD) (Cj (MH ca (fX (aj C)) hG) (v11 _))).trans rfl
structure En.ok (e:En):Prop where
 gw:e.w.good
 pw:e.w.ah.Perm e.ps
 MI:e.w'.good
 Hg:e.w'.ah.Perm e.qs
 up:e.ps.Pairwise (· < ·)
 up':e.qs.Pairwise (· < ·)
 l1:1<=e.ps.length
 l2:e.ps.length<=24
 l3:e.qs.length<=24
 nn:∀ x∈e.ps,0<=x
 alike:(e.os=e.ps/\e.qs=e.ps)\/(e.os≠e.ps/\e.ps≠e.qs)
def turn (h:Apart ca names)(k:e.ok):∃ p10 p11 p12,pX ca (e.st #[31] o10 o11 o12)=.nx (e.st #[31] p10 p11 p12):=by
 obtain⟨T,l60,eT0⟩:=JC (ps:=e.ps) c k.l1 k.l2;have e1:aF G_Lsome (aa (ae 2) (aa (ae 9) ak)) (e.st #[31] o10 o11 o12)=.ok (.lst .own (T.map .int)):=by
  refine iB (ds:=[.lst .bor (e.ps.map .int),.int c]) (aH (aR rfl (aj e.ps)) (bf rfl)) ?_ (fX (aj T));show G_Lsome [.lst .av (aK (e.ps.map .int)),.int c]=_;rw[aM];exact eT0
 have start:∀ r:SF,aE (aL 10 (aF G_Lsome (aa (ae 2) (aa (ae 9) ak)))) r (e.st #[31] o10 o11 o12)=r #[157]:=λ r=>aA (aG e1 (bg (aj T)));have v10:ae 10 #[157]=.ok (.lst .bor (T.map .int)):=aR rfl (aj T);have c1:=uU (show ae 6 #[157]=.ok (.lst .bor (e.os.map .int)) from aR rfl (aj _)) (show ae 2 #[157]=.ok (.lst .bor (e.ps.map .int)) from aR rfl (aj _))
 suffices hs:(∃ s:Str,G_Lasked ca [e.w.d,e.w'.d,.lst .av (T.map .int)]=.ok (.str s)/\fZ (eT (ai (mh true) (ae 6) (ae 2))) (aL 11 (eC (.str "unlike"))) #[197] #[157]=.nx (e.st #[31] #[21] (some (.str s)) o12)) ∨
   (∃ C:List Int,C.length<=24/\G_Lasked ca [e.w.d,e.w'.d,.lst .av (T.map .int)]=.ok #[38]/\fZ (eT (ai (mh true) (ae 6) (ae 2))) (aL 11 (eC (.str "unlike"))) #[197] #[157]=.nx (e.st #[31] #[21] (some #[38]) o12)) by
  unfold pX;rw[start];rcases hs with ⟨s,hG,es⟩|⟨C,hl,hG,es⟩
  ·rw[aA es];exact⟨_,_,_,JE ca hG⟩
  ·rw[aA es];obtain⟨p12,ef⟩:=JF ca (o12:=o12) (c:=c) hl hG;exact⟨_,_,_,ef⟩
 rcases k.alike with ⟨q1,q2⟩|⟨q1,q2⟩
 ·rw[QO q1]at c1;have Hg:e.w'.ah.Perm e.ps:=by have:=k.Hg;rw[q2]at this;exact this
  obtain⟨fl,hi⟩:=A8 v10 (aj T);have cp:iW #[157] [#[112]]=[some (.lst .av (e.ps.map .int))]:=by
   show [some (D.lst .av (aK (e.ps.map .int)))]=_;rw[aM]
  have f1:=kg (tt:=mO ca) (elt:=qe ca) (cap:=[#[112]]) (λ d=>match d with|.int x=>!decide (x∈e.ps)|_=>false) (λ d=>d) hi
   (λ d m=>by
    rw[aM]at m;obtain⟨x,_,rfl⟩:=QE.mp m;rw[cp];unfold mO;exact fF ((bC (show ae 0 _=.ok (.int x) from rfl) (aY (i:=1) rfl (aj e.ps))).trans (nH true x .av e.ps)))
   (λ d m _=>by
    rw[aM]at m;obtain⟨x,_,rfl⟩:=QE.mp m;exact⟨rfl,rfl⟩) (by rw[Qs];omega)
  have c2:=qW (cX f1) (g:=eC (.int 0)) (b:=0) rfl;have hlen:(0:Int)<((((aK (T.map D.int)).filter (λ d=>match d with|.int x=>!decide (x∈e.ps)|_=>false)).map (λ d=>d)).length:Nat)↔¬ ∀ p∈T,p∈e.ps:=by
   rw[aM,Qs,Tz,Qs];constructor
   ·intro q z;have:T.filter ((λ d:D=>match d with|.int x=>!decide (x∈e.ps)|_=>false)∘D.int)=[]:=T7.mpr λ x mx=>by
     show ¬ ((!decide (x∈e.ps))=true);rw[QO (z x mx)];exact Bool.noConfusion
    rw[this]at q;simp at q
   ·intro z;obtain⟨x,hx⟩:=Classical.not_forall.mp z;obtain⟨mx,nx⟩:=Classical.not_imp.mp hx;have:x∈T.filter ((λ d:D=>match d with|.int x=>!decide (x∈e.ps)|_=>false)∘D.int):=Q3.mpr ⟨mx,by show(!decide (x∈e.ps))=true;rw[QF nx];rfl⟩;have:=List.length_pos_of_mem this;omega
  by_cases hin:∀ p∈T,p∈e.ps
  ·rw[QF λ q=>hlen.mp q hin]at c2;have c3:eT (ai (mh false) (ae 10) (eA bw ak)) #[157]=.ok (decide (T=[])):=by
    refine fF ?_;rw[bC v10 (show eA bw ak _=.ok (.lst .own (([]:#[6]).map .int)) from rfl)];unfold mh;simp only[iu];rw[UE]
   by_cases h0:T=[]
   ·rw[QO h0]at c3;refine .inl ⟨"set",uY ca (c:="NoSet") (by simp[BU,leaf]) (GX h) (uS ca k.gw k.pw k.MI Hg k.up k.l2 ?_),(gZ c1).trans ((gZ c2).trans ((ju c3).trans (aG (d:=.str "set") rfl rfl)))⟩;rw[h0];exact wM ca k.gw (by rw[k.pw.length_eq];exact k.l2) λ ls pl=>yd ca
   ·rw[QF h0]at c3;obtain⟨C,hC,eCm⟩:=DM ca k.gw k.pw k.MI Hg k.up k.l2 h0 hin #[1];obtain⟨C',hC',eC'⟩:=JB (w:=e.w) (w':=e.w') k.pw Hg k.up k.l2 h0 hin;have:=hC.one hC';subst this;have hl:C.length<=24:=by have:=(jI hC.up).length_le_of_subset hC.ins;have:=k.l2;omega
    refine .inr ⟨C,hl,GZ ca (λ p m=>k.nn p (hC.ins p m)) hl eCm,(gZ c1).trans ((gZ c2).trans ((gZ c3).trans (aG ?_ (bg (aj C)))))⟩;have v8:ae 8 #[157]=.ok (.lst .bor [gz e.w e.ps,gz e.w' e.qs]):=aR rfl (by show((gz e.w e.ps).pure&&((gz e.w' e.qs).pure&&true))=true;rw[cL,cL];rfl);refine iB (ds:=[gz e.w e.ps,gz e.w' e.qs,.lst .bor (T.map .int)]) (aH (bq v8 (g:=eC (.int 0)) rfl (eF (j:=0) rfl rfl)) (aH (bq v8 (g:=eC (.int 1)) rfl (eF (j:=1) rfl rfl)) (bf v10))) ?_ (fX (aj C));show G_Lleast_of_both [(gz e.w e.ps).av,(gz e.w' e.qs).av,.lst .av (aK (T.map .int))]=_;rw[cz _ (cL _ _),cz _ (cL _ _),aM,q2];exact eC'
  ·rw[QO (hlen.mpr hin)]at c2;exact .inl ⟨"place",uY ca (c:="NoPlace") (by simp[BU,leaf]) (A9 h) (uS ca k.gw k.pw k.MI Hg k.up k.l2 (wM ca k.gw (by rw[k.pw.length_eq];exact k.l2) λ ls pl=>zI ca λ z=>hin λ p m=>k.pw.mem_iff.mp (pl.mem_iff.mp (z p m)))),(gZ c1).trans ((ju c2).trans (aG (d:=.str "place") rfl rfl))⟩
 ·rw[QF q1]at c1;exact .inl ⟨"unlike",uY ca (c:="Unlike") (by simp[BU,leaf]) (zO h) (vq ca k.gw k.pw k.MI k.Hg k.up k.up' k.l2 k.l3 q2),(ju c1).trans (aG (d:=.str "unlike") rfl rfl)⟩
end
variable {ca:PySem.Str->PySem.Addr}
def kC{k:Nat}:aF G_Lcell_at (aa (ae 0) (aa (eC (.int k)) ak)) (some (Sc ns)::r)=.ok (.int (cellAt ns k)):=by
 refine cI (ds:=[Sc ns,.int k]) (aH (aY rfl (aj ns)) (bf rfl)) ?_ ?_
 ·show G_Lcell_at [.lst .av (aK (ns.map .int)),.int k]=_;rw[aM];exact DB ns k
 ·show((false||aJ (ns.map .int))||(false||false))=false;rw[dJ];rfl
def G7 {ns cs sh:#[6]}{fc fp fs:#[29]}{t1 t2 t3:Tg}(hc:fc τ=.ok (.lst t1 (cs.map .int)))(hp:fp τ=.ok (.lst t2 (ps.map .int)))(hs:fs τ=.ok (.lst t3 #[192]))(ew:G_Lwood [.lst .av (cs.map .int),.lst .av (ps.map .int),.lst .av #[192]]=.ok w.d):aF G_Lwood (aa fc (aa fp (aa fs ak))) τ=.ok w.d:=by
 refine cT (ds:=[.lst t1 (cs.map .int),.lst t2 (ps.map .int),.lst t3 #[192]]) (aH hc (aH hp (bf hs))) ?_ w.pure;show G_Lwood [.lst .av (aK (cs.map .int)),.lst .av (aK (ps.map .int)),.lst .av (aK #[192])]=_;rw[aM,aM,aM];exact ew
def zP (ns:#[6])(lo hi:Option Int):∃ cs:List Int,cut #[89] lo hi=cs.map D.int/\cs.length<=ns.length:=by
 unfold cut;refine⟨(ns.drop (HT.gi #[89].length 0 lo)).take (HT.gi #[89].length #[89].length hi-HT.gi #[89].length 0 lo),by rw[List.map_take,List.map_drop],?_⟩;rw[RA,R3];omega
def G5(lo hi a b:Int)(hns:ns.length<=63):∃ cs:List Int,cs≠[]/\ai bE (lZ (ae 0) (eP (eC (.int lo))) (eP (eC (.int hi)))) (eA bw (aa (eC (.int a)) (aa (eC (.int b)) ak))) (some (Sc ns)::r)=.ok (.lst .own (cs.map .int)):=by
 obtain⟨cs,ec,cl⟩:=zP ns (some lo) (some hi);have ecut:lZ (ae 0) (eP (eC (.int lo))) (eP (eC (.int hi))) (some (Sc ns)::r)=.ok (.lst .own (cs.map .int)):=by
  rw[<-ec];unfold lZ eP;rw[show ae 0 (some (Sc ns)::r)=.ok (.lst .av (ns.map .int)) from aY rfl (aj ns)];rfl
 refine⟨cs++[a,b],by simp,?_⟩;rw[nF ecut (show eA bw (aa (eC (.int a)) (aa (eC (.int b)) ak)) (some (Sc ns)::r)=.ok (.lst .own [.int a,.int b]) from rfl) (by rw[Qs];simp only[QP,Si];omega),Rj];rfl
def JI{fk fv:#[29]}{k y:Int}(h:τ[i]?=some (some (.lst .own (xs.map .int))))(h1:fk τ=.ok (.int k))(h2:fv τ=.ok (.int y))(k0:0<=k)(k1:k.toNat<xs.length):yZ i fk fv τ=.nx (τ.set i (some (.lst .own ((xs.set k.toNat y).map .int)))):=by
 unfold yZ;rw[h2];show(match gY τ i with|some xs=>(fk τ).ja τ λ dk=>(match dk,D.int y with|.int k,.int y=>if 0<=k/\k.toNat<xs.length/\(intsOf xs).isSome=true then Fl.nx (τ.set i (some (.lst .own (xs.set k.toNat (.int y))))) else .bad|_,_=>.bad)|none=>.bad)=_;unfold gY;rw[h];simp only;rw[h1];show(if 0<=k/\k.toNat<(xs.map D.int).length/\(intsOf (xs.map D.int)).isSome=true then Fl.nx (τ.set i (some (.lst .own ((xs.map D.int).set k.toNat (.int y))))) else .bad)=_;rw[QG (by rw[Qs,iu];exact⟨k0,k1,rfl⟩),<-List.map_set]
def JH(h:xs≠[])(hu:xs.Pairwise (· < ·)):∃ x:Int,x∈xs/\(∀ z∈xs,z<=x)/\∀ t:Tg,bB (.lst t (xs.map .int)) (.int (-1))=.ok (.int x):=by
 obtain⟨ys,x,rfl⟩:∃ ys x,xs=ys++[x]:=⟨xs.dropLast,xs.getLast h,(Up h).symm⟩;refine⟨x,by simp,λ z mz=>?_,λ t=>xX⟩;rcases QH.mp mz with q|q
 ·have:=(SG.mp hu).2.2 z q x #[32];omega
 ·rw[QM.mp q];omega
def DO{y:Int}(hu:ps.Pairwise (· < ·))(hi:i<ps.length)(hy:∀ x∈ps,x<y):∃ qs,(ps.set i y).Perm qs/\qs.Pairwise (· < ·)/\ps.set i y≠ps/\ps≠qs/\qs.length=ps.length:=by
 have e:ps.set i y=ps.take i++y::ps.drop (i+1):=by rw[List.set_eq_take_append_cons_drop,QG hi]
 have ny:y∉ps:=λ m=>by have:=hy y m;omega
 have p:(ps.set i y).Perm (ps.take i++ps.drop (i+1)++[y]):=by
  rw[e];exact List.perm_middle.trans (List.perm_append_singleton y _).symm
 have sb:List.Sublist (ps.take i++ps.drop (i+1)) ps:=by
  have s1:List.Sublist (ps.take i++ps.drop (i+1)) (ps.take i++ps.drop i):=(Rm _).append (by
   have:=List.drop_sublist 1 (ps.drop i);rw[List.drop_drop]at this;exact this)
  rw[Rv]at s1;exact s1
 refine⟨ps.take i++ps.drop (i+1)++[y],p,SG.mpr ⟨hu.sublist sb,TM _ _,λ a ma b mb=>by rw[QM.mp mb];exact hy a (sb.subset ma)⟩,λ q=>ny ?_,λ q=>ny ?_,?_⟩
 ·rw[<-q,e];simp
 ·rw[q];simp
 ·rw[<-p.length_eq,List.length_set]
def G6 (h:Apart ca names)(ns:#[6])(hns:ns.length<=63):BV ca [.lst .av #[89]]=.ok (.bl true):=by
 refine bN (τ:=[some (Sc ns),none,none,none,none,none,none,none,none,none,none,none,none]) rfl rfl ?_;unfold F3;obtain⟨m,m1,m2,hm⟩:∃ m:Nat,1<=m/\m<=12/\1+cellAt ns 0%12=(m:Int):=⟨(1+cellAt ns 0%12).toNat,by omega,by omega,by omega⟩;have em:ai bE #[142] (ai cE (aF G_Lcell_at (aa (ae 0) (aa #[147] ak))) (eC (.int 12))) [some (Sc ns),none,none,none,none,none,none,none,none,none,none,none,none]=.ok (.int (1+cellAt ns 0%12)):=dB rfl (jY (kC (k:=0)) #[10]);rw[hm]at em;rw[aA (aG em rfl)];show aE _ _ [some (Sc ns),some (.int m),none,none,none,none,none,none,none,none,none,none,none]=_;obtain⟨ps,pl,pp,pb,pq,ep⟩:=DA (cellAt ns 1) m1 (by omega:m<=24);have e2:aF G_Lplaces (aa (aF G_Lcell_at (aa (ae 0) (aa #[142] ak))) #[50]) [some (Sc ns),some (.int m),none,none,none,none,none,none,none,none,none,none,none]=.ok #[22]:=cI (ds:=[.int (cellAt ns 1),.int m]) (aH (kC (k:=1)) (bf rfl)) ep rfl;rw[aA (aG e2 (qg ps))];show aE _ _ [some (Sc ns),some (.int m),some #[22],none,none,none,none,none,none,none,none,none,none]=_;have e2c:aF G_Lcell_at (aa (ae 0) (aa #[150] ak)) [some (Sc ns),some (.int m),some #[22],none,none,none,none,none,none,none,none,none,none]=.ok #[48]:=kC (k:=2);rw[aA (aG e2c rfl)];show aE _ _ [some (Sc ns),some (.int m),some #[22],some #[48],none,none,none,none,none,none,none,none,none]=_;obtain⟨cs,D4,ec⟩:=G5 (ns:=ns) (r:=[some (.int m),some #[22],some #[48],none,none,none,none,none,none,none,none,none]) 5 35 4 7 hns;rw[aA (aG ec (qg cs))];show aE _ _ [some (Sc ns),some (.int m),some #[22],some #[48],some (.lst .own (cs.map .int)),none,none,none,none,none,none,none,none]=_;obtain⟨sh,sl,sn,sb,es⟩:=wC (cellAt ns 3);have e3:aF G_Lshades (aa (aF G_Lcell_at (aa (ae 0) (aa (eC (.int 3)) ak))) ak) [some (Sc ns),some (.int m),some #[22],some #[48],some (.lst .own (cs.map .int)),none,none,none,none,none,none,none,none]=.ok (.lst .own #[192]):=cI (ds:=[.int (cellAt ns 3)]) (bf (kC (k:=3))) es rfl;have psm:∀ x∈ps,small x:=λ x mx=>qi (pb x mx).1 (by have:=(pb x mx).2;omega);obtain⟨w,gw,pw,ew⟩:=B6 (cs:=cs) (ps:=ps) (sh:=sh) psm (λ x mx=>qi (sb x mx).1 (by have:=(sb x mx).2;omega)) sn D4 #[1] #[1] sl;have e4:=G7 (ns:=ns) (show ae 4 _=.ok (.lst .bor (cs.map .int)) from aR rfl (aj cs)) (show ae 2 _=.ok (.lst .bor (ps.map .int)) from aR rfl (aj ps)) e3 ew;rw[aA (aG e4 (aQ _ w.pure))];show aE _ _ #[149]=_;obtain⟨cs2,cne2,s6⟩:∃ cs2:List Int,cs2≠[]/\fZ (eT (ai j3 (ai cE (ae 3) #[150]) #[142])) (aL 4 (ai bE (lZ (ae 0) (eP (eC (.int 12))) (eP (eC (.int 45)))) (eA bw (aa (eC (.int 9)) (aa #[150] ak))))) bD #[149]=.nx [some (Sc ns),some (.int m),some #[22],some #[48],some #[95],some w.d,none,none,none,none,none,none,none]:=by
  have c:=gW (jY (show ae 3 #[149]=.ok #[48] from rfl) (b:=2) #[10]) (g:=eC (.int 1)) (b:=1) rfl;by_cases q:cellAt ns 2%2=1
  ·rw[QO q]at c;obtain⟨cs2,cne2,ec2⟩:=G5 (ns:=ns) (r:=[some (.int m),some #[22],some #[48],some (.lst .own (cs.map .int)),some w.d,none,none,none,none,none,none,none]) 12 45 9 2 hns;exact⟨cs2,cne2,(ju c).trans (aG ec2 (qg cs2))⟩
  ·rw[QF q]at c;exact⟨cs,D4,(gZ (b:=bD) c).trans rfl⟩
 rw[aA s6];have e6:eA vN #[154] [some (Sc ns),some (.int m),some #[22],some #[48],some #[95],some w.d,none,none,none,none,none,none,none]=.ok #[22]:=by
  rw[bO (bf (aR rfl (aj ps)))];rfl
 rw[aA (aG e6 (qg ps))];show aE _ _ #[151]=_;obtain⟨x0,mx0,hx0,ix0⟩:=JH (xs:=ps) (λ e=>by rw[e]at pl;simp at pl;omega) pp;obtain⟨os,qs,pos,uq,osm,al,ql,s7⟩:∃ os qs:List Int,os.Perm qs/\qs.Pairwise (· < ·)/\(∀ x∈os,small x)/\((os=ps/\qs=ps)\/(os≠ps/\ps≠qs))/\qs.length=ps.length/\fZ (eT (ai j3 (ai cE (ai lq (ae 3) #[150]) (eC (.int 5))) #[142])) (yZ 6 (ai cE (ai lq (ae 3) (eC (.int 10))) (ae 1)) (ai bE (ai bB (ae 2) (gD lY #[142])) #[142])) bD #[151]=.nx #[179]:=by
  have v3:ae 3 #[151]=.ok #[48]:=rfl;have c:=gW (jY (xP v3 (b:=2) #[10]) (b:=5) #[10]) (g:=eC (.int 1)) (b:=1) rfl;by_cases q:cellAt ns 2/2%5=1
  ·rw[QO q]at c;have k0:0<=cellAt ns 2/10%(m:Int):=R0 _ #[1];have k1:cellAt ns 2/10%(m:Int)<(m:Int):=RK _ #[1];obtain⟨qs,a1,a2,a3,a4,a5⟩:=DO (i:=(cellAt ns 2/10%(m:Int)).toNat) (y:=x0+1) pp #[1] (λ x mx=>by have:=hx0 x mx;omega);refine⟨_,qs,a1,a2,λ x mx=>?_,.inr ⟨a3,a4⟩,a5,(ju c).trans (JI rfl (gA (xP v3 (b:=10) #[10]) (show ae 1 _=.ok (.int m) from rfl) #[1]) (dB (bq (aR (i:=2) rfl (aj ps)) (ME _) (ix0 .bor)) (g:=eC (.int 1)) (b:=1) rfl) k0 #[1])⟩;rcases List.mem_or_eq_of_mem_set mx with q|q
   ·exact psm x q
   ·rw[q];exact qi (by have:=(pb x0 mx0).1;omega) (by have:=(pb x0 mx0).2;omega)
  ·rw[QF q]at c;exact⟨ps,ps,RZ _,pp,psm,.inl ⟨rfl,rfl⟩,rfl,(gZ (b:=bD) c).trans rfl⟩
 rw[aA s7];obtain⟨sh',sl',sn',sb',es'⟩:=wC (cellAt ns 4);have e7:aF G_Lshades (aa (aF G_Lcell_at (aa (ae 0) (aa (eC (.int 4)) ak))) ak) #[179]=.ok (.lst .own (sh'.map .int)):=cI (ds:=[.int (cellAt ns 4)]) (bf (kC (k:=4))) es' rfl;have ol:os.length=ps.length:=by rw[pos.length_eq,ql]
 obtain⟨w',MI,Hg,ew'⟩:=B6 (cs:=cs2) (ps:=os) (sh:=sh') osm (λ x mx=>qi (sb' x mx).1 (by have:=(sb' x mx).2;omega)) sn' cne2 #[1] #[1] sl';have e8:=G7 (ns:=ns) (show ae 4 _=.ok (.lst .bor (cs2.map .int)) from aR rfl (aj cs2)) (show ae 6 _=.ok (.lst .bor (os.map .int)) from aR rfl (aj os)) e7 ew';rw[aA (aG e8 (aQ _ w'.pure))];show aE _ _ #[148]=_;have n1:aF G_Lnet (aa (ae 5) ak) #[148]=.ok (gz w ps):=cT (ds:=[w.d]) (bf (bA rfl w.pure)) (by rw[sd];exact uQ gw pw pp #[1]) (cL w ps);have n2:aF G_Lnet (aa (ae 7) ak) #[148]=.ok (gz w' qs):=cT (ds:=[w'.d]) (bf (bA rfl w'.pure)) (by rw[sd];exact uQ MI (Hg.trans pos) uq #[1]) (cL w' qs);rw[aA (aG ((bO (g:=bw) (aH n1 (bf n2))).trans rfl) (bg (by show((gz w ps).pure&&((gz w' qs).pure&&true))=true;rw[cL,cL];rfl)))]
 let e:En:=⟨ns,m,ps,cellAt ns 2,cs2,w,os,w',qs⟩
 have k:e.ok:=⟨gw,pw,MI,Hg.trans pos,pp,uq,by show 1<=ps.length;omega,by show ps.length<=24;omega,by show qs.length<=24;omega,λ x mx=>(pb x mx).1,al⟩;show aE _ _ (e.st none none none none)=_;obtain⟨cl,ec,cll⟩:=zP ns (some 5) (some 17);have hf:fj [0] (e.st none none none none)=e.st none none none none:=by
  show some (D.lst .av (aK (ns.map .int)))::_=_;rw[aM];rfl
 have ecut:lZ (ae 0) (eP (eC (.int 5))) (eP (eC (.int 17))) (e.st none none none none)=.ok (.lst .own (cl.map .int)):=by
  rw[<-ec];unfold lZ eP;rw[show ae 0 (e.st none none none none)=.ok (.lst .av (ns.map .int)) from aY rfl (aj ns)];rfl
 have hit:jo (ai bE (lZ (ae 0) (eP (eC (.int 5))) (eP (eC (.int 17)))) (eA bw (aa #[142] ak))) (e.st none none none none)=.ok (false,(cl++[1]).map .int):=by
  rw[jX (nF ecut (show eA bw (aa #[142] ak) (e.st none none none none)=.ok (.lst .own [.int 1]) from rfl) (by rw[Qs];simp only[T9];omega)) #[10] (by rw[show(cl.map D.int++[D.int 1])=(cl++[1]).map D.int by rw[Rj];rfl];exact aj _),Rj];rfl
 obtain⟨t,f1,p9,p10,p11,p12,f2⟩:=eu (tg:=gN 9) (body:=pX ca) (ds:=(cl++[1]).map .int) (λ i τ=>∃ p9 p10 p11 p12,τ=e.st p9 p10 p11 p12) 0 _ ⟨none,none,none,none,rfl⟩ λ j d τ hd hP=>by
  obtain⟨p9,p10,p11,p12,rfl⟩:=hP;obtain⟨c,rfl⟩:∃ c,d=.int c:=by
   obtain⟨c,_,rfl⟩:=QE.mp (QN hd);exact⟨c,rfl⟩
  obtain⟨q10,q11,q12,eb⟩:=turn ca (e:=e) (c:=c) (o10:=p10) (o11:=p11) (o12:=p12) h k;exact⟨_,_,rfl,.inl eb,some (.int c),q10,q11,q12,rfl⟩
 rw[aA ((fO hf hit).trans (by rw[aM];exact f1)),f2];exact iY rfl rfl
end KL
namespace PySem.W.Fast
end PySem.W.Fast
namespace KL
open PySem PySem.Spec PyProof.Rows L2 DL XF
variable {C:Addr}
def Qm (l:List (Str×Addr))(x:Str):Addr:=(l.lookup x).getD 0
structure Bb (K:PySem.W.Frag)(x:Str)(C:Addr)(bm:List Value):Prop where
 n:PySem.W.nsIn K mainGlobals x=some (some (.ref C))
 e:PySem.W.excIn K C yg "ValueError.__new__" = true
 m:XF.mroIn K C=some (.ref C::bm)
structure zQ (K:PySem.W.Frag)(C:Addr):Prop where
 ga:PySem.W.findIn K (.ref C) "__getattribute__" = some (some (.builtin "BaseException.__getattribute__"))
 gt:PySem.W.findIn K (.ref C) "__getattr__" = some none
 ha:PySem.W.findIn K (.ref C) "__class__" = some (some #[51])
 mo:PySem.W.mroIn K C (.type "object")=some true
 mb:PySem.W.mroIn K C (.type "BaseException")=some true
 cl:(PySem.W.clsIn K C).isSome=true
def JJ {K:#[0]}(hc:(PySem.W.clsIn K C).isSome=true)(ha:PySem.W.findIn K (.ref C) "__class__" = some (some #[51]))(hn:PySem.W.specialIn K #[51] "__get__" = some (some #[86]))(htk:PySem.W.takesIn K #[51]=some true) :
  PySem.W.findObj K C none "__class__" = some (.bind #[86] #[51]):=by
 obtain⟨cd,hc⟩:=RY.mp hc;unfold PySem.W.findObj;rw[hc,Option.bind_some,ha,Option.bind_some];simp[hn,htk]
def zQ.kit {K:#[0]}(r:zQ K C)(hn:PySem.W.specialIn K #[51] "__get__" = some (some #[86]))(htk:PySem.W.takesIn K #[51]=some true):se K C:=
 ⟨r.ga,r.gt,JJ r.cl r.ha hn htk,r.mo,r.mb,r.cl⟩
def Bb.cls {K:#[0]}{h:Heap}{mg:#[8]}{x:Str}{bm:#[17]}(r:Bb K x C bm)(X:K.In h)(G:h.Ns mainGlobals mg):kh K mg x C bm:=⟨PySem.W.mg_of X G r.n,r.e,r.m⟩
def cA:Str->Addr:=Qm [("NetError",24),("NoPlace",37),("NoSet",49),("NoGroup",61),("Unlike",73)]
def apart:Apart cA names:=by
 have h:∀ x∈names,∀ y∈names,cA x=cA y->x=y:=by decide +kernel
 exact λ x y hx hy=>h x hx y hy
def iT:cA "NetError" = 24:=by decide +kernel
def uZ:cA "NoPlace" = 37:=by decide +kernel
def zR:cA "NoSet" = 49:=by decide +kernel
def Bc:cA "NoGroup" = 61:=by decide +kernel
def wO:cA "Unlike" = 73:=by decide +kernel
abbrev HN (K:#[0]):Prop:=PySem.W.specialIn K #[51] "__get__" = some (some #[86])
abbrev HT (K:#[0]):Prop:=PySem.W.takesIn K #[51]=some true
abbrev ZN (K:#[0])(x:Str):Prop:=PySem.W.nsIn K mainGlobals x=some none
abbrev ZV (K:#[0])(x:Str)(v:Value):Prop:=PySem.W.nsIn K mainGlobals x=some (some v)
def MJ {l:PySem.W.OpenLaw}{w:World}{K:#[0]}{h:Heap}{mg:#[8]}{fa:Addr}(X:K.In h)(G:h.Ns mainGlobals mg)(hfa:mg "law" = some (.ref fa))
 (z0:ZN K "ValueError") (z1:ZN K "all") (z2:ZN K "any") (z3:ZN K "bool") (z4:ZN K "enumerate") (z5:ZN K "int") (z6:ZN K "isinstance") (z7:ZN K "len") (z8:ZN K "list") (z9:ZN K "max") (z10:ZN K "min") (z11:ZN K "range") (z12:ZN K "set") (z13:ZN K "sorted") (z14:ZN K "tuple")
 (R_NetError:Bb K "NetError" 24 yg) (R_NoPlace:Bb K "NoPlace" 37 (.ref 24::yg)) (R_NoSet:Bb K "NoSet" 49 (.ref 24::yg)) (R_NoGroup:Bb K "NoGroup" 61 (.ref 24::yg)) (R_Unlike:Bb K "Unlike" 73 (.ref 24::yg)) (S_NoPlace:zQ K 37) (S_NoSet:zQ K 49) (S_Unlike:zQ K 73) (hn:HN K) (ht:HT K)
 (D_is_leaf:wo K mg) (D_is_flat:wt K mg) (D_branches_of:nV K mg) (D_knots_down:pW K mg) (D_leaves_of:rM K mg) (D_require_place:lF K mg) (D_checked_set:nY K mg) (D_places_of:rL K mg) (D_places_together:jE K mg) (D_has_some_of:nZ K mg) (D_branches_with_some_of:gH K mg) (D_least_group:nX K mg) (D_require_same_places:ia K mg) (D_least_common:mK K mg) (D_Lcell_at:E_Lcell_at K mg) (D_Lmix:E_Lmix K mg) (D_Lleaves:E_Lleaves K mg) (D_Lhead:E_Lhead K mg) (D_Lflat:E_Lflat K mg) (D_Lgrown:E_Lgrown K mg) (D_Lnone_together:E_Lnone_together K mg) (D_Lprime_rows:E_Lprime_rows K mg) (D_Lprime:E_Lprime K mg) (D_Lwood:E_Lwood K mg) (D_Lfill:E_Lfill K mg) (D_Lnet:E_Lnet K mg) (D_Lwhole:E_Lwhole K mg) (D_Lshades:E_Lshades K mg) (D_Lplaces:E_Lplaces K mg) (D_Lword:E_Lword K mg) (D_Lleast_of_both:E_Lleast_of_both K mg) (D_Lsome:E_Lsome K mg) (D_Lasked:E_Lasked K mg)
 {f:Addr}{oc:Value}{od an:Option Addr}{osl:Array (Option Value)}{kV doc pm cdv ct:Value} (a:ZV K "law" (.ref f)) (lk:K.lookup f=some ⟨oc,od,.func (PySem.W.fnOf "law" "law" (jv qd) (cQ qd) (au qd) .none kV doc pm an cdv ct),osl⟩) (c:PySem.W.codeIn K cdv "law" = true) (k:PySem.W.keepIn K (.ref f)=true) :
 ∃ fd:FuncData,(∀ (s:Shared) (v:Value),BindsTo s fd ⟨[v],[]⟩ [("_law_script",v)])/\∀ base:Heap,K.In base->base.Ns mainGlobals mg->nK l.prog w K mg base sE 33 fa fd ["_law_script"] (jr K (BV cA)):=by
 have T:Txt K mg cA:=⟨Rh X G z0,Rh X G z1,Rh X G z2,Rh X G z3,Rh X G z4,Rh X G z5,Rh X G z6,Rh X G z7,Rh X G z8,Rh X G z9,Rh X G z10,Rh X G z11,Rh X G z12,Rh X G z13,Rh X G z14,by rw[iT];exact R_NetError.cls X G,by rw[uZ,iT];exact R_NoPlace.cls X G,by rw[uZ];exact S_NoPlace.kit hn ht,by rw[zR,iT];exact R_NoSet.cls X G,by rw[zR];exact S_NoSet.kit hn ht,by rw[Bc,iT];exact R_NoGroup.cls X G,by rw[wO,iT];exact R_Unlike.cls X G,by rw[wO];exact S_Unlike.kit hn ht⟩;have e:=hfa.symm.trans (PySem.W.mg_of X G a);cases e;refine⟨PySem.W.fnOf "law" "law" (jv qd) (cQ qd) (au qd) .none kV doc pm an cdv ct,λ s v=>.of_eq rfl,λ base _ _=>?_⟩
 let b:Bd:=⟨l.prog,w,K,mg,base,cA⟩
 have C_is_leaf:=AR (b:=b) T  D_is_leaf;have C_is_flat:=AQ (b:=b) T C_is_leaf D_is_flat;have C_branches_of:=uB (b:=b) T C_is_leaf D_branches_of;have C_knots_down:=vo (b:=b) T C_branches_of D_knots_down;have C_leaves_of:=xK (b:=b) T C_is_leaf C_knots_down D_leaves_of;have C_require_place:=qV (b:=b) T  D_require_place;have C_checked_set:=uy (b:=b) T C_require_place D_checked_set;have C_places_of:=xO (b:=b) T C_leaves_of D_places_of;have C_places_together:=oN (b:=b) T C_leaves_of D_places_together;have C_has_some_of:=uE (b:=b) T C_leaves_of D_has_some_of;have C_branches_with_some_of:=jW (b:=b) T C_branches_of C_has_some_of D_branches_with_some_of;have C_least_group:=uz (b:=b) T C_is_flat C_leaves_of C_checked_set C_places_of C_places_together C_branches_with_some_of D_least_group;have C_require_same_places:=kX (b:=b) T  D_require_same_places;have C_least_common:=sj (b:=b) T C_places_of C_least_group C_require_same_places D_least_common;have C_Lcell_at:=ok_Lcell_at (b:=b) T  D_Lcell_at;have C_Lmix:=ok_Lmix (b:=b) T  D_Lmix;have C_Lleaves:=ok_Lleaves (b:=b) T  D_Lleaves 26;have C_Lhead:=ok_Lhead (b:=b) T C_Lleaves D_Lhead;have C_Lflat:=ok_Lflat (b:=b) T C_Lhead D_Lflat;have C_Lgrown:=ok_Lgrown (b:=b) T  D_Lgrown;have C_Lnone_together:=ok_Lnone_together (b:=b) T C_Lgrown D_Lnone_together;have C_Lprime_rows:=ok_Lprime_rows (b:=b) T C_Lmix C_Lnone_together D_Lprime_rows;have C_Lprime:=ok_Lprime (b:=b) T C_Lhead C_Lprime_rows D_Lprime;have C_Lwood:=ok_Lwood (b:=b) T C_Lmix C_Lflat C_Lprime D_Lwood;have C_Lfill:=ok_Lfill (b:=b) T  D_Lfill 26;have C_Lnet:=ok_Lnet (b:=b) T C_Lfill D_Lnet;have C_Lwhole:=ok_Lwhole (b:=b) T  D_Lwhole;have C_Lshades:=ok_Lshades (b:=b) T  D_Lshades;have C_Lplaces:=ok_Lplaces (b:=b) T C_Lmix D_Lplaces;have C_Lword:=ok_Lword (b:=b) T  D_Lword;have C_Lleast_of_both:=ok_Lleast_of_both (b:=b) T C_Lgrown D_Lleast_of_both;have C_Lsome:=ok_Lsome (b:=b) T C_Lmix D_Lsome;have C_Lasked:=ok_Lasked (b:=b) T C_least_common C_Lwhole C_Lword D_Lasked;exact Mk (b:=b) T C_Lcell_at C_Lwood C_Lnet C_Lshades C_Lplaces C_Lleast_of_both C_Lsome C_Lasked (Ag (st:=qd) lk c k)
end KL
namespace PySem.W.Fast
theorem tw5093701382872092272:True:=⟨⟩
theorem tw3271430859244129981:True:=⟨⟩
theorem tw6752928137454689087:True:=⟨⟩
theorem tw6812933259082733088:True:=⟨⟩
theorem tw6630315231974659808:True:=⟨⟩
theorem tw9554202790817467023:True:=⟨⟩
theorem tw6542769320963374325:True:=⟨⟩
theorem tw9595358134708241548:True:=⟨⟩
theorem tw13162736112936351026:True:=⟨⟩
theorem tw13443199074274432184:True:=⟨⟩
theorem tw5452128181974242184:True:=⟨⟩
theorem tw5841320147143359435:True:=⟨⟩
theorem tw471321798251528330:True:=⟨⟩
theorem tw6239428581952156869:True:=⟨⟩
theorem tw302494589456301377:True:=⟨⟩
theorem tw15230207698059700193:True:=⟨⟩
theorem tw4394556126283091392:True:=⟨⟩
theorem tw1484930691572479121:True:=⟨⟩
theorem tw9189627966361237367:True:=⟨⟩
theorem tw12694032963389967506:True:=⟨⟩
theorem tw15186952821103555832:True:=⟨⟩
theorem tw333311759278761423:True:=⟨⟩
theorem tw16644407830698534307:True:=⟨⟩
theorem tw4057492436692226612:True:=⟨⟩
theorem tw17419454430503557423:True:=⟨⟩
theorem tw11627667418222383182:True:=⟨⟩
theorem tw12663274708593046061:True:=⟨⟩
theorem tw6266441383682674530:True:=⟨⟩
theorem tw8220652324869516821:True:=⟨⟩
theorem tw17820608375696718569:True:=⟨⟩
theorem tw11393055654130741580:True:=⟨⟩
theorem tw12666776314590779207:True:=⟨⟩
theorem tw9696976580283144497:True:=⟨⟩
theorem tw978235005134379531:True:=⟨⟩
theorem tw14797155617285870999:True:=⟨⟩
theorem tw655975852491191511:True:=⟨⟩
theorem tw14919827482731294955:True:=⟨⟩
theorem tw10582783527766789606:True:=⟨⟩
theorem tw10070654763791341498:True:=⟨⟩
theorem tw5700973667580471828:True:=⟨⟩
theorem tw14448877049197888660:True:=⟨⟩
theorem tw3952220310400083570:True:=⟨⟩
theorem tw2395059571321339793:True:=⟨⟩
theorem tw13646073509253212945:True:=⟨⟩
theorem tw17336978678365767962:True:=⟨⟩
theorem tw13792480598265687670:True:=⟨⟩
theorem tw9954699230406384833:True:=⟨⟩
theorem tw1858953847844181739:True:=⟨⟩
theorem tw10516475693203977124:True:=⟨⟩
theorem tw9751465370100773244:True:=⟨⟩
theorem tw6758526277651199739:True:=⟨⟩
theorem tw5286945240491980837:True:=⟨⟩
theorem tw7289856204934421485:True:=⟨⟩
theorem tw12476160142128123738:True:=⟨⟩
theorem tw804469670350905238:True:=⟨⟩
theorem tw16691127199161400735:True:=⟨⟩
theorem tw10513990016536161865:True:=⟨⟩
theorem tw12121538650358367154:True:=⟨⟩
theorem tw11547843677479571031:True:=⟨⟩
theorem tw6815934521580757205:True:=⟨⟩
theorem tw7644619502917945370:True:=⟨⟩
theorem tw17998221595052934903:True:=⟨⟩
theorem tw9627115210777818096:True:=⟨⟩
theorem tw4893934871810691097:True:=⟨⟩
theorem tw6810905484137847374:True:=⟨⟩
theorem tw6513610178785870686:True:=⟨⟩
theorem tw15026977748898644318:True:=⟨⟩
theorem tw12093974179684134378:True:=⟨⟩
theorem tw7724701579927751418:True:=⟨⟩
theorem tw3850193935287905369:True:=⟨⟩
theorem tw5110259334509334956:True:=⟨⟩
theorem tw1463806713308815358:True:=⟨⟩
theorem tw14216604728358091600:True:=⟨⟩
theorem tw7782753102487526268:True:=⟨⟩
theorem tw10139424876152861049:True:=⟨⟩
theorem tw602922516063750454:True:=⟨⟩
theorem tw792098047782054379:True:=⟨⟩
theorem tw16630084181555215084:True:=⟨⟩
theorem tw1704366445830091591:True:=⟨⟩
theorem tw14710707269289565780:True:=⟨⟩
theorem tw9081388114825505166:True:=⟨⟩
theorem tw6139333547102083731:True:=⟨⟩
theorem tw9794023034776282879:True:=⟨⟩
theorem tw14930324833471206385:True:=⟨⟩
theorem tw2443616161979194444:True:=⟨⟩
theorem tw15124357245057856674:True:=⟨⟩
theorem tw221114310527002193:True:=⟨⟩
theorem tw16396883019815857922:True:=⟨⟩
theorem tw8764222264173662097:True:=⟨⟩
theorem tw146842871621478270:True:=⟨⟩
theorem tw14062317207899850577:True:=⟨⟩
theorem tw4121930910165803781:True:=⟨⟩
theorem tw9976799028487812008:True:=⟨⟩
theorem tw2288945825763658713:True:=⟨⟩
theorem tw15636225013032089611:True:=⟨⟩
theorem tw17952232239577413522:True:=⟨⟩
theorem tw4411294813900973284:True:=⟨⟩
theorem tw16771932808552013621:True:=⟨⟩
theorem tw16443373381993954693:True:=⟨⟩
theorem tw8119844771361677010:True:=⟨⟩
theorem tw844489273626867110:True:=⟨⟩
theorem tw16349591291021363626:True:=⟨⟩
theorem tw663346358616240039:True:=⟨⟩
theorem tw13539686204204383005:True:=⟨⟩
theorem tw13383434793022433555:True:=⟨⟩
theorem tw16465860654410416419:True:=⟨⟩
theorem tw9685392683763152422:True:=⟨⟩
theorem tw2953388317903866637:True:=⟨⟩
theorem tw10004783008332172940:True:=⟨⟩
theorem tw13440008468432035247:True:=⟨⟩
theorem tw5406950068253181410:True:=⟨⟩
theorem tw15375896413637657730:True:=⟨⟩
theorem tw13489975933834816632:True:=⟨⟩
theorem tw12352943236235578123:True:=⟨⟩
theorem tw4942687877439032582:True:=⟨⟩
theorem tw13821159428183131583:True:=⟨⟩
theorem tw10094071061633235778:True:=⟨⟩
end PySem.W.Fast
open PySem PySem.W PyProof.Rows
set_option maxRecDepth 100000 in
set_option maxHeartbeats 0 in
theorem PySem.Challenge.cw_modulewood_k43_least_common_holds : PySem.Challenge.rw_modulewood_k43_least_common.Holds := by
 w_on;o_law;k_head;(case hw=>w_witness2)
 k_fill
 refine L2.HM (l:=PySem.Challenge.rw_modulewood_k43_least_common) (n:=63) (k:=33) (x:="_law_script") (CX:=λ _=>L2.sE) (sp:=λ w=>DL.jr _ (KL.BV KL.cA)) rfl #[10] rfl ⟨rfl,by decide,by decide⟩ (λ w h Y=>PySem.W.kIn_of Y) ?F (λ w H a ns hl _ hS=>DL.Lr hS (KL.G6 KL.apart ns hl)) λ _ _ _ _ _ z=>z
 case F=>
  intro w mg fa h KX G hmg
  refine' KL.MJ KX G hmg ?_ ?_ ?_ ?_ ?_ ?_ ?_ ?_ ?_ ?_ ?_ ?_ ?_ ?_ ?_ ?_ ?_ ?_ ?_ ?_ ?_ ?_ ?_ ?_ ?_ ?_ ?_ ?_ ?_ ?_ ?_ ?_ ?_ ?_ ?_ ?_ ?_ ?_ ?_ ?_ ?_ ?_ ?_ ?_ ?_ ?_ ?_ ?_ ?_ ?_ ?_ ?_ ?_ ?_ ?_ ?_ ?_ ?_ ?a1 ?l1 ?c1 ?k1
  iterate 15 ((try (dsimp only [KL.ZN,KL.ZV]));k_is)
  iterate 5 (exact⟨by k_is,by kernel_rfl,by kernel_rfl⟩)
  iterate 3 (exact⟨by k_is,by k_is,by k_is,by k_is,by k_is,by kernel_rfl⟩)
  iterate 2 ((try (dsimp only [KL.HN,KL.HT]));k_is)
  iterate 33 (refine' DL.Ls KX G ?a ?l ?c ?k ?u;(case a=>k_is);(case l=>k_is);(case c=>k_is);(case k=>k_is);(case u=>first|(exact λ _ _ _ _ _ _ us hl=>match us,hl with|[_],_=>rfl)|(exact λ _ _ _ _ _ _ us hl=>match us,hl with|[_,_],_=>rfl)|(exact λ _ _ _ _ _ _ us hl=>match us,hl with|[_,_,_],_=>rfl)))
  (case a1=>dsimp only[KL.ZV];k_is);(case l1=>k_is);(case c1=>k_is);(case k1=>k_is)
